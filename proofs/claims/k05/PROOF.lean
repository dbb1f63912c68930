import PyProof.Rows.All
import Wide.All
import OpenK.AllK
import Wide.FinOn
import Lean
import PyProof.EqAt
import PyProof.EqKinds
import PyProof.TupleCall
import KE.KDictOf
import PyProof.AttrMiss
import PyProof.IsiH_list
import PySem.SetOps
import KE.KEqDict
import KE.KItemsList
import KE.KDictSum
import KE.KRevSl
import PyProof.Rows.SortStr
import PyProof.Rows.SortWalk
import PyProof.DictWalks
import PyProof.StrLawsTight
import KE.KIntText
import PyProof.Rows.StrIntSpec
import PyProof.StrLawsJoin
import KE.KTryMore
import PyProof.NsDelKeeps
import PyProof.ExcAttrAll.ValueError
import PyProof.StrReplace2
import PyProof.ReprStr
import PyProof.Rows.RuleU_int
import KE.RegKIsAll
import KE.RegKTryMore
import PyProof.InstStoreFacts
import PyProof.ExcInit
import PySem.Challenge.RW_shopbound_k05_no_shop_by_counts
set_option Elab.async false
set_option linter.all false
set_option maxRecDepth 100000
section
namespace L2
open PySem PySem.Spec PyProof.Rows
abbrev Key := Sum Int Str
def zjA : Key -> Value -> Bool
  | .inl k, v => Value.isInt k v
  | .inr x, v => Value.isStrOf x v
def zrK (w : World) : Key -> Int
  | .inl k => hashInt k
  | .inr x => hashStr w x
theorem zbh : ∀ {k : Key} {v : Value}, zjA k v = true -> (∃ i t, k = Sum.inl i /\ v = Value.int i t) \/ (∃ x t, k = Sum.inr x /\ v = Value.str x t)
  | .inl i, v, h => by
    obtain ⟨t, e⟩ := Value.isInt_shape (k := i) (v := v) h
    exact .inl ⟨i, t, rfl, e⟩
  | .inr x, v, h => by
    obtain ⟨t, e⟩ := Value.isStrOf_shape (x := x) (v := v) h
    exact .inr ⟨x, t, rfl, e⟩
theorem zkL (i : Int) (t : Tok) : zjA (.inl i) (.int i t) = true := by simp [zjA, Value.isInt]
theorem zkK (x : Str) (t : Tok) : zjA (.inr x) (.str x t) = true := by simp [zjA, Value.isStrOf]
theorem zpj (a b : Int) : decide ((Sum.inl a : Key) = Sum.inl b) = (a == b) := by
  by_cases e : a = b
  · subst e; simp
  · have h : ¬ (Sum.inl a : Key) = Sum.inl b := fun q => e (Sum.inl.inj q)
    rw [decide_eq_false h]
    exact (beq_eq_false_iff_ne.mpr e).symm
theorem zpg (a b : Str) : decide ((Sum.inr a : Key) = Sum.inr b) = decide (a = b) := by
  by_cases e : a = b
  · subst e; simp
  · have h : ¬ (Sum.inr a : Key) = Sum.inr b := fun q => e (Sum.inr.inj q)
    rw [decide_eq_false h, decide_eq_false e]
theorem zpi (a : Int) (b : Str) : decide ((Sum.inl a : Key) = Sum.inr b) = false := decide_eq_false (fun q => nomatch q)
theorem zph (a : Str) (b : Int) : decide ((Sum.inr a : Key) = Sum.inl b) = false := decide_eq_false (fun q => nomatch q)
def zaZ (prog : Program) (w : World) : PySem.KeyKind prog w Key where
  is := zjA
  hash := zrK w
  inj := fun v a b ha hb => by
    rcases zbh ha with ⟨i, t, rfl, rfl⟩ | ⟨x, t, rfl, rfl⟩
    · rcases zbh hb with ⟨j, u, rfl, e⟩ | ⟨y, u, rfl, e⟩
      · injection e with e1 _; rw [e1]
      · exact nomatch e
    · rcases zbh hb with ⟨j, u, rfl, e⟩ | ⟨y, u, rfl, e⟩
      · exact nomatch e
      · injection e with e1 _; rw [e1]
  byValue := fun k v h => by
    rcases zbh h with ⟨i, t, rfl, rfl⟩ | ⟨x, t, rfl, rfl⟩ <;> rfl
  pyHash := fun hv h => by
    rcases zbh hv with ⟨i, t, rfl, rfl⟩ | ⟨x, t, rfl, rfl⟩
    · exact wpAny_pyHash_int h
    · exact wpAny_pyHash_str h
  eqBool := fun hu hv h => by
    rcases zbh hu with ⟨i, t, rfl, rfl⟩ | ⟨x, t, rfl, rfl⟩
    · rcases zbh hv with ⟨j, u, rfl, rfl⟩ | ⟨y, u, rfl, rfl⟩
      · rw [zpj] at h; exact wpAny_eqBool_int h
      · rw [zpi] at h; exact SeqAt.EqAt.int_str i t y u _ _ _ _ h
    · rcases zbh hv with ⟨j, u, rfl, rfl⟩ | ⟨y, u, rfl, rfl⟩
      · rw [zph] at h; exact SeqAt.EqAt.str_int x t j u _ _ _ _ h
      · rw [zpg] at h; exact wpAny_eqBool_str h
  «strs» := fun k x t v h => by
    rcases zbh h with ⟨i, u, rfl, e⟩ | ⟨y, u, rfl, e⟩
    · exact nomatch e
    · injection e with e1 _
      subst e1
      cases v <;> rfl
theorem zig (prog : Program) (w : World) (i : Int) (t : Tok) : (zaZ prog w).is (.inl i) (.int i t) = true := zkL i t
theorem zif (prog : Program) (w : World) (x : Str) (t : Tok) : (zaZ prog w).is (.inr x) (.str x t) = true := zkK x t
end L2
namespace L2
open PySem PySem.Spec PyProof.Rows
inductive V where
  | non | bl (b : Bool) | int (i : Int) | str (x : Str) | byt (b : Array UInt8) | flt (b : UInt64) | ref (a : Addr) | ty (n : String)
  deriving DecidableEq
def zbJ : V -> Value -> Prop
  | .non, u => u = Value.none
  | .bl b, u => u = Value.bool b
  | .int i, u => ∃ t, u = Value.int i t
  | .str x, u => ∃ t, u = Value.str x t
  | .byt b, u => ∃ t, u = Value.bytes b t
  | .flt b, u => ∃ t, u = Value.float b t
  | .ref a, u => u = Value.ref a
  | .ty n, u => u = Value.type n
abbrev zbC : List V -> List Value -> Prop := Paired zbJ
theorem zbC.length {xs : List V} {us : List Value} (r : zbC xs us) : xs.length = us.length := Paired.length r
theorem zbC.get : ∀ {xs : List V} {us : List Value} {i : Nat} {x : V}, zbC xs us -> xs[i]? = some x -> ∃ u, us[i]? = some u /\ zbJ x u
  | _, _, _, _, .nil, e => by simp at e
  | _, _, 0, _, .cons r _, e => by simp at e; subst e; exact ⟨_, rfl, r⟩
  | _, _, i + 1, x, .cons _ t, e => by
    obtain ⟨u, h1, h2⟩ := zbC.get (i := i) (x := x) t (by simpa using e)
    exact ⟨u, by simpa using h1, h2⟩
theorem zbC.set {x : V} {u : Value} (r : zbJ x u) : ∀ {xs : List V} {us : List Value} (i : Nat), zbC xs us -> zbC (xs.set i x) (us.set i u)
  | _, _, _, .nil => .nil
  | _, _, 0, .cons _ t => .cons r t
  | _, _, i + 1, .cons q t => .cons q (zbC.set r i t)
theorem zbC.append : ∀ {xs ys : List V} {us ws : List Value}, zbC xs us -> zbC ys ws -> zbC (xs ++ ys) (us ++ ws)
  | _, _, _, _, .nil, s => s
  | _, _, _, _, .cons r t, s => .cons r (zbC.append t s)
theorem zbC.take : ∀ {xs : List V} {us : List Value} (n : Nat), zbC xs us -> zbC (xs.take n) (us.take n)
  | _, _, 0, _ => .nil
  | _, _, _ + 1, .nil => .nil
  | _, _, n + 1, .cons r t => .cons r (zbC.take n t)
theorem zbC.drop : ∀ {xs : List V} {us : List Value} (n : Nat), zbC xs us -> zbC (xs.drop n) (us.drop n)
  | _, _, 0, r => r
  | _, _, _ + 1, .nil => .nil
  | _, _, n + 1, .cons _ t => zbC.drop n t
def zjQ : Option V -> Option Value -> Prop
  | some v, some u => zbJ v u
  | none, none => True
  | _, _ => False
def KV {κ : Type} : List (κ × V) -> List (κ × Value) -> Prop := Paired fun (p : κ × V) (q : κ × Value) => p.1 = q.1 /\ zbJ p.2 q.2
def kV : Key -> V
  | .inl i => .int i
  | .inr x => .str x
inductive HO where
  | lst (xs : List V)
  | tup (xs : List V)
  | dK (kvs : List (Key × V)) | dT (kvs : List (List Key × V))
  | set (S : Int -> Bool) (n : Nat)
  | ins (C dx : Addr) (fs : List (Str × V))
  | own (x : Addr)
  | xd (fs : List (Str × V))
  | met (f x : Addr)
  | rng (lo hi : Int)
  | frz (o : Obj) (u : HO)
  | tbl (ps : Array Value)
  | ext (φ : Heap -> Prop)
abbrev Hp := Addr -> Option HO
def upd (H : Hp) (a : Addr) (o : HO) : Hp := fun b => if b = a then some o else H b
theorem zaw {H : Hp} {a : Addr} {o : HO} : upd H a o a = some o := by unfold upd; rw [if_pos rfl]
theorem zas {H : Hp} {a b : Addr} {o : HO} (h : b ≠ a) : upd H a o b = H b := by unfold upd; rw [if_neg h]
theorem zf0 {H : Hp} {a b : Addr} {o u : HO} (h : H a = some o) (h' : H b = some u) (d : o ≠ u) : a ≠ b := by
  intro e; subst e; rw [h] at h'; exact d (Option.some.inj h')
theorem zav {H : Hp} {a b : Addr} {o : HO} (h : H a = some o) (h' : H b = none) : a ≠ b := by
  intro e; subst e; rw [h] at h'; cases h'
section
variable (P : Program) (w : World)
def zbB (H : Hp) (h : Heap) (a : Addr) : HO -> Prop
  | .lst xs => xs.length <= sizeLine /\ ∃ (its : List Value) (n : Nat), zbC xs its /\ h.get? a = some { cls := .type "list", data := .seq its.toArray n }
  | .tup xs => xs.length <= sizeLine /\ ∃ its : List Value, zbC xs its /\ IsTup h a its.toArray
  | .dK kvs => kvs.length <= sizeLine /\ (a == sysModules) = false /\ ∃ vs, KV kvs vs /\ h.DictOf (zaZ P w) a vs
  | .dT kvs => kvs.length <= sizeLine /\ (a == sysModules) = false /\ ∃ xs : List (List Key × Addr × Value),
      Paired (fun (p : List Key × V) (q : List Key × Addr × Value) => p.1 = q.1 /\ H q.2.1 = some (.tup (p.1.map kV)) /\ zbJ p.2 q.2.2) kvs xs /\
      ∃ o es ep, h.get? a = some o /\ o.ExactDict /\ o.data = .dict es ep /\ es.toList = xs.map (entryOfKey (tupleKind (zaZ P w))) /\ (xs.map (·.1)).Nodup
  | .set S n => h.SetOf (intKind P w) a S n
  | .ins C dx fs => H dx = some (.own a) /\ fs.length <= 1000 /\ dx ≠ a /\ h.get? a = some (PySem.W.instObj C dx) /\
      ∃ mA, h.Ns1 dx mA /\ (∀ f, zjQ (fs.lookup f) (mA f)) /\ PySem.Within mA (fs.map (·.1))
  | .own _ => ∃ o, h.get? a = some o
  | .xd fs => ∃ mA, h.Ns1 a mA /\ ∀ f, zjQ (fs.lookup f) (mA f)
  | .rng lo hi => ∃ t u v, h.get? a = some { cls := .type "range", data := .fields #[.int lo t, .int hi u, .int 1 v] }
  | .frz o u => h.get? a = some o /\ zbB H h a u
  | .tbl ps => h.get? a = some { cls := .none, data := .fields ps }
  | .met f x => h.get? a = some (PySem.W.methodObj (.ref f) (.ref x))
  | .ext φ => φ h /\ (∃ o, h.get? a = some o) /\ ∀ h1 h2 : Heap, φ h1 -> (∀ o, h1.get? a = some o -> h2.get? a = some o) -> φ h2
def HOk (H : Hp) (h : Heap) : Prop := ∀ a o, H a = some o -> zbB P w H h a o
end
section
variable {P : Program} {w : World} {H H' : Hp} {h h' : Heap} {a : Addr} {o : HO}
theorem zbB.lt (x : zbB P w H h a o) : a < h.objs.size := by
  cases o with
  | lst xs => obtain ⟨_, _, _, _, e⟩ := x; exact Heap.lt_size e
  | tup xs => obtain ⟨_, _, _, p⟩ := x; exact p.lt
  | dK kvs => obtain ⟨_, _, _, _, o, _, _, e, _⟩ := x; exact Heap.lt_size e
  | dT kvs => obtain ⟨_, _, _, _, o, _, _, e, _⟩ := x; exact Heap.lt_size e
  | set S n => obtain ⟨o, _, _, _, e, _⟩ := x; exact Heap.lt_size e
  | ins C dx fs => obtain ⟨_, _, _, e, _⟩ := x; exact Heap.lt_size e
  | own y => obtain ⟨_, e⟩ := x; exact Heap.lt_size e
  | xd fs => obtain ⟨_, ⟨_, _, _, e, _⟩, _⟩ := x; exact Heap.lt_size e
  | rng lo hi => obtain ⟨_, _, _, e⟩ := x; exact Heap.lt_size e
  | frz ob u => obtain ⟨e, _⟩ := x; exact Heap.lt_size e
  | tbl ps => exact Heap.lt_size (show h.get? a = some _ from x)
  | met f y => exact Heap.lt_size (show h.get? a = some _ from x)
  | ext φ => obtain ⟨_, ⟨_, e⟩, _⟩ := x; exact Heap.lt_size e
theorem Paired.mapP {α β : Type} {F G : α -> β -> Prop} : ∀ {l₁ : List α} {l₂ : List β}, Paired F l₁ l₂ -> (∀ a b, F a b -> G a b) -> Paired G l₁ l₂
  | _, _, .nil, _ => .nil
  | _, _, .cons r t, f => .cons (f _ _ r) (Paired.mapP t f)
theorem zbB.stay (x : zbB P w H h a o) (k : ∀ b u, (b = a \/ H b = some (.own a)) -> h.get? b = some u -> h'.get? b = some u)
    (ho : ∀ b, H b = some (.own a) -> H' b = some (.own a)) (ht : ∀ b xs, H b = some (.tup xs) -> H' b = some (.tup xs)) : zbB P w H' h' a o := by
  induction o with
  | lst xs => obtain ⟨z, its, n, r, e⟩ := x; exact ⟨z, its, n, r, k _ _ (.inl rfl) e⟩
  | tup xs => obtain ⟨z, its, r, ob, e, c⟩ := x; exact ⟨z, its, r, ob, k _ _ (.inl rfl) e, c⟩
  | dK kvs => obtain ⟨z, y, vs, r, ob, es, ep, e, c⟩ := x; exact ⟨z, y, vs, r, ob, es, ep, k _ _ (.inl rfl) e, c⟩
  | dT kvs =>
    obtain ⟨z, y, xs, r, ob, es, ep, e, c⟩ := x
    exact ⟨z, y, xs, Paired.mapP r fun p q z => ⟨z.1, ht _ _ z.2.1, z.2.2⟩, ob, es, ep, k _ _ (.inl rfl) e, c⟩
  | set S n => obtain ⟨ob, es, ep, t, e, c⟩ := x; exact ⟨ob, es, ep, t, k _ _ (.inl rfl) e, c⟩
  | ins C dx fs =>
    obtain ⟨d, z, ne, e, mA, ⟨od, es, ep, e2, c⟩, r⟩ := x
    exact ⟨ho _ d, z, ne, k _ _ (.inl rfl) e, mA, ⟨od, es, ep, k _ _ (.inr d) e2, c⟩, r⟩
  | own y => obtain ⟨ob, e⟩ := x; exact ⟨ob, k _ _ (.inl rfl) e⟩
  | xd fs => obtain ⟨mA, ⟨od, es, ep, e, c⟩, r⟩ := x; exact ⟨mA, ⟨od, es, ep, k _ _ (.inl rfl) e, c⟩, r⟩
  | rng lo hi => obtain ⟨t, u, v, e⟩ := x; exact ⟨t, u, v, k _ _ (.inl rfl) e⟩
  | frz ob u ih => obtain ⟨e, q⟩ := x; exact ⟨k _ _ (.inl rfl) e, ih q⟩
  | tbl ps =>
    have e : h.get? a = some { cls := .none, data := .fields ps } := x
    show h'.get? a = some { cls := .none, data := .fields ps }
    exact k a _ (.inl rfl) e
  | met f y =>
    have e : h.get? a = some (PySem.W.methodObj (.ref f) (.ref y)) := x
    show h'.get? a = some (PySem.W.methodObj (.ref f) (.ref y))
    exact k a _ (.inl rfl) e
  | ext φ => obtain ⟨p, ⟨o, e⟩, st⟩ := x; exact ⟨st _ _ p fun o q => k _ _ (.inl rfl) q, ⟨o, k _ _ (.inl rfl) e⟩, st⟩
theorem HOk.lt (x : HOk P w H h) (e : H a = some o) : a < h.objs.size := (x a o e).lt
theorem HOk.fresh (x : HOk P w H h) (e : h.objs.size <= a) : H a = none := by
  cases q : H a with
  | none => rfl
  | some u => exact absurd (Nat.lt_of_lt_of_le (x.lt q) e) (Nat.lt_irrefl _)
theorem HOk.kept (x : HOk P w H h) (k : ∀ b u, h.get? b = some u -> h'.get? b = some u) : HOk P w H h' := fun a o e =>
  (x a o e).stay (fun b u _ q => k b u q) (fun _ q => q) fun _ _ q => q
theorem HOk.laid (x : HOk P w H h) (k : ∀ b u, h.get? b = some u -> h'.get? b = some u) (hp : h.objs.size <= a) (new : zbB P w (upd H a o) h' a o) : HOk P w (upd H a o) h' := fun b u e => by
  have hn := x.fresh hp
  by_cases hb : b = a
  · subst hb; rw [zaw] at e; cases e; exact new
  · rw [zas hb] at e
    exact (x b u e).stay (fun c v _ q => k c v q) (fun c q => by rw [zas (zav q hn)]; exact q) fun c xs q => by rw [zas (zav q hn)]; exact q
end
def Rd (H : Hp) (a : Addr) (u : HO) : Prop := H a = some u \/ ∃ o, H a = some (.frz o u)
theorem Rd.ok {P : Program} {w : World} {H : Hp} {h : Heap} {a : Addr} {u : HO} (r : Rd H a u) (x : HOk P w H h) : zbB P w H h a u := by
  rcases r with r | ⟨o, r⟩
  · exact x a u r
  · obtain ⟨_, q⟩ := x a _ r
    exact q
def Mut : Option HO -> Prop
  | some (.lst _) => True
  | some (.dK _) => True
  | some (.dT _) => True
  | some (.set _ _) => True
  | some (.ins _ _ _) => True
  | some (.ext _) => True
  | _ => False
section
variable {P : Program} {w : World} {H : Hp} {h h' : Heap} {x e : Addr} {o' : HO}
theorem HOk.write (ok : HOk P w H h) (mu : Mut (H x)) (he : e = x \/ H e = some (.own x)) (k : ∀ b u, b ≠ e -> h.get? b = some u -> h'.get? b = some u) (heo : ∃ u, h'.get? e = some u)
    (new : zbB P w (upd H x o') h' x o') : HOk P w (upd H x o') h' := fun b u q => by
  have nown : ∀ c y, H c = some (.own y) -> c ≠ x := fun c y r z => by subst z; rw [r] at mu; exact mu
  have ntup : ∀ c xs, H c = some (.tup xs) -> c ≠ x := fun c xs r z => by subst z; rw [r] at mu; exact mu
  by_cases hb : b = x
  · subst hb; rw [zaw] at q; cases q; exact new
  · rw [zas hb] at q
    by_cases hbe : b = e
    · have q' : H b = some (.own x) := by
        rcases he with z | z
        · exact absurd (hbe.trans z) hb
        · rw [hbe]; exact z
      rw [q] at q'; cases q'
      obtain ⟨v, hv⟩ := heo
      exact ⟨v, by rw [hbe]; exact hv⟩
    · refine (ok b u q).stay (fun c v hc r => k c v ?_ r) (fun c r => by rw [zas (nown c b r)]; exact r) fun c xs r => by rw [zas (ntup c xs r)]; exact r
      rcases hc with rfl | hc
      · exact hbe
      · rintro rfl
        rcases he with z | z
        · exact nown c b hc z
        · rw [hc] at z; cases z; exact hb rfl
end
structure Un (fs ex : List Addr) (H H' : Hp) (h h' : Heap) : Prop where
  keep : ∀ b o, h.get? b = some o -> H b = none -> b ∉ fs -> b ∉ ex -> h'.get? b = some o
  slot : ∀ b o, h.get? b = some o -> H b = none -> b ∈ fs -> b ∉ ex -> ∃ sl, h'.get? b = some { o with slots := sl }
  free : ∀ b o, h.get? b = some o -> H b = none -> b ∉ ex -> H' b = none
  there : ∀ b o, h.get? b = some o -> b ∉ ex -> ∃ o', h'.get? b = some o'
  tups : ∀ b xs, H b = some (.tup xs) -> H' b = some (.tup xs)
  frzs : ∀ b o u, H b = some (.frz o u) -> H' b = some (.frz o u)
  tbls : ∀ b ps, H b = some (.tbl ps) -> ∃ more, H' b = some (.tbl (ps ++ more))
section
variable {fs fs' ex ex' : List Addr} {H H1 H2 : Hp} {h h1 h2 h' : Heap} {a x e : Addr} {o : HO}
theorem Un.any (u : Un fs ex H H1 h h1) {b : Addr} {ob : Obj} (q : h.get? b = some ob) (n : H b = none) (hx : b ∉ ex) : ∃ sl, h1.get? b = some { ob with slots := sl } := by
  by_cases hb : b ∈ fs
  · exact u.slot b ob q n hb hx
  · exact ⟨ob.slots, u.keep b ob q n hb hx⟩
theorem Un.kept (k : ∀ b u, h.get? b = some u -> h'.get? b = some u) : Un fs ex H H h h' :=
  ⟨fun b ob q _ _ _ => k b ob q, fun b ob q _ _ _ => ⟨ob.slots, k b ob q⟩, fun _ _ _ n _ => n, fun b ob q _ => ⟨ob, k b ob q⟩, fun _ _ q => q, fun _ _ _ q => q, fun _ ps q => ⟨#[], by rw [q]; simp⟩⟩
theorem Un.refl : Un fs ex H H h h := Un.kept fun _ _ q => q
theorem Un.laid (k : ∀ b u, h.get? b = some u -> h'.get? b = some u) (hp : h.objs.size <= a) (hn : H a = none) : Un fs ex H (upd H a o) h h' where
  keep := fun b u q _ _ _ => k b u q
  slot := fun b u q _ _ _ => ⟨u.slots, k b u q⟩
  free := fun b u q n _ => by rw [zas (Nat.ne_of_lt (Nat.lt_of_lt_of_le (Heap.lt_size q) hp))]; exact n
  there := fun b u q _ => ⟨u, k b u q⟩
  tups := fun b xs q => by rw [zas (zav q hn)]; exact q
  frzs := fun b u xs q => by rw [zas (zav q hn)]; exact q
  tbls := fun b ps q => ⟨#[], by rw [zas (zav q hn), q]; simp⟩
theorem Un.write (mu : Mut (H x)) (he : e = x \/ H e = some (.own x)) (k : ∀ b u, b ≠ e -> h.get? b = some u -> h'.get? b = some u) (heo : ∃ u, h'.get? e = some u) : Un fs ex H (upd H x o) h h' := by
  have hx : ∀ b, H b = none -> b ≠ x := fun b n z => by subst z; rw [n] at mu; exact mu
  have hb : ∀ b, H b = none -> b ≠ e := fun b n z => by
    subst z
    rcases he with r | r
    · exact hx b n r
    · rw [n] at r; cases r
  have hm : ∀ b u, H b = some u -> ¬ Mut (some u) -> b ≠ x := fun b u q nm z => by subst z; rw [q] at mu; exact nm mu
  refine ⟨fun b u q n _ _ => k b u (hb b n) q, fun b u q n _ _ => ⟨u.slots, k b u (hb b n) q⟩, fun b u q n _ => by rw [zas (hx b n)]; exact n, fun b u q _ => ?_,
    fun b xs q => by rw [zas (hm b _ q fun z => z)]; exact q, fun b u xs q => by rw [zas (hm b _ q fun z => z)]; exact q, fun b ps q => ⟨#[], by rw [zas (hm b _ q fun z => z), q]; simp⟩⟩
  by_cases hbe : b = e
  · subst hbe; exact heo
  · exact ⟨u, k b u hbe q⟩
end
def trk (h : Heap) (H : Hp) : List Addr := (List.range h.objs.size).filter fun a => (H a).isSome
def zmf (h : Heap) (H : Hp) : Heap := PySem.W.hideAll h (trk h H)
theorem zkT (h : Heap) (H : Hp) : (zmf h H).objs.size = h.objs.size := PySem.W.hideAll_size _ _
theorem zme {h : Heap} {H : Hp} {b : Addr} {o : Obj} (e : h.get? b = some o) (n : H b = none) : (zmf h H).get? b = some o :=
  PySem.W.hideAll_get _ e fun hm => by
    have q : (H b).isSome = true := (List.mem_filter.mp hm).2
    rw [n] at q; simp at q
theorem znF {h : Heap} {H : Hp} {b : Addr} {o : Obj} (e : (zmf h H).get? b = some o) : h.get? b = some o /\ H b = none := by
  have e' : h.get? b = some o := PySem.W.of_hideAll (trk h H) e
  refine ⟨e', ?_⟩
  cases q : H b with
  | none => rfl
  | some x =>
    have hm : b ∈ trk h H := List.mem_filter.mpr ⟨List.mem_range.mpr (Heap.lt_size e'), by simp [q]⟩
    have z : (zmf h H).get? b = none := PySem.W.hideAll_none (trk h H) hm
    rw [z] at e; cases e
def zod (g h : Heap) (L : Addr) : List (Addr × Obj) := (List.range h.objs.size).filterMap fun a => if a = L \/ (g.get? a).isSome = true then none else (h.get? a).map fun o => (a, o)
def zbL (g h : Heap) (L d : Addr) : List (Addr × Obj) := (zod g h L).filter fun p => decide (p.1 ≠ d)
end L2
namespace L2
open PySem PySem.Spec PyProof.Rows
structure Mod (K : PySem.W.Frag) (mg : Str -> Option Value) (base : Heap) : Prop where
  kin : K.In base
  glob : base.Ns mainGlobals mg
  blt : ∃ mb, base.Ns builtinsNs mb /\ ∀ x : Str, x ≠ "__name__" -> mb x = bootBuiltins x
  nolimit : base.NoLimit
structure Cx where
  prog : Program
  w : World
  K : PySem.W.Frag
  mg : Str -> Option Value
  base : Heap
  A : Around
  N : List Str
  s₀ : Shared
  H₀ : Hp
  env : Env
  outer : List Env
  stack : List Env
  ex : List Addr
  fn : Str -> Bool
  calm : Bool
  pn : List (Addr × Obj)
  xe : Value -> Shared -> Prop
def frs (l : List Env) : List Addr := l.filterMap (·.frame)
abbrev Cx.fs (X : Cx) : List Addr := frs X.outer
def Vis (sc : Scope) (x : Str) : Prop := sc.names.lookup x = some .local \/ sc.names.lookup x = some .cell \/ sc.names.lookup x = some .free
def Loc (sc : Scope) (x : Str) : Prop := sc.names.lookup x = some .local \/ sc.names.lookup x = some .cell
def zr2 (env : Env) (h : Heap) (m : Str -> Option Value) (x : Str) (u : Value) : Prop :=
  (env.kindOf x = some .local /\ m x = some u) \/ ((env.kindOf x = some .cell \/ env.kindOf x = some .free) /\ ∃ c, env.cells.lookup x = some c /\ h.IsCell c (some u))
structure Cx.Ok (X : Cx) : Prop where
  mod : Mod X.K X.mg X.base
  kind : X.env.scope.kind = .function
  glob : X.env.globals = mainGlobals
  blt : X.env.builtins = builtinsNs
  above : X.s₀.heap.objs.size <= X.env.locals
  inj : ∀ x y c, X.env.cells.lookup x = some c -> X.env.cells.lookup y = some c -> x = y
  has : ∀ x, (X.env.kindOf x = some .cell \/ X.env.kindOf x = some .free) -> ∃ c, X.env.cells.lookup x = some c
  cab : ∀ x c, X.fn x = true -> X.env.cells.lookup x = some c -> X.s₀.heap.objs.size <= c
  hd : X.calm = true -> X.A.handled = none
  frames : X.A.frames = some X.stack
  stk : X.stack = X.outer \/ (X.stack = X.env :: X.outer /\ X.env.frame = some X.env.locals)
  exf : ∀ b ∈ X.ex, b ≠ X.env.locals /\ ∀ x c, X.env.cells.lookup x = some c -> c ≠ b
  bs : ∀ b o, X.base.get? b = some o -> X.s₀.heap.get? b = some o /\ X.H₀ b = none
  bsz : X.base.objs.size <= X.s₀.heap.objs.size
  noex : ∀ b o, X.base.get? b = some o -> b ∉ X.ex
  exfs : ∀ b ∈ X.ex, b ∉ X.fs
  funs : X.s₀.heap.FunFrames X.base X.outer
  frf : ∀ b ∈ X.fs, X.H₀ b = none
structure Inv (X : Cx) (pins : List (Addr × Obj)) (σ : List (Option V)) (H : Hp) (s : Shared) : Prop where
  ok : X.Ok
  os : s.os = X.s₀.os
  bare : AllBare s.gens
  base : Un X.fs X.ex X.H₀ H X.s₀.heap s.heap
  loc : ∃ m, s.heap.Ns X.env.locals m /\ ∀ (i : Nat) (x : Str) (v : V), X.N[i]? = some x -> σ[i]? = some (some v) -> Vis X.env.scope x -> ∃ u, zbJ v u /\ zr2 X.env s.heap m x u
  cell : ∀ x c, X.env.cells.lookup x = some c -> ∃ v, s.heap.IsCell c v
  free : H X.env.locals = none
  freeC : ∀ x c, X.env.cells.lookup x = some c -> H c = none
  pin : ∀ p ∈ X.pn ++ pins, s.heap.get? p.1 = some p.2 /\ H p.1 = none /\ p.1 ≠ X.env.locals /\ p.1 ∉ X.fs /\ ∀ v, p.2.data ≠ .cell v
  hok : HOk X.prog X.w H s.heap
  len : σ.length = X.N.length
section
variable {X : Cx} {pins : List (Addr × Obj)} {σ : List (Option V)} {H H' : Hp} {s : Shared} {h' : Heap}
theorem Cx.Ok.nofr (ok : X.Ok) {b : Addr} {o : Obj} (e : X.base.get? b = some o) : b ∉ X.fs := fun hb => by
  have := (ok.funs.mem hb).1
  rw [e] at this; cases this
theorem Inv.bs (I : Inv X pins σ H s) : ∀ b o, X.base.get? b = some o -> s.heap.get? b = some o /\ H b = none := fun b o e =>
  ⟨I.base.keep b o (I.ok.bs b o e).1 (I.ok.bs b o e).2 (I.ok.nofr e) (I.ok.noex b o e), I.base.free b o (I.ok.bs b o e).1 (I.ok.bs b o e).2 (I.ok.noex b o e)⟩
theorem Inv.bk (I : Inv X pins σ H s) : ∀ b o, X.base.get? b = some o -> s.heap.get? b = some o := fun b o e => (I.bs b o e).1
theorem Inv.mod (I : Inv X pins σ H s) : Mod X.K X.mg X.base := I.ok.mod
theorem Inv.kIn (I : Inv X pins σ H s) : X.K.In s.heap := I.ok.mod.kin.keeps I.bk
theorem Inv.lt (I : Inv X pins σ H s) : X.env.locals < s.heap.objs.size := let ⟨_, hn, _⟩ := I.loc; hn.lt
theorem Inv.sz (I : Inv X pins σ H s) : X.s₀.heap.objs.size <= s.heap.objs.size := Nat.le_trans I.ok.above (Nat.le_of_lt I.lt)
theorem Inv.nofs (I : Inv X pins σ H s) {a : Addr} (h : s.heap.objs.size <= a) : a ∉ X.fs := fun hb => by
  obtain ⟨_, o, ho, _⟩ := I.ok.funs.mem hb
  exact absurd (Nat.lt_of_lt_of_le (Heap.lt_size ho) (Nat.le_trans I.sz h)) (Nat.lt_irrefl _)
theorem Inv.cne (I : Inv X pins σ H s) : ∀ x c, X.env.cells.lookup x = some c -> c ≠ X.env.locals := fun x c e z => by
  obtain ⟨v, o, ho, hd⟩ := I.cell x c e
  obtain ⟨m, ⟨o', es, ep, ho', hd', _⟩, _⟩ := I.loc
  rw [z, ho'] at ho; cases ho; rw [hd'] at hd; cases hd
theorem Inv.funs (I : Inv X pins σ H s) : s.heap.FunFrames X.base X.outer := by
  have all : ∀ (l : List Env), (∀ b ∈ frs l, b ∈ X.fs) -> X.s₀.heap.FunFrames X.base l -> s.heap.FunFrames X.base l := by
    intro l
    induction l with
    | nil => intro _ _; trivial
    | cons env r ih =>
      intro hs hl
      obtain ⟨hk, ⟨L, o, hf, hn, ho, hd⟩, hr⟩ := hl
      have hL : L ∈ X.fs := hs L (by unfold frs; rw [List.filterMap_cons, hf]; exact List.mem_cons_self)
      obtain ⟨sl, e⟩ := I.base.slot L o ho (I.ok.frf L hL) hL fun z => I.ok.exfs L z hL
      exact ⟨hk, ⟨L, _, hf, hn, e, hd⟩, ih (fun b hb => hs b (by unfold frs; rw [List.filterMap_cons, hf]; exact List.mem_cons_of_mem _ hb)) hr⟩
  exact all X.outer (fun _ hb => hb) I.ok.funs
theorem Inv.stack (I : Inv X pins σ H s) : s.heap.FunFrames X.base X.stack := by
  rcases I.ok.stk with e | ⟨e, hf⟩
  · rw [e]; exact I.funs
  · rw [e]
    obtain ⟨m, hn, _⟩ := I.loc
    refine .cons (by rw [I.ok.kind]; decide) hf hn ?_ I.funs
    exact Heap.get?_none_of_le (Nat.le_trans I.ok.bsz I.ok.above)
theorem Inv.stkSub (I : Inv X pins σ H s) : ∀ b ∈ frs X.stack, b ∈ X.env.locals :: X.fs := fun b hb => by
  rcases I.ok.stk with e | ⟨e, hf⟩
  · rw [e] at hb; exact List.mem_cons_of_mem _ hb
  · rw [e] at hb
    unfold frs at hb
    rw [List.filterMap_cons, hf] at hb
    exact hb
theorem Inv.stkFree (I : Inv X pins σ H s) : ∀ b ∈ frs X.stack, H b = none := fun b hb => by
  rcases List.mem_cons.mp (I.stkSub b hb) with e | hb
  · rw [e]; exact I.free
  · obtain ⟨_, o, ho, _⟩ := I.ok.funs.mem hb
    exact I.base.free b o ho (I.ok.frf b hb) fun z => I.ok.exfs b z hb
theorem Inv.step {g' : Array GenState} {t' : Nat} {d' : Drawn} {ch : List Addr} (I : Inv X pins σ H s)
    (hch : ∀ b ∈ ch, (b ∈ X.ex \/ X.s₀.heap.objs.size <= b) /\ b ≠ X.env.locals /\ (∀ x c, X.env.cells.lookup x = some c -> c ≠ b) /\ ∀ p ∈ X.pn ++ pins, p.1 ≠ b)
    (keep : ∀ b o, b ≠ X.env.locals -> b ∉ X.fs -> b ∉ ch -> s.heap.get? b = some o -> H b = none -> h'.get? b = some o)
    (slot : ∀ b o, b ≠ X.env.locals -> b ∈ X.fs -> b ∉ ch -> s.heap.get? b = some o -> H b = none -> ∃ sl, h'.get? b = some { o with slots := sl }) (free : ∀ b o, b ∉ ch -> s.heap.get? b = some o -> H b = none -> H' b = none)
    (there : ∀ b o, b ∉ ch -> s.heap.get? b = some o -> ∃ o', h'.get? b = some o')
    (tups : ∀ b xs, H b = some (.tup xs) -> H' b = some (.tup xs)) (frzs : ∀ b o u, H b = some (.frz o u) -> H' b = some (.frz o u)) (tbls : ∀ b ps, H b = some (.tbl ps) -> ∃ more, H' b = some (.tbl (ps ++ more)))
    (ns : ∀ m, s.heap.Ns X.env.locals m -> h'.Ns X.env.locals m) (hok : HOk X.prog X.w H' h') (hg : AllBare g') :
    Inv X pins σ H' { s with heap := h', gens := g', drawn := d', toks := t' } := by
  have neL : ∀ b o, X.s₀.heap.get? b = some o -> b ≠ X.env.locals := fun b o e => Nat.ne_of_lt (Nat.lt_of_lt_of_le (Heap.lt_size e) I.ok.above)
  have neC : ∀ b o, X.s₀.heap.get? b = some o -> b ∉ X.ex -> b ∉ ch := fun b o e hx hb => by
    rcases (hch b hb).1 with z | z
    · exact hx z
    · exact absurd (Nat.lt_of_lt_of_le (Heap.lt_size e) z) (Nat.lt_irrefl _)
  have cellK : ∀ x c, X.env.cells.lookup x = some c -> ∀ v, s.heap.IsCell c v -> h'.IsCell c v := fun x c e v ⟨o, ho, hd⟩ => by
    have nch : c ∉ ch := fun z => (hch c z).2.2.1 x c e rfl
    by_cases hc : c ∈ X.fs
    · obtain ⟨sl, q⟩ := slot c o (I.cne x c e) hc nch ho (I.freeC x c e)
      exact ⟨_, q, hd⟩
    · exact ⟨o, keep c o (I.cne x c e) hc nch ho (I.freeC x c e), hd⟩
  refine ⟨I.ok, I.os, hg, ⟨fun b o e n hb hx => ?_, fun b o e n hb hx => ?_, fun b o e n hx => ?_, fun b o e hx => ?_, fun b xs e => tups b xs (I.base.tups b xs e), fun b o xs e => frzs b o xs (I.base.frzs b o xs e), fun b ps e => ?_⟩, ?_, fun x c e => ?_, ?_, fun x c e => ?_, fun p hp => ?_, hok, I.len⟩
  · exact keep b o (neL b o e) hb (neC b o e hx) (I.base.keep b o e n hb hx) (I.base.free b o e n hx)
  · obtain ⟨sl, e1⟩ := I.base.slot b o e n hb hx
    obtain ⟨sl', e2⟩ := slot b _ (neL b o e) hb (neC b o e hx) e1 (I.base.free b o e n hx)
    exact ⟨sl', e2⟩
  · obtain ⟨o', e1⟩ := I.base.there b o e hx
    exact free b o' (neC b o e hx) e1 (I.base.free b o e n hx)
  · obtain ⟨o', e1⟩ := I.base.there b o e hx
    exact there b o' (neC b o e hx) e1
  · obtain ⟨m1, e1⟩ := I.base.tbls b ps e
    obtain ⟨m2, e2⟩ := tbls b _ e1
    exact ⟨m1 ++ m2, by rw [e2, Array.append_assoc]⟩
  · obtain ⟨m, hn, hl⟩ := I.loc
    refine ⟨m, ns m hn, fun i x v e1 e2 e3 => ?_⟩
    obtain ⟨u, r, l⟩ := hl i x v e1 e2 e3
    refine ⟨u, r, ?_⟩
    rcases l with l | ⟨k, c, e, z⟩
    · exact .inl l
    · exact .inr ⟨k, c, e, cellK x c e _ z⟩
  · obtain ⟨v, z⟩ := I.cell x c e
    exact ⟨v, cellK x c e v z⟩
  · obtain ⟨m, ⟨o, _, _, ho, _⟩, _⟩ := I.loc
    exact free _ o (fun z => (hch _ z).2.1 rfl) ho I.free
  · obtain ⟨v, o, ho, hd⟩ := I.cell x c e
    exact free c o (fun z => (hch c z).2.2.1 x c e rfl) ho (I.freeC x c e)
  · obtain ⟨e, n, ne, nf, d⟩ := I.pin p hp
    have nch : p.1 ∉ ch := fun z => (hch p.1 z).2.2.2 p hp rfl
    exact ⟨keep p.1 p.2 ne nf nch e n, free p.1 p.2 nch e n, ne, nf, d⟩
theorem Inv.un {t' : Nat} (I : Inv X pins σ H s) (u : Un X.fs [] H H' s.heap h') (hok : HOk X.prog X.w H' h') : Inv X pins σ H' { s with heap := h', toks := t' } := by
  obtain ⟨m, ⟨o, es, ep, ho, r⟩, _⟩ := id I.loc
  obtain ⟨sl, hL⟩ := u.any ho I.free (by simp)
  exact I.step (g' := s.gens) (d' := s.drawn) (ch := []) (fun _ z => nomatch z) (fun b o _ hb _ e n => u.keep b o e n hb (by simp)) (fun b o _ hb _ e n => u.slot b o e n hb (by simp)) (fun b o _ e n => u.free b o e n (by simp)) (fun b o _ e => u.there b o e (by simp)) u.tups u.frzs u.tbls (fun m' hm => by
    obtain ⟨o', es', ep', ho', r'⟩ := hm
    rw [ho] at ho'; cases ho'
    exact ⟨_, es', ep', hL, r'⟩) hok I.bare
theorem Inv.call {g' : Array GenState} {t' : Nat} {d' : Drawn} {ch : List Addr} (I : Inv X pins σ H s) (u : Un (frs X.stack) ch H H' s.heap h') (hok : HOk X.prog X.w H' h') (hg : AllBare g')
    (hch : ∀ b ∈ ch, (b ∈ X.ex \/ X.s₀.heap.objs.size <= b) /\ b ≠ X.env.locals /\ (∀ x c, X.env.cells.lookup x = some c -> c ≠ b) /\ ∀ p ∈ X.pn ++ pins, p.1 ≠ b) :
    Inv X pins σ H' { s with heap := h', gens := g', drawn := d', toks := t' } := by
  obtain ⟨m, ⟨o, es, ep, ho, r⟩, _⟩ := id I.loc
  obtain ⟨sl, hL⟩ := u.any ho I.free fun z => (hch _ z).2.1 rfl
  exact I.step (ch := ch) hch (fun b o hL hb hc e n => u.keep b o e n (fun z => (List.mem_cons.mp (I.stkSub b z)).elim hL hb) hc) (fun b o _ _ hc e n => u.any e n hc) (fun b o hc e n => u.free b o e n hc) (fun b o hc e => u.there b o e hc) u.tups u.frzs u.tbls (fun m' hm => by
    obtain ⟨o', es', ep', ho', r'⟩ := hm
    rw [ho] at ho'; cases ho'
    exact ⟨_, es', ep', hL, r'⟩) hok hg
theorem Inv.turned {t' : Nat} {it : Addr} (I : Inv X pins σ H s) (k : ∀ b o, b ≠ it -> s.heap.get? b = some o -> h'.get? b = some o) (hn : H it = none) (hL : it ≠ X.env.locals)
    (h1 : it ∈ X.ex \/ X.s₀.heap.objs.size <= it) (h2 : ∀ x c, X.env.cells.lookup x = some c -> c ≠ it) (h3 : ∀ p ∈ X.pn ++ pins, p.1 ≠ it) : Inv X pins σ H { s with heap := h', toks := t' } := by
  have nit : ∀ b u, H b = some u -> b ≠ it := fun b u e z => by rw [z, hn] at e; cases e
  refine I.step (g' := s.gens) (d' := s.drawn) (ch := [it]) (fun b hb => ?_) (fun b o _ _ hc e _ => k b o (fun z => hc (by simp [z])) e) (fun b o _ _ hc e _ => ⟨o.slots, k b o (fun z => hc (by simp [z])) e⟩) (fun _ _ _ _ n => n)
    (fun b o hc e => ⟨o, k b o (fun z => hc (by simp [z])) e⟩) (fun _ _ e => e) (fun _ _ _ e => e) (fun b ps e => ⟨#[], by rw [e]; simp⟩) (fun m hm => ?_) (fun b u e => ?_) I.bare
  · have e : b = it := by simpa using hb
    subst e
    exact ⟨h1, hL, h2, h3⟩
  · obtain ⟨o, es, ep, ho, r⟩ := hm
    exact ⟨o, es, ep, k _ o (Ne.symm hL) ho, r⟩
  · refine (I.hok b u e).stay (fun c v hc q => k c v ?_ q) (fun _ q => q) fun _ _ q => q
    rcases hc with z | z
    · rw [z]; exact nit b u e
    · exact nit c _ z
theorem Inv.tok (I : Inv X pins σ H s) (t : Nat) : Inv X pins σ H { s with toks := t } := I.un (h' := s.heap) (t' := t) Un.refl I.hok
theorem Inv.kept {t' : Nat} (I : Inv X pins σ H s) (k : ∀ b u, s.heap.get? b = some u -> h'.get? b = some u) : Inv X pins σ H { s with heap := h', toks := t' } := I.un (Un.kept k) (I.hok.kept k)
theorem Inv.laid {a : Addr} {o : HO} {t' : Nat} (I : Inv X pins σ H s) (k : ∀ b u, s.heap.get? b = some u -> h'.get? b = some u) (hp : s.heap.objs.size <= a) (new : zbB X.prog X.w (upd H a o) h' a o) :
    Inv X pins σ (upd H a o) { s with heap := h', toks := t' } := I.un (Un.laid k hp (I.hok.fresh hp)) (I.hok.laid k hp new)
theorem Inv.write {x e : Addr} {o : HO} {t' : Nat} (I : Inv X pins σ H s) (mu : Mut (H x)) (he : e = x \/ H e = some (.own x)) (k : ∀ b u, b ≠ e -> s.heap.get? b = some u -> h'.get? b = some u) (heo : ∃ u, h'.get? e = some u)
    (new : zbB X.prog X.w (upd H x o) h' x o) : Inv X pins σ (upd H x o) { s with heap := h', toks := t' } := I.un (Un.write mu he k heo) (I.hok.write mu he k heo new)
theorem Inv.pins_of {pins' : List (Addr × Obj)} (I : Inv X pins σ H s) (h : ∀ p ∈ pins', s.heap.get? p.1 = some p.2 /\ H p.1 = none /\ p.1 ≠ X.env.locals /\ p.1 ∉ X.fs /\ ∀ v, p.2.data ≠ .cell v) : Inv X pins' σ H s :=
  ⟨I.ok, I.os, I.bare, I.base, I.loc, I.cell, I.free, I.freeC, fun p hp => (List.mem_append.mp hp).elim (fun z => I.pin p (List.mem_append_left _ z)) (h p), I.hok, I.len⟩
theorem zgL {N : List Str} (hN : N.Nodup) {i j : Nat} {x : Str} (a : N[i]? = some x) (b : N[j]? = some x) : i = j := by
  obtain ⟨h1, e1⟩ := List.getElem?_eq_some_iff.mp a
  obtain ⟨h2, e2⟩ := List.getElem?_eq_some_iff.mp b
  exact (List.getElem_inj hN).mp (e1.trans e2.symm)
theorem zhd {M : Model} {A : Around} {E : Value -> Shared -> Prop} {i : Nat} {x : Str} {v : V} {u : Value} {Q : Unit -> Shared -> Prop} (I : Inv X pins σ H s) (hN : X.N.Nodup) (hi : X.N[i]? = some x) (hx : Loc X.env.scope x) (r : zbJ v u)
    (h : ∀ s', Inv X pins (σ.set i (some v)) H s' -> (∃ a, Heap.SameBut a s.heap s'.heap /\ (a = X.env.locals \/ X.env.cells.lookup x = some a)) -> Q () s') (hf : X.fn x = true \/ X.env.scope.names.lookup x = some .local := by first | exact .inl rfl | exact .inr rfl | assumption) : wpAny M A (storeName X.env x u) Q E s := by
  obtain ⟨m, hn, hl⟩ := id I.loc
  have hcls : (X.env.scope.kind == .class || (X.env.scope.kind == .module && X.env.locals != X.env.globals)) = false := by rw [I.ok.kind]; rfl
  have hiσ : i < σ.length := by rw [I.len]; exact (List.getElem?_eq_some_iff.mp hi).1
  have cne := I.cne
  have tracked : ∀ {a : Addr} {h' : Heap}, (∃ o, s.heap.get? a = some o /\ H a = none) -> Heap.SameBut a s.heap h' -> HOk X.prog X.w H h' := fun {a h'} ha hs b ob e => by
    obtain ⟨_, _, hfree⟩ := ha
    refine (I.hok b ob e).stay (fun c w' hc q => (hs.2 c ?_).trans q) (fun _ q => q) fun _ _ q => q
    rintro rfl
    rcases hc with rfl | hc
    · rw [hfree] at e; cases e
    · rw [hfree] at hc; cases hc
  rcases hx with hk | hk
  · refine wpAny_storeName_local hk hn (fun h' hn' hs => ?_) hcls
    obtain ⟨oL, _, _, hoL, _⟩ := id hn
    refine h _ ⟨I.ok, I.os, I.bare, ⟨fun b o e n hb hx => ?_, fun b o e n hb hx => ?_, I.base.free, fun b o e hx => ?_, I.base.tups, I.base.frzs, I.base.tbls⟩, ⟨_, hn', fun j y v' e1 e2 e3 => ?_⟩, fun y c e => ?_, I.free, I.freeC, fun p hp => ?_, tracked ⟨oL, hoL, I.free⟩ hs, by simpa using I.len⟩ ⟨_, hs, .inl rfl⟩
    · exact (hs.2 b (Nat.ne_of_lt (Nat.lt_of_lt_of_le (Heap.lt_size e) I.ok.above))).trans (I.base.keep b o e n hb hx)
    · obtain ⟨sl, e1⟩ := I.base.slot b o e n hb hx
      exact ⟨sl, (hs.2 b (Nat.ne_of_lt (Nat.lt_of_lt_of_le (Heap.lt_size e) I.ok.above))).trans e1⟩
    · obtain ⟨o', e1⟩ := I.base.there b o e hx
      exact ⟨o', (hs.2 b (Nat.ne_of_lt (Nat.lt_of_lt_of_le (Heap.lt_size e) I.ok.above))).trans e1⟩
    · by_cases hj : j = i
      · subst hj
        rw [hi] at e1; cases e1
        rw [List.getElem?_set_self hiσ] at e2
        cases e2
        exact ⟨u, r, .inl ⟨hk, by simp⟩⟩
      · rw [List.getElem?_set_ne (Ne.symm hj)] at e2
        obtain ⟨u', r', q⟩ := hl j y v' e1 e2 e3
        refine ⟨u', r', ?_⟩
        rcases q with ⟨k, e⟩ | ⟨k, c, e, z⟩
        · refine .inl ⟨k, ?_⟩
          have : y ≠ x := fun e => hj (zgL hN e1 (e ▸ hi))
          simp [this, e]
        · exact .inr ⟨k, c, e, z.sameBut hs (cne y c e)⟩
    · obtain ⟨w', z⟩ := I.cell y c e
      exact ⟨w', z.sameBut hs (cne y c e)⟩
    · obtain ⟨e, n, ne, nf, d⟩ := I.pin p hp
      exact ⟨(hs.2 p.1 ne).trans e, n, ne, nf, d⟩
  · have hfn : X.fn x = true := by
      rcases hf with z | z
      · exact z
      · rw [z] at hk; cases hk
    obtain ⟨c, hc⟩ := I.ok.has x (.inl hk)
    obtain ⟨w', z⟩ := I.cell x c hc
    refine wpAny_storeName_cell I.ok.kind hk hc z (fun h' hc' hs => ?_)
    obtain ⟨oc, hoc, hocd⟩ := id z
    refine h { s with heap := h' } ⟨I.ok, I.os, I.bare, ⟨fun b o e n hb hx => ?_, fun b o e n hb hx => ?_, I.base.free, fun b o e hx => ?_, I.base.tups, I.base.frzs, I.base.tbls⟩, ⟨m, hn.sameBut hs (Ne.symm (cne x c hc)), fun j y v' e1 e2 e3 => ?_⟩, fun y c' e => ?_, I.free, I.freeC, fun p hp => ?_, tracked ⟨oc, hoc, I.freeC x c hc⟩ hs, by simpa using I.len⟩ ⟨c, hs, .inr hc⟩
    · exact (hs.2 b (Nat.ne_of_lt (Nat.lt_of_lt_of_le (Heap.lt_size e) (I.ok.cab x c hfn hc)))).trans (I.base.keep b o e n hb hx)
    · obtain ⟨sl, e1⟩ := I.base.slot b o e n hb hx
      exact ⟨sl, (hs.2 b (Nat.ne_of_lt (Nat.lt_of_lt_of_le (Heap.lt_size e) (I.ok.cab x c hfn hc)))).trans e1⟩
    · obtain ⟨o', e1⟩ := I.base.there b o e hx
      exact ⟨o', (hs.2 b (Nat.ne_of_lt (Nat.lt_of_lt_of_le (Heap.lt_size e) (I.ok.cab x c hfn hc)))).trans e1⟩
    · by_cases hj : j = i
      · subst hj
        rw [hi] at e1; cases e1
        rw [List.getElem?_set_self hiσ] at e2
        cases e2
        exact ⟨u, r, .inr ⟨.inl hk, c, hc, hc'⟩⟩
      · rw [List.getElem?_set_ne (Ne.symm hj)] at e2
        obtain ⟨u', r', q⟩ := hl j y v' e1 e2 e3
        refine ⟨u', r', ?_⟩
        rcases q with q | ⟨k, c', e, z'⟩
        · exact .inl q
        · refine .inr ⟨k, c', e, z'.sameBut hs ?_⟩
          rintro rfl
          exact hj (zgL hN e1 (I.ok.inj _ _ _ e hc ▸ hi))
    · by_cases hcc : c' = c
      · subst hcc; exact ⟨_, hc'⟩
      · obtain ⟨w2, z2⟩ := I.cell y c' e
        exact ⟨w2, z2.sameBut hs hcc⟩
    · obtain ⟨e, n, ne, nf, d⟩ := I.pin p hp
      refine ⟨(hs.2 p.1 ?_).trans e, n, ne, nf, d⟩
      intro q
      rw [q, hoc] at e
      have q' : oc = p.2 := Option.some.inj e
      exact d w' (by rw [← q']; exact hocd)
theorem zgy {M : Model} {A : Around} {E : Value -> Shared -> Prop} {i : Nat} {x : Str} {v : V} {u : Value} {Q : Unit -> Shared -> Prop} (I : Inv X pins σ H s) (hN : X.N.Nodup) (hi : X.N[i]? = some x) (hx : Loc X.env.scope x) (r : zbJ v u)
    (h : ∀ s', Inv X pins (σ.set i (some v)) H s' -> Q () s') (hf : X.fn x = true \/ X.env.scope.names.lookup x = some .local := by first | exact .inl rfl | exact .inr rfl | assumption) : wpAny M A (storeName X.env x u) Q E s :=
  zhd I hN hi hx r (fun s' I' _ => h s' I') hf
theorem Inv.call' {s' : Shared} {ch : List Addr} (I : Inv X pins σ H s) (ho : s'.os = s.os) (u : Un (frs X.stack) ch H H' s.heap s'.heap) (hok : HOk X.prog X.w H' s'.heap) (hg : AllBare s'.gens)
    (hch : ∀ b ∈ ch, (b ∈ X.ex \/ X.s₀.heap.objs.size <= b) /\ b ≠ X.env.locals /\ (∀ x c, X.env.cells.lookup x = some c -> c ≠ b) /\ ∀ p ∈ X.pn ++ pins, p.1 ≠ b) : Inv X pins σ H' s' := by
  obtain ⟨h', g', d', t', o'⟩ := s'
  have e : o' = s.os := ho
  subst e
  exact I.call (g' := g') (t' := t') (d' := d') u hok hg hch
end
abbrev XK := Value -> Option Addr -> Hp -> Prop
abbrev St := List (Option V)
abbrev VK := V -> Hp -> Prop
abbrev TE := St -> Hp -> VK -> Prop
abbrev TT := St -> Hp -> (Bool -> Hp -> Prop) -> Prop
abbrev TA := St -> Hp -> (List V -> Hp -> Prop) -> Prop
structure Ends where
  nx : St -> Hp -> Prop
  rt : VK
  bk : St -> Hp -> Prop := fun _ _ => False
  ct : St -> Hp -> Prop := fun _ _ => False
abbrev TS := Ends -> St -> Hp -> Prop
def EP (X : Cx) (pins : List (Addr × Obj)) (σ : St) (Q : VK) (u : Value) (s' : Shared) : Prop := ∃ v H', Inv X pins σ H' s' /\ zbJ v u /\ Q v H'
def TP (X : Cx) (pins : List (Addr × Obj)) (σ : St) (Q : Bool -> Hp -> Prop) (b : Bool) (s' : Shared) : Prop := ∃ H', Inv X pins σ H' s' /\ Q b H'
def AP (X : Cx) (pins : List (Addr × Obj)) (σ : St) (Q : List V -> Hp -> Prop) (us : List Value) (s' : Shared) : Prop := ∃ vs H', Inv X pins σ H' s' /\ zbC vs us /\ Q vs H'
def SP (X : Cx) (pins : List (Addr × Obj)) (D : Ends) (f : Flow) (s' : Shared) : Prop :=
  match f with
  | .next => ∃ σ' H', Inv X pins σ' H' s' /\ D.nx σ' H'
  | .brk => ∃ σ' H', Inv X pins σ' H' s' /\ D.bk σ' H'
  | .cont => ∃ σ' H', Inv X pins σ' H' s' /\ D.ct σ' H'
  | .ret u => ∃ v σ' H', Inv X pins σ' H' s' /\ zbJ v u /\ D.rt v H'
def PE (X : Cx) (e : Expr) (t : TE) : Prop :=
  ∀ (pins : List (Addr × Obj)) (s : Shared) (σ : St) (H : Hp) (Q : VK), Inv X pins σ H s -> t σ H Q -> wpAny (model X.prog X.w) X.A (eval e X.env) (EP X pins σ Q) X.xe s
def PT (X : Cx) (e : Expr) (t : TT) : Prop :=
  ∀ (pins : List (Addr × Obj)) (s : Shared) (σ : St) (H : Hp) (Q : Bool -> Hp -> Prop), Inv X pins σ H s -> t σ H Q -> wpAny (model X.prog X.w) X.A (isTrue e X.env (eval e X.env)) (TP X pins σ Q) X.xe s
def PW (X : Cx) (e : Expr) (t : TT) : Prop :=
  ∀ (whole : Sem Value) (pins : List (Addr × Obj)) (s : Shared) (σ : St) (H : Hp) (Q : Bool -> Hp -> Prop), Inv X pins σ H s -> t σ H Q -> wpAny (model X.prog X.w) X.A (isTrue e X.env whole) (TP X pins σ Q) X.xe s
theorem PW.pt {X : Cx} {e : Expr} {t : TT} (h : PW X e t) : PT X e t := h _
def PA (X : Cx) (es : List Expr) (t : TA) : Prop :=
  ∀ (pos : Pos) (pins : List (Addr × Obj)) (s : Shared) (σ : St) (H : Hp) (Q : List V -> Hp -> Prop), Inv X pins σ H s -> t σ H Q -> wpAny (model X.prog X.w) X.A (spliced (backTo pos (starEach es X.env))) (AP X pins σ Q) X.xe s
def PS (X : Cx) (st : Stmt) (t : TS) : Prop :=
  ∀ (pins : List (Addr × Obj)) (s : Shared) (σ : St) (H : Hp) (D : Ends), Inv X pins σ H s -> t D σ H -> wpAny (model X.prog X.w) X.A (exec st X.env) (SP X pins D) X.xe s
def PSs (X : Cx) (st : List Stmt) (t : TS) : Prop :=
  ∀ (pins : List (Addr × Obj)) (s : Shared) (σ : St) (H : Hp) (D : Ends), Inv X pins σ H s -> t D σ H -> wpAny (model X.prog X.w) X.A (execs st X.env) (SP X pins D) X.xe s
theorem thn {α : Type} {t : Sem α} {Q Q' : α -> Shared -> Prop} {M : Model} {A : Around} {E : Value -> Shared -> Prop} {s : Shared} (h : wpAny M A t Q E s) (hQ : ∀ a s, Q a s -> Q' a s) : wpAny M A t Q' E s := wpAny_mono h hQ fun _ _ x => x
end L2
namespace L2
open PySem PySem.Spec PyProof.Rows
section
variable {X : Cx}
theorem bin {a b : Expr} {ta tb : TE} (ha : PE X a ta) (hb : PE X b tb) {pins : List (Addr × Obj)} {s : Shared} {σ : St} {H : Hp} {R : V -> V -> Hp -> Prop} (I : Inv X pins σ H s) (h : ta σ H fun x H1 => tb σ H1 fun y H2 => R x y H2)
    {α : Type} {Q : α -> Shared -> Prop} {f : Value -> Value -> Sem α}
    (hf : ∀ v u s2 x y H2, Inv X pins σ H2 s2 -> zbJ x v -> zbJ y u -> R x y H2 -> wpAny (model X.prog X.w) X.A (f v u) Q X.xe s2) :
    wpAny (model X.prog X.w) X.A (eval a X.env) (fun v s₁ => wpAny (model X.prog X.w) X.A (eval b X.env) (fun u s₂ => wpAny (model X.prog X.w) X.A (f v u) Q X.xe s₂) X.xe s₁) X.xe s := by
  refine thn (ha pins s σ H _ I h) fun v s1 ⟨x, H1, I1, r1, q1⟩ => ?_
  refine thn (hb pins s1 σ H1 _ I1 q1) fun u s2 ⟨y, H2, I2, r2, q2⟩ => ?_
  exact hf v u s2 x y H2 I2 r1 r2 q2
def zra (i : Nat) : TE := fun σ H Q => ∃ v, σ[i]? = some (some v) /\ Q v H
def tC (v : V) : TE := fun _ H Q => Q v H
theorem zci {i : Nat} {x : Str} {pos : Pos} (hN : X.N[i]? = some x) (hv : Vis X.env.scope x) (hd : (x == ("__debug__" : Str)) = false := by decide) (hcd : (x == ("__classdict__" : Str)) = false := by decide) : PE X (.Name x pos) (zra i) := by
  intro pins s σ H Q I h
  obtain ⟨v, e, h⟩ := h
  obtain ⟨m, hn, hl⟩ := I.loc
  obtain ⟨u, r, l⟩ := hl i x v hN e hv
  have fin : EP X pins σ Q u s := ⟨v, H, I, r, h⟩
  rcases l with ⟨hk, hm⟩ | ⟨hk, c, hc, hcell⟩
  · exact wpAny_Name (wpAny_loadName_local I.ok.kind hk hn hm fin) hd
  · rcases hk with hk | hk
    · exact wpAny_Name (wpAny_loadName_cell I.ok.kind hk hc hcell fin) hd
    · exact wpAny_Name (wpAny_loadName_free I.ok.kind hk hc hcell fin hcd) hd
theorem zmN {i j pos} : PE X (.Constant (.int i) j pos) (tC (.int i)) := fun _ _ _ H _ I h => wpAny_Constant_int ⟨.int i, H, I.tok _, ⟨_, rfl⟩, h⟩
theorem zqs {b j pos} : PE X (.Constant (.bool b) j pos) (tC (.bl b)) := fun _ _ _ H _ I h => Constant_bool ⟨.bl b, H, I, rfl, h⟩
theorem zmM {j pos} : PE X (.Constant .none j pos) (tC .non) := fun _ _ _ H _ I h => Constant_none ⟨.non, H, I, rfl, h⟩
theorem zhs {x j pos} : PE X (.Constant (.str x) j pos) (tC (.str x)) := fun _ _ _ H _ I h => Calls.Constant_str ⟨.str x, H, I.tok _, ⟨_, rfl⟩, h⟩
def Gl (X : Cx) (x : Str) : Prop := X.env.kindOf x = some .globalImplicit
theorem zeG {E : Value -> Shared -> Prop} {pins : List (Addr × Obj)} {s : Shared} {σ : St} {H : Hp} {x : Str} {u : Value} {pos : Pos} {Q : Value -> Shared -> Prop} (I : Inv X pins σ H s) (hg : Gl X x) (hm : X.mg x = some u) (h : Q u s)
    (hd : (x == ("__debug__" : Str)) = false := by decide) : wpAny (model X.prog X.w) X.A (eval (.Name x pos) X.env) Q E s :=
  Calls.Name_function_global I.ok.kind hg (Calls.loadGlobal_global (by rw [I.ok.glob]; exact I.mod.glob.keeps I.bk) hm h) hd
theorem zhz {E : Value -> Shared -> Prop} {pins : List (Addr × Obj)} {s : Shared} {σ : St} {H : Hp} {x : Str} {u : Value} {pos : Pos} {Q : Value -> Shared -> Prop} (I : Inv X pins σ H s) (hg : Gl X x) (hm : X.mg x = none) (hv : bootBuiltins x = some u) (h : Q u s)
    (hn : x ≠ "__name__" := by decide) (hd : (x == ("__debug__" : Str)) = false := by decide) : wpAny (model X.prog X.w) X.A (eval (.Name x pos) X.env) Q E s := by
  obtain ⟨mb, h1, h2⟩ := I.mod.blt
  exact Calls.Name_function_global I.ok.kind hg (Calls.loadGlobal_builtin (by rw [I.ok.glob]; exact I.mod.glob.keeps I.bk) hm (by rw [I.ok.blt]; exact h1.keeps I.bk) ((h2 x hn).trans hv) h) hd
theorem zds {x : Str} {v : V} {u : Value} {pos : Pos} (hg : Gl X x) (hm : X.mg x = some u) (r : zbJ v u) (hd : (x == ("__debug__" : Str)) = false := by decide) : PE X (.Name x pos) (tC v) :=
  fun _ _ _ H _ I h => zeG I hg hm ⟨v, H, I, r, h⟩ hd
theorem zkm {x : Str} {v : V} {u : Value} {pos : Pos} (hg : Gl X x) (hm : X.mg x = none) (hv : bootBuiltins x = some u) (r : zbJ v u) (hn : x ≠ "__name__" := by decide) (hd : (x == ("__debug__" : Str)) = false := by decide) : PE X (.Name x pos) (tC v) :=
  fun _ _ _ H _ I h => zhz I hg hm hv ⟨v, H, I, r, h⟩ hn hd
variable {a b : Expr} {ta tb : TE} {pos : Pos}
def PC (X : Cx) (op : CmpOp) (a b : Expr) (t : TE) : Prop :=
  ∀ (pins : List (Addr × Obj)) (s : Shared) (σ : St) (H : Hp) (Q : VK), Inv X pins σ H s -> t σ H Q ->
    wpAny (model X.prog X.w) X.A (eval a X.env) (fun v s₁ => wpAny (model X.prog X.w) X.A (eval b X.env) (fun u s₂ => wpAny (model X.prog X.w) X.A (compareOp op v u) (EP X pins σ Q) X.xe s₂) X.xe s₁) X.xe s
theorem zl0 (b : Expr) {op : CmpOp} (h : op ≠ .In) (h2 : op ≠ .NotIn) : behindInMarks op b = false := by
  have e1 : (op == CmpOp.In) = false := by cases op <;> first | rfl | exact absurd rfl h
  have e2 : (op == CmpOp.NotIn) = false := by cases op <;> first | rfl | exact absurd rfl h2
  cases b <;> simp [behindInMarks, e1, e2]
def zry (ta : TE) : TE := fun σ H Q => ta σ H fun x H1 => Q (.bl (decide (x = .non))) H1
theorem zbJ.none_iff {x : V} {v : Value} (r : zbJ x v) : (v == Value.none) = decide (x = .non) := by
  cases x with
  | non => cases r; rfl
  | bl _ => cases r; rfl
  | int _ => obtain ⟨t, rfl⟩ := r; rfl
  | str _ => obtain ⟨t, rfl⟩ := r; rfl
  | byt _ => obtain ⟨t, rfl⟩ := r; rfl
  | flt _ => obtain ⟨t, rfl⟩ := r; rfl
  | ref _ => cases r; rfl
  | ty _ => cases r; rfl
theorem zo0 {j pos'} (ha : PE X a ta) : PC X .Is a (.Constant .none j pos') (zry ta) := by
  intro pins s σ H Q I h
  refine thn (ha pins s σ H _ I h) fun v s1 ⟨x, H1, I1, r1, q1⟩ => ?_
  exact Constant_none (is_none_gen ⟨.bl _, H1, I1, by rw [r1.none_iff]; rfl, q1⟩)
def tB (t : TE) : TT := fun σ H Q => t σ H fun x H1 => ∃ c, x = .bl c /\ Q c H1
theorem zoL {op : CmpOp} {t : TE} (h : PC X op a b t) (h1 : behindInMarks op b = false := by first | exact zl0 _ (by decide) (by decide) | rfl) : PT X (.Compare a [op] [b] pos) (tB t) := by
  intro pins s σ H Q I hw
  refine wpAny_isTrue_Compare1 (thn (h pins s σ H _ I hw) fun v s1 h1 => thn h1 fun u s2 h2 => thn h2 fun c s3 ⟨x, H1, I1, r1, q1⟩ => ?_) h1
  obtain ⟨d, rfl, q⟩ := q1
  cases r1
  exact wpAny_truthy_bool ⟨H1, I1, q⟩
theorem ziK {e : Expr} {t : TE} (h : PE X e t) (he : ∀ whole, isTrue e X.env whole = (do let v ← whole; standAt e.pos; holding [v] (truthy v)) := by intro _; rfl) : PT X e (tB t) := by
  intro pins s σ H Q I hw
  refine isTrue_plain (thn (h pins s σ H _ I hw) fun v s1 ⟨x, H1, I1, r1, q1⟩ => ?_) (he _)
  obtain ⟨d, rfl, q⟩ := q1
  cases r1
  exact wpAny_truthy_bool ⟨H1, I1, q⟩
variable {tA tB' : TT} {zbL : List Expr}
def zrC (t u : TT) : TT := fun σ H Q => t σ H fun c H1 => if c = true then u σ H1 Q else Q false H1
def tOr (t u : TT) : TT := fun σ H Q => t σ H fun c H1 => if c = true then Q true H1 else u σ H1 Q
def zrv (t : TT) : TT := fun σ H Q => t σ H fun c H1 => Q (!c) H1
theorem znl (ha : PT X a tA) : PW X (.BoolOp .And [a] pos) tA := by
  intro wh pins s σ H Q I h
  refine isTrue_and (thn (ha pins s σ H Q I h) fun c s1 e => ?_)
  cases c with
  | true => exact isTrue_and_nil e
  | false => exact e
theorem zmJ (ha : PT X a tA) : PW X (.BoolOp .Or [a] pos) tA := by
  intro wh pins s σ H Q I h
  refine isTrue_or (thn (ha pins s σ H Q I h) fun c s1 e => ?_)
  cases c with
  | false => exact isTrue_or_nil e
  | true => exact e
theorem zoJ (ha : PT X a tA) (hb : PW X (.BoolOp .And (b :: zbL) pos) tB') : PW X (.BoolOp .And (a :: b :: zbL) pos) (zrC tA tB') := by
  intro wh pins s σ H Q I h
  refine isTrue_and (thn (ha pins s σ H _ I h) fun c s1 ⟨H1, I1, q1⟩ => ?_)
  cases c with
  | true => exact hb wh pins s1 σ H1 Q I1 q1
  | false => exact ⟨H1, I1, q1⟩
theorem zoI (ha : PT X a tA) (hb : PW X (.BoolOp .Or (b :: zbL) pos) tB') : PW X (.BoolOp .Or (a :: b :: zbL) pos) (tOr tA tB') := by
  intro wh pins s σ H Q I h
  refine isTrue_or (thn (ha pins s σ H _ I h) fun c s1 ⟨H1, I1, q1⟩ => ?_)
  cases c with
  | true => exact ⟨H1, I1, q1⟩
  | false => exact hb wh pins s1 σ H1 Q I1 q1
theorem zki (ha : PT X a tA) : PT X (.UnaryOp .Not a pos) (zrv tA) := by
  intro pins s σ H Q I h
  exact isTrue_not (ha pins s σ H (fun c H1 => Q (!c) H1) I h)
def zqg (ta tb : TE) : TE := fun σ H Q => ta σ H fun x H1 => ∃ c, x = .bl c /\ if c = true then tb σ H1 Q else Q (.bl false) H1
def zqa (ta : TE) : TE := fun σ H Q => ta σ H fun x H1 => ∃ c, x = .bl c /\ Q (.bl (!c)) H1
theorem zoV {op} {t : TE} (h : PE X a t) : PE X (.BoolOp op [a] pos) t := fun pins s σ H Q I hw => BoolOp_one (h pins s σ H Q I hw)
theorem zoZ (ha : PE X a ta) (hb : PE X (.BoolOp .And (b :: zbL) pos) tb) : PE X (.BoolOp .And (a :: b :: zbL) pos) (zqg ta tb) := by
  intro pins s σ H Q I h
  refine BoolOp_and (thn (ha pins s σ H _ I h) fun v s1 ⟨x, H1, I1, r1, q1⟩ => ?_)
  obtain ⟨c, rfl, q1⟩ := q1
  cases r1
  refine wpAny_truthy_bool ?_
  cases c with
  | true => exact hb pins s1 σ H1 Q I1 q1
  | false => exact ⟨.bl false, H1, I1, rfl, q1⟩
theorem zoW (ha : PE X a ta) : PE X (.UnaryOp .Not a pos) (zqa ta) := by
  intro pins s σ H Q I h
  refine UnaryOp_ (thn (ha pins s σ H _ I h) fun v s1 ⟨x, H1, I1, r1, q1⟩ => ?_)
  obtain ⟨c, rfl, q1⟩ := q1
  cases r1
  exact not_of (wpAny_truthy_bool ⟨.bl (!c), H1, I1, rfl, q1⟩)
end
end L2
namespace L2
open PySem PySem.Spec PyProof.Rows
def SqL (K : PySem.W.Frag) (H : Hp) (a : Addr) (xs : List V) : Prop :=
  Rd H a (.lst xs) \/
    ∃ (o : Obj) (its : Array Value) (n : Nat), K.lookup a = some o /\ o.cls = .type "list" /\ o.dict = none /\ o.data = .seq its n /\ its.size <= sizeLine /\ zbC xs its.toList
def SqT (K : PySem.W.Frag) (H : Hp) (a : Addr) (xs : List V) : Prop :=
  Rd H a (.tup xs) \/
    ∃ (o : Obj) (its : Array Value) (n : Nat), K.lookup a = some o /\ o.cls = .type "tuple" /\ o.data = .seq its n /\ its.size <= sizeLine /\ zbC xs its.toList
def zrY : Value -> Option V
  | .none => some .non
  | .bool b => some (.bl b)
  | .int i _ => some (.int i)
  | .str x _ => some (.str x)
  | .bytes b _ => some (.byt b)
  | .float b _ => some (.flt b)
  | .ref a => some (.ref a)
  | .type n => some (.ty n)
  | _ => none
theorem zbJ.abs {x : V} {u : Value} (r : zbJ x u) : zrY u = some x := by
  cases x with
  | non => cases r; rfl
  | bl _ => cases r; rfl
  | int _ => obtain ⟨t, rfl⟩ := r; rfl
  | str _ => obtain ⟨t, rfl⟩ := r; rfl
  | byt _ => obtain ⟨t, rfl⟩ := r; rfl
  | flt _ => obtain ⟨t, rfl⟩ := r; rfl
  | ref _ => cases r; rfl
  | ty _ => cases r; rfl
theorem zbJ.inj {x y : V} {u : Value} (r : zbJ x u) (q : zbJ y u) : x = y := Option.some.inj (r.abs.symm.trans q.abs)
theorem zbC.inj : ∀ {xs ys : List V} {us : List Value}, zbC xs us -> zbC ys us -> xs = ys
  | _, _, _, .nil, .nil => rfl
  | _, _, _, .cons r t, .cons r' t' => by rw [r.inj r', zbC.inj t t']
section
variable {X : Cx} {pins : List (Addr × Obj)} {σ : St} {H : Hp} {s : Shared} {a : Addr} {xs ys : List V}
theorem Inv.list (I : Inv X pins σ H s) (h : SqL X.K H a xs) : ∃ its : List Value, zbC xs its /\ PlainL s.heap a its.toArray /\ xs.length <= sizeLine := by
  rcases h with h | ⟨o, its, n, hk, hc, hd, hs, hz, r⟩
  · obtain ⟨z, its, n, r, e⟩ := h.ok I.hok
    exact ⟨its, r, ⟨_, n, e, rfl, rfl, rfl⟩, z⟩
  · refine ⟨its.toList, r, ⟨o, n, I.kIn a o hk, hc, hd, by simpa using hs⟩, ?_⟩
    have e := r.length
    simp only [Array.length_toList] at e
    omega
theorem Inv.tuple (I : Inv X pins σ H s) (h : SqT X.K H a xs) : ∃ its : List Value, zbC xs its /\ IsTup s.heap a its.toArray /\ xs.length <= sizeLine := by
  rcases h with h | ⟨o, its, n, hk, hc, hs, hz, r⟩
  · obtain ⟨z, its, r, p⟩ := h.ok I.hok
    exact ⟨its, r, p, z⟩
  · refine ⟨its.toList, r, ⟨o, I.kIn a o hk, hc, n, by simpa using hs⟩, ?_⟩
    have e := r.length
    simp only [Array.length_toList] at e
    omega
theorem Inv.list_inj (I : Inv X pins σ H s) (h : SqL X.K H a xs) (h' : SqL X.K H a ys) : xs = ys := by
  obtain ⟨its, r, ⟨o, n, e, _, _, d⟩, _⟩ := I.list h
  obtain ⟨its', r', ⟨o', n', e', _, _, d'⟩, _⟩ := I.list h'
  rw [e] at e'; cases e'
  rw [d] at d'
  injection d' with d1 _
  have : its = its' := by simpa using congrArg Array.toList d1
  subst this
  exact r.inj r'
theorem Inv.tuple_inj (I : Inv X pins σ H s) (h : SqT X.K H a xs) (h' : SqT X.K H a ys) : xs = ys := by
  obtain ⟨its, r, ⟨o, e, _, n, d⟩, _⟩ := I.tuple h
  obtain ⟨its', r', ⟨o', e', _, n', d'⟩, _⟩ := I.tuple h'
  rw [e] at e'; cases e'
  rw [d] at d'
  injection d' with d1 _
  have : its = its' := by simpa using congrArg Array.toList d1
  subst this
  exact r.inj r'
end
abbrev Cx.wish (X : Cx) (E : Value -> Shared -> Prop) : Cx := { X with xe := E }
abbrev Cx.nox (X : Cx) : Cx := X.wish fun _ _ => False
theorem Cx.Ok.wish {X : Cx} (ok : X.Ok) (E : Value -> Shared -> Prop) : (X.wish E).Ok :=
  ⟨ok.mod, ok.kind, ok.glob, ok.blt, ok.above, ok.inj, ok.has, ok.cab, ok.hd, ok.frames, ok.stk, ok.exf, ok.bs, ok.bsz, ok.noex, ok.exfs, ok.funs, ok.frf⟩
theorem Cx.Ok.unwish {X : Cx} {E : Value -> Shared -> Prop} (ok : (X.wish E).Ok) : X.Ok :=
  ⟨ok.mod, ok.kind, ok.glob, ok.blt, ok.above, ok.inj, ok.has, ok.cab, ok.hd, ok.frames, ok.stk, ok.exf, ok.bs, ok.bsz, ok.noex, ok.exfs, ok.funs, ok.frf⟩
section
variable {X : Cx} {pins : List (Addr × Obj)} {σ : St} {H : Hp} {s : Shared} {E : Value -> Shared -> Prop}
theorem Inv.wish (I : Inv X pins σ H s) (E : Value -> Shared -> Prop) : Inv (X.wish E) pins σ H s := ⟨I.ok.wish E, I.os, I.bare, I.base, I.loc, I.cell, I.free, I.freeC, I.pin, I.hok, I.len⟩
theorem Inv.unwish (I : Inv (X.wish E) pins σ H s) : Inv X pins σ H s := ⟨I.ok.unwish, I.os, I.bare, I.base, I.loc, I.cell, I.free, I.freeC, I.pin, I.hok, I.len⟩
theorem SP.unwish {D : Ends} {f : Flow} {s' : Shared} (h : SP (X.wish E) pins D f s') : SP X pins D f s' := by
  cases f with
  | next => obtain ⟨σ', H', I, q⟩ := h; exact ⟨σ', H', I.unwish, q⟩
  | brk => obtain ⟨σ', H', I, q⟩ := h; exact ⟨σ', H', I.unwish, q⟩
  | cont => obtain ⟨σ', H', I, q⟩ := h; exact ⟨σ', H', I.unwish, q⟩
  | ret u => obtain ⟨v, σ', H', I, r, q⟩ := h; exact ⟨v, σ', H', I.unwish, r, q⟩
theorem PSs.nox {st : List Stmt} {t : TS} (h : PSs X.nox st t) : PSs X st t := fun pins s σ H D I hw =>
  wpAny_mono (h pins s σ H D (I.wish _) hw) (fun _ _ q => q.unwish) fun _ _ z => False.elim z
end
section
variable {X : Cx} {st : Stmt} {zbL : List Stmt} {t u : TS} {e : Expr} {te : TE} {pos : Pos}
def zqb : TS := fun D σ H => D.nx σ H
def zrt (t u : TS) : TS := fun D σ H => t { D with nx := u D } σ H
theorem zfp : PSs X [] zqb := fun _ _ σ H _ I h => wpAny_execs_nil ⟨σ, H, I, h⟩
theorem zcG (h1 : PS X st t) (h2 : PSs X zbL u) : PSs X (st :: zbL) (zrt t u) := by
  intro pins s σ H D I h
  refine wpAny_execs_cons (thn (h1 pins s σ H { D with nx := u D } I h) fun f s1 q => ?_)
  cases f with
  | next =>
    obtain ⟨σ', H', I', q⟩ := q
    exact h2 pins s1 σ' H' D I' q
  | ret v => exact q
  | brk => exact q
  | cont => exact q
theorem zdr (h1 : PS X st t) : PSs X [st] t := by
  intro pins s σ H D I h
  refine wpAny_execs_cons (thn (h1 pins s σ H D I h) fun f s1 q => ?_)
  cases f with
  | next => exact wpAny_execs_nil q
  | ret v => exact q
  | brk => exact q
  | cont => exact q
theorem Inv.quiet {pins : List (Addr × Obj)} {σ : St} {H : Hp} {s : Shared} (I : Inv X pins σ H s) : interactive X.env = false := by simp [interactive, I.ok.kind]
def zqc (te : TE) : TS := fun D σ H => te σ H fun _ H1 => D.nx σ H1
theorem zic (he : PE X e te) (hs : swapsWith e none pos.line X.env = pure false := by rfl) : PS X (.Expr e pos) (zqc te) := by
  intro pins s σ H D I h
  exact wpAny_Expr_any (thn (he pins s σ H _ I h) fun v s1 ⟨x, H1, I1, r1, q1⟩ => ⟨σ, H1, I1, q1⟩) I.quiet hs
def zru (te : TE) : TS := fun D σ H => te σ H D.rt
theorem zhp (he : PE X e te) : PS X (.Return (some e) pos) (zru te) := by
  intro pins s σ H D I h
  exact wpAny_Return_some (thn (he pins s σ H _ I h) fun v s1 ⟨x, H1, I1, r1, q1⟩ => ⟨x, σ, H1, I1, r1, q1⟩)
def zrz (c : TT) (t u : TS) : TS := fun D σ H => c σ H fun b H1 => if b = true then t D σ H1 else u D σ H1
theorem zkj {c : Expr} {a b : List Stmt} {tc : TT} (hc : PT X c tc) (ha : PSs X a t) (hb : PSs X b u) : PS X (.If c a b pos) (zrz tc t u) := by
  intro pins s σ H D I h
  refine wpAny_If (thn (hc pins s σ H _ I h) fun d s1 ⟨H1, I1, q1⟩ => ?_)
  cases d with
  | true => exact ha pins s1 σ H1 D I1 q1
  | false => exact hb pins s1 σ H1 D I1 q1
end
abbrev TG := V -> St -> Hp -> (St -> Hp -> Prop) -> Prop
abbrev TGs := List V -> St -> Hp -> (St -> Hp -> Prop) -> Prop
def PG (X : Cx) (target : Expr) (t : TG) : Prop :=
  ∀ (pins : List (Addr × Obj)) (s : Shared) (σ : St) (H : Hp) (v : V) (u : Value) (Q : St -> Hp -> Prop), Inv X pins σ H s -> zbJ v u -> t v σ H Q ->
    wpAny (model X.prog X.w) X.A (assign target X.env u) (fun _ s' => ∃ σ' H', Inv X pins σ' H' s' /\ Q σ' H') X.xe s
def PGs (X : Cx) (ts : List Expr) (t : TGs) : Prop :=
  ∀ (pins : List (Addr × Obj)) (s : Shared) (σ : St) (H : Hp) (vs : List V) (us : List Value) (Q : St -> Hp -> Prop), Inv X pins σ H s -> zbC vs us -> t vs σ H Q ->
    wpAny (model X.prog X.w) X.A (assignInOrder ((assignEach ts X.env).map (·.2)) us) (fun _ s' => ∃ σ' H', Inv X pins σ' H' s' /\ Q σ' H') X.xe s
abbrev zq1 := V -> V -> V -> Hp -> (Hp -> Prop) -> Prop
def zro (X : Cx) (t : zq1) : Prop :=
  ∀ (pins : List (Addr × Obj)) (s : Shared) (σ : St) (H : Hp) (o i v : V) (ov iv u : Value) (Q : Hp -> Prop), Inv X pins σ H s -> zbJ o ov -> zbJ i iv -> zbJ v u -> t o i v H Q ->
    wpAny (model X.prog X.w) X.A (setItem ov iv u) (fun _ s' => ∃ H', Inv X pins σ H' s' /\ Q H') X.xe s
section
variable {X : Cx} {pos : Pos}
def zjG (i : Nat) : TG := fun v σ H Q => Q (σ.set i (some v)) H
theorem znx {i : Nat} {x : Str} (hN : X.N.Nodup) (hi : X.N[i]? = some x) (hx : Loc X.env.scope x) (hf : X.fn x = true \/ X.env.scope.names.lookup x = some .local := by first | exact .inl rfl | exact .inr rfl | assumption) : PG X (.Name x pos) (zjG i) := by
  intro pins s σ H v u Q I r h
  exact wpAny_assign_Name (zgy I hN hi hx r (fun s' I' => ⟨_, H, I', h⟩) hf)
def zrO (to ti : TE) (t : zq1) : TG := fun v σ H Q => to σ H fun o H1 => ti σ H1 fun i H2 => t o i v H2 fun H3 => Q σ H3
theorem zoU {o i : Expr} {to ti : TE} {t : zq1} (ho : PE X o to) (hi : PE X i ti) (hs : zro X t)
    (ha : ∀ v, assign (.Subscript o i pos) X.env v = (do
      let ov ← holding [v] (eval o X.env)
      let iv ← holding [v, ov] (eval i X.env)
      standAt pos
      holding [v, ov, iv] (setItem ov iv v)
      release [v, ov, iv] []) := by intro _; rfl) : PG X (.Subscript o i pos) (zrO to ti t) := by
  intro pins s σ H v u Q I r h
  rw [ha]
  refine wpAny_bind (wpAny_holding (thn (ho pins s σ H _ I h) fun ov s1 ⟨x, H1, I1, r1, q1⟩ => ?_))
  refine wpAny_bind (wpAny_holding (thn (hi pins s1 σ H1 _ I1 q1) fun iv s2 ⟨y, H2, I2, r2, q2⟩ => ?_))
  refine wpAny_bind (wpAny_standAt (wpAny_bind (wpAny_holding (thn (hs pins s2 σ H2 x y v ov iv u _ I2 r1 r2 r q2) fun _ s3 ⟨H3, I3, q3⟩ => ?_))))
  exact wpAny_release ⟨σ, H3, I3, q3⟩
def zog (te : TE) (g : TG) : TS := fun D σ H => te σ H fun x H1 => g x σ H1 D.nx
theorem zoO {tg e : Expr} {te : TE} {g : TG} (he : PE X e te) (hg : PG X tg g) (hs : swapsWithSole [tg] e pos.line X.env = pure false := by rfl) (hw : swappedStores [tg] e X.env = pure none := by rfl)
    (h1 : (assignEach [tg] X.env).map (·.2) = [assign tg X.env] := by rfl) : PS X (.Assign [tg] e pos) (zog te g) := by
  intro pins s σ H D I h
  refine wpAny_Assign_stores (thn (he pins s σ H _ I h) fun v s1 ⟨x, H1, I1, r1, q1⟩ => ?_) hs hw
  rw [h1]
  exact thn (hg pins s1 σ H1 x v _ I1 r1 q1) fun _ s2 q => q
theorem ziL {i : Nat} {x : Str} {e : Expr} {te : TE} {pos' : Pos} (hN : X.N.Nodup) (hi : X.N[i]? = some x) (hx : Loc X.env.scope x) (he : PE X e te) (hs : swapsWith e (some (.Name x pos')) pos.line X.env = pure false := by rfl) (hf : X.fn x = true \/ X.env.scope.names.lookup x = some .local := by first | exact .inl rfl | exact .inr rfl | assumption) :
    PS X (.Assign [.Name x pos'] e pos) (zog te (zjG i)) := by
  intro pins s σ H D I h
  refine wpAny_Assign_Name (thn (he pins s σ H _ I h) fun v s1 ⟨y, H1, I1, r1, q1⟩ => ?_) hs
  exact zgy I1 hN hi hx r1 (fun s2 I2 => ⟨_, H1, I2, q1⟩) hf
end
section
variable {X : Cx} {pos : Pos}
end
structure It where
  go : Nat -> Hp -> Prop
  yld : Nat -> Hp -> V -> Hp -> Prop
  stop : Nat -> Hp -> Prop
def zjR (X : Cx) (pins : List (Addr × Obj)) (H : Hp) (b : Addr) : Prop :=
  H b = none /\ b ≠ X.env.locals /\ b ∉ X.fs /\ (b ∈ X.ex \/ X.s₀.heap.objs.size <= b) /\ (∀ x c, X.env.cells.lookup x = some c -> c ≠ b) /\ ∀ p ∈ X.pn ++ pins, p.1 ≠ b
theorem Inv.fpOk {X : Cx} {pins : List (Addr × Obj)} {σ : St} {H H' : Hp} {s : Shared} {b : Addr} (I : Inv X pins σ H s) (hb : s.heap.objs.size <= b) (hn : H' b = none) : zjR X pins H' b := by
  refine ⟨hn, Nat.ne_of_gt (Nat.lt_of_lt_of_le I.lt hb), I.nofs hb, .inr (Nat.le_trans I.sz hb), fun x c e z => ?_, fun p hp z => ?_⟩
  · obtain ⟨v, q⟩ := I.cell x c e
    exact absurd (Nat.lt_of_lt_of_le q.lt (by rw [z]; exact hb)) (Nat.lt_irrefl _)
  · exact absurd (Nat.lt_of_lt_of_le (Heap.lt_size (I.pin p hp).1) (by rw [z]; exact hb)) (Nat.lt_irrefl _)
structure Turn (P : Program) (w : World) (K : PySem.W.Frag) (tg : Expr) (J : It) (fp : List Addr) (it : Addr) (tn : Nat -> Heap -> Prop) : Prop where
  mem : it ∈ fp
  obj : ∀ i h, tn i h -> ∀ b ∈ fp, ∃ o, h.get? b = some o /\ ∀ v, o.data ≠ .cell v
  keep : ∀ i h h', tn i h -> (∀ b ∈ fp, ∀ o, h.get? b = some o -> h'.get? b = some o) -> tn i h'
  item : ∀ (X : Cx), X.prog = P -> X.w = w -> X.K = K -> X.calm = true -> ∀ (i : Nat) (pins : List (Addr × Obj)) (s : Shared) (σ : St) (H : Hp) (E : Value -> Shared -> Prop), Inv X pins σ H s -> (∀ b ∈ fp, zjR X pins H b) -> tn i s.heap -> J.go i H ->
    wpAny (model P w) X.A (pyNext (.ref it)) (fun r s1 => ∃ u, r = some u /\
      wpAny (model P w) X.A (letOwnedTupleGo tg (.ref it) u) (fun _ s2 => ∃ x H', Inv X pins σ H' s2 /\ zbJ x u /\ J.yld i H x H' /\ tn (i + 1) s2.heap /\ ∀ b ∈ fp, H' b = none) E s1) E s
  done : ∀ (X : Cx), X.prog = P -> X.w = w -> X.K = K -> X.calm = true -> ∀ (i : Nat) (pins : List (Addr × Obj)) (s : Shared) (σ : St) (H : Hp) (E : Value -> Shared -> Prop), Inv X pins σ H s -> (∀ b ∈ fp, zjR X pins H b) -> tn i s.heap -> J.stop i H ->
    wpAny (model P w) X.A (pyNext (.ref it)) (fun r s1 => r = none /\ Inv X pins σ H s1) E s
  self : ∀ (A : Around) (i : Nat) (s : Shared) (Q : Value -> Shared -> Prop) (E : Value -> Shared -> Prop), tn i s.heap -> Q (.ref it) s -> wpAny (model P w) A (pyIter (.ref it)) Q E s
abbrev TI := St -> Hp -> (It -> Hp -> Prop) -> Prop
def PIE (X : Cx) (pins : List (Addr × Obj)) (σ : St) (tg : Expr) (R : It -> Hp -> Prop) (itv : Value) (s2 : Shared) : Prop :=
  ∃ (it : Addr) (fp : List Addr) (tn : Nat -> Heap -> Prop) (J : It) (H' : Hp), itv = .ref it /\ Inv X pins σ H' s2 /\ Turn X.prog X.w X.K tg J fp it tn /\ tn 0 s2.heap /\ (∀ b ∈ fp, zjR X pins H' b) /\ R J H'
def PI (X : Cx) (tg iter : Expr) (wi : TI) : Prop :=
  ∀ (pins : List (Addr × Obj)) (s : Shared) (σ : St) (H : Hp) (R : It -> Hp -> Prop), Inv X pins σ H s -> wi σ H R ->
    wpAny (model X.prog X.w) X.A (eval iter X.env) (fun v s1 => wpAny (model X.prog X.w) X.A (pyIter v) (PIE X pins σ tg R) X.xe s1) X.xe s
theorem znP {M : Model} {A : Around} {E : Value -> Shared -> Prop} {s : Shared} {tg : Expr} {it : Addr} {u : Value} {o : Obj} {n : String} {vs : Array Value} {Q : Unit -> Shared -> Prop} (ho : s.heap.get? it = some o) (hc : o.cls = .type n) (hd : o.data = .fields vs)
    (hn : ["enumerate", "zip", "dict_itemiterator", "dict_reverseitemiterator", "odict_iterator", "itertools.zip_longest", "itertools.pairwise"].contains n = false) (hQ : Q () s) : wpAny M A (letOwnedTupleGo tg (.ref it) u) Q E s := by
  unfold letOwnedTupleGo
  cases tg <;> first
    | exact wpAny_pure hQ
    | (cases u <;> first
        | exact wpAny_pure hQ
        | (refine wpAny_bind (wpAny_load ho ?_)
           rw [hc, hd]
           show wpAny M A (if (["enumerate", "zip", "dict_itemiterator", "dict_reverseitemiterator", "odict_iterator", "itertools.zip_longest", "itertools.pairwise"].contains n && vs[0]? == some (rawInt _)) = true then _ else _) Q E s
           rw [if_neg (by intro h; rw [hn, Bool.false_and] at h; cases h)]
           exact wpAny_pure hQ))
def Itl (K : PySem.W.Frag) (a : Addr) : It :=
  ⟨fun i H => ∃ xs x, SqL K H a xs /\ xs[i]? = some x, fun i H x H' => H' = H /\ ∀ xs, SqL K H a xs -> xs[i]? = some x, fun i H => ∃ xs, SqL K H a xs /\ xs.length <= i⟩
def Itt (K : PySem.W.Frag) (a : Addr) : It :=
  ⟨fun i H => ∃ xs x, SqT K H a xs /\ xs[i]? = some x, fun i H x H' => H' = H /\ ∀ xs, SqT K H a xs -> xs[i]? = some x, fun i H => ∃ xs, SqT K H a xs /\ xs.length <= i⟩
def Itr (lo : Int) (n : Nat) : It := ⟨fun i _ => i < n, fun i H x H' => H' = H /\ x = .int (lo + i), fun i _ => n <= i⟩
theorem zj0 {P : Program} {w : World} {K : PySem.W.Frag} {tg : Expr} (a it : Addr) : Turn P w K tg (Itl K a) [it] it (fun i h => h.IsListIter it a i) where
  mem := by simp
  obj := fun i h st b hb => by
    have e : b = it := by simpa using hb
    subst e
    obtain ⟨o, e, c, d⟩ := st
    exact ⟨o, e, fun v z => by rw [d] at z; cases z⟩
  keep := fun i h h' st k => st.at fun o e => k it (by simp) o e
  item := by
    intro X hP hw hK hc i pins s σ H E I hf st hg
    subst hP hw hK
    obtain ⟨xs, x, hq, hx⟩ := hg
    obtain ⟨its, rv, p, hz⟩ := I.list hq
    obtain ⟨u, hu, ru⟩ := rv.get hx
    obtain ⟨f0, f1, f2, f3, f4, f5⟩ := hf it (by simp)
    refine wpAny_pyNext_list_item st p.isList (x := u) (by simpa using hu) fun h' st' sb => ?_
    have I1 : Inv X pins σ H { s with heap := h' } := I.turned (t' := s.toks) (fun b o hb e => (sb.2 b hb).trans e) f0 f1 f3 f4 f5
    obtain ⟨o, e, c, d⟩ := id st'
    exact ⟨u, rfl, znP (s := { s with heap := h' }) e c d (by decide) ⟨x, H, I1, ru, ⟨rfl, fun ys hy => by rw [I.list_inj hy hq]; exact hx⟩, st', fun b hb => (hf b hb).1⟩⟩
  done := by
    intro X hP hw hK hc i pins s σ H E I hf st hg
    subst hP hw hK
    obtain ⟨xs, hq, hx⟩ := hg
    obtain ⟨its, rv, p, hz⟩ := I.list hq
    obtain ⟨f0, f1, f2, f3, f4, f5⟩ := hf it (by simp)
    have hl := rv.length
    exact wpAny_pyNext_list_end (I.ok.hd hc) st p.isList (by simp; omega) fun h' eb => ⟨rfl, I.turned (t' := s.toks) (fun b o hb e => eb b o hb e) f0 f1 f3 f4 f5⟩
  self := fun _ _ _ _ _ st h => wpAny_pyIter_listiter st h
theorem zjg {P : Program} {w : World} {K : PySem.W.Frag} {tg : Expr} (a it : Addr) : Turn P w K tg (Itt K a) [it] it (fun i h => h.IsTupleIter it a i) where
  mem := by simp
  obj := fun i h st b hb => by
    have e : b = it := by simpa using hb
    subst e
    obtain ⟨o, e, c, d⟩ := st
    exact ⟨o, e, fun v z => by rw [d] at z; cases z⟩
  keep := fun i h h' st k => st.at fun o e => k it (by simp) o e
  item := by
    intro X hP hw hK hc i pins s σ H E I hf st hg
    subst hP hw hK
    obtain ⟨xs, x, hq, hx⟩ := hg
    obtain ⟨its, rv, p, hz⟩ := I.tuple hq
    obtain ⟨u, hu, ru⟩ := rv.get hx
    obtain ⟨f0, f1, f2, f3, f4, f5⟩ := hf it (by simp)
    refine wpAny_pyNext_tuple_item st (show s.heap.IsTuple a its.toArray from p) (x := u) (by simpa using hu) fun h' st' sb => ?_
    have I1 : Inv X pins σ H { s with heap := h' } := I.turned (t' := s.toks) (fun b o hb e => (sb.2 b hb).trans e) f0 f1 f3 f4 f5
    obtain ⟨o, e, c, d⟩ := id st'
    exact ⟨u, rfl, znP (s := { s with heap := h' }) e c d (by decide) ⟨x, H, I1, ru, ⟨rfl, fun ys hy => by rw [I.tuple_inj hy hq]; exact hx⟩, st', fun b hb => (hf b hb).1⟩⟩
  done := by
    intro X hP hw hK hc i pins s σ H E I hf st hg
    subst hP hw hK
    obtain ⟨xs, hq, hx⟩ := hg
    obtain ⟨its, rv, p, hz⟩ := I.tuple hq
    obtain ⟨f0, f1, f2, f3, f4, f5⟩ := hf it (by simp)
    have hl := rv.length
    exact wpAny_pyNext_tuple_end (I.ok.hd hc) st (show s.heap.IsTuple a its.toArray from p) (by simp; omega) fun h' eb => ⟨rfl, I.turned (t' := s.toks) (fun b o hb e => eb b o hb e) f0 f1 f3 f4 f5⟩
  self := fun _ _ _ _ _ st h => wpAny_pyIter_tupleiter st h
theorem zjh {P : Program} {w : World} {K : PySem.W.Frag} {tg : Expr} (it : Addr) (lo : Int) (n : Nat) : Turn P w K tg (Itr lo n) [it] it (fun i h => IsRangeIter h it (lo + (i : Nat) * 1) ((n : Int) - (i : Nat)) 1) where
  mem := by simp
  obj := fun i h st b hb => by
    have e : b = it := by simpa using hb
    subst e
    exact ⟨_, st, fun v z => by
      have z' : Data.fields _ = Data.cell v := z
      cases z'⟩
  keep := fun i h h' st k => k it (by simp) _ st
  item := by
    intro X hP hw hK hc i pins s σ H E I hf st hg
    subst hP hw hK
    obtain ⟨f0, f1, f2, f3, f4, f5⟩ := hf it (by simp)
    have W := Walks.range (prog := X.prog) (w := X.w) (I.ok.hd hc) it lo 1 n
    refine W.item i s _ _ hg st fun v h' tk hv st' kk => ?_
    obtain ⟨t, rfl⟩ := hv
    have I1 : Inv X pins σ H { s with heap := h', toks := tk } := I.turned (fun b o hb e => kk b o (by simpa using hb) e) f0 f1 f3 f4 f5
    refine ⟨_, rfl, znP (s := { s with heap := h', toks := tk }) (n := "range_iterator") st' rfl rfl (by decide) ⟨.int (lo + i), H, I1, ⟨t, ?_⟩, ⟨rfl, rfl⟩, st', fun b hb => (hf b hb).1⟩⟩
    rw [Int.mul_one]
  done := by
    intro X hP hw hK hc i pins s σ H E I hf st hg
    subst hP hw hK
    obtain ⟨f0, f1, f2, f3, f4, f5⟩ := hf it (by simp)
    exact wpAny_pyNext_range_end (I.ok.hd hc) st (by have : n <= i := hg; omega) fun h' eb => ⟨rfl, I.turned (t' := s.toks) (fun b o hb e => eb b o hb e) f0 f1 f3 f4 f5⟩
  self := fun _ _ _ _ _ st h => wpAny_pyIter_rangeiter st h
end L2
namespace L2
open PySem PySem.Spec PyProof.Rows
section
variable {X : Cx} {tg : Expr}
theorem ziJ {pins : List (Addr × Obj)} {σ : St} {H : Hp} {s : Shared} {R : It -> Hp -> Prop} {E : Value -> Shared -> Prop} {lo hi : Int} {t u v : Tok} {tk : Nat} (I : Inv X pins σ H s) (h1 : -(2 ^ 62) <= lo) (h2 : lo < 2 ^ 62) (h3 : -(2 ^ 62) <= hi) (h4 : hi < 2 ^ 62)
    (q : R (Itr lo (hi - lo).toNat) H) : wpAny (model X.prog X.w) X.A (pyIter (.ref s.heap.objs.size)) (PIE X pins σ tg R) E { s with heap := s.heap.push { cls := .type "range", data := .fields #[.int lo t, .int hi u, .int 1 v] }, toks := tk } := by
  refine wpAny_pyIter_range (IsRange.new ..) (small_one h1 h2 h3 h4) ?_
  have I1 : Inv X pins σ H { s with heap := s.heap.push { cls := .type "range", data := .fields #[.int lo t, .int hi u, .int 1 v] }, toks := tk } := I.kept fun b o e => Heap.get?_push_of_some _ e
  refine ⟨(s.heap.push { cls := .type "range", data := .fields #[.int lo t, .int hi u, .int 1 v] }).objs.size, [(s.heap.push { cls := .type "range", data := .fields #[.int lo t, .int hi u, .int 1 v] }).objs.size], _, _, H, rfl,
    I1.kept (t' := tk) fun b o e => Heap.get?_push_of_some _ e, zjh _ lo (hi - lo).toNat, ?_, fun b hb => ?_, q⟩
  · have e1 : lo + ((0 : Nat) : Int) * 1 = lo := by simp
    have e2 : (((hi - lo).toNat : Nat) : Int) - ((0 : Nat) : Int) = Builtin.Range.rangeSize lo hi 1 := by rw [rangeSize_one]; split <;> omega
    show IsRangeIter _ _ (lo + ((0 : Nat) : Int) * 1) ((((hi - lo).toNat : Nat) : Int) - ((0 : Nat) : Int)) 1
    rw [e1, e2]
    exact Heap.get?_push_size _ rfl
  · have e : b = (s.heap.push { cls := .type "range", data := .fields #[.int lo t, .int hi u, .int 1 v] }).objs.size := by simpa using hb
    subst e
    exact I1.fpOk (Nat.le_refl _) (I1.hok.fresh (Nat.le_refl _))
def zqF (ta : TA) : TI := fun σ H R => ta σ H fun vs H1 => ∃ j : Int, vs = [.int j] /\ -(2 ^ 62) <= j /\ j < 2 ^ 62 /\ R (Itr 0 j.toNat) H1
def zqE (ta : TA) : TI := fun σ H R => ta σ H fun vs H1 => ∃ i j : Int, vs = [.int i, .int j] /\ (-(2 ^ 62) <= i /\ i < 2 ^ 62 /\ -(2 ^ 62) <= j /\ j < 2 ^ 62) /\ R (Itr i (j - i).toNat) H1
theorem zkl {a : Expr} {ta : TA} {p pos : Pos} (hg : Gl X "range") (hm : X.mg "range" = none) (ha : PA X [a] ta) (hs : starEach [a] X.env = [(false, eval a X.env)] := by rfl) : PI X tg (.Call (.Name "range" p) [a] [] pos) (zqF ta) := by
  intro pins s σ H R I h
  refine Call_ (zhz I hg hm boot_range (PyProof.Rows.callWith_type1 (thn (ha pos pins s σ H _ I h) fun us s1 ⟨vs, H1, I1, r1, q1⟩ => ?_) hs rfl))
  obtain ⟨j, e, q1, q2, q⟩ := q1
  subst e
  cases r1 with
  | cons r rr =>
    cases rr
    obtain ⟨t, rfl⟩ := r
    exact call_range_1 (ziJ I1 (by omega) (by omega) q1 q2 (by simpa using q))
theorem zkk {a b : Expr} {ta : TA} {p pos : Pos} (hg : Gl X "range") (hm : X.mg "range" = none) (ha : PA X [a, b] ta) (hs : starEach [a, b] X.env = [(false, eval a X.env), (false, eval b X.env)] := by rfl) (hs2 : starEach [b] X.env = [(false, eval b X.env)] := by rfl) :
    PI X tg (.Call (.Name "range" p) [a, b] [] pos) (zqE ta) := by
  intro pins s σ H R I h
  refine Call_ (zhz I hg hm boot_range (PyProof.Rows.callWith_type1 (thn (ha pos pins s σ H _ I h) fun us s1 ⟨vs, H1, I1, r1, q1⟩ => ?_) (by rw [hs, hs2]) (by rw [hs2]; rfl)))
  obtain ⟨i, j, e, ⟨q1, q2, q3, q4⟩, q⟩ := q1
  subst e
  cases r1 with
  | cons r rr =>
    cases rr with
    | cons r' rr =>
      cases rr
      obtain ⟨t, rfl⟩ := r
      obtain ⟨t', rfl⟩ := r'
      exact call_range_2 (ziJ I1 q1 q2 q3 q4 q)
def zrA (wi : TI) (g : TG) (tb : TS) : TS := fun D σ H => wi σ H fun J H1 => ∃ W : Nat -> Nat -> St -> Hp -> Prop, (∃ m, W 0 m σ H1) /\ ∀ i m σ H, W i m σ H ->
  (J.stop i H /\ D.nx σ H) \/ (J.go i H /\ ∃ N : St -> Hp -> Prop, (∀ σ' H', N σ' H' -> ∃ m', m' < m /\ W (i + 1) m' σ' H') /\ ∀ x H', J.yld i H x H' -> g x σ H' fun σ2 H2 => tb { D with nx := N, ct := N, bk := D.nx } σ2 H2)
def zhr (fp : List Addr) (h : Heap) : List (Addr × Obj) := fp.filterMap fun b => (h.get? b).map fun o => (b, o)
theorem zdC {fp : List Addr} {h : Heap} {b : Addr} {o : Obj} (hb : b ∈ fp) (e : h.get? b = some o) : (b, o) ∈ zhr fp h := List.mem_filterMap.mpr ⟨b, hb, by rw [e]; rfl⟩
theorem zks {fp : List Addr} {h : Heap} {p : Addr × Obj} (hp : p ∈ zhr fp h) : p.1 ∈ fp /\ h.get? p.1 = some p.2 := by
  obtain ⟨b, hb, e⟩ := List.mem_filterMap.mp hp
  cases q : h.get? b with
  | none => rw [q] at e; cases e
  | some o =>
    rw [q] at e
    have e' : (b, o) = p := Option.some.inj e
    subst e'
    exact ⟨hb, q⟩
theorem Inv.pinned {pins : List (Addr × Obj)} {σ : St} {H : Hp} {s : Shared} {fp : List Addr} (I : Inv X pins σ H s) (hf : ∀ b ∈ fp, zjR X pins H b) (ho : ∀ b ∈ fp, ∃ o, s.heap.get? b = some o /\ ∀ v, o.data ≠ .cell v) : Inv X (pins ++ zhr fp s.heap) σ H s :=
  I.pins_of fun p hp => (List.mem_append.mp hp).elim (fun z => I.pin p (List.mem_append_right _ z)) fun z => by
    obtain ⟨hb, e⟩ := zks z
    obtain ⟨f0, f1, f2, _⟩ := hf p.1 hb
    obtain ⟨o, e', d⟩ := ho p.1 hb
    rw [e] at e'; cases e'
    exact ⟨e, f0, f1, f2, d⟩
theorem Inv.unpinned {pins pl : List (Addr × Obj)} {σ : St} {H : Hp} {s : Shared} (I : Inv X (pins ++ pl) σ H s) : Inv X pins σ H s := I.pins_of fun p hp => I.pin p (List.mem_append_right _ (List.mem_append_left _ hp))
theorem zoN {iter : Expr} {body : List Stmt} {wi : TI} {g : TG} {tb : TS} {pos : Pos} (hp : PassesOwn (model X.prog X.w) X.A X.env X.xe) (hc : X.calm = true) (hi : PI X tg iter wi) (hg : PG X tg g) (hb : PSs X body tb)
    (hs : ∀ x, foldedSetIterable iter X.env x = pure x := by intro _; rfl) : PS X (.For tg iter body [] pos) (zrA wi g tb) := by
  intro pins s σ H D I h
  refine wpAny_For (thn (hi pins s σ H _ I h) fun v s1 h1 => thn h1 fun itv s2 h2 => ?_) hs
  obtain ⟨it, fp, tn, J, H2, e, I2, T, st2, f2, W, ⟨m0, w0⟩, turn⟩ := h2
  subst e
  have stat : ∀ {H' : Hp}, (∀ b ∈ fp, H' b = none) -> ∀ b ∈ fp, zjR X pins H' b := fun hn b hb => ⟨hn b hb, (f2 b hb).2⟩
  refine codeAny_forLoop_any (fun n s' => ∃ i σ' H', Inv X pins σ' H' s' /\ tn i s'.heap /\ (∀ b ∈ fp, H' b = none) /\ W i n σ' H') ?_ m0 ⟨0, σ, H2, I2, st2, fun b hb => (f2 b hb).1, w0⟩
  rintro n s3 ⟨i, σ3, H3, I3, st3, fr3, w3⟩
  rcases turn i n σ3 H3 w3 with ⟨stop, qn⟩ | ⟨go, N, hN, step⟩
  · refine wpAny_passesOwn hp (thn (T.done X rfl rfl rfl hc i pins s3 σ3 H3 X.xe I3 (stat fr3) st3 stop) fun r s4 ⟨hr, I4⟩ => ?_)
    subst hr
    exact wpAny_execs_nil ⟨σ3, H3, I4, qn⟩
  · refine wpAny_passesOwn hp (thn (T.item X rfl rfl rfl hc i pins s3 σ3 H3 X.xe I3 (stat fr3) st3 go) fun r s4 ⟨u, hr, h4⟩ => ?_)
    subst hr
    refine wpAny_passesOwn hp (thn h4 fun _ s5 ⟨x, H5, I5, r5, y5, st5, fr5⟩ => ?_)
    have I5' := I5.pinned (stat fr5) (T.obj _ _ st5)
    refine wpAny_passesOwn hp (thn (hg _ s5 σ3 H5 x u _ I5' r5 (step x H5 y5)) fun _ s6 ⟨σ6, H6, I6, q6⟩ => ?_)
    refine wpAny_passesOwn hp (thn (hb _ s6 σ6 H6 _ I6 q6) fun f s7 q7 => ?_)
    have again : ∀ {σ7 : St} {H7 : Hp}, Inv X (pins ++ zhr fp s5.heap) σ7 H7 s7 -> N σ7 H7 -> ∃ m, m < n /\ ∃ i σ' H', Inv X pins σ' H' s7 /\ tn i s7.heap /\ (∀ b ∈ fp, H' b = none) /\ W i m σ' H' := fun {σ7 H7} I7 n7 => by
      obtain ⟨m', hm, w7⟩ := hN σ7 H7 n7
      refine ⟨m', hm, i + 1, σ7, H7, I7.unpinned, T.keep _ _ _ st5 fun b hb o e => (I7.pin (b, o) (List.mem_append_right _ (List.mem_append_right _ (zdC hb e)))).1, fun b hb => ?_, w7⟩
      obtain ⟨o, e, d⟩ := T.obj _ _ st5 b hb
      exact (I7.pin (b, o) (List.mem_append_right _ (List.mem_append_right _ (zdC hb e)))).2.1
    cases f with
    | next => obtain ⟨σ7, H7, I7, n7⟩ := q7; exact again I7 n7
    | cont => obtain ⟨σ7, H7, I7, n7⟩ := q7; exact again I7 n7
    | brk => obtain ⟨σ7, H7, I7, q7⟩ := q7; exact ⟨σ7, H7, I7.unpinned, q7⟩
    | ret v => obtain ⟨x7, σ7, H7, I7, r7, q7⟩ := q7; exact ⟨x7, σ7, H7, I7.unpinned, r7, q7⟩
end
end L2
namespace L2
open PySem PySem.Spec PyProof.Rows
abbrev R2 := V -> V -> Hp -> VK -> Prop
def OpR (X : Cx) (f : Value -> Value -> Sem Value) (r : R2) : Prop :=
  ∀ (pins : List (Addr × Obj)) (s : Shared) (σ : St) (H : Hp) (x y : V) (v u : Value) (Q : VK), Inv X pins σ H s -> zbJ x v -> zbJ y u -> r x y H Q ->
    wpAny (model X.prog X.w) X.A (f v u) (EP X pins σ Q) X.xe s
def zfb (X : Cx) (f : Value) (r : List V -> Hp -> VK -> Prop) : Prop :=
  ∀ (pins : List (Addr × Obj)) (s : Shared) (σ : St) (H : Hp) (xs : List V) (us : List Value) (Q : VK), Inv X pins σ H s -> zbC xs us -> r xs H Q ->
    wpAny (model X.prog X.w) X.A (call f us) (EP X pins σ Q) X.xe s
def zr0 (X : Cx) (r : V -> Hp -> (Bool -> Hp -> Prop) -> Prop) : Prop :=
  ∀ (pins : List (Addr × Obj)) (s : Shared) (σ : St) (H : Hp) (x : V) (v : Value) (Q : Bool -> Hp -> Prop), Inv X pins σ H s -> zbJ x v -> r x H Q ->
    wpAny (model X.prog X.w) X.A (truthy v) (TP X pins σ Q) X.xe s
def tOp (r : R2) (ta tb : TE) : TE := fun σ H Q => ta σ H fun x H1 => tb σ H1 fun y H2 => r x y H2 Q
def rI (C : Int -> Int -> Prop) (g : Int -> Int -> V) : R2 := fun x y H Q => ∃ i j, x = .int i /\ y = .int j /\ C i j /\ Q (g i j) H
def rI0 (g : Int -> Int -> V) : R2 := fun x y H Q => ∃ i j, x = .int i /\ y = .int j /\ Q (g i j) H
section
variable {X : Cx} {a b c : Expr} {ta tb tc : TE} {pos : Pos}
theorem zqX (ha : PE X a ta) (hb : PE X b tb) {pins : List (Addr × Obj)} {s : Shared} {σ : St} {H : Hp} {R : V -> V -> Hp -> Prop} (I : Inv X pins σ H s)
    (h : ta σ H fun x H1 => tb σ H1 fun y H2 => R x y H2) {Q : Value -> Shared -> Prop} {f : Value -> Value -> Sem Value}
    (hf : ∀ v u s2 x y H2, Inv X pins σ H2 s2 -> zbJ x v -> zbJ y u -> R x y H2 -> wpAny (model X.prog X.w) X.A (f v u) Q X.xe s2) :
    wpAny (model X.prog X.w) X.A (eval a X.env) (fun v s₁ => wpAny (model X.prog X.w) X.A (eval b X.env) (fun u s₂ => wpAny (model X.prog X.w) X.A (f v u) Q X.xe s₂) X.xe s₁) X.xe s := by
  refine thn (ha pins s σ H _ I h) fun v s1 ⟨x, H1, I1, r1, q1⟩ => ?_
  refine thn (hb pins s1 σ H1 _ I1 q1) fun u s2 ⟨y, H2, I2, r2, q2⟩ => ?_
  exact hf v u s2 x y H2 I2 r1 r2 q2
theorem zqp {op : Operator} {r : R2} (ho : OpR X (binaryOp op) r) (ha : PE X a ta) (hb : PE X b tb) : PE X (.BinOp a op b pos) (tOp r ta tb) := by
  intro pins s σ H Q I h
  exact wpAny_BinOp (zqX ha hb I h fun v u s2 x y H2 I2 rx ry q => ho pins s2 σ H2 x y v u Q I2 rx ry q)
theorem opI {f : Value -> Value -> Sem Value} {C : Int -> Int -> Prop} {g : Int -> Int -> Int}
    (rule : ∀ (i j : Int) (t u : Tok) (s : Shared) (Q : Value -> Shared -> Prop) (E : Value -> Shared -> Prop), C i j -> Q (.int (g i j) s.toks) { s with toks := s.toks + 1 } -> wpAny (model X.prog X.w) X.A (f (.int i t) (.int j u)) Q E s) :
    OpR X f (rI C fun i j => .int (g i j)) := by
  intro pins s σ H x y v u Q I rx ry h
  obtain ⟨i, j, rfl, rfl, hc, q⟩ := h
  obtain ⟨t, rfl⟩ := rx
  obtain ⟨t', rfl⟩ := ry
  exact rule i j t t' s _ _ hc ⟨.int (g i j), H, I.tok _, ⟨_, rfl⟩, q⟩
theorem zrg {f : Value -> Value -> Sem Value} {g : Int -> Int -> Int}
    (rule : ∀ (i j : Int) (t u : Tok) (s : Shared) (Q : Value -> Shared -> Prop) (E : Value -> Shared -> Prop), Q (.int (g i j) s.toks) { s with toks := s.toks + 1 } -> wpAny (model X.prog X.w) X.A (f (.int i t) (.int j u)) Q E s) :
    OpR X f (rI0 fun i j => .int (g i j)) := by
  intro pins s σ H x y v u Q I rx ry h
  obtain ⟨i, j, rfl, rfl, q⟩ := h
  obtain ⟨t, rfl⟩ := rx
  obtain ⟨t', rfl⟩ := ry
  exact rule i j t t' s _ _ ⟨.int (g i j), H, I.tok _, ⟨_, rfl⟩, q⟩
theorem zrh {f : Value -> Value -> Sem Value} {g : Int -> Int -> Bool}
    (rule : ∀ (i j : Int) (t u : Tok) (s : Shared) (Q : Value -> Shared -> Prop) (E : Value -> Shared -> Prop), Q (.bool (g i j)) s -> wpAny (model X.prog X.w) X.A (f (.int i t) (.int j u)) Q E s) :
    OpR X f (rI0 fun i j => .bl (g i j)) := by
  intro pins s σ H x y v u Q I rx ry h
  obtain ⟨i, j, rfl, rfl, q⟩ := h
  obtain ⟨t, rfl⟩ := rx
  obtain ⟨t', rfl⟩ := ry
  exact rule i j t t' s _ _ ⟨.bl (g i j), H, I, rfl, q⟩
def zr4 (i j : Int) : Prop := 0 < j /\ j < 1073741824
def zp7 (i j : Int) : Prop := (-(2 ^ 64) < i /\ i < 2 ^ 64) \/ (-(2 ^ 64) < j /\ j < 2 ^ 64)
theorem zp7.ok {i j : Int} (h : zp7 i j) : IntMulOk i j := by
  rcases h with ⟨h1, h2⟩ | ⟨h1, h2⟩
  · exact .of_left (intBits_le_64 h1 h2)
  · exact .of_right (intBits_le_64 h1 h2)
theorem zpa : OpR X (binaryOp .Add) (rI0 fun i j => .int (i + j)) := zrg fun _ _ _ _ _ _ _ q => add_int q
theorem zo3 : OpR X (binaryOp .Sub) (rI0 fun i j => .int (i - j)) := zrg fun _ _ _ _ _ _ _ q => sub_int q
theorem zo6 : OpR X (binaryOp .Mult) (rI zp7 fun i j => .int (i * j)) := opI fun _ _ _ _ _ _ _ hc q => mul_int q hc.ok
theorem znD : OpR X (binaryOp .FloorDiv) (rI zr4 fun i j => .int (i / j)) := opI fun i j _ _ _ _ _ hc q => by
  have h1 : (0 : Int) < j := hc.1
  have h2 : j < 1073741824 := hc.2
  exact floordiv_int (by omega) (by rw [Int.fdiv_eq_ediv_of_nonneg i (by omega)]; exact q) (.inl (PyProof.noPylong_small (by omega)))
theorem zo7 : OpR X (binaryOp .Mod) (rI (fun _ j => 0 < j) fun i j => .int (i % j)) := opI fun i j _ _ _ _ _ hc q => by
  have h1 : (0 : Int) < j := hc
  exact mod_int' (by omega) (by rw [Int.fmod_eq_emod_of_nonneg i (by omega)]; exact q)
end
def zqi : V -> V -> Bool
  | .non, .non => true | .non, .int _ => true | .int _, .non => true | .non, .bl _ => true | .bl _, .non => true | .non, .str _ => true | .str _, .non => true
  | .int _, .int _ => true | .bl _, .bl _ => true | .str _, .str _ => true | .byt _, .byt _ => true
  | .int _, .str _ => true | .str _, .int _ => true | .bl _, .str _ => true | .str _, .bl _ => true
  | _, _ => false
def rEq : R2 := fun x y H Q => zqi x y = true /\ Q (.bl (decide (x = y))) H
def rNe : R2 := fun x y H Q => zqi x y = true /\ Q (.bl (!decide (x = y))) H
theorem zk9 {i j : Int} : decide (V.int i = V.int j) = (i == j) := by
  rw [Bool.eq_iff_iff]
  simp
theorem zm1 {i j : Bool} : decide (V.bl i = V.bl j) = (i == j) := by
  rw [Bool.eq_iff_iff]
  simp
theorem zk8 {i j : Str} : decide (V.str i = V.str j) = (i == j) := by
  rw [Bool.eq_iff_iff]
  simp
theorem zla {i j : Array UInt8} : decide (V.byt i = V.byt j) = (i.toList == j.toList) := by
  rw [Bool.eq_iff_iff]
  cases i
  cases j
  simp
section
variable {X : Cx} {a b c : Expr} {ta tb tc : TE} {pos : Pos}
theorem za6 {pins : List (Addr × Obj)} {σ : St} {H : Hp} {s : Shared} {Q : VK} {k k' : Bool} (I : Inv X pins σ H s) (q : Q (.bl k) H) (e : k = k') : EP X pins σ Q (.bool k') s := by
  subst e
  exact ⟨.bl k, H, I, rfl, q⟩
theorem zqy : OpR X (compareOp .Eq) rEq := by
  intro pins s σ H x y v u Q I rx ry h
  obtain ⟨hs, q⟩ := h
  cases x with
  | non =>
    cases rx
    cases y with
    | non => cases ry; exact PySem.EqNone.eq_none_none (za6 I q (by simp))
    | bl j => cases ry; exact PySem.EqNone.eq_none_bool (za6 I q (by simp))
    | int j => obtain ⟨t', rfl⟩ := ry; exact PySem.EqNone.eq_none_int (za6 I q (by simp))
    | str j => obtain ⟨t', rfl⟩ := ry; exact PySem.EqNone.eq_none_str (za6 I q (by simp))
    | _ => exact absurd (show false = true from hs) Bool.false_ne_true
  | bl i =>
    cases rx
    cases y with
    | non => cases ry; exact PySem.EqNone.eq_bool_none (za6 I q (by simp))
    | bl j => cases ry; exact eq_bool (za6 I q zm1)
    | str j => obtain ⟨t', rfl⟩ := ry; exact PySem.EqMixed.eq_bool_str (za6 I q (by simp))
    | _ => exact absurd (show false = true from hs) Bool.false_ne_true
  | int i =>
    obtain ⟨t, rfl⟩ := rx
    cases y with
    | non => cases ry; exact PySem.EqNone.eq_int_none (za6 I q (by simp))
    | int j => obtain ⟨t', rfl⟩ := ry; exact eq_int (za6 I q zk9)
    | str j => obtain ⟨t', rfl⟩ := ry; exact PySem.EqMixed.eq_int_str (za6 I q (by simp))
    | _ => exact absurd (show false = true from hs) Bool.false_ne_true
  | str i =>
    obtain ⟨t, rfl⟩ := rx
    cases y with
    | non => cases ry; exact PySem.EqNone.eq_str_none (za6 I q (by simp))
    | bl j => cases ry; exact PySem.EqMixed.eq_str_bool (za6 I q (by simp))
    | int j => obtain ⟨t', rfl⟩ := ry; exact PySem.EqMixed.eq_str_int (za6 I q (by simp))
    | str j => obtain ⟨t', rfl⟩ := ry; exact eq_str (za6 I q zk8)
    | _ => exact absurd (show false = true from hs) Bool.false_ne_true
  | byt i =>
    obtain ⟨t, rfl⟩ := rx
    cases y with
    | byt j => obtain ⟨t', rfl⟩ := ry; exact PySem.W.eq_bytes (za6 I q zla)
    | _ => exact absurd (show false = true from hs) Bool.false_ne_true
  | _ => cases y <;> exact absurd (show false = true from hs) Bool.false_ne_true
theorem zqv : OpR X (compareOp .NotEq) rNe := by
  intro pins s σ H x y v u Q I rx ry h
  obtain ⟨hs, q⟩ := h
  cases x with
  | non =>
    cases rx
    cases y with
    | non => cases ry; exact PySem.EqNone.ne_none_none (za6 I q (by simp))
    | bl j => cases ry; exact PySem.EqNone.ne_none_bool (za6 I q (by simp))
    | int j => obtain ⟨t', rfl⟩ := ry; exact PySem.EqNone.ne_none_int (za6 I q (by simp))
    | str j => obtain ⟨t', rfl⟩ := ry; exact PySem.EqNone.ne_none_str (za6 I q (by simp))
    | _ => exact absurd (show false = true from hs) Bool.false_ne_true
  | bl i =>
    cases rx
    cases y with
    | non => cases ry; exact PySem.EqNone.ne_bool_none (za6 I q (by simp))
    | bl j => cases ry; exact ne_bool (za6 I q (congrArg not zm1))
    | str j => obtain ⟨t', rfl⟩ := ry; exact PySem.EqMixed.ne_bool_str (za6 I q (by simp))
    | _ => exact absurd (show false = true from hs) Bool.false_ne_true
  | int i =>
    obtain ⟨t, rfl⟩ := rx
    cases y with
    | non => cases ry; exact PySem.EqNone.ne_int_none (za6 I q (by simp))
    | int j => obtain ⟨t', rfl⟩ := ry; exact ne_int (za6 I q (congrArg not zk9))
    | str j => obtain ⟨t', rfl⟩ := ry; exact PySem.EqMixed.ne_int_str (za6 I q (by simp))
    | _ => exact absurd (show false = true from hs) Bool.false_ne_true
  | str i =>
    obtain ⟨t, rfl⟩ := rx
    cases y with
    | non => cases ry; exact PySem.EqNone.ne_str_none (za6 I q (by simp))
    | bl j => cases ry; exact PySem.EqMixed.ne_str_bool (za6 I q (by simp))
    | int j => obtain ⟨t', rfl⟩ := ry; exact PySem.EqMixed.ne_str_int (za6 I q (by simp))
    | str j => obtain ⟨t', rfl⟩ := ry; exact ne_str (za6 I q (congrArg not zk8))
    | _ => exact absurd (show false = true from hs) Bool.false_ne_true
  | byt i =>
    obtain ⟨t, rfl⟩ := rx
    cases y with
    | byt j => obtain ⟨t', rfl⟩ := ry; exact PySem.W.ne_bytes (za6 I q (congrArg not zla))
    | _ => exact absurd (show false = true from hs) Bool.false_ne_true
  | _ => cases y <;> exact absurd (show false = true from hs) Bool.false_ne_true
theorem zqw : OpR X (compareOp .Lt) (rI0 fun i j => .bl (decide (i < j))) := zrh fun _ _ _ _ _ _ _ q => lt_int q
theorem zqx : OpR X (compareOp .LtE) (rI0 fun i j => .bl (decide (i <= j))) := zrh fun _ _ _ _ _ _ _ q => le_int q
theorem zkq : OpR X (compareOp .Lt) (fun x y H Q => ∃ i j, x = .str i /\ y = .str j /\ Q (.bl (decide (i.cps.toList < j.cps.toList))) H) := by
  intro pins s σ H x y v u Q I rx ry h
  obtain ⟨i, j, rfl, rfl, q⟩ := h
  obtain ⟨t, rfl⟩ := rx
  obtain ⟨t', rfl⟩ := ry
  exact lt_str (za6 I q rfl)
theorem znB : OpR X (compareOp .IsNot) (fun x y H Q => y = .non /\ Q (.bl (!decide (x = .non))) H) := by
  intro pins s σ H x y v u Q I rx ry h
  obtain ⟨rfl, q⟩ := h
  cases ry
  refine isnot_none_gen (za6 I q ?_)
  cases x <;> first
    | (cases rx; rfl)
    | (obtain ⟨t, rfl⟩ := rx; rfl)
theorem OpR.or {f : Value -> Value -> Sem Value} {r r' : R2} (h : OpR X f r) (h' : OpR X f r') : OpR X f (fun x y H Q => r x y H Q \/ r' x y H Q) := by
  intro pins s σ H x y v u Q I rx ry q
  rcases q with q | q
  · exact h pins s σ H x y v u Q I rx ry q
  · exact h' pins s σ H x y v u Q I rx ry q
theorem zdf (b : Expr) {op : CmpOp} (h : op ≠ .In := by decide) (h2 : op ≠ .NotIn := by decide) : behindInMarks op b = false := by
  have e1 : (op == CmpOp.In) = false := by cases op <;> first | rfl | exact absurd rfl h
  have e2 : (op == CmpOp.NotIn) = false := by cases op <;> first | rfl | exact absurd rfl h2
  cases b <;> simp [behindInMarks, e1, e2]
theorem zny {op : CmpOp} {r : R2} (ho : OpR X (compareOp op) r) (ha : PE X a ta) (hb : PE X b tb) (hm : behindInMarks op b = false) : PE X (.Compare a [op] [b] pos) (tOp r ta tb) := by
  intro pins s σ H Q I h
  exact wpAny_Compare1 (zqX ha hb I h fun v u s2 x y H2 I2 rx ry q => ho pins s2 σ H2 x y v u Q I2 rx ry q) hm
def zot (t : TE) : TT := fun σ H Q => t σ H fun x H' => ∃ k, x = .bl k /\ Q k H'
theorem zno {op : CmpOp} {r : R2} (ho : OpR X (compareOp op) r) (ha : PE X a ta) (hb : PE X b tb) (hm : behindInMarks op b = false) : PT X (.Compare a [op] [b] pos) (zot (tOp r ta tb)) := by
  intro pins s σ H Q I h
  refine wpAny_isTrue_Compare1 (thn (ha pins s σ H _ I h) fun v s1 ⟨x, H1, I1, r1, q1⟩ => thn (hb pins s1 σ H1 _ I1 q1) fun u s2 ⟨y, H2, I2, r2, q2⟩ =>
    thn (ho pins s2 σ H2 x y v u _ I2 r1 r2 q2) fun c s3 ⟨z, H3, I3, r3, k, e, q3⟩ => ?_) hm
  subst e
  cases r3
  exact wpAny_truthy_bool ⟨H3, I3, q3⟩
def zj2 (r r' : R2) (ta tb tc : TE) : TE := fun σ H Q => ta σ H fun x H1 => tb σ H1 fun y H2 => r x y H2 fun z H3 => ∃ k, z = .bl k /\
  (if k = true then tc σ H3 fun w' H4 => r' y w' H4 Q else Q (.bl false) H3)
theorem zlV {op op' : CmpOp} {r r' : R2} (ho : OpR X (compareOp op) r) (ho' : OpR X (compareOp op') r') (ha : PE X a ta) (hb : PE X b tb) (hc : PE X c tc)
    (hm : lastMarks [op, op'] [b, c] = false := by with_unfolding_all rfl) : PE X (.Compare a [op, op'] [b, c] pos) (zj2 r r' ta tb tc) := by
  intro pins s σ H Q I h
  refine Compare_chain (thn (ha pins s σ H _ I h) fun v s1 ⟨x, H1, I1, r1, q1⟩ => chain_link (thn (hb pins s1 σ H1 _ I1 q1) fun u s2 ⟨y, H2, I2, r2, q2⟩ =>
    thn (ho pins s2 σ H2 x y v u _ I2 r1 r2 q2) fun d s3 ⟨z, H3, I3, r3, k, e, q3⟩ => ?_)) hm
  subst e
  cases r3
  refine wpAny_truthy_bool ?_
  cases k with
  | false => exact ite_ff ⟨.bl false, H3, I3, rfl, q3⟩
  | true => exact ite_tt (chain_last (thn (hc pins s3 σ H3 _ I3 q3) fun w' s4 ⟨z', H4, I4, r4, q4⟩ => ho' pins s4 σ H4 y z' u w' Q I4 r2 r4 q4))
theorem zlQ {op op' : CmpOp} {r r' : R2} (ho : OpR X (compareOp op) r) (ho' : OpR X (compareOp op') r') (ha : PE X a ta) (hb : PE X b tb) (hc : PE X c tc)
    (hm : lastMarks [op, op'] [b, c] = false := by with_unfolding_all rfl) : PT X (.Compare a [op, op'] [b, c] pos) (zot (zj2 r r' ta tb tc)) := by
  intro pins s σ H Q I h
  refine isTrue_chain (thn (ha pins s σ H _ I h) fun v s1 ⟨x, H1, I1, r1, q1⟩ => test_link (thn (hb pins s1 σ H1 _ I1 q1) fun u s2 ⟨y, H2, I2, r2, q2⟩ =>
    thn (ho pins s2 σ H2 x y v u _ I2 r1 r2 q2) fun d s3 ⟨z, H3, I3, r3, k, e, q3⟩ => ?_)) hm
  subst e
  cases r3
  refine wpAny_truthy_bool ?_
  cases k with
  | false =>
    obtain ⟨k', e', q'⟩ := q3
    cases e'
    exact ite_ff ⟨H3, I3, q'⟩
  | true =>
    refine ite_tt (test_last (thn (hc pins s3 σ H3 _ I3 q3) fun w' s4 ⟨z', H4, I4, r4, q4⟩ => thn (ho' pins s4 σ H4 y z' u w' _ I4 r2 r4 q4) fun d' s5 ⟨z2, H5, I5, r5, k2, e2, q5⟩ => ?_))
    subst e2
    cases r5
    exact wpAny_truthy_bool ⟨H5, I5, q5⟩
def zrZ (K : PySem.W.Frag) (x : V) (H : Hp) (k : Bool) : Prop :=
  match x with
  | .non => k = false
  | .bl b => k = b
  | .int i => k = (i != 0)
  | .str y => y.length <= sizeLine /\ k = ((y.length : Int) != 0)
  | .byt y => y.size <= sizeLine /\ k = ((y.size : Int) != 0)
  | .ref p => (∃ xs, SqL K H p xs /\ k = !xs.isEmpty) \/ (∃ xs, SqT K H p xs /\ k = !xs.isEmpty) \/ ∃ kvs, H p = some (.dK kvs) /\ k = !kvs.isEmpty
  | _ => False
theorem zjD {κ : Type} {kvs : List (κ × V)} {vs : List (κ × Value)} (r : KV kvs vs) : (!vs.isEmpty) = !kvs.isEmpty := by
  cases r <;> rfl
theorem zgl {xs : List V} {its : List Value} (r : zbC xs its) : (!its.toArray.isEmpty) = !xs.isEmpty := by
  cases r <;> simp
theorem zgi : (sizeLine : Nat) < 2 ^ 63 := by rw [sizeLine_eq]; decide
theorem zq9 : zr0 X (fun x H Q => ∃ k, zrZ X.K x H k /\ Q k H) := by
  intro pins s σ H x v Q I rx h
  obtain ⟨k, e, q⟩ := h
  have hl := zgi
  have hs : sizeLine = 16777216 := sizeLine_eq
  cases x with
  | non =>
    cases rx
    have e' : k = false := e
    subst e'
    exact truthy_none ⟨H, I, q⟩
  | bl b =>
    cases rx
    have e' : k = b := e
    subst e'
    exact wpAny_truthy_bool ⟨H, I, q⟩
  | int i =>
    obtain ⟨t, rfl⟩ := rx
    have e' : k = (i != 0) := e
    subst e'
    exact PySem.P.truthy_int ⟨H, I, q⟩
  | str y =>
    obtain ⟨t, rfl⟩ := rx
    obtain ⟨hy, e'⟩ : y.length <= sizeLine /\ k = ((y.length : Int) != 0) := e
    subst e'
    exact PySem.P.truthy_str (by omega) ⟨H, I.tok _, q⟩
  | byt y =>
    obtain ⟨t, rfl⟩ := rx
    obtain ⟨hy, e'⟩ : y.size <= sizeLine /\ k = ((y.size : Int) != 0) := e
    subst e'
    exact PySem.W.truthy_bytes (by omega) ⟨H, I.tok _, q⟩
  | ref p =>
    cases rx
    have e' : (∃ xs, SqL X.K H p xs /\ k = !xs.isEmpty) \/ (∃ xs, SqT X.K H p xs /\ k = !xs.isEmpty) \/ ∃ kvs, H p = some (.dK kvs) /\ k = !kvs.isEmpty := e
    rcases e' with ⟨xs, hx, e'⟩ | ⟨xs, hx, e'⟩ | ⟨kvs, hx, e'⟩
    · subst e'
      obtain ⟨its, r, pl, hz⟩ := I.list hx
      have hlen := r.length
      exact wpAny_truthy_list pl.isList (by simp only [List.size_toArray]; omega) ⟨H, I.tok _, by rw [zgl r]; exact q⟩
    · subst e'
      obtain ⟨its, r, pl, hz⟩ := I.tuple hx
      have hlen := r.length
      exact truthy_tuple pl (by simp only [List.size_toArray]; omega) ⟨H, I.tok _, by rw [zgl r]; exact q⟩
    · subst e'
      obtain ⟨hz, hS, vs, r, m⟩ : kvs.length <= sizeLine /\ (p == sysModules) = false /\ ∃ vs, KV kvs vs /\ s.heap.DictOf (zaZ X.prog X.w) p vs := I.hok p _ hx
      have hlen : kvs.length = vs.length := Paired.length r
      exact wpAny_truthy_dict hS m (by omega) ⟨H, I.tok _, by rw [zjD r]; exact q⟩
  | _ => exact (show False from e).elim
theorem zju : OpR X (binaryOp .Add) (fun x y H Q => ∃ i j, x = .str i /\ y = .str j /\ i.length + j.length <= sizeLine /\ Q (.str (i ++ j)) H) := by
  intro pins s σ H x y v u Q I rx ry h
  obtain ⟨i, j, rfl, rfl, hz, q⟩ := h
  obtain ⟨t, rfl⟩ := rx
  obtain ⟨t', rfl⟩ := ry
  exact add_str (fun t' tk => ⟨.str (i ++ j), H, I.tok _, ⟨_, rfl⟩, q⟩) hz
theorem zha {x : V} {us : List Value} (r : zbC [x] us) : ∃ u, us = [u] /\ zbJ x u := by
  cases r with
  | cons r1 r2 => cases r2; exact ⟨_, rfl, r1⟩
theorem zm7 {x y : V} {us : List Value} (r : zbC [x, y] us) : ∃ u w', us = [u, w'] /\ zbJ x u /\ zbJ y w' := by
  cases r with
  | cons r1 r2 =>
    cases r2 with
    | cons r3 r4 => cases r4; exact ⟨_, _, rfl, r1, r3⟩
def zr3 (K : PySem.W.Frag) (x : V) (H : Hp) (n : Nat) : Prop :=
  match x with
  | .str y => y.length <= sizeLine /\ n = y.length
  | .byt y => y.size <= sizeLine /\ n = y.size
  | .ref p => (∃ xs, SqL K H p xs /\ n = xs.length) \/ ∃ xs, SqT K H p xs /\ n = xs.length
  | _ => False
theorem zmD : zfb X (.builtin "len") (fun xs H Q => ∃ x n, xs = [x] /\ zr3 X.K x H n /\ Q (.int n) H) := by
  intro pins s σ H xs us Q I r h
  obtain ⟨x, n, rfl, e, q⟩ := h
  obtain ⟨u, rfl, rx⟩ := zha r
  have hl := zgi
  have hs : sizeLine = 16777216 := sizeLine_eq
  cases x with
  | str y =>
    obtain ⟨t, rfl⟩ := rx
    obtain ⟨hy, e'⟩ : y.length <= sizeLine /\ n = y.length := e
    subst e'
    exact len_str (by omega) ⟨.int _, H, I.tok _, ⟨_, rfl⟩, q⟩
  | byt y =>
    obtain ⟨t, rfl⟩ := rx
    obtain ⟨hy, e'⟩ : y.size <= sizeLine /\ n = y.size := e
    subst e'
    exact PySem.W.len_bytes (by omega) ⟨.int _, H, I.tok _, ⟨_, rfl⟩, q⟩
  | ref p =>
    cases rx
    have e' : (∃ xs, SqL X.K H p xs /\ n = xs.length) \/ ∃ xs, SqT X.K H p xs /\ n = xs.length := e
    rcases e' with ⟨xs, hx, e'⟩ | ⟨xs, hx, e'⟩
    · subst e'
      obtain ⟨its, r', pl, hz⟩ := I.list hx
      have hlen := r'.length
      exact Calls.call_len_list pl.isList (by simp only [List.size_toArray]; omega) ⟨.int xs.length, H, I.tok _, ⟨_, by simp only [List.size_toArray]; rw [hlen]⟩, q⟩
    · subst e'
      obtain ⟨its, r', pl, hz⟩ := I.tuple hx
      have hlen := r'.length
      exact len_tuple pl (by simp only [List.size_toArray]; omega) ⟨.int xs.length, H, I.tok _, ⟨_, by simp only [List.size_toArray]; rw [hlen]⟩, q⟩
  | _ => exact (show False from e).elim
end
end L2
namespace L2
open PySem PySem.Spec PyProof.Rows
structure ObjM (h : Heap) (x dx C : Addr) (mA : Str -> Option Value) : Prop where
  obj : h.get? x = some (PySem.W.instObj C dx)
  ns : h.Ns1 dx mA
  ne : dx ≠ x
theorem zhy {h : Heap} {dx : Addr} {mA : Str -> Option Value} (n : h.Ns1 dx mA) : ∃ od, h.get? dx = some od /\ ∀ name, PySem.W.lookIn name od = some (mA name) := by
  obtain ⟨o, es, ep, ho, hd, hk, _, hm⟩ := n
  refine ⟨o, ho, fun name => ?_⟩
  have e := hm name
  unfold nsFind findBy at e
  rw [← Array.find?_toList] at e
  unfold PySem.W.lookIn
  rw [hd]
  dsimp only
  split
  · rename_i y q
    rw [q] at e
    exact congrArg some e
  · rename_i q
    rw [q] at e
    have a : es.toList.any (·.refKey) = false := by
      rw [List.any_eq_false]
      intro y hy
      obtain ⟨z, t, hkey⟩ := hk y (Array.mem_toList_iff.mp hy)
      simp [DictEntry.refKey, hkey]
    have a' : ¬ es.toList.any (·.refKey) = true := by rw [a]; exact Bool.false_ne_true
    rw [if_neg a']
    exact congrArg some e
theorem ObjM.look {h : Heap} {x dx C : Addr} {mA : Str -> Option Value} (I : ObjM h x dx C mA) : ∃ od, PySem.W.InstAt h x (PySem.W.instObj C dx) C (some od) /\ ∀ name, PySem.W.lookIn name od = some (mA name) :=
  let ⟨od, ho, hl⟩ := zhy I.ns
  ⟨od, ⟨I.obj, rfl, rfl, ho⟩, hl⟩
section
variable {prog : Program} {w : World} {A : Around} {E : Value -> Shared -> Prop} {s : Shared} {K : PySem.W.Frag} {x dx C f : Addr} {mA : Str -> Option Value} {name : Str} {v : Value}
theorem znR {expr : Bool} {Q : Value -> Shared -> Prop} (X : K.In s.heap) (I : ObjM s.heap x dx C mA) (hg : PySem.W.plainGet K C name = true) (hh : PySem.W.hasDictIn K C = true)
    (ha : PySem.W.findIn K (.ref C) name = some none) (hv : mA name = some v) (hv' : PySem.W.handedIn v = true) (h : Q v { s with toks := s.toks + 1 }) :
    wpAny (model prog w) A (getAttr (.ref x) name expr) Q E s := by
  obtain ⟨od, J, hl⟩ := I.look
  exact PySem.W.get_value X J (PySem.W.plainGet_of hg).1 (PySem.W.findObj_own hh ha rfl (by rw [hl, hv])) hv' h
theorem znf {ns : List Str} {Q : Unit -> Shared -> Prop} (X : K.In s.heap) (I : ObjM s.heap x dx C mA)
    (hs : PySem.W.findIn K (.ref C) "__setattr__" = some (some (.builtin "object.__setattr__"))) (hp : PySem.W.plainOver K C = true) (ht : PySem.W.takerIn K C name = some none) (hh : PySem.W.hasDictIn K C = true)
    (hw : PySem.Within mA ns) (hsz : ns.length <= sizeLine)
    (h : ∀ h', ObjM h' x dx C (fun y => if y = name then some v else mA y) -> Heap.SameBut dx s.heap h' -> Q () { s with heap := h', toks := s.toks + 2 }) :
    wpAny (model prog w) A (setAttr (.ref x) name v) Q E s := by
  obtain ⟨od, J, hl⟩ := I.look
  refine PySem.W.set_plain X J hs (PySem.W.osa_open (s := { s with toks := s.toks + 1 }) (r := none) X J hp ht fun b => ?_)
  obtain ⟨cd, hc, hd'⟩ := PySem.W.any_some hh
  have hx : s.heap.get? x = some ⟨.ref C, some dx, .plain, #[]⟩ := I.obj
  refine wpAny_bind (wpAny_pure (wpAny_bind (wpAny_bind (wpAny_loadPart hx (wpAny_bind (PySem.W.Looks.here (s := { s with toks := s.toks + 1 }) (PySem.W.looks_clsIn X hc) ?_))))))
  rw [hd']
  refine wpAny_pure (a := some dx) (wpAny_bind (wpAny_pure (wpAny_bind ?_)))
  refine wpAny_nsSet1 (s := { s with toks := s.toks + 1 }) I.ns fun h' hn2 hs2 => ?_
  obtain ⟨oD, esD, epD, hoD, hdD, hcD⟩ := hn2.count (PySem.Within.cons name v hw)
  refine wpAny_bind (wpAny_lookBehind hoD (by rw [hdD]; exact pastItsLine_dict (Nat.le_trans hcD (by rw [List.length_cons]; omega))) ?_)
  exact wpAny_pure (h _ ⟨(hs2.2 _ (Ne.symm I.ne)).trans I.obj, hn2, I.ne⟩ hs2)
theorem zl4 {R : Result -> Shared -> Prop} {vs : List Value} {kw : List (Str × Value)} (X : K.In s.heap) (hm : PySem.W.makesIn K C = true)
    (hi : PySem.W.findIn K (.ref C) "__init__" = some (some (.ref f))) (hf : PySem.W.typeIn K (.ref f) = some (.type "function"))
    (h : codeAny (model prog w) (A.under (.builtin "type.__call__" ⟨.ref C :: vs, kw⟩)) (.call (.ref f) ⟨.ref (s.heap.objs.size + 1) :: vs, kw⟩) (PySem.W.InitBack (s.heap.objs.size + 1) R)
      { s with heap := (s.heap.push PySem.W.emptyDict).push (PySem.W.instObj C s.heap.objs.size) }) :
    codeAny (model prog w) A (.call (.ref C) ⟨vs, kw⟩) R s := by
  obtain ⟨hh, g, d, t, os⟩ := s
  exact PySem.W.make_core (PySem.W.makes_of X hm) (PySem.W.looks_findIn X hi) (fun self => PySem.W.bind_fn X self hf) (.inl rfl) h
end
def zg7 (f : Str) (v : V) : List (Str × V) -> List (Str × V)
  | [] => [(f, v)]
  | (g, x) :: r => if g = f then (g, v) :: r else (g, x) :: zg7 f v r
theorem zfu (f g : Str) (v : V) : ∀ fs : List (Str × V), (zg7 f v fs).lookup g = if g = f then some v else fs.lookup g
  | [] => by
    show List.lookup g [(f, v)] = _
    by_cases h : g = f
    · have hb : (g == f) = true := beq_iff_eq.mpr h
      simp only [List.lookup, hb, if_pos h]
    · have hb : (g == f) = false := beq_eq_false_iff_ne.mpr h
      simp only [List.lookup, hb, if_neg h]
  | (k, x) :: r => by
    have ih := zfu f g v r
    rw [show zg7 f v ((k, x) :: r) = (if k = f then (k, v) :: r else (k, x) :: zg7 f v r) from rfl]
    by_cases hk : k = f
    · rw [if_pos hk]
      by_cases h : g = k
      · have hb : (g == k) = true := beq_iff_eq.mpr h
        simp only [List.lookup, hb, if_pos (h.trans hk)]
      · have hb : (g == k) = false := beq_eq_false_iff_ne.mpr h
        simp only [List.lookup, hb, if_neg (fun e : g = f => h (e.trans hk.symm))]
    · rw [if_neg hk]
      by_cases h : g = k
      · have hb : (g == k) = true := beq_iff_eq.mpr h
        simp only [List.lookup, hb, if_neg (fun e : g = f => hk (h.symm.trans e))]
      · have hb : (g == k) = false := beq_eq_false_iff_ne.mpr h
        simp only [List.lookup, hb]
        exact ih
theorem zfz (f : Str) (v : V) : ∀ fs : List (Str × V), f ∈ (zg7 f v fs).map (·.1) /\ ∀ g, g ∈ fs.map (·.1) -> g ∈ (zg7 f v fs).map (·.1)
  | [] => ⟨by simp [zg7], fun g h => by simp at h⟩
  | (k, x) :: r => by
    obtain ⟨i1, i2⟩ := zfz f v r
    rw [show zg7 f v ((k, x) :: r) = (if k = f then (k, v) :: r else (k, x) :: zg7 f v r) from rfl]
    by_cases hk : k = f
    · rw [if_pos hk]
      subst hk
      exact ⟨by simp, fun g h => by simpa using h⟩
    · rw [if_neg hk]
      refine ⟨?_, fun g h => ?_⟩
      · rw [List.map_cons]
        exact List.mem_cons_of_mem _ i1
      · rw [List.map_cons] at h ⊢
        rcases List.mem_cons.mp h with e | e
        · exact List.mem_cons.mpr (.inl e)
        · exact List.mem_cons_of_mem _ (i2 g e)
theorem zfx (f : Str) (v : V) : ∀ fs : List (Str × V), (zg7 f v fs).length <= fs.length + 1
  | [] => by simp [zg7]
  | (k, x) :: r => by
    have ih := zfx f v r
    rw [show zg7 f v ((k, x) :: r) = (if k = f then (k, v) :: r else (k, x) :: zg7 f v r) from rfl]
    by_cases hk : k = f
    · rw [if_pos hk, List.length_cons, List.length_cons]; omega
    · rw [if_neg hk, List.length_cons, List.length_cons]; omega
theorem zjQ.some_of {v : V} {o : Option Value} (r : zjQ (some v) o) : ∃ u, o = some u /\ zbJ v u := by
  cases o with
  | none => exact (show False from r).elim
  | some u => exact ⟨u, rfl, r⟩
theorem zhD {v : V} {u : Value} (r : zbJ v u) : PySem.W.handedIn u = true := by
  cases v with
  | non => cases (show u = Value.none from r); rfl
  | bl b => cases (show u = Value.bool b from r); rfl
  | int i => obtain ⟨t, e⟩ := (show ∃ t, u = Value.int i t from r); cases e; rfl
  | str x => obtain ⟨t, e⟩ := (show ∃ t, u = Value.str x t from r); cases e; rfl
  | byt b => obtain ⟨t, e⟩ := (show ∃ t, u = Value.bytes b t from r); cases e; rfl
  | flt b => obtain ⟨t, e⟩ := (show ∃ t, u = Value.float b t from r); cases e; rfl
  | ref a => cases (show u = Value.ref a from r); rfl
  | ty n => cases (show u = Value.type n from r); rfl
section
variable {P : Program} {w : World} {H H' : Hp} {h h' : Heap} {a C dx : Addr} {fs fs' : List (Str × V)}
theorem zil (hok : HOk P w H h) (e : H a = some (.ins C dx fs)) : ∃ mA, ObjM h a dx C mA /\ (∀ f, zjQ (fs.lookup f) (mA f)) /\ PySem.Within mA (fs.map (·.1)) /\ fs.length <= 1000 /\ H dx = some (.own a) := by
  obtain ⟨d, z, ne, ob, mA, n, r, q⟩ := (show zbB P w H h a (.ins C dx fs) from hok a _ e)
  exact ⟨mA, ⟨ob, n, ne⟩, r, q, z, d⟩
end
structure Cls (K : PySem.W.Frag) (C : Addr) : Prop where
  pg : PySem.W.plainGet K C Str.empty = true
  hd : PySem.W.hasDictIn K C = true
  po : PySem.W.plainOver K C = true
  sa : PySem.W.findIn K (.ref C) "__setattr__" = some (some (.builtin "object.__setattr__"))
theorem Cls.get {K : PySem.W.Frag} {C : Addr} (c : Cls K C) (f : Str) : PySem.W.plainGet K C f = true := c.pg
def zdM (K : PySem.W.Frag) (C : Addr) (f : Str) : Prop := PySem.W.findIn K (.ref C) f = some none
theorem zdM.taker {K : PySem.W.Frag} {C : Addr} {f : Str} (n : zdM K C f) : PySem.W.takerIn K C f = some none := by
  unfold PySem.W.takerIn
  rw [show PySem.W.findIn K (.ref C) f = some none from n]
  rfl
structure Con (K : PySem.W.Frag) (C : Addr) (f : Str) (v : V) (u : Value) : Prop where
  at_ : PySem.W.findIn K (.ref C) f = some (some u)
  rel : zbJ v u
  get : PySem.W.specialIn K u "__get__" = some none
  cp : PySem.W.copiedNames.contains f = false
structure Meth (K : PySem.W.Frag) (C : Addr) (m : Str) (f : Addr) : Prop where
  at_ : PySem.W.findIn K (.ref C) m = some (some (.ref f))
  fn : PySem.W.isFn K (.ref f) = true
  kp : PySem.W.keepIn K (.ref f) = true
section
variable {X : Cx} {pins : List (Addr × Obj)} {σ : St} {H : Hp} {s : Shared} {a C dx : Addr} {fs : List (Str × V)} {f : Str} {v : V} {A : Around} {E : Value -> Shared -> Prop}
theorem zjF {b : Bool} {Q : Value -> Shared -> Prop} (I : Inv X pins σ H s) (e : H a = some (.ins C dx fs)) (c : Cls X.K C) (n : zdM X.K C f) (l : fs.lookup f = some v)
    (h : ∀ u s', Inv X pins σ H s' -> zbJ v u -> Q u s') : wpAny (model X.prog X.w) A (getAttr (.ref a) f b) Q E s := by
  obtain ⟨mA, O, r, _, _, _⟩ := zil I.hok e
  obtain ⟨u, hu, ru⟩ := zjQ.some_of (v := v) (o := mA f) (by rw [← l]; exact r f)
  exact znR I.kIn O (c.get f) c.hd n hu (zhD ru) (h u _ (I.tok _) ru)
theorem zjl {y : V} {u : Value} {Q : Unit -> Shared -> Prop} (I : Inv X pins σ H s) (e : H a = some (.ins C dx fs)) (c : Cls X.K C) (n : zdM X.K C f) (hl : fs.length < 1000) (ry : zbJ y u)
    (h : ∀ s', Inv X pins σ (upd H a (.ins C dx (zg7 f y fs))) s' -> Q () s') : wpAny (model X.prog X.w) A (setAttr (.ref a) f u) Q E s := by
  obtain ⟨mA, O, r, wi, _, ho⟩ := zil I.hok e
  have hz : (fs.map (·.1)).length <= sizeLine := by rw [List.length_map, sizeLine_eq]; omega
  refine znf I.kIn O c.sa c.po n.taker c.hd wi hz fun h' O' sb => h _ ?_
  have hd : ∃ o, h'.get? dx = some o := let ⟨o, _, _, e', _⟩ := O'.ns; ⟨o, e'⟩
  refine I.write (x := a) (e := dx) (by rw [e]; exact True.intro) (.inr ho) (fun b q hb z => (sb.2 b hb).trans z) hd ?_
  refine ⟨by rw [zas O.ne]; exact ho, ?_, O.ne, O'.obj, _, O'.ns, fun g => ?_, fun g hg => ?_⟩
  · have := zfx f y fs; omega
  · show zjQ ((zg7 f y fs).lookup g) (if g = f then some u else mA g)
    rw [zfu]
    by_cases q : g = f
    · rw [if_pos q, if_pos q]; exact ry
    · rw [if_neg q, if_neg q]; exact r g
  · by_cases q : g = f
    · rw [q]; exact (zfz f y fs).1
    · refine (zfz f y fs).2 g (wi g fun z => hg ?_)
      show (if g = f then some u else mA g) = none
      rw [if_neg q]; exact z
theorem Inv.made (I : Inv X pins σ H s) : Inv X pins σ (upd (upd H s.heap.objs.size (.own (s.heap.objs.size + 1))) (s.heap.objs.size + 1) (.ins C s.heap.objs.size []))
    { s with heap := (s.heap.push PySem.W.emptyDict).push (PySem.W.instObj C s.heap.objs.size) } := by
  have e1 : (s.heap.push PySem.W.emptyDict).get? s.heap.objs.size = some PySem.W.emptyDict := Heap.get?_push_size s.heap rfl
  have e2 : ((s.heap.push PySem.W.emptyDict).push (PySem.W.instObj C s.heap.objs.size)).get? (s.heap.objs.size + 1) = some (PySem.W.instObj C s.heap.objs.size) := by
    have := Heap.get?_push_size (s.heap.push PySem.W.emptyDict) (o := PySem.W.instObj C s.heap.objs.size) rfl
    rwa [Heap.size_push] at this
  have e3 : (s.heap.push PySem.W.emptyDict).Ns s.heap.objs.size (fun _ => none) := ⟨PySem.W.emptyDict, #[], _, e1, rfl, (fun e he => absurd he (by simp)), fun _ => rfl⟩
  have I1 := I.laid (a := s.heap.objs.size) (o := .own (s.heap.objs.size + 1)) (h' := s.heap.push PySem.W.emptyDict) (t' := s.toks) (fun b u q => Heap.get?_push_of_some _ q) (Nat.le_refl _) ⟨_, e1⟩
  refine I1.laid (a := s.heap.objs.size + 1) (o := .ins C s.heap.objs.size []) (t' := s.toks) (fun b u q => Heap.get?_push_of_some _ q) (Nat.le_of_eq (Heap.size_push _ _)) ?_
  have ne : s.heap.objs.size ≠ s.heap.objs.size + 1 := Nat.ne_of_lt (Nat.lt_succ_self _)
  refine ⟨by rw [zas ne, zaw], Nat.zero_le _, ne, e2, fun _ => none, (Heap.Ns1.of_empty e3).at fun o q => Heap.get?_push_of_some _ q, fun _ => True.intro, fun y hy => absurd rfl hy⟩
theorem zlo {prog : Program} {w : World} {env : Env} {e : Expr} {f : Str} {pos : Pos} {s : Shared} {Q : Value -> Shared -> Prop} (hb : attributeBase e f env (eval e env) = eval e env)
    (h : wpAny (model prog w) A (eval e env) (fun o s₁ => wpAny (model prog w) A (getAttr o f true) Q E s₁) E s) : wpAny (model prog w) A (eval (.Attribute e f pos) env) Q E s :=
  Attribute_any_ h (by rw [arm_eval_Attribute, hb])
end
def zrB (K : PySem.W.Frag) (ta : TE) (f : Str) : TE := fun σ H Q => ta σ H fun x H1 => ∃ a C dx fs v, x = .ref a /\ H1 a = some (.ins C dx fs) /\ Cls K C /\ zdM K C f /\ fs.lookup f = some v /\ Q v H1
def zrE (K : PySem.W.Frag) (ta tv : TE) (f : Str) : TS := fun D σ H => tv σ H fun y H1 => ta σ H1 fun x H2 => ∃ a C dx fs, x = .ref a /\ H2 a = some (.ins C dx fs) /\ Cls K C /\ zdM K C f /\ fs.length < 1000 /\
  D.nx σ (upd H2 a (.ins C dx (zg7 f y fs)))
section
variable {X : Cx} {o e value : Expr} {f : Str} {pos pos' tpos : Pos} {ta tv : TE}
theorem zmO (he : PE X e ta) (hb : attributeBase e f X.env (eval e X.env) = eval e X.env) : PE X (.Attribute e f pos) (zrB X.K ta f) := by
  intro pins s σ H Q I h
  refine zlo hb (thn (he pins s σ H _ I h) fun u s1 ⟨x, H1, I1, rx, a, C, dx, fs, v, ex, ea, c, n, l, q⟩ => ?_)
  subst ex
  obtain rfl : u = Value.ref a := rx
  exact zjF I1 ea c n l fun u' s2 I2 ru => ⟨v, H1, I2, ru, q⟩
theorem zmK (ha : PE X o ta) (hv : PE X value tv) (hs : swapsWith value (some (.Attribute o f pos')) pos.line X.env = pure false) : PS X (.Assign [.Attribute o f pos'] value pos) (zrE X.K ta tv f) := by
  intro pins s σ H D I h
  refine plainObj_wpAny_Assign_Attribute (thn (hv pins s σ H _ I h) fun u s1 ⟨y, H1, I1, ry, q⟩ => thn (ha pins s1 σ H1 _ I1 q) fun ov s2 ⟨x, H2, I2, rx, a, C, dx, fs, ex, ea, c, n, l, q2⟩ => ?_) hs
  subst ex
  obtain rfl : ov = Value.ref a := rx
  exact zjl I2 ea c n l ry fun s3 I3 => ⟨σ, _, I3, q2⟩
end
section
variable {X : Cx} {pins : List (Addr × Obj)} {σ : St} {H : Hp} {s : Shared} {A : Around} {E : Value -> Shared -> Prop} {Q : Value -> Shared -> Prop} {c : Value} {b : Bool}
inductive TyOf (K : PySem.W.Frag) (H : Hp) : V -> Value -> Prop where
  | non : TyOf K H .non (.type "NoneType")
  | bl (x : Bool) : TyOf K H (.bl x) (.type "bool")
  | int (i : Int) : TyOf K H (.int i) (.type "int")
  | str (x : Str) : TyOf K H (.str x) (.type "str")
  | flt (x : UInt64) : TyOf K H (.flt x) (.type "float")
  | lst {a : Addr} {xs : List V} (e : H a = some (.lst xs)) : TyOf K H (.ref a) (.type "list")
  | frz {a : Addr} {o : Obj} {xs : List V} (e : H a = some (.frz o (.lst xs))) : TyOf K H (.ref a) (.type "list")
  | tup {a : Addr} {xs : List V} (e : H a = some (.tup xs)) : TyOf K H (.ref a) (.type "tuple")
  | dK {a : Addr} {kvs : List (Key × V)} (e : H a = some (.dK kvs)) : TyOf K H (.ref a) (.type "dict")
  | dT {a : Addr} {kvs : List (List Key × V)} (e : H a = some (.dT kvs)) : TyOf K H (.ref a) (.type "dict")
  | ins {a C dx : Addr} {fs : List (Str × V)} (e : H a = some (.ins C dx fs)) (cl : Cls K C) (ha : PySem.W.findIn K (.ref C) "__class__" = some (some (.builtin "object.__class__")))
      (hn : PySem.W.specialIn K (.builtin "object.__class__") "__get__" = some (some (.builtin "getset_descriptor.__get__"))) (htk : PySem.W.takesIn K (.builtin "object.__class__") = some true)
      (hm : PySem.W.mroIn K C (.type "object") = some true) : TyOf K H (.ref a) (.ref C)
theorem zkP {x : V} {u t : Value} (I : Inv X pins σ H s) (rx : zbJ x u) (ty : TyOf X.K H x t) (e : PySem.W.kitOne X.K t c = some b) (h : ∀ tk, Q (.bool b) { s with toks := tk }) :
    wpAny (model X.prog X.w) A (call (.builtin "isinstance") [u, c]) Q E s := by
  cases ty with
  | non => cases (show u = Value.none from rx); exact PySem.W.kia_one PySem.W.kitx_none I.kIn True.intro e (fun z => nomatch z) h
  | bl y => cases (show u = Value.bool y from rx); exact PySem.W.kia_one PySem.W.kitx_bool I.kIn True.intro e (fun z => nomatch z) h
  | int i => obtain ⟨t, q⟩ := (show ∃ t, u = Value.int i t from rx); cases q; exact PySem.W.kia_one PySem.W.kitx_int I.kIn True.intro e (fun z => nomatch z) h
  | str y => obtain ⟨t, q⟩ := (show ∃ t, u = Value.str y t from rx); cases q; exact PySem.W.kia_one PySem.W.kitx_str I.kIn True.intro e (fun z => nomatch z) h
  | flt y => obtain ⟨t, q⟩ := (show ∃ t, u = Value.float y t from rx); cases q; exact PySem.W.kia_one PySem.W.kitx_float I.kIn True.intro e (fun z => nomatch z) h
  | @lst a xs ea =>
    cases (show u = Value.ref a from rx)
    obtain ⟨_, _, n, _, h1⟩ := (show zbB X.prog X.w H s.heap a (.lst xs) from I.hok a _ ea)
    exact PySem.W.kia_one PySem.W.kitx_list I.kIn ⟨_, h1, rfl⟩ e (fun z => nomatch z) h
  | @frz a ob xs ea =>
    cases (show u = Value.ref a from rx)
    obtain ⟨_, _, _, n, _, h1⟩ := (show zbB X.prog X.w H s.heap a (.frz ob (.lst xs)) from I.hok a _ ea)
    exact PySem.W.kia_one PySem.W.kitx_list I.kIn ⟨_, h1, rfl⟩ e (fun z => nomatch z) h
  | @tup a xs ea =>
    cases (show u = Value.ref a from rx)
    obtain ⟨_, _, _, p⟩ := (show zbB X.prog X.w H s.heap a (.tup xs) from I.hok a _ ea)
    obtain ⟨o, h1, h2, _⟩ := p
    exact PySem.W.kia_one PySem.W.kitx_tuple I.kIn ⟨o, h1, h2⟩ e (fun z => nomatch z) h
  | @dK a kvs ea =>
    cases (show u = Value.ref a from rx)
    obtain ⟨_, _, vs, _, p⟩ := (show zbB X.prog X.w H s.heap a (.dK kvs) from I.hok a _ ea)
    obtain ⟨o, es, ep, h1, h2, _⟩ := p
    exact PySem.W.kia_one PySem.W.kitx_dict I.kIn ⟨o, h1, h2.1⟩ e (fun z => nomatch z) h
  | @dT a kvs ea =>
    cases (show u = Value.ref a from rx)
    obtain ⟨_, _, xs, _, o, es, ep, h1, h2, _⟩ := (show zbB X.prog X.w H s.heap a (.dT kvs) from I.hok a _ ea)
    exact PySem.W.kia_one PySem.W.kitx_dict I.kIn ⟨o, h1, h2.1⟩ e (fun z => nomatch z) h
  | @ins a C dx fs ea cl ha hn htk hm =>
    cases (show u = Value.ref a from rx)
    obtain ⟨mA, O, _⟩ := zil I.hok ea
    obtain ⟨od, J, _⟩ := O.look
    exact PySem.W.kia_one (PySem.W.kitx_own (cl.get _) cl.hd ha hn htk hm) I.kIn J e (fun z => nomatch z) h
end
end L2
namespace L2
open PySem PySem.Spec PyProof.Rows
structure Room (k : Nat) (A : Around) : Prop where
  hd : A.handled = none
  dp : A.depth + 3 * k + 5 < recursionLimit
  un : A.units + 16 * k + 200 < cLine
theorem Room.mono {j k : Nat} {A : Around} (r : Room k A) (h : j <= k) : Room j A := ⟨r.hd, by have := r.dp; omega, by have := r.un; omega⟩
theorem Room.deeper {k : Nat} {A : Around} (r : Room (k + 1) A) (env : Env) : Room k (A.deeper env) :=
  ⟨r.hd, by have := r.dp; show A.depth + 1 + 3 * k + 5 < _; omega, by have := r.un; show A.units + 3 + 16 * k + 200 < _; omega⟩
theorem zjy {A : Around} {C : Addr} {us : List Value} {kw : List (Str × Value)} : (A.under (.builtin "type.__call__" ⟨.ref C :: us, kw⟩)).depth = A.depth + 1 := by
  first | rfl | simp [Around.under, Code.weight, Code.isCreation, Code.isGuard, Code.isCaller, Code.frames, Code.isFrame, guardIds]
theorem zjx {A : Around} {C : Addr} {us : List Value} {kw : List (Str × Value)} : (A.under (.builtin "type.__call__" ⟨.ref C :: us, kw⟩)).units = A.units + 1 := by
  first | rfl | simp [Around.under, Code.cUnits, Code.frames, Code.isFrame]
theorem Room.make {k : Nat} {A : Around} (r : Room (k + 1) A) (C : Addr) (us : List Value) (kw : List (Str × Value)) : Room k (A.under (.builtin "type.__call__" ⟨.ref C :: us, kw⟩)) :=
  ⟨r.hd, by have := r.dp; rw [zjy]; omega, by have := r.un; rw [zjx]; omega⟩
theorem Room.depth {k : Nat} {A : Around} (r : Room k A) : A.depth < recursionLimit := by have := r.dp; omega
def zrw : TA := fun _ H Q => Q [] H
def zqd (ta : TE) (tr : TA) : TA := fun σ H Q => ta σ H fun x H1 => tr σ H1 fun xs H2 => Q (x :: xs) H2
section
variable {X : Cx} {e : Expr} {es : List Expr} {te : TE} {t : TA} {pos : Pos}
theorem zdK : PA X [] zrw := fun _ _ _ _ H Q I h => Calls.spliced_nil ⟨[], H, I, .nil, h⟩
theorem zbq (ha : PE X e te) (hr : PA X es t) (hs : starEach (e :: es) X.env = (false, eval e X.env) :: starEach es X.env := by rfl) : PA X (e :: es) (zqd te t) := by
  intro pos pins s σ H Q I h
  rw [hs]
  show wpAny _ _ (spliced ((false, eval e X.env) :: backTo pos (starEach es X.env))) _ _ s
  refine Calls.spliced_cons (thn (ha pins s σ H _ I h) fun u s1 ⟨x, H1, I1, r1, q1⟩ => ?_)
  exact thn (hr pos pins s1 σ H1 _ I1 q1) fun us s2 ⟨xs, H2, I2, r2, q2⟩ => ⟨x :: xs, H2, I2, .cons r1 r2, q2⟩
def zrs (t : TA) : TE := fun σ H Q => t σ H fun xs H1 => xs.length <= sizeLine /\ ∀ p, H1 p = none -> Q (.ref p) (upd H1 p (.tup xs))
def zrx (t : TA) : TE := fun σ H Q => t σ H fun xs H1 => xs.length <= sizeLine /\ ∀ p, H1 p = none -> Q (.ref p) (upd H1 p (.lst xs))
theorem zmL {x1} (h : PA X es t) : PE X (.Tuple es x1 pos) (zrs t) := by
  intro pins s σ H Q I hq
  refine wpAny_Tuple_spliced (thn (h pos pins s σ H _ I hq) fun us s1 ⟨xs, H1, I1, r, z, q⟩ => ⟨by rw [← r.length]; exact z, ?_⟩)
  have hf : H1 s1.heap.objs.size = none := I1.hok.fresh (Nat.le_refl _)
  refine ⟨.ref s1.heap.objs.size, upd H1 s1.heap.objs.size (.tup xs), I1.laid (t' := s1.toks) (fun b u e => Heap.get?_push_of_some _ e) (Nat.le_refl _) ?_, rfl, q _ hf⟩
  exact ⟨z, us, r, ⟨_, Heap.get?_push_size _ rfl, rfl, _, rfl⟩⟩
theorem zoX (h : PA X es t) : PE X (.List es pos) (zrx t) := by
  intro pins s σ H Q I hq
  refine wpAny_List_spliced (thn (h pos pins s σ H _ I hq) fun us s1 ⟨xs, H1, I1, r, z, q⟩ => ⟨by rw [← r.length]; exact z, ?_⟩)
  have hf : H1 s1.heap.objs.size = none := I1.hok.fresh (Nat.le_refl _)
  refine ⟨.ref s1.heap.objs.size, upd H1 s1.heap.objs.size (.lst xs), I1.laid (t' := s1.toks) (fun b u e => Heap.get?_push_of_some _ e) (Nat.le_refl _) ?_, rfl, q _ hf⟩
  exact ⟨z, us, 0, r, Heap.get?_push_size _ rfl⟩
end
abbrev Sp := List V -> Hp -> VK -> XK -> Prop
abbrev CXT := List Env -> Hp -> Shared -> XK -> Value -> Shared -> Prop
structure Env0 (P : Program) (w : World) (K : PySem.W.Frag) (mg : Str -> Option Value) (base : Heap) (A : Around) (outer : List Env) (s : Shared) (H : Hp) : Prop where
  frames : A.frames = some outer
  mod : Mod K mg base
  bs : ∀ b o, base.get? b = some o -> s.heap.get? b = some o /\ H b = none
  bsz : base.objs.size <= s.heap.objs.size
  funs : s.heap.FunFrames base outer
  frf : ∀ b ∈ frs outer, H b = none
  hok : HOk P w H s.heap
  bare : AllBare s.gens
def CE (outer : List Env) (P : Program) (w : World) (H : Hp) (s : Shared) (Q : VK) (u : Value) (s' : Shared) : Prop :=
  ∃ v H', s'.os = s.os /\ AllBare s'.gens /\ Un (frs outer) [] H H' s.heap s'.heap /\ HOk P w H' s'.heap /\ zbJ v u /\ Q v H'
def CR (CX : CXT) (outer : List Env) (P : Program) (w : World) (H : Hp) (s : Shared) (Q : VK) (E : XK) (r : Result) (s' : Shared) : Prop :=
  match r with
  | .ok (.ret u) => CE outer P w H s Q u s'
  | .ok _ => False
  | .error e => CX outer H s E e s'
structure FnOk (P : Program) (w : World) (K : PySem.W.Frag) (mg : Str -> Option Value) (base : Heap) (CX : CXT) (k : Nat) (f : Addr) (fd : FuncData) (ps : List Str) (sp : Sp) : Prop where
  len : ∀ vs H Q E, sp vs H Q E -> vs.length = ps.length
  run : ∀ (A : Around) (outer : List Env) (s : Shared) (H : Hp) (args : Args) (us : List Value) (vs : List V) (Q : VK) (E : XK), Room k A -> Env0 P w K mg base A outer s H -> BindsTo s fd args (ps.zip us) -> zbC vs us -> sp vs H Q E ->
    codeAny (model P w) A (.call (.ref f) args) (CR CX outer P w H s Q E) s
theorem FnOk.imp {P : Program} {w : World} {K : PySem.W.Frag} {mg : Str -> Option Value} {base : Heap} {CX : CXT} {k : Nat} {f : Addr} {fd : FuncData} {ps : List Str} {sp sp' : Sp} (F : FnOk P w K mg base CX k f fd ps sp)
    (h : ∀ vs H Q E, sp' vs H Q E -> sp vs H Q E) : FnOk P w K mg base CX k f fd ps sp' :=
  ⟨fun vs H Q E q => F.len vs H Q E (h _ _ _ _ q), fun A outer s H args us vs Q E hr he hb hv hs => F.run A outer s H args us vs Q E hr he hb hv (h _ _ _ _ hs)⟩
theorem Env0.make {P : Program} {w : World} {K : PySem.W.Frag} {mg : Str -> Option Value} {base : Heap} {A : Around} {outer : List Env} {s : Shared} {H : Hp} (e : Env0 P w K mg base A outer s H) (C : Addr) (us : List Value) (kw : List (Str × Value)) :
    Env0 P w K mg base (A.under (.builtin "type.__call__" ⟨.ref C :: us, kw⟩)) outer s H := ⟨by first | exact e.frames | (simpa [Around.under, Code.envs, Code.isFrame, pushEnvs] using e.frames), e.mod, e.bs, e.bsz, e.funs, e.frf, e.hok, e.bare⟩
section
variable {X : Cx} {pins : List (Addr × Obj)} {σ : St} {H : Hp} {s s' : Shared}
theorem Inv.env0 (I : Inv X pins σ H s) : Env0 X.prog X.w X.K X.mg X.base X.A X.stack s H :=
  ⟨I.ok.frames, I.ok.mod, I.bs, Nat.le_trans I.ok.bsz I.sz, I.stack, I.stkFree, I.hok, I.bare⟩
theorem Inv.after {Q : VK} {u : Value} (I : Inv X pins σ H s) (h : CE X.stack X.prog X.w H s Q u s') : EP X pins σ Q u s' := by
  obtain ⟨v, H', os, bare, un, hok, r, q⟩ := h
  obtain ⟨hh, g, d, t, os'⟩ := s'
  obtain rfl : os' = s.os := os
  exact ⟨v, H', I.call (h' := hh) (g' := g) (d' := d) (t' := t) (ch := []) un hok bare (fun b z => absurd z (by simp)), r, q⟩
end
def zqe (sp : Sp) (dvs : List V) (E : XK) (t : TA) : TE := fun σ H Q => t σ H fun vs H1 => sp (vs ++ dvs) H1 Q E
def zcZ (K : PySem.W.Frag) (fd : FuncData) (ps : List Str) (ds : List Value) : Prop :=
  ∀ (s : Shared) (us : List Value), K.In s.heap -> (us ++ ds).length = ps.length -> BindsTo s fd ⟨us, []⟩ (ps.zip (us ++ ds))
theorem zcZ.all {K : PySem.W.Frag} {fd : FuncData} {ps : List Str} (h : ∀ us : List Value, us.length = ps.length -> bindArgs fd ⟨us, []⟩ = pure (ps.zip us)) : zcZ K fd ps [] := fun s us _ hl => by
  rw [List.append_nil] at hl ⊢
  exact .of_eq (h us hl)
def zlv (CX : CXT) (X : Cx) (E : XK) : Prop := ∀ (pins : List (Addr × Obj)) (σ : St) (H : Hp) (s : Shared) (e : Value) (s' : Shared), Inv X pins σ H s -> CX X.stack H s E e s' -> X.xe e s'
section
variable {X : Cx} {CX : CXT} {k : Nat} {f C : Addr} {fd : FuncData} {ps : List Str} {sp : Sp} {dvs : List V} {ds : List Value} {E : XK} {x m : Str} {p pos apos : Pos} {e o : Expr} {es : List Expr} {ta : TE} {t : TA}
theorem zoD {pins : List (Addr × Obj)} {σ : St} {H : Hp} {s : Shared} {Q : VK} {us : List Value} {vs : List V} (F : FnOk X.prog X.w X.K X.mg X.base CX k f fd ps sp) (hr : Room k X.A) (hb : zcZ X.K fd ps ds) (hd : zbC dvs ds) (hx : zlv CX X E)
    (I : Inv X pins σ H s) (r : zbC vs us) (h : sp (vs ++ dvs) H Q E) : wpAny (model X.prog X.w) X.A (call (.ref f) us) (EP X pins σ Q) X.xe s := by
  have r2 : zbC (vs ++ dvs) (us ++ ds) := r.append hd
  have hl : (us ++ ds).length = ps.length := by rw [← r2.length]; exact F.len _ _ _ _ h
  refine wpAny_call (codeAny_mono (F.run X.A X.stack s H ⟨us, []⟩ (us ++ ds) (vs ++ dvs) Q E hr I.env0 (hb s us I.kIn hl) r2 h) fun r s' hq => ?_)
  cases r with
  | error e => exact hx pins σ H s e s' I hq
  | ok fl =>
    cases fl with
    | ret u => exact I.after hq
    | next => exact False.elim hq
    | brk => exact False.elim hq
    | cont => exact False.elim hq
theorem znz (F : FnOk X.prog X.w X.K X.mg X.base CX k f fd ps sp) (hr : Room k X.A) (hg : Gl X x) (hm : X.mg x = some (.ref f)) (hk : PySem.W.keepIn X.K (.ref f) = true) (hb : zcZ X.K fd ps ds) (hd : zbC dvs ds) (hx : zlv CX X E)
    (ha : PA X (e :: es) t) (hdb : (x == ("__debug__" : Str)) = false := by decide) (he : starEach (e :: es) X.env = (false, eval e X.env) :: starEach es X.env := by rfl) (hpl : (backTo pos (starEach es X.env)).any (·.1) = false := by rfl) :
    PE X (.Call (.Name x p) (e :: es) [] pos) (zqe sp dvs E t) := by
  intro pins s σ H Q I h
  refine wpAny_Call_Name_kw (zeG I hg hm ?_ hdb)
  refine PySem.W.callWith_K (h₀ := X.base) I.ok.mod.kin hk (thn (ha pos pins s σ H _ I h) fun us s1 ⟨vs, H1, I1, r, q⟩ => ⟨I1.kIn, ?_⟩) he hpl
  exact zoD F hr hb hd hx I1 r q
structure Mk (K : PySem.W.Frag) (C f : Addr) : Prop where
  makes : PySem.W.makesIn K C = true
  init : PySem.W.findIn K (.ref C) "__init__" = some (some (.ref f))
  fn : PySem.W.isFn K (.ref f) = true
  kp : PySem.W.keepIn K (.ref C) = true
end
section
variable {X : Cx} {CX : CXT} {k : Nat} {f C : Addr} {fd : FuncData} {ps ks : List Str} {sp : Sp} {E : XK} {x m : Str} {p pos apos kpos : Pos} {e o : Expr} {es : List Expr} {kws : List Keyword} {te ta : TE} {t tk : TA} {nm : Option Str}
structure KBinds (K : PySem.W.Frag) (fd : FuncData) (ps ks : List Str) (g : List Value -> List Value -> List Value) (gV : List V -> List V -> List V) : Prop where
  to : ∀ (s : Shared) (us ws : List Value), K.In s.heap -> (g us ws).length = ps.length -> BindsTo s fd ⟨us, ks.zip ws⟩ (ps.zip (g us ws))
  rel : ∀ {vs : List V} {us : List Value} {zs : List V} {ws : List Value}, zbC vs us -> zbC zs ws -> zbC (gV vs zs) (g us ws)
variable {g : List Value -> List Value -> List Value} {gV : List V -> List V -> List V}
end
structure FnScope (N P : List Str) (sc : Scope) : Prop where
  kind : sc.kind = .function
  co : sc.isCoroutine = false
  gen : sc.isGenerator = false
  nd : N.Nodup
  pre : N.take P.length = P
  par : ∀ x ∈ P, sc.names.lookup x = some .local \/ sc.names.lookup x = some .cell
  nofree : ∀ y ∈ sc.names, y.2 ≠ .free
theorem zhX {kindOf : Str -> Option NameKind} {x : Str} : ∀ {binds : List (Str × Value)} {m : Str -> Option Value}, (∀ v, (x, v) ∉ binds) -> bindL kindOf binds m x = m x
  | [], _, _ => rfl
  | (n, v) :: r, m, h => by
    unfold bindL
    rw [zhX fun w hw => h w (List.mem_cons_of_mem _ hw)]
    split
    · have : x ≠ n := by rintro rfl; exact h v List.mem_cons_self
      simp [this]
    · rfl
theorem zhZ {kindOf : Str -> Option NameKind} {x : Str} : ∀ {binds : List (Str × Value)} {m : Str -> Option Value}, (∀ v, (x, v) ∉ binds) -> bindC kindOf binds m x = m x
  | [], _, _ => rfl
  | (n, v) :: r, m, h => by
    unfold bindC
    rw [zhZ fun w hw => h w (List.mem_cons_of_mem _ hw)]
    split
    · rfl
    · have : x ≠ n := by rintro rfl; exact h v List.mem_cons_self
      simp [this]
theorem zhY {kindOf : Str -> Option NameKind} {x : Str} {v : Value} : ∀ {P : List Str} {vs : List Value} {i : Nat} {m : Str -> Option Value}, P.Nodup -> P[i]? = some x -> vs[i]? = some v -> kindOf x = some .local ->
    bindL kindOf (P.zip vs) m x = some v
  | [], _, _, _, _, h, _, _ => by simp at h
  | _ :: _, [], _, _, _, _, h, _ => by simp at h
  | p :: P, w :: vs, 0, m, nd, h1, h2, hk => by
    simp at h1 h2; subst h1; subst h2
    show bindL kindOf ((p, w) :: P.zip vs) m p = _
    unfold bindL
    rw [zhX fun v hv => (List.nodup_cons.mp nd).1 (List.of_mem_zip hv).1, if_pos hk]
    simp
  | p :: P, w :: vs, i + 1, m, nd, h1, h2, hk => by
    show bindL kindOf ((p, w) :: P.zip vs) m x = _
    unfold bindL
    exact zhY (i := i) (List.nodup_cons.mp nd).2 (by simpa using h1) (by simpa using h2) hk
theorem zh0 {kindOf : Str -> Option NameKind} {x : Str} {v : Value} : ∀ {P : List Str} {vs : List Value} {i : Nat} {m : Str -> Option Value}, P.Nodup -> P[i]? = some x -> vs[i]? = some v -> kindOf x ≠ some .local ->
    bindC kindOf (P.zip vs) m x = some v
  | [], _, _, _, _, h, _, _ => by simp at h
  | _ :: _, [], _, _, _, _, h, _ => by simp at h
  | p :: P, w :: vs, 0, m, nd, h1, h2, hk => by
    simp at h1 h2; subst h1; subst h2
    show bindC kindOf ((p, w) :: P.zip vs) m p = _
    unfold bindC
    rw [zhZ fun v hv => (List.nodup_cons.mp nd).1 (List.of_mem_zip hv).1, if_neg hk]
    simp
  | p :: P, w :: vs, i + 1, m, nd, h1, h2, hk => by
    show bindC kindOf ((p, w) :: P.zip vs) m x = _
    unfold bindC
    exact zh0 (i := i) (List.nodup_cons.mp nd).2 (by simpa using h1) (by simpa using h2) hk
def zeb (N : List Str) (vs : List V) : St := vs.map some ++ List.replicate (N.length - vs.length) none
def zgW (CX : CXT) (P : Program) (w : World) (K : PySem.W.Frag) (mg : Str -> Option Value) (base : Heap) (N : List Str) (qual : Str) (scope : Scope) (f : Addr) (cd : Value) (A : Around) (outer : List Env) (s : Shared) (H : Hp) (E : XK) : Cx where
  prog := P
  w := w
  K := K
  mg := mg
  base := base
  A := A.deeper (envOfC qual scope s.heap.objs.size f cd)
  N := N
  s₀ := s
  H₀ := H
  env := envOfC qual scope s.heap.objs.size f cd
  outer := outer
  stack := envOfC qual scope s.heap.objs.size f cd :: outer
  ex := []
  calm := true
  fn := fun _ => true
  pn := []
  xe := fun e s' => wpAny (model P w) (A.deeper (envOfC qual scope s.heap.objs.size f cd)) (leaving (envOfC qual scope s.heap.objs.size f cd) e) (fun _ s'' => CX outer H s E e s'') (fun e' s'' => CX outer H s E e' s'') s'
theorem zjb {sc : Scope} {n : Nat} {x : Str} (h : sc.names.lookup x = some .cell) : ∃ c, (cellsFrom n sc.names []).lookup x = some c := by
  have q := PySem.W.cellsFrom_some sc.names n [] (.inl h)
  exact Option.isSome_iff_exists.mp q
theorem zkR {CX : CXT} {P : Program} {w : World} {K : PySem.W.Frag} {mg : Str -> Option Value} {base : Heap} {N ps : List Str} {qual : Str} {scope : Scope} {f : Addr} {cd : Value} {A : Around} {outer : List Env} {s s1 : Shared} {H : Hp} {E : XK} {us : List Value} {vs : List V}
    (S : FnScope N ps scope) (hd : A.handled = none) (e0 : Env0 P w K mg base A outer s H) (hl : vs.length = ps.length) (r : zbC vs us)
    (x : InCallC s s.heap.objs.size (bindL (envOfC qual scope s.heap.objs.size f cd).kindOf (ps.zip us) fun _ => none) (cellsFrom (s.heap.objs.size + 1) scope.names []) (bindC (envOfC qual scope s.heap.objs.size f cd).kindOf (ps.zip us) fun _ => none) s1) :
    Inv (zgW CX P w K mg base N qual scope f cd A outer s H E) [] (zeb N vs) H s1 := by
  have hpl : ps.length <= N.length := by have := congrArg List.length S.pre; rw [List.length_take] at this; omega
  obtain ⟨h1, tk, rfl, hk⟩ := x.done
  have noA : ∀ b : Addr, b ∉ (zgW CX P w K mg base N qual scope f cd A outer s H E).ex := fun b z => absurd (show b ∈ ([] : List Addr) from z) (by simp)
  refine ⟨⟨e0.mod, S.kind, rfl, rfl, Nat.le_refl _, fun y z c h1 h2 => ?_, fun y hy => ?_, fun y c _ h => ?_, fun _ => hd, Around.frames_deeper e0.frames, .inr ⟨rfl, rfl⟩, fun b z => absurd z (noA b), e0.bs, e0.bsz, fun b _ _ => noA b, fun b z => absurd z (noA b), e0.funs, e0.frf⟩,
    rfl, e0.bare, Un.kept hk, ⟨_, x.toInCall.ns, fun i y v h1 h2 h3 => ?_⟩, fun y c h => ⟨_, x.cell y c h⟩, e0.hok.fresh (Nat.le_refl _), fun y c h => ?_, fun p hp => absurd (show p ∈ ([] : List (Addr × Obj)) from hp) (by simp), e0.hok.kept hk, ?_⟩
  · exact name_of_addr x.apart (PySem.mem_of_lookup h1) (PySem.mem_of_lookup h2)
  · have hy : scope.names.lookup y = some .cell \/ scope.names.lookup y = some .free := hy
    rcases hy with hy | hy
    · exact zjb hy
    · exact absurd rfl (S.nofree _ (PySem.mem_of_lookup hy))
  · exact Nat.le_of_lt (x.above y c (PySem.mem_of_lookup h))
  · have hi : i < vs.length := by
      unfold zeb at h2
      by_cases hi : i < vs.length
      · exact hi
      · rw [List.getElem?_append_right (by simpa using hi)] at h2
        rw [List.getElem?_replicate] at h2
        split at h2 <;> cases h2
    have ha : vs[i]? = some v := by
      unfold zeb at h2
      rw [List.getElem?_append_left (by simpa using hi), List.getElem?_map] at h2
      cases e : vs[i]? with
      | none => rw [e] at h2; cases h2
      | some a => rw [e] at h2; cases h2; rfl
    obtain ⟨u, hu, rv⟩ := r.get ha
    have hp : ps[i]? = some y := by
      rw [← S.pre, List.getElem?_take_of_lt (by omega)]; exact h1
    have ndP : ps.Nodup := by rw [← S.pre]; exact S.nd.sublist (List.take_sublist _ _)
    refine ⟨u, rv, ?_⟩
    rcases S.par y (List.mem_of_getElem? hp) with k | k
    · exact .inl ⟨k, zhY ndP hp hu k⟩
    · obtain ⟨c, e⟩ := zjb (n := s.heap.objs.size + 1) k
      refine .inr ⟨.inl k, c, e, ?_⟩
      have q := x.cell y c e
      rw [zh0 ndP hp hu (by show scope.names.lookup y ≠ _; rw [k]; decide)] at q
      exact q
  · exact e0.hok.fresh (Nat.le_of_lt (x.above y c (PySem.mem_of_lookup h)))
  · unfold zeb
    show _ = N.length
    rw [List.length_append, List.length_map, List.length_replicate]
    omega
theorem zpC {CX : CXT} {P : Program} {w : World} {K : PySem.W.Frag} {mg : Str -> Option Value} {base : Heap} {k : Nat} {f : Addr} {name qual : Str} {params : Arguments} {body : List Stmt} {scope : Scope} {dV kV doc pm cdv ct oc : Value} {an od : Option Addr}
    {osl : Array (Option Value)} {N ps : List Str} {sp : Sp} (lk : K.lookup f = some ⟨oc, od, .func (PySem.W.fnOf name qual params body scope dV kV doc pm an cdv ct), osl⟩) (hcd : PySem.W.codeIn K cdv qual = true) (S : FnScope N ps scope)
    (len : ∀ vs H Q E, sp vs H Q E -> vs.length = ps.length)
    (hbody : ∀ (A : Around) (outer : List Env) (s : Shared) (H : Hp) (vs : List V) (Q : VK) (E : XK), Room k (A.deeper (envOfC qual scope s.heap.objs.size f cdv)) -> sp vs H Q E ->
      ∃ t, PSs (zgW CX P w K mg base N qual scope f cdv A outer s H E) body t /\ t { nx := fun _ H' => Q .non H', rt := Q } (zeb N vs) H) :
    FnOk P w K mg base CX (k + 1) f (PySem.W.fnOf name qual params body scope dV kV doc pm an cdv ct) ps sp := by
  refine ⟨len, fun A outer s H args us vs Q E hr e0 hb r hsp => ?_⟩
  have hl := len _ _ _ _ hsp
  have KX : K.In s.heap := e0.mod.kin.keeps fun b o e => (e0.bs b o e).1
  have lim : s.heap.NoLimit := e0.mod.nolimit.keeps fun b o e => (e0.bs b o e).1
  have hkind : ∀ y ∈ ps.zip us, scope.names.lookup y.1 = some .local \/ (scope.names.lookup y.1 = some .cell /\ ((cellsFrom (s.heap.objs.size + 1) scope.names []).lookup y.1).isSome = true) := fun ⟨n, v⟩ hy => by
    rcases S.par n (List.of_mem_zip hy).1 with q | q
    · exact .inl q
    · exact .inr ⟨q, PySem.W.cellsFrom_some _ _ _ (.inl q)⟩
  refine codeAny_call_function hr.depth (KX _ _ lk) rfl S.co S.gen rfl (PySem.W.codeRec_of KX hcd) (hb _ _ _ _ ?_)
  refine wpAny_newFunctionEnv_cells S.kind hkind fun env he s1 x => ?_
  subst he
  refine ⟨lim.keeps x.toInCall.keep, codeAny_func ?_⟩
  obtain ⟨t, ht, hq⟩ := hbody A outer s H vs Q E (hr.deeper _) hsp
  have I : Inv (zgW CX P w K mg base N qual scope f cdv A outer s H E) [] (zeb N vs) H s1 := zkR S hr.hd e0 hl r x
  refine wpAny_mono (ht [] s1 (zeb N vs) H _ I hq) (fun fl s' hs => ?_) fun e s' hs => hs
  have fin : ∀ {σ' : St} {H' : Hp} {v : V} {u : Value}, Inv (zgW CX P w K mg base N qual scope f cdv A outer s H E) [] σ' H' s' -> zbJ v u -> Q v H' -> CE outer P w H s Q u s' :=
    fun {σ' H' v u} J rv q => ⟨v, H', J.os, J.bare, J.base, J.hok, rv, q⟩
  cases fl with
  | ret u =>
    obtain ⟨v, σ', H', J, rv, q⟩ := hs
    exact fin J rv q
  | next =>
    obtain ⟨σ', H', J, q⟩ := hs
    exact fin (v := V.non) (u := Value.none) J rfl q
  | brk =>
    obtain ⟨_, _, _, q⟩ := hs
    exact False.elim q
  | cont =>
    obtain ⟨_, _, _, q⟩ := hs
    exact False.elim q
end L2
namespace L2
open PySem PySem.Spec PyProof.Rows
section
variable {X : Cx} {x : Str} {p pos : Pos} {e : Expr} {es : List Expr} {t : TA} {id T : String} {r : List V -> Hp -> VK -> Prop}
def tCB (r : List V -> Hp -> VK -> Prop) (t : TA) : TE := fun σ H Q => t σ H fun vs H1 => r vs H1 Q
theorem zeg (hc : zfb X (.builtin id) r) (hg : Gl X x) (hm : X.mg x = none) (hv : bootBuiltins x = some (.builtin id)) (ha : PA X (e :: es) t) (hn : x ≠ "__name__" := by decide) (hdb : (x == ("__debug__" : Str)) = false := by decide)
    (he : starEach (e :: es) X.env = (false, eval e X.env) :: starEach es X.env := by rfl) (hpl : (backTo pos (starEach es X.env)).any (·.1) = false := by rfl) : PE X (.Call (.Name x p) (e :: es) [] pos) (tCB r t) := by
  intro pins s σ H Q I h
  refine wpAny_Call_Name_kw (zhz I hg hm hv ?_ hn hdb)
  exact PyProof.Rows.callWith_builtin1 (thn (ha pos pins s σ H _ I h) fun us s1 ⟨vs, H1, I1, r1, q1⟩ => hc pins s1 σ H1 vs us Q I1 r1 q1) he hpl
theorem zht (hc : zfb X (.type T) r) (hg : Gl X x) (hm : X.mg x = none) (hv : bootBuiltins x = some (.type T)) (ha : PA X (e :: es) t) (hn : x ≠ "__name__" := by decide) (hdb : (x == ("__debug__" : Str)) = false := by decide)
    (he : starEach (e :: es) X.env = (false, eval e X.env) :: starEach es X.env := by rfl) (hpl : (backTo pos (starEach es X.env)).any (·.1) = false := by rfl) : PE X (.Call (.Name x p) (e :: es) [] pos) (tCB r t) := by
  intro pins s σ H Q I h
  refine wpAny_Call_Name_kw (zhz I hg hm hv ?_ hn hdb)
  exact PyProof.Rows.callWith_type1 (thn (ha pos pins s σ H _ I h) fun us s1 ⟨vs, H1, I1, r1, q1⟩ => hc pins s1 σ H1 vs us Q I1 r1 q1) he hpl
end
end L2
end
section
namespace HT
open PySem PyProof.Rows
section
open PySem.SeqAt
open PySem.AutoSeq1 (wpAny_loadPart')
open PySem.MeetsSeq PySem.MeetsSeq2 PySem.MeetsSeq3
end
section
variable {prog : Program} {w : World} {A : Around} {E : Value -> Shared -> Prop} {s : Shared}
def sIx (n d : Nat) : Option Int -> Nat
  | none => d
  | some v => if v < 0 then (v + (n : Int)).toNat else min v.toNat n
theorem zoB (n d : Nat) (hd : d <= n) (o : Option Int) : sIx n d o <= n := by
  cases o with
  | none => exact hd
  | some v =>
    show (if v < 0 then (v + (n : Int)).toNat else min v.toNat n) <= n
    by_cases hv : v < 0
    · rw [if_pos hv]; omega
    · rw [if_neg hv]; exact Nat.min_le_right _ _
theorem zlf (v : Int) (n d : Nat) : (if v < 0 then max (v + (n : Int)) 0 else min v (n : Int)) = ((sIx n d (some v) : Nat) : Int) := by
  show (if v < 0 then max (v + (n : Int)) 0 else min v (n : Int)) = (((if v < 0 then (v + (n : Int)).toNat else min v.toNat n) : Nat) : Int)
  by_cases hv : v < 0
  · simp only [if_pos hv]; omega
  · simp only [if_neg hv]; omega
theorem zjP (lo hi : Option Int) (n : Nat) : Builtin.Slice.sliceAdjust lo hi 1 (n : Int) = (((sIx n 0 lo : Nat) : Int), ((sIx n n hi : Nat) : Int)) := by
  have h1 : ¬ ((1 : Int) < 0) := by omega
  unfold Builtin.Slice.sliceAdjust
  simp only [h1, if_false]
  refine Prod.ext ?_ ?_
  · cases lo with
    | none => rfl
    | some v => exact zlf v n 0
  · cases hi with
    | none => rfl
    | some v => exact zlf v n n
theorem zjt (i j : Nat) : Builtin.Slice.slicePlaces (i : Int) (j : Int) 1 = j - i := by
  unfold Builtin.Slice.slicePlaces
  have h1 : (1 : Int) > 0 := by omega
  simp only [h1, if_true, Int.ediv_one]
  split <;> omega
theorem zga {v : Value} {o : Option Int} {Q : Option Int -> Shared -> Prop} (p : IsPart v o) (h : Q o s) : wpAny (model prog w) A (Builtin.Slice.slicePartIndex v) Q E s := by
  cases p with
  | none => exact slicePart_none h
  | int i t => exact slicePart_int h
theorem ze6 {sl : Addr} {vl vu : Value} {lo hi : Option Int} {n : Nat} {Q : Int × Int × Nat -> Shared -> Prop} (hs : s.heap.IsSliceOf sl vl vu .none) (pl : IsPart vl lo) (pu : IsPart vu hi)
    (h : Q (((sIx n 0 lo : Nat) : Int), 1, sIx n n hi - sIx n 0 lo) s) : wpAny (model prog w) A (Builtin.Slice.sliceApplied (.ref sl) (pure (n : Int))) Q E s := by
  obtain ⟨os, hos, hcs, hds⟩ := id hs
  unfold Builtin.Slice.sliceApplied Builtin.Slice.sliceFields
  refine wpAny_bind (wpAny_bind (wpAny_field hos hds (x := vl) rfl (wpAny_bind (wpAny_field hos hds (x := vu) rfl (wpAny_bind (wpAny_field hos hds (x := .none) rfl (wpAny_pure ?_)))))))
  refine wpAny_bind (slicePart_none ?_)
  show wpAny _ _ (if ((1 : Int) == 0) = true then _ else _) _ _ s
  rw [if_neg (by decide)]
  refine wpAny_bind (zga pl (wpAny_bind (zga pu (wpAny_bind (wpAny_pure ?_)))))
  show wpAny _ _ (match Builtin.Slice.sliceAdjust lo hi 1 (n : Int) with | (lo, hi) => pure (lo, (1 : Int), Builtin.Slice.slicePlaces lo hi 1)) _ _ s
  rw [zjP lo hi n]
  show wpAny _ _ (pure (((sIx n 0 lo : Nat) : Int), (1 : Int), Builtin.Slice.slicePlaces ((sIx n 0 lo : Nat) : Int) ((sIx n n hi : Nat) : Int) 1)) _ _ s
  rw [zjt]
  exact wpAny_pure h
theorem zlT (xs : Array Value) (i k : Nat) : ((List.range k).filterMap fun (m : Nat) => xs[((i : Int) + (m : Int) * 1).toNat]?).toArray = ((xs.toList.drop i).take k).toArray := by
  have e : (fun (m : Nat) => xs[((i : Int) + (m : Int) * 1).toNat]?) = fun m => xs[i + m]? := by
    funext m
    have : ((i : Int) + (m : Int) * 1).toNat = i + m := by omega
    rw [this]
  rw [e]
  have := pick_run xs i k
  rw [List.filterMap_map] at this
  have e2 : ((fun x => xs[x]?) ∘ fun x => i + x) = fun m => xs[i + m]? := rfl
  rw [e2] at this
  rw [this]
theorem getItem_tuple_cut {t sl : Addr} {items : Array Value} {vl vu : Value} {lo hi : Option Int} {Q : Value -> Shared -> Prop} (ht : IsTup s.heap t items) (hs : s.heap.IsSliceOf sl vl vu .none) (pl : IsPart vl lo) (pu : IsPart vu hi)
    (hw : ¬ (sIx items.size 0 lo = 0 /\ sIx items.size items.size hi = items.size))
    (h : Q (.ref s.heap.objs.size) { s with heap := s.heap.push { cls := .type "tuple", data := .seq ((items.toList.drop (sIx items.size 0 lo)).take (sIx items.size items.size hi - sIx items.size 0 lo)).toArray } })
    (hsz : items.size <= sizeLine) : wpAny (model prog w) A (getItem (.ref t) (.ref sl)) Q E s := by
  have htake : sizeOk (.seq ((items.toList.drop (sIx items.size 0 lo)).take (sIx items.size items.size hi - sIx items.size 0 lo)).toArray) := by
    show ((items.toList.drop (sIx items.size 0 lo)).take (sIx items.size items.size hi - sIx items.size 0 lo)).toArray.size <= sizeLine
    rw [List.size_toArray, List.length_take, List.length_drop, Array.length_toList]
    omega
  have hj : sIx items.size items.size hi <= items.size := zoB _ _ (Nat.le_refl _) hi
  obtain ⟨os, hos, hcs, hds⟩ := id hs
  have hTs : s.TypeIs (.ref sl) "slice" := ⟨os, hos, hcs⟩
  unfold getItem
  try with_reducible refine wpAny_holding ?_
  first | refine wpAny_bind (wpAny_pure ?_) | skip
  refine wpAny_bind (wpAny_sequenceKey ht.typeIs (by decide) ?_)
  refine wpAny_bind (wpAny_callSpecial?_slot (name := Str.ofString "__getitem__") ht.typeIs PyProof.Rows.slot_tuple_getitem
    (wpAny_call_entry PyProof.Rows.slot_tuple_getitem ht.typeIs entry_tuple_getitem ?_ (args_tuple_getitem _ _)))
  show wpAny _ _ (Builtin.Tuple.tupleItemsOf (.ref t) >>= _) _ _ s
  refine wpAny_bind (tupleItemsOf_ ht ?_)
  refine wpAny_bind (wpAny_typeOf hTs ?_)
  rw [if_pos (by decide)]
  refine wpAny_bind (ze6 hs pl pu ?_)
  have hno : ¬ ((((sIx items.size 0 lo : Nat) : Int) == 0 && (1 : Int) == 1 && (sIx items.size items.size hi - sIx items.size 0 lo) == items.size) = true) := by
    intro q
    rw [Bool.and_eq_true, Bool.and_eq_true] at q
    have q1 : ((sIx items.size 0 lo : Nat) : Int) = 0 := eq_of_beq q.1.1
    have q2 : sIx items.size items.size hi - sIx items.size 0 lo = items.size := eq_of_beq q.2
    exact hw ⟨by omega, by omega⟩
  show wpAny _ _ (if (((sIx items.size 0 lo : Nat) : Int) == 0 && (1 : Int) == 1 && (sIx items.size items.size hi - sIx items.size 0 lo) == items.size) = true then _ else _) _ _ s
  rw [if_neg hno, zlT]
  first
    | exact wpAny_bind (m := Builtin.Tuple.tupleExact _) (wpAny_newObj_type (wpAny_pure ⟨_, rfl, wpAny_pure h⟩) htake)
    | exact wpAny_bind (m := Builtin.Tuple.tupleExact _) (wpAny_newObj_type (wpAny_bind (wpAny_pure (wpAny_pure ⟨_, rfl, wpAny_pure h⟩))) htake)
    | exact wpAny_bind (wpAny_bind (m := Builtin.Tuple.tupleExact _) (wpAny_newObj_type (wpAny_pure (wpAny_pure ⟨_, rfl, wpAny_pure h⟩)) htake))
    | exact wpAny_bind (wpAny_bind (m := Builtin.Tuple.tupleExact _) (wpAny_newObj_type (wpAny_pure ⟨_, rfl, wpAny_pure h⟩) htake))
end
end HT
namespace L2
open PySem PySem.Spec PyProof.Rows
abbrev TO := St -> Hp -> (Option Int -> Hp -> Prop) -> Prop
def PO (X : Cx) (e : Option Expr) (t : TO) : Prop :=
  ∀ (pins : List (Addr × Obj)) (s : Shared) (σ : St) (H : Hp) (Q : Option Int -> Hp -> Prop), Inv X pins σ H s -> t σ H Q ->
    wpAny (model X.prog X.w) X.A (evalPart e X.env) (fun u s' => ∃ o H', Inv X pins σ H' s' /\ IsPart u o /\ Q o H') X.xe s
def zna : TO := fun _ H Q => Q none H
def zp9 (t : TE) : TO := fun σ H Q => t σ H fun x H1 => ∃ i, x = .int i /\ Q (some i) H1
section
variable {X : Cx} {e : Expr} {te : TE} {lo hi : Option Expr} {tl th : TO} {pos p2 : Pos}
theorem znt : PO X none zna := by
  intro pins s σ H Q I h
  rw [evalPart_none]
  exact wpAny_pure ⟨none, H, I, .none, h⟩
theorem zns (h : PE X e te) : PO X (some e) (zp9 te) := by
  intro pins s σ H Q I hw
  rw [evalPart_some]
  refine thn (h pins s σ H _ I hw) fun u s1 ⟨x, H1, I1, r1, q1⟩ => ?_
  obtain ⟨i, rfl, q⟩ := q1
  obtain ⟨t, rfl⟩ := r1
  exact ⟨some i, H1, I1, .int i t, q⟩
def SlR (X : Cx) (r : V -> Option Int -> Option Int -> Hp -> VK -> Prop) : Prop :=
  ∀ (pins : List (Addr × Obj)) (s : Shared) (σ : St) (H : Hp) (x : V) (v vl vu : Value) (lo hi : Option Int) (sl : Addr) (Q : VK), Inv X pins σ H s -> zbJ x v -> s.heap.IsSliceOf sl vl vu .none -> IsPart vl lo -> IsPart vu hi -> r x lo hi H Q ->
    ∃ T id, typeLookup (.type T) "__getitem__" = pure (some (.builtin id)) /\ s.TypeIs v T /\ wpAny (model X.prog X.w) X.A (getItem v (.ref sl)) (EP X pins σ Q) X.xe s
theorem SlR.or {r r' : V -> Option Int -> Option Int -> Hp -> VK -> Prop} (h : SlR X r) (h' : SlR X r') : SlR X (fun x lo hi H Q => r x lo hi H Q \/ r' x lo hi H Q) := by
  intro pins s σ H x v vl vu lo hi sl Q I rx hs pl pu q
  rcases q with q | q
  · exact h pins s σ H x v vl vu lo hi sl Q I rx hs pl pu q
  · exact h' pins s σ H x v vl vu lo hi sl Q I rx hs pl pu q
def tSl (r : V -> Option Int -> Option Int -> Hp -> VK -> Prop) (te : TE) (tl th : TO) : TE := fun σ H Q => te σ H fun x H1 => tl σ H1 fun l H2 => th σ H2 fun u H3 => r x l u H3 Q
theorem zlU {r : V -> Option Int -> Option Int -> Hp -> VK -> Prop} (hr : SlR X r) (he : PE X e te) (hl : PO X lo tl) (hu : PO X hi th) : PE X (.Subscript e (.Slice lo hi none p2) pos) (tSl r te tl th) := by
  intro pins s σ H Q I h
  refine Subscript_ (thn (he pins s σ H _ I h) fun v s1 ⟨x, H1, I1, r1, q1⟩ => ?_)
  refine wpAny_Slice (thn (hl pins s1 σ H1 _ I1 q1) fun vl s2 ⟨l, H2, I2, pl, q2⟩ => thn (hu pins s2 σ H2 _ I2 q2) fun vu s3 ⟨u, H3, I3, pu, q3⟩ => ?_)
  rw [evalPart_none]
  refine wpAny_pure ?_
  have I4 : Inv X pins σ H3 { s3 with heap := s3.heap.push { cls := .type "slice", data := .fields #[vl, vu, .none] } } := I3.kept (t' := s3.toks) fun b ob q => Heap.get?_push_of_some _ q
  obtain ⟨T, id, hT, ht, hg⟩ := hr pins { s3 with heap := s3.heap.push { cls := .type "slice", data := .fields #[vl, vu, .none] } } σ H3 x v vl vu l u s3.heap.objs.size Q I4 r1 (Heap.IsSliceOf.new ..) pl pu q3
  show wpAny (model X.prog X.w) X.A (subscriptTail e (.Slice lo hi none p2) v (.ref s3.heap.objs.size)) (EP X pins σ Q) X.xe { s3 with heap := s3.heap.push { cls := .type "slice", data := .fields #[vl, vu, .none] } }
  exact tail_any (ops := [.ref s3.heap.objs.size, v]) ht hT hg (by with_unfolding_all rfl)
def zm2 (xs : List V) (lo hi : Option Int) : List V := (xs.drop (HT.sIx xs.length 0 lo)).take (HT.sIx xs.length xs.length hi - HT.sIx xs.length 0 lo)
theorem zfF (xs : List V) (lo hi : Option Int) : (zm2 xs lo hi).length <= xs.length := by
  unfold zm2
  rw [List.length_take, List.length_drop]
  omega
def zrF (K : PySem.W.Frag) : V -> Option Int -> Option Int -> Hp -> VK -> Prop := fun x lo hi H Q => ∃ a xs, x = .ref a /\ SqT K H a xs /\
  ¬ (HT.sIx xs.length 0 lo = 0 /\ HT.sIx xs.length xs.length hi = xs.length) /\ ∀ p, H p = none -> Q (.ref p) (upd H p (.tup (zm2 xs lo hi)))
theorem zoy : SlR X (zrF X.K) := by
  intro pins s σ H x v vl vu lo hi sl Q I rx hs pl pu h
  obtain ⟨a, xs, rfl, hx, hw, q⟩ := h
  cases rx
  obtain ⟨its, r, ht, hz⟩ := I.tuple hx
  have hlen : its.toArray.size = xs.length := by rw [List.size_toArray]; exact r.length.symm
  refine ⟨"tuple", _, PyProof.Rows.slot_tuple_getitem.lookup, ht.typeIs, ?_⟩
  refine HT.getItem_tuple_cut ht hs pl pu (by rw [hlen]; exact hw) ?_ (by rw [hlen]; exact hz)
  rw [hlen]
  refine ⟨.ref s.heap.objs.size, _, I.laid (t' := s.toks) (o := .tup (zm2 xs lo hi)) (fun b ob q => Heap.get?_push_of_some _ q) (Nat.le_refl _) ?_, rfl, q _ (I.hok.fresh (Nat.le_refl _))⟩
  exact ⟨Nat.le_trans (zfF xs lo hi) hz, _, (r.drop (HT.sIx xs.length 0 lo)).take (HT.sIx xs.length xs.length hi - HT.sIx xs.length 0 lo), IsTup.new _ _⟩
end
end L2
namespace L2
open PySem PySem.Spec PyProof.Rows
def ixN (n : Nat) (i : Int) : Option Nat := if 0 <= i then (if i < n then some i.toNat else none) else if -(n : Int) <= i then some (i + n).toNat else none
def atI {α : Type} (xs : List α) (i : Int) : Option α := (ixN xs.length i).bind fun j => xs[j]?
theorem zkO {n : Nat} {i : Int} {j : Nat} (h : ixN n i = some j) : seqIndex? i n = some j /\ j < n /\ -(n : Int) <= i /\ i < n := by
  unfold ixN at h
  by_cases h0 : 0 <= i
  · rw [if_pos h0] at h
    by_cases h1 : i < n
    · rw [if_pos h1] at h
      have e : i.toNat = j := Option.some.inj h
      exact ⟨by rw [seqIndex_of h0 h1, e], by omega, by omega, h1⟩
    · rw [if_neg h1] at h; cases h
  · rw [if_neg h0] at h
    by_cases h1 : -(n : Int) <= i
    · rw [if_pos h1] at h
      have e : (i + n).toNat = j := Option.some.inj h
      exact ⟨by rw [seqIndex_neg (by omega) h1, e], by omega, h1, by omega⟩
    · rw [if_neg h1] at h; cases h
theorem ziz {α : Type} {xs : List α} {i : Int} {v : α} (h : atI xs i = some v) : ∃ j, seqIndex? i xs.length = some j /\ xs[j]? = some v /\ j < xs.length /\ -(xs.length : Int) <= i /\ i < xs.length := by
  unfold atI at h
  cases e : ixN xs.length i with
  | none => rw [e] at h; cases h
  | some j =>
    rw [e] at h
    obtain ⟨h1, h2, h3, h4⟩ := zkO e
    exact ⟨j, h1, h, h2, h3, h4⟩
theorem zd2 {α : Type} {xs : List α} {j : Nat} {v : α} (h : xs[j]? = some v) : atI xs (j : Int) = some v := by
  have hj : j < xs.length := (List.getElem?_eq_some_iff.mp h).1
  have e : ixN xs.length (j : Int) = some j := by
    unfold ixN
    rw [if_pos (by omega), if_pos (by omega)]; simp
  unfold atI; rw [e]; exact h
def zlu (b : Expr) : Prop := ∀ o i, subscripted b false o i = operate [o, i] (getItem o i)
def IxR (X : Cx) (r : R2) : Prop :=
  ∀ (value slice : Expr) (pins : List (Addr × Obj)) (s : Shared) (σ : St) (H : Hp) (x y : V) (v u : Value) (Q : VK), Inv X pins σ H s -> zbJ x v -> zbJ y u -> r x y H Q ->
    subscripted slice false v u = operate [v, u] (getItem v u) -> wpAny (model X.prog X.w) X.A (subscriptTail value slice v u) (EP X pins σ Q) X.xe s
def MtR (X : Cx) (id : String) (r : V -> List V -> Hp -> VK -> Prop) : Prop :=
  ∀ (pins : List (Addr × Obj)) (s : Shared) (σ : St) (H : Hp) (x : V) (xs : List V) (v : Value) (us : List Value) (Q : VK), Inv X pins σ H s -> zbJ x v -> zbC xs us -> r x xs H Q ->
    wpAny (model X.prog X.w) X.A (call (.builtin id) (v :: us)) (EP X pins σ Q) X.xe s
section
variable {X : Cx} {a b : Expr} {ta tb : TE} {pos : Pos}
theorem IxR.or {r r' : R2} (h : IxR X r) (h' : IxR X r') : IxR X (fun x y H Q => r x y H Q \/ r' x y H Q) := by
  intro value slice pins s σ H x y v u Q I rx ry q hs
  rcases q with q | q
  · exact h value slice pins s σ H x y v u Q I rx ry q hs
  · exact h' value slice pins s σ H x y v u Q I rx ry q hs
theorem zqr {r : R2} (hr : IxR X r) (ha : PE X a ta) (hb : PE X b tb) (hs : zlu b) : PE X (.Subscript a b pos) (tOp r ta tb) := by
  intro pins s σ H Q I h
  exact Subscript_ (zqX ha hb I h fun v u s2 x y H2 I2 rx ry q => hr a b pins s2 σ H2 x y v u Q I2 rx ry q (hs _ _))
def zrf (K : PySem.W.Frag) : R2 := fun x y H Q => ∃ p xs i v, x = .ref p /\ y = .int i /\ SqL K H p xs /\ atI xs i = some v /\ Q v H
def zrd (K : PySem.W.Frag) : R2 := fun x y H Q => ∃ p xs i v, x = .ref p /\ y = .int i /\ SqT K H p xs /\ atI xs i = some v /\ Q v H
def zre : R2 := fun x y H Q => ∃ z i c, x = .str z /\ y = .int i /\ z.length <= sizeLine /\ atI z.cps.toList i = some c /\ Q (.str ⟨#[c]⟩) H
theorem znM : IxR X (zrf X.K) := by
  intro value slice pins s σ H x y v u Q I rx ry h hs
  obtain ⟨p, xs, i, z, rfl, rfl, hq, he, q⟩ := h
  cases rx
  obtain ⟨t, rfl⟩ := ry
  obtain ⟨its, r, pl, hz⟩ := I.list hq
  obtain ⟨j, h1, h2, h3, h4, h5⟩ := ziz he
  obtain ⟨w, ew, rw'⟩ := r.get h2
  have hl := r.length
  have hn := zgi
  have fin : EP X pins σ Q w s := ⟨z, H, I, rw', q⟩
  by_cases h0 : 0 <= i
  · have hj : i.toNat = j := by
      rw [seqIndex_of h0 h5] at h1
      exact Option.some.inj h1
    exact item_listR pl.isList h0 (by omega) (by rw [hj]; simpa using ew) fin hs
  · have hj : (i + (its.toArray.size : Int)).toNat = j := by
      rw [seqIndex_neg (by omega) h4] at h1
      rw [List.size_toArray, ← hl]
      exact Option.some.inj h1
    exact subscriptTail_builtinR (x := w) pl.isList.typeIs slot_list_getitem.lookup
      (wpAny_getItem_list_neg (Q := fun r s' => r = w /\ EP X pins σ Q r s') pl.isList (by omega) (by rw [List.size_toArray] <;> omega) (by omega) (by rw [hj]; simpa using ew) ⟨rfl, fin⟩) hs
theorem zpm : IxR X (zrd X.K) := by
  intro value slice pins s σ H x y v u Q I rx ry h hs
  obtain ⟨p, xs, i, z, rfl, rfl, hq, he, q⟩ := h
  cases rx
  obtain ⟨t, rfl⟩ := ry
  obtain ⟨its, r, pl, hz⟩ := I.tuple hq
  obtain ⟨j, h1, h2, h3, h4, h5⟩ := ziz he
  obtain ⟨w, ew, rw'⟩ := r.get h2
  have hl := r.length
  have hn := zgi
  have fin : EP X pins σ Q w s := ⟨z, H, I, rw', q⟩
  exact subscriptTail_builtinR (x := w) pl.typeIs slot_tuple_getitem.lookup
    (getItem_tuple (j := j) (Q := fun r s' => r = w /\ EP X pins σ Q r s') pl (by omega) (by omega) (by rw [List.size_toArray, ← hl]; exact h1) (by simpa using ew) ⟨rfl, fin⟩) hs
theorem zpn : IxR X zre := by
  intro value slice pins s σ H x y v u Q I rx ry h hs
  obtain ⟨z, i, c, rfl, rfl, hz, he, q⟩ := h
  obtain ⟨t, rfl⟩ := rx
  obtain ⟨t', rfl⟩ := ry
  obtain ⟨j, h1, h2, h3, h4, h5⟩ := ziz he
  have hl : z.cps.toList.length = z.length := by simp [Str.length]
  rw [hl] at h1 h4 h5
  have hn := zgi
  exact tail_any (typeIs_str s z t) slot_str_getitem.lookup (getItem_str (c := c) (by
    have e1 : decide (i < -(2 ^ 63 : Int)) = false := decide_eq_false (by omega)
    have e2 : decide (i ≥ 2 ^ 63) = false := decide_eq_false (by omega)
    rw [e1, e2, Bool.or_false]) (by rw [h1]; simpa using h2) ⟨.str ⟨#[c]⟩, H, I.tok _, ⟨_, rfl⟩, q⟩) hs
def rIx (K : PySem.W.Frag) : R2 := fun x y H Q => zrf K x y H Q \/ zrd K x y H Q \/ zre x y H Q
theorem zpo : IxR X (rIx X.K) := znM.or (zpm.or zpn)
theorem zjw (its : List Value) (n j : Nat) (u : Value) : Obj.mapSeq (·.setIfInBounds j u) { cls := .type "list", data := .seq its.toArray n } = { cls := .type "list", data := .seq (its.set j u).toArray n } := by
  simp [Obj.mapSeq]
theorem Inv.lst {pins : List (Addr × Obj)} {σ : St} {H : Hp} {s : Shared} {p : Addr} {xs : List V} (I : Inv X pins σ H s) (h : H p = some (.lst xs)) :
    ∃ (its : List Value) (n : Nat), zbC xs its /\ s.heap.get? p = some { cls := .type "list", data := .seq its.toArray n } /\ xs.length <= sizeLine := by
  obtain ⟨z, its, n, r, e⟩ := I.hok p _ h
  exact ⟨its, n, r, e, z⟩
theorem Inv.lstUpd {pins : List (Addr × Obj)} {σ : St} {H : Hp} {s : Shared} {p : Addr} {xs ys : List V} {its its' : List Value} {n n' : Nat} {f : Obj -> Obj} (I : Inv X pins σ H s) (h : H p = some (.lst xs))
    (ho : s.heap.get? p = some { cls := .type "list", data := .seq its.toArray n }) (hf : f { cls := .type "list", data := .seq its.toArray n } = { cls := .type "list", data := .seq its'.toArray n' }) (r : zbC ys its') (hz : ys.length <= sizeLine) (t : Nat) :
    Inv X pins σ (upd H p (.lst ys)) { s with heap := s.heap.update p f, toks := t } := by
  have e : (s.heap.update p f).get? p = some { cls := .type "list", data := .seq its'.toArray n' } := by
    rw [Heap.get?_update_self f ho (by rw [hf] <;> rfl), hf]
  refine I.write (x := p) (e := p) (by rw [h]; trivial) (.inl rfl) (fun b u hb q => (Heap.get?_update_other _ _ (Ne.symm hb)).trans q) ⟨_, e⟩ ?_
  exact ⟨hz, its', n', r, e⟩
def zqk : V -> V -> V -> Hp -> (Hp -> Prop) -> Prop := fun o i v H Q => ∃ p xs k j, o = .ref p /\ i = .int k /\ H p = some (.lst xs) /\ ixN xs.length k = some j /\ Q (upd H p (.lst (xs.set j v)))
theorem zlK : zro X zqk := by
  intro pins s σ H o i v ov iv u Q I ro ri rv h
  obtain ⟨p, xs, k, j, rfl, rfl, hp, hj, q⟩ := h
  cases ro
  obtain ⟨t, rfl⟩ := ri
  obtain ⟨its, n, r, ho, hz⟩ := I.lst hp
  obtain ⟨h1, h2, h3, h4⟩ := zkO hj
  have hl := r.length
  have hn := zgi
  have I' : Inv X pins σ (upd H p (.lst (xs.set j v))) { s with heap := s.heap.update p (Obj.mapSeq (·.setIfInBounds j u)) } :=
    I.lstUpd hp ho (zjw its n j u) (r.set rv j) (by rw [List.length_set]; exact hz) s.toks
  by_cases h0 : 0 <= k
  · have hk : k.toNat = j := by
      rw [seqIndex_of h0 h4] at h1
      exact Option.some.inj h1
    exact PySem.W.ki_setAt ho h0 (by omega) (by rw [List.size_toArray, ← hl]; exact h4) (by rw [hk]; exact ⟨_, I', q⟩)
  · have hk : (k + (its.toArray.size : Int)).toNat = j := by
      rw [seqIndex_neg (by omega) h3] at h1
      rw [List.size_toArray, ← hl]
      exact Option.some.inj h1
    exact PySem.W.ki_setBack ho (by omega) (by rw [List.size_toArray, ← hl]; exact h3) (by omega) (by rw [hk]; exact ⟨_, I', q⟩)
theorem zhe (lo hi : Option Int) (n : Nat) : (sliceBounds lo hi none n).1 = ((HT.sIx n 0 lo : Nat) : Int) /\ (sliceBounds lo hi none n).2.1 = ((HT.sIx n n hi : Nat) : Int) /\ (sliceBounds lo hi none n).2.2 = 1 := by
  refine ⟨?_, ?_, rfl⟩
  · cases lo with
    | none => simp [sliceBounds, HT.sIx]
    | some i =>
      simp only [sliceBounds, HT.sIx, Option.getD_none, show (1 : Int) > 0 by decide, if_true]
      by_cases h : i < 0
      · simp only [h, if_true] <;> omega
      · simp only [h, if_false] <;> omega
  · cases hi with
    | none => simp [sliceBounds, HT.sIx]
    | some i =>
      simp only [sliceBounds, HT.sIx, Option.getD_none, show (1 : Int) > 0 by decide, if_true]
      by_cases h : i < 0
      · simp only [h, if_true] <;> omega
      · simp only [h, if_false] <;> omega
theorem zgA (its : List Value) (lo hi : Option Int) : slicePick its.toArray lo hi none = ((its.drop (HT.sIx its.length 0 lo)).take (HT.sIx its.length its.length hi - HT.sIx its.length 0 lo)).toArray := by
  obtain ⟨h1, h2, h3⟩ := zhe lo hi its.toArray.size
  unfold slicePick
  rw [h1, h2, h3]
  simp only [sliceRange_one, pick_run, List.size_toArray] <;> rfl
def zrG (K : PySem.W.Frag) : V -> Option Int -> Option Int -> Hp -> VK -> Prop := fun x lo hi H Q => ∃ a xs, x = .ref a /\ SqL K H a xs /\ ∀ p, H p = none -> Q (.ref p) (upd H p (.lst (zm2 xs lo hi)))
theorem zne : SlR X (zrG X.K) := by
  intro pins s σ H x v vl vu lo hi sl Q I rx hs pl pu h
  obtain ⟨a, xs, rfl, hx, q⟩ := h
  cases rx
  obtain ⟨its, r, ht, hz⟩ := I.list hx
  have hlen := r.length
  refine ⟨"list", _, slot_list_getitem.lookup, ht.isList.typeIs, ?_⟩
  refine wpAny_getItem_list_slice ht.isList hs pl pu .none (by simp) ?_ (by rw [List.size_toArray] <;> omega)
  rw [zgA, ← hlen]
  refine ⟨.ref s.heap.objs.size, _, I.laid (t' := s.toks) (o := .lst (zm2 xs lo hi)) (fun b ob q => Heap.get?_push_of_some _ q) (Nat.le_refl _) ?_, rfl, q _ (I.hok.fresh (Nat.le_refl _))⟩
  exact ⟨Nat.le_trans (zfF xs lo hi) hz, _, 0, (r.drop (HT.sIx xs.length 0 lo)).take (HT.sIx xs.length xs.length hi - HT.sIx xs.length 0 lo), Heap.get?_push_size _ rfl⟩
theorem zhN : zfb X (.type "list") (fun xs H Q => ∃ p ys, xs = [.ref p] /\ (SqL X.K H p ys \/ SqT X.K H p ys) /\ ∀ l, H l = none -> Q (.ref l) (upd H l (.lst ys))) := by
  intro pins s σ H xs us Q I r h
  obtain ⟨p, ys, rfl, hq, q⟩ := h
  obtain ⟨u, rfl, rx⟩ := zha r
  cases rx
  have fin : ∀ (its : List Value), zbC ys its -> ys.length <= sizeLine -> ∀ (h' : Heap) (c' : Nat), (∀ b o', s.heap.get? b = some o' -> h'.get? b = some o') ->
      h'.get? s.heap.objs.size = some { cls := .type "list", dict := none, data := .seq its.toArray c', slots := #[] } -> EP X pins σ Q (.ref s.heap.objs.size) { s with heap := h' } := fun its r' hz h' c' kp e =>
    ⟨.ref s.heap.objs.size, _, I.laid (t' := s.toks) kp (Nat.le_refl _) (show zbB X.prog X.w _ h' _ (.lst ys) from ⟨hz, its, c', r', e⟩), rfl, q _ (I.hok.fresh (Nat.le_refl _))⟩
  rcases hq with hq | hq
  · obtain ⟨its, r', pl, hz⟩ := I.list hq
    have hlen := r'.length
    obtain ⟨o, ho, hc, n, hd⟩ := pl.isList
    exact call_list_seq p (.inl rfl) ho hc hd (fun h' c' kp e => fin its r' hz h' c' kp e) (by simp only [List.size_toArray] <;> omega)
  · obtain ⟨its, r', pl, hz⟩ := I.tuple hq
    have hlen := r'.length
    obtain ⟨o, ho, hc, n, hd⟩ := pl
    exact call_list_seq p (.inr rfl) ho hc hd (fun h' c' kp e => fin its r' hz h' c' kp e) (by simp only [List.size_toArray] <;> omega)
theorem zgY : zfb X (.type "tuple") (fun xs H Q => ∃ p ys, xs = [.ref p] /\ ((SqL X.K H p ys /\ ∀ l, H l = none -> Q (.ref l) (upd H l (.tup ys))) \/ (SqT X.K H p ys /\ Q (.ref p) H))) := by
  intro pins s σ H xs us Q I r h
  obtain ⟨p, ys, rfl, h⟩ := h
  obtain ⟨u, rfl, rx⟩ := zha r
  cases rx
  rcases h with ⟨hq, q⟩ | ⟨hq, q⟩
  · obtain ⟨its, r', pl, hz⟩ := I.list hq
    have hlen := r'.length
    refine call_tuple_list pl.isList (fun h' kp => ?_) (by simp only [List.size_toArray] <;> omega)
    have I1 : Inv X pins σ H { s with heap := h' } := I.kept (t' := s.toks) kp
    have I2 : Inv X pins σ (upd H h'.objs.size (.tup ys)) { s with heap := h'.push { cls := .type "tuple", data := .seq its.toArray } } :=
      I1.laid (t' := s.toks) (fun b o e => Heap.get?_push_of_some _ e) (Nat.le_refl _) (show zbB X.prog X.w _ _ _ (.tup ys) from ⟨hz, its, r', IsTup.new _ _⟩)
    exact ⟨.ref h'.objs.size, _, I2, rfl, q _ (I1.hok.fresh (Nat.le_refl _))⟩
  · obtain ⟨its, r', pl, hz⟩ := I.tuple hq
    exact call_tuple_same pl ⟨.ref p, H, I, rfl, q⟩
def tyV (K : PySem.W.Frag) (T : String) (x : V) (H : Hp) : Prop := match x with
  | .str _ => T = "str"
  | .int _ => T = "int"
  | .ref p => (T = "list" /\ ∃ xs, SqL K H p xs) \/ (T = "tuple" /\ ∃ o, K.lookup p = some o /\ o.cls = .type "tuple" /\ o.dict = none) \/
      (T = "dict" /\ ((∃ kvs, H p = some (.dK kvs)) \/ ∃ kvs, H p = some (.dT kvs))) \/ (T = "set" /\ ∃ S n, H p = some (.set S n))
  | _ => False
theorem zoq {pins : List (Addr × Obj)} {σ : St} {H : Hp} {s : Shared} {T : String} {x : V} {v : Value} (I : Inv X pins σ H s) (r : zbJ x v) (ty : tyV X.K T x H) :
    s.TypeIs v T /\ ∀ a, v = .ref a -> ∃ ob, s.heap.get? a = some ob /\ ob.dict = none := by
  cases x with
  | str z =>
    obtain ⟨t, rfl⟩ := r
    cases (show T = "str" from ty)
    exact ⟨typeIs_str s z t, fun _ e => nomatch e⟩
  | int i =>
    obtain ⟨t, rfl⟩ := r
    cases (show T = "int" from ty)
    exact ⟨typeIs_int s i t, fun _ e => nomatch e⟩
  | ref p =>
    cases r
    rcases ty with ⟨rfl, xs, hq⟩ | ⟨rfl, o, hk, hc, hd⟩ | ⟨rfl, hk⟩ | ⟨rfl, S, n, hk⟩
    · obtain ⟨its, _, pl, _⟩ := I.list hq
      refine ⟨pl.isList.typeIs, fun a e => ?_⟩
      cases e
      obtain ⟨o, n, e, c, hd, _⟩ := pl
      exact ⟨o, e, hd⟩
    · refine ⟨⟨o, I.kIn p o hk, hc⟩, fun a e => ?_⟩
      cases e
      exact ⟨o, I.kIn _ o hk, hd⟩
    · have z : ∃ o, s.heap.get? p = some o /\ o.ExactDict := by
        rcases hk with ⟨kvs, hk⟩ | ⟨kvs, hk⟩
        · obtain ⟨_, _, _, _, o, _, _, e, ex, _⟩ := I.hok p _ hk
          exact ⟨o, e, ex⟩
        · obtain ⟨_, _, _, _, o, _, _, e, ex, _⟩ := I.hok p _ hk
          exact ⟨o, e, ex⟩
      obtain ⟨o, e, ex⟩ := z
      refine ⟨⟨o, e, ex.1⟩, fun a e2 => ?_⟩
      cases e2
      exact ⟨o, e, ex.2.1⟩
    · obtain ⟨o, _, _, _, e, ex, _⟩ := I.hok p _ hk
      refine ⟨⟨o, e, ex.1⟩, fun a e2 => ?_⟩
      cases e2
      exact ⟨o, e, ex.2.1⟩
  | _ => exact False.elim ty
def tBM (K : PySem.W.Frag) (T : String) (r : V -> List V -> Hp -> VK -> Prop) (to : TE) (t : TA) : TE := fun σ H Q => to σ H fun x H1 => tyV K T x H1 /\ t σ H1 fun xs H2 => r x xs H2 Q
variable {o e : Expr} {es : List Expr} {to : TE} {t : TA} {name : Str} {apos cpos : Pos} {T id : String} {r : V -> List V -> Hp -> VK -> Prop}
theorem zoY (pa : PlainAttrs T) (slot : Slot T name id) (hty : typeOf (.builtin id) = pure (.type "method_descriptor")) (hm : MtR X id r) (ho : PE X o to) (ha : PA X (e :: es) t)
    (hbase : attributeBase o name X.env (eval o X.env) = eval o X.env := by rfl)
    (hfew : ((backTo cpos (starEach (e :: es) X.env)).all (fun x => !x.1) && (backToKw cpos (keywordEach [] X.env)).all (fun x => x.1.isSome)
      && decide ((e :: es).length + ([] : List Keyword).length + (if ([] : List Keyword).isEmpty then 0 else 1) < 30)) = true := by rfl)
    (hline : (apos.endLine == cpos.line) = true := by rfl) (hs : starEach (e :: es) X.env = (false, eval e X.env) :: starEach es X.env := by rfl) (hplain : (backTo cpos (starEach es X.env)).any (·.1) = false := by rfl) :
    PE X (.Call (.Attribute o name apos) (e :: es) [] cpos) (tBM X.K T r to t) := by
  intro pins s σ H Q I h
  refine wpAny_Call_method_late hbase hfew hline rfl (thn (ho pins s σ H _ I h) fun v s1 ⟨x, H1, I1, r1, ty, q1⟩ => ?_)
  obtain ⟨h1, h2⟩ := zoq I1 r1 ty
  refine ⟨T, id, pa, slot, hty, h1, h2, ?_⟩
  have hA := ha cpos pins s1 σ H1 _ I1 q1
  rw [hs] at hA ⊢
  refine Calls.callWith_builtin (by show (false || (backTo cpos (starEach es X.env)).any (·.1)) = false; rw [hplain] <;> rfl) (Calls.evalArgs_plain ?_)
  exact thn hA fun us s2 ⟨vs, H2, I2, r2, q2⟩ => hm pins s2 σ H2 x vs v us Q I2 r1 r2 q2
end
end L2
namespace L2
open PySem PySem.Spec PyProof.Rows
def MtM (X : Cx) (id : String) (r : V -> List V -> Hp -> VK -> Prop) : Prop :=
  ∀ (pins : List (Addr × Obj)) (s : Shared) (σ : St) (H : Hp) (x : V) (xs : List V) (v : Value) (us : List Value) (Q : VK), Inv X pins σ H s -> zbJ x v -> zbC xs us -> r x xs H Q ->
    wpAny (model X.prog X.w) X.A (call (.builtin id) (v :: us)) (EP X pins σ Q) X.xe s
theorem zbC.one : ∀ {x : V} {us : List Value}, zbC [x] us -> ∃ u, us = [u] /\ zbJ x u
  | _, _, .cons r .nil => ⟨_, rfl, r⟩
theorem zbC.rep {xs : List V} {us : List Value} (h : zbC xs us) : ∀ k : Nat, zbC (List.replicate k xs).flatten (List.replicate k us).flatten
  | 0 => .nil
  | k + 1 => by
    rw [List.replicate_succ, List.replicate_succ, List.flatten_cons, List.flatten_cons]
    exact zbC.append h (zbC.rep h k)
theorem zhE (its : List Value) : ∀ (k : Nat) (acc : List Value),
    List.foldl (fun x1 x2 => x1 ++ x2) acc.toArray (List.replicate k its.toArray) = (acc ++ (List.replicate k its).flatten).toArray
  | 0, acc => by simp
  | k + 1, acc => by
    have e : acc.toArray ++ its.toArray = (acc ++ its).toArray := by simp
    have e2 : (acc ++ its) ++ (List.replicate k its).flatten = acc ++ (List.replicate (k + 1) its).flatten := by
      rw [List.replicate_succ, List.flatten_cons, List.append_assoc]
    rw [← e2, ← zhE its k (acc ++ its), ← e, List.replicate_succ, List.foldl_cons]
section
variable {X : Cx} {pins : List (Addr × Obj)} {σ : St} {H : Hp} {s : Shared} {l b : Addr} {xs ys zs : List V}
theorem Inv.lset {its its' : List Value} {n : Nat} {f : Array Value -> Array Value} {t' : Nat} (I : Inv X pins σ H s) (hH : H l = some (.lst xs))
    (e : s.heap.get? l = some { cls := .type "list", data := .seq its.toArray n }) (hf : f its.toArray = its'.toArray) (hv : zbC ys its') (hz : ys.length <= sizeLine) :
    Inv X pins σ (upd H l (.lst ys)) { s with heap := s.heap.update l (Obj.mapSeq f), toks := t' } := by
  have q := PySem.IsL.update e f
  rw [hf] at q
  refine I.write (x := l) (e := l) (by rw [hH]; exact trivial) (.inl rfl) (fun b' u hb hu => (Heap.get?_update_other s.heap (Obj.mapSeq f) (Ne.symm hb)).trans hu) ⟨_, q⟩ ?_
  exact ⟨hz, its', _, hv, q⟩
theorem Inv.lnew {its : List Value} {t' : Nat} (I : Inv X pins σ H s) (hv : zbC ys its) (hz : ys.length <= sizeLine) :
    Inv X pins σ (upd H s.heap.objs.size (.lst ys)) { s with heap := s.heap.push { cls := .type "list", data := .seq its.toArray }, toks := t' } :=
  I.laid (fun _ _ q => Heap.get?_push_of_some _ q) (Nat.le_refl _) ⟨hz, its, 0, hv, Heap.get?_push_size _ rfl⟩
theorem Inv.fresh (I : Inv X pins σ H s) : H s.heap.objs.size = none := I.hok.fresh (Nat.le_refl _)
theorem Inv.lstM (I : Inv X pins σ H s) (hH : H l = some (.lst xs)) : xs.length <= sizeLine /\ ∃ (its : List Value) (n : Nat), zbC xs its /\ xs.length = its.length /\ s.heap.get? l = some { cls := .type "list", data := .seq its.toArray n } := by
  obtain ⟨z, its, n, r, e⟩ := I.hok l _ hH
  exact ⟨z, its, n, r, r.length, e⟩
theorem ziP {n : Nat} (h : n <= sizeLine) : Builtin.List.listTooLong n = false := by
  unfold Builtin.List.listTooLong
  exact decide_eq_false (by omega)
end
section
variable {X : Cx}
def znk : V -> List V -> Hp -> VK -> Prop := fun x vs H Q => ∃ l xs y, x = .ref l /\ vs = [y] /\ H l = some (.lst xs) /\ xs.length < sizeLine /\ Q .non (upd H l (.lst (xs ++ [y])))
theorem zhx : MtM X "list.append" znk := by
  intro pins s σ H x vs v us Q I rx rv h
  obtain ⟨l, xs, y, rfl, rfl, hH, hz, q⟩ := h
  cases rx
  obtain ⟨u, rfl, ru⟩ := rv.one
  obtain ⟨z, its, n, r, hl, e⟩ := I.lstM hH
  refine call_meets F.slot_list_append ⟨_, e, rfl⟩ F.entry_list_append (F.args_list_append_2 _ _) (PySem.list_append l its.toArray n u (by rw [List.size_toArray]; omega)) ⟨e, ?_⟩
  refine ⟨.non, _, I.lset (its' := its ++ [u]) hH e (by simp) (r.append (.cons ru .nil)) ?_, rfl, q⟩
  rw [List.length_append, List.length_singleton]
  omega
def znj : V -> List V -> Hp -> VK -> Prop := fun x vs H Q => ∃ l b xs zs, x = .ref l /\ vs = [.ref b] /\ H l = some (.lst xs) /\ H b = some (.lst zs) /\ xs.length + zs.length <= sizeLine /\ Q .non (upd H l (.lst (xs ++ zs)))
theorem zkx : MtM X "list.extend" znj := by
  intro pins s σ H x vs v us Q I rx rv h
  obtain ⟨l, b, xs, zs, rfl, rfl, hH, hB, hz, q⟩ := h
  cases rx
  obtain ⟨u, rfl, ru⟩ := rv.one
  cases ru
  obtain ⟨z, its, n, r, hl, e⟩ := I.lstM hH
  obtain ⟨z2, its2, n2, r2, hl2, e2⟩ := I.lstM hB
  have hsz : its.toArray.size + its2.toArray.size <= sizeLine := by rw [List.size_toArray, List.size_toArray]; omega
  have hlong : ¬ (!its.toArray.isEmpty && Builtin.List.listTooLong (its.toArray.size + its2.toArray.size)) = true := by
    rw [ziP hsz, Bool.and_false]
    exact Bool.false_ne_true
  refine call_meets F.slot_list_extend ⟨_, e, rfl⟩ F.entry_list_extend (F.args_list_extend_2 _ _)
    (AutoSeq1.list_extend_list_list_0 l its.toArray n b its2.toArray n2 hlong (by rw [List.size_toArray]; omega) (by omega)) ⟨e, e2, ?_⟩
  refine ⟨.non, _, I.lset (its' := its ++ its2) hH e (by simp) (r.append r2) ?_, rfl, q⟩
  rw [List.length_append]
  omega
def zql : R2 := fun x y H Q => ∃ l b xs zs, x = .ref l /\ y = .ref b /\ H l = some (.lst xs) /\ H b = some (.lst zs) /\ xs.length + zs.length <= sizeLine /\ ∀ p, H p = none -> Q (.ref p) (upd H p (.lst (xs ++ zs)))
theorem zo9 : OpR X (binaryOp .Add) zql := by
  intro pins s σ H x y v u Q I rx ry h
  obtain ⟨l, b, xs, zs, rfl, rfl, hH, hB, hz, q⟩ := h
  cases rx
  cases ry
  obtain ⟨z, its, n, r, hl, e⟩ := I.lstM hH
  obtain ⟨z2, its2, n2, r2, hl2, e2⟩ := I.lstM hB
  refine PySem.P.add_list e e2 ?_ (by rw [List.size_toArray, List.size_toArray]; omega)
  have ea : its.toArray ++ its2.toArray = (its ++ its2).toArray := by simp
  rw [ea]
  exact ⟨.ref _, _, I.lnew (t' := s.toks) (r.append r2) (by rw [List.length_append]; omega), rfl, q _ I.fresh⟩
def zrc : R2 := fun x y H Q => ∃ l k xs, x = .ref l /\ y = .int k /\ H l = some (.lst xs) /\ -(2 ^ 63) <= k /\ k < 2 ^ 63 /\ xs.length * k.toNat <= sizeLine /\
  ∀ p, H p = none -> Q (.ref p) (upd H p (.lst (List.replicate k.toNat xs).flatten))
theorem zkH {α : Type} (xs : List α) (k : Nat) : (List.replicate k xs).flatten.length = k * xs.length := by
  induction k with
  | zero => simp
  | succ k ih => rw [List.replicate_succ, List.flatten_cons, List.length_append, ih, Nat.succ_mul, Nat.add_comm]
theorem zo4 : OpR X (binaryOp .Mult) zrc := by
  intro pins s σ H x y v u Q I rx ry h
  obtain ⟨l, k, xs, rfl, rfl, hH, h1, h2, hz, q⟩ := h
  cases rx
  obtain ⟨t, rfl⟩ := ry
  obtain ⟨z, its, n, r, hl, e⟩ := I.lstM hH
  have hlen : its.toArray.size * k.toNat <= sizeLine := by rw [List.size_toArray, ← hl]; exact hz
  have hcap : ¬ its.toArray.size * k.toNat > (2 ^ 63 - 1) / 8 := by
    have : (sizeLine : Nat) <= (2 ^ 63 - 1) / 8 := by decide
    omega
  have hfit : ¬ (!Builtin.List.listFitsIndex k) = true := by
    rw [fitsIndex_both h1 h2]
    exact Bool.false_ne_true
  have hlong : ¬ Builtin.List.listTooLong (its.toArray.size * k.toNat) = true := by
    rw [ziP hlen]
    exact Bool.false_ne_true
  have hnew : List.foldl (fun x1 x2 => x1 ++ x2) #[] (List.replicate (if its.toArray.isEmpty = true then 0 else k.toNat) its.toArray) = (List.replicate k.toNat its).flatten.toArray := by
    have f0 : ∀ m : Nat, List.foldl (fun x1 x2 => x1 ++ x2) #[] (List.replicate m its.toArray) = (List.replicate m its).flatten.toArray := fun m => by
      have := zhE its m []
      rw [List.nil_append] at this
      exact this
    rw [f0]
    cases its with
    | nil => simp
    | cons a r' => rw [if_neg (by simp)]
  refine wpAny_binaryOp_repeat_ref (T := "list") (U := "int") (by decide) ⟨_, e, rfl⟩ (fun s' => typeIs_int s' k t) noFill_list_mul F.fills_int_mul F.slot_int_rmul repeat_list F.slot_int_index.lookup
    (call_meets F.slot_int_rmul (typeIs_int s k t) F.entry_int_rmul (F.args_int_rmul_2 _ _) (int___rmul___int_list k t l its.toArray n)
      ⟨e, rfl, ⟨_, e, rfl⟩, call_meets F.slot_list_mul ⟨_, e, rfl⟩ F.entry_list_mul (F.args_list_mul_2 _ _) (AutoListH.list___mul___list_int_3 l its.toArray n k t hfit hcap hlong) ⟨e, ?_⟩⟩)
  rw [hnew]
  exact ⟨.ref _, _, I.lnew (t' := s.toks) (r.rep k.toNat) (by rw [zkH, Nat.mul_comm]; exact hz), rfl, q _ I.fresh⟩
end
section
variable {prog : Program} {w : World} {A : Around} {E : Value -> Shared -> Prop} {s : Shared}
end
section
variable {X : Cx}
end
end L2
end
section
namespace L2
open PySem PySem.Spec PyProof.Rows
section
variable {κ : Type} [DecidableEq κ]
def zlB (kvs : List (κ × V)) (k : κ) : Option V := (kvs.find? fun kv => decide (kv.1 = k)).map (·.2)
def zgd (kvs : List (κ × V)) (k : κ) (v : V) : List (κ × V) :=
  if (kvs.any fun kv => decide (kv.1 = k)) = true then kvs.map (fun kv => if kv.1 = k then (kv.1, v) else kv) else kvs ++ [(k, v)]
theorem zgw {p : κ × V} {r : List (κ × V)} {k : κ} (e : p.1 = k) : zlB (p :: r) k = some p.2 := by simp [zlB, List.find?_cons, e]
theorem zgx {p : κ × V} {r : List (κ × V)} {k : κ} (e : ¬ p.1 = k) : zlB (p :: r) k = zlB r k := by simp [zlB, List.find?_cons, e]
theorem ziB (k : κ) : ∀ kvs : List (κ × V), (kvs.any fun kv => decide (kv.1 = k)) = (zlB kvs k).isSome
  | [] => rfl
  | p :: r => by
    rw [List.any_cons]
    by_cases e : p.1 = k
    · simp only [zgw e, decide_eq_true e, Bool.true_or, Option.isSome_some]
    · rw [zgx e, decide_eq_false e, Bool.false_or]; exact ziB k r
theorem zfw (kvs : List (κ × V)) (k : κ) (v : V) : (zgd kvs k v).length <= kvs.length + 1 := by
  unfold zgd
  split
  · rw [List.length_map]; omega
  · rw [List.length_append, List.length_cons, List.length_nil]; omega
theorem zjQ.isSome_eq {o : Option V} {u : Option Value} (r : zjQ o u) : o.isSome = u.isSome := by
  cases o with
  | none => cases u with
    | none => rfl
    | some _ => exact (show False from r).elim
  | some _ => cases u with
    | none => exact (show False from r).elim
    | some _ => rfl
theorem KV.any {kvs : List (κ × V)} {vs : List (κ × Value)} (r : KV kvs vs) (k : κ) : (kvs.any fun kv => decide (kv.1 = k)) = vs.any fun kv => decide (kv.1 = k) := by
  unfold KV at r
  induction r with
  | nil => rfl
  | cons h t ih => rw [List.any_cons, List.any_cons, ih, h.1]
theorem KV.repl {kvs : List (κ × V)} {vs : List (κ × Value)} (r : KV kvs vs) (k : κ) {y : V} {u : Value} (ry : zbJ y u) :
    KV (kvs.map fun kv => if kv.1 = k then (kv.1, y) else kv) (vs.map fun kv => if kv.1 = k then (kv.1, u) else kv) := by
  unfold KV at r ⊢
  induction r with
  | nil => exact .nil
  | @cons p q ps qs h t ih =>
    rw [List.map_cons, List.map_cons]
    refine .cons ?_ ih
    obtain ⟨h1, h2⟩ := h
    by_cases e : p.1 = k
    · rw [if_pos e, if_pos (h1.symm.trans e)]; exact ⟨h1, ry⟩
    · rw [if_neg e, if_neg (fun z => e (h1.trans z))]; exact ⟨h1, h2⟩
theorem KV.put {kvs : List (κ × V)} {vs : List (κ × Value)} (r : KV kvs vs) (k : κ) {y : V} {u : Value} (ry : zbJ y u) : KV (zgd kvs k y) (stored vs k u) := by
  unfold zgd stored
  rw [r.any k]
  by_cases e : (vs.any fun kv => decide (kv.1 = k)) = true
  · rw [if_pos e, if_pos e]; exact r.repl k ry
  · rw [if_neg e, if_neg e]; exact Paired.snoc r ⟨rfl, ry⟩
theorem KV.length {kvs : List (κ × V)} {vs : List (κ × Value)} (r : KV kvs vs) : kvs.length = vs.length := Paired.length r
end
theorem zma {P : Program} {w : World} {k : Key} {u : Value} (r : zbJ (kV k) u) : (zaZ P w).is k u = true := by
  cases k with
  | inl i => obtain ⟨t, e⟩ := (show ∃ t, u = Value.int i t from r); subst e; exact zig P w i t
  | inr x => obtain ⟨t, e⟩ := (show ∃ t, u = Value.str x t from r); subst e; exact zif P w x t
theorem zhB {P : Program} {w : World} : ∀ {ks : List Key} {us : List Value}, zbC (ks.map kV) us -> ItemsAre (zaZ P w) ks us
  | [], _, r => by rw [List.map_nil] at r; cases r; exact .nil
  | k :: ks, _, r => by
    rw [List.map_cons] at r
    cases r with
    | cons h t => exact .cons (zma h) (zhB t)
abbrev KT (H : Hp) : List (List Key × V) -> List (List Key × Addr × Value) -> Prop := Paired fun p q => p.1 = q.1 /\ H q.2.1 = some (.tup (p.1.map kV)) /\ zbJ p.2 q.2.2
theorem KT.val {H : Hp} {kvs : List (List Key × V)} {xs : List (List Key × Addr × Value)} (r : KT H kvs xs) (k : List Key) : zjQ (zlB kvs k) ((atKey xs k).map (·.2)) := by
  induction r with
  | nil => exact True.intro
  | @cons p q ps qs h t ih =>
    obtain ⟨h1, _, h2⟩ := h
    by_cases e : p.1 = k
    · have e' : q.1 = k := h1.symm.trans e
      have b : atKey (q :: qs) k = some q.2 := by simp [atKey, List.find?_cons, e']
      rw [zgw e, b]; exact h2
    · have e' : ¬ q.1 = k := fun z => e (h1.trans z)
      have b : atKey (q :: qs) k = atKey qs k := by simp [atKey, List.find?_cons, e']
      rw [zgx e, b]; exact ih
theorem KT.repl {H : Hp} {kvs : List (List Key × V)} {xs : List (List Key × Addr × Value)} (r : KT H kvs xs) (k : List Key) {y : V} {u : Value} (ry : zbJ y u) :
    KT H (kvs.map fun kv => if kv.1 = k then (kv.1, y) else kv) (xs.map (putAt k u)) := by
  induction r with
  | nil => exact .nil
  | @cons p q ps qs h t ih =>
    rw [List.map_cons, List.map_cons]
    refine .cons ?_ ih
    obtain ⟨h1, h2, h3⟩ := h
    unfold putAt
    by_cases e : p.1 = k
    · rw [if_pos e, if_pos (h1.symm.trans e)]; exact ⟨h1, h2, ry⟩
    · rw [if_neg e, if_neg (fun z => e (h1.trans z))]; exact ⟨h1, h2, h3⟩
theorem KT.put {H : Hp} {kvs : List (List Key × V)} {xs : List (List Key × Addr × Value)} (r : KT H kvs xs) (k : List Key) {b : Addr} {y : V} {u : Value} (hb : H b = some (.tup (k.map kV))) (ry : zbJ y u) :
    KT H (zgd kvs k y) (storedH xs k b u) := by
  have e : (kvs.any fun kv => decide (kv.1 = k)) = (atKey xs k).isSome := by
    rw [ziB, (r.val k).isSome_eq, Option.isSome_map]
  unfold zgd storedH
  rw [e]
  by_cases q : (atKey xs k).isSome = true
  · rw [if_pos q, if_pos q]; exact r.repl k ry
  · rw [if_neg q, if_neg q]; exact Paired.snoc r ⟨rfl, hb, ry⟩
theorem KT.keeps {H H' : Hp} {kvs : List (List Key × V)} {xs : List (List Key × Addr × Value)} (r : KT H kvs xs) (ht : ∀ b ys, H b = some (.tup ys) -> H' b = some (.tup ys)) : KT H' kvs xs :=
  Paired.mapP r fun _ _ z => ⟨z.1, ht _ _ z.2.1, z.2.2⟩
section
variable {P : Program} {w : World} {H : Hp} {h : Heap} {a : Addr}
theorem zoE {u : HO} (ok : HOk P w H h) (e : Rd H a u) : zbB P w H h a u := e.ok ok
theorem zqM {kvs : List (Key × V)} (ok : HOk P w H h) (e : Rd H a (.dK kvs)) : kvs.length <= sizeLine /\ (a == sysModules) = false /\ ∃ vs, KV kvs vs /\ h.DictOf (zaZ P w) a vs :=
  show zbB P w H h a (.dK kvs) from zoE ok e
theorem zqN {kvs : List (Key × V)} (ok : HOk P w H h) (e : H a = some (.dK kvs)) : kvs.length <= sizeLine /\ (a == sysModules) = false /\ ∃ vs, KV kvs vs /\ h.DictOf (zaZ P w) a vs := zqM ok (.inl e)
theorem ziW {ks : List Key} (ok : HOk P w H h) (e : H a = some (.tup (ks.map kV))) : (tupleKind (zaZ P w)).is h ks a := by
  obtain ⟨_, its, r, o, h1, h2, n, h3⟩ := (show zbB P w H h a (.tup (ks.map kV)) from ok a _ e)
  exact ⟨o, its.toArray, n, h1, h2, h3, by simpa using zhB r⟩
theorem zqK {kvs : List (List Key × V)} (ok : HOk P w H h) (e : Rd H a (.dT kvs)) : kvs.length <= sizeLine /\ (a == sysModules) = false /\
    ∃ xs, KT H kvs xs /\ h.DictOfH (tupleKind (zaZ P w)) a xs := by
  obtain ⟨z, y, xs, r, o, es, ep, h1, h2, h3, h4, h5⟩ := (show zbB P w H h a (.dT kvs) from zoE ok e)
  refine ⟨z, y, xs, r, o, es, ep, h1, h2, h3, h4, fun x hx => ?_, h5⟩
  have all : ∀ {l : List (List Key × V)} {m : List (List Key × Addr × Value)}, KT H l m -> ∀ x ∈ m, (tupleKind (zaZ P w)).is h x.1 x.2.1 := by
    intro l m q
    induction q with
    | nil => intro x hx; exact nomatch hx
    | @cons p q ps qs hq t ih =>
      intro x hx
      rcases List.mem_cons.mp hx with e | hx
      · subst e
        exact ziW ok (by rw [← hq.1]; exact hq.2.1)
      · exact ih x hx
  exact all r x hx
theorem zqL {kvs : List (List Key × V)} (ok : HOk P w H h) (e : H a = some (.dT kvs)) : kvs.length <= sizeLine /\ (a == sysModules) = false /\
    ∃ xs, KT H kvs xs /\ h.DictOfH (tupleKind (zaZ P w)) a xs := zqK ok (.inl e)
end
def zpV (H : Hp) (a : Addr) (y v : V) (H' : Hp) : Prop :=
  (∃ kvs k, H a = some (.dK kvs) /\ y = kV k /\ kvs.length < sizeLine /\ H' = upd H a (.dK (zgd kvs k v))) \/
  ∃ kvs k b, H a = some (.dT kvs) /\ y = .ref b /\ H b = some (.tup (k.map kV)) /\ kvs.length < sizeLine /\ H' = upd H a (.dT (zgd kvs k v))
theorem zpV.k {H : Hp} {a : Addr} {kvs : List (Key × V)} {k : Key} {v : V} (e : H a = some (.dK kvs)) (hl : kvs.length < sizeLine) : zpV H a (kV k) v (upd H a (.dK (zgd kvs k v))) := .inl ⟨kvs, k, e, rfl, hl, rfl⟩
section
variable {X : Cx} {pins : List (Addr × Obj)} {σ : St} {H : Hp} {s : Shared} {a : Addr} {y v : V} {u r : Value} {o : Option V} {A : Around} {E : Value -> Shared -> Prop}
theorem Inv.big (I : Inv X pins σ H s) : sysModules < s.heap.objs.size := by
  have h : mainGlobals < s.heap.objs.size := (I.mod.glob.keeps I.bk).lt
  exact Nat.lt_trans (by decide) h
theorem zld {h' : Heap} {t' : Nat} {ob : HO} (I : Inv X pins σ H s) (mu : Mut (H a)) (hs : Heap.SameBut a s.heap h') (he : ∃ q, h'.get? a = some q) (new : zbB X.prog X.w (upd H a ob) h' a ob) :
    Inv X pins σ (upd H a ob) { s with heap := h', toks := t' } :=
  I.write (x := a) (e := a) mu (.inl rfl) (fun b q hb z => (hs.2 b hb).trans z) he new
theorem zpI {P : Program} {w : World} {H' : Hp} {h' : Heap} {kvs : List (Key × V)} {vs : List (Key × Value)} (z : kvs.length <= sizeLine) (hd : (a == sysModules) = false) (rel : KV kvs vs) (dd : h'.DictOf (zaZ P w) a vs) :
    zbB P w H' h' a (.dK kvs) := ⟨z, hd, vs, rel, dd⟩
theorem zle {H' : Hp} {Q : Unit -> Shared -> Prop} (hu : A.units + 1 < cLine) (I : Inv X pins σ H s) (g : zpV H a y v H') (ry : zbJ y u) (rv : zbJ v r) (h : ∀ s', Inv X pins σ H' s' -> Q () s') :
    wpAny (model X.prog X.w) A (setItem (.ref a) u r) Q E s := by
  rcases g with ⟨kvs, k, e, ey, l, eH⟩ | ⟨kvs, k, b, e, ey, eb, l, eH⟩
  · subst ey eH
    obtain ⟨z, hd, vs, rel, dd⟩ := zqN I.hok e
    have hz : vs.length <= sizeLine := by rw [← rel.length]; exact z
    have hl : (zgd kvs k v).length <= sizeLine := by have := zfw kvs k v; omega
    refine wpAny_setItem_pairs (hsz := hz) (zma ry) dd fun h' dd' hs => h _ ?_
    have he : ∃ q, h'.get? a = some q := let ⟨q, _, _, hq, _⟩ := dd'; ⟨q, hq⟩
    exact zld I (by rw [e]; exact True.intro) hs he (zpI hl hd (rel.put k rv) dd')
  · subst ey eH
    cases (show u = Value.ref b from ry)
    obtain ⟨z, hd, xs, rel, dd⟩ := zqL I.hok e
    have hz : xs.length <= sizeLine := by rw [← Paired.length rel]; exact z
    have hl : (zgd kvs k v).length <= sizeLine := by have := zfw kvs k v; omega
    refine wpAny_setItem_heap (hsz := hz) (tupleKind_room_in1 hu) (ziW I.hok eb) dd fun h' dd' hs => h _ ?_
    obtain ⟨q, es, ep, hq, h2, h3, h4, _, h5⟩ := dd'
    refine zld I (by rw [e]; exact True.intro) hs ⟨q, hq⟩ ⟨hl, hd, _, (rel.put k eb rv).keeps fun c ys ec => ?_, q, es, ep, hq, h2, h3, h4, h5⟩
    rw [zas (zf0 ec e (fun z => nomatch z))]
    exact ec
end
section
variable {X : Cx} {pins : List (Addr × Obj)} {σ : St} {H : Hp} {s : Shared} {a : Addr} {kvs : List (Key × V)} {k : Key} {u : Value} {A : Around} {E : Value -> Shared -> Prop}
end
def zqj (td ty tv : TE) : TS := fun D σ H => tv σ H fun v H1 => td σ H1 fun x H2 => ty σ H2 fun y H3 => ∃ a H4, x = .ref a /\ zpV H3 a y v H4 /\ D.nx σ H4
section
variable {X : Cx} {o i e value : Expr} {pos pos' tpos : Pos} {td ty tv : TE}
theorem znr (hu : X.A.units + 1 < cLine) (ho : PE X o td) (hi : PE X i ty) (hv : PE X value tv) (hs : swapsWith value (some (.Subscript o i pos')) pos.line X.env = pure false) :
    PS X (.Assign [.Subscript o i pos'] value pos) (zqj td ty tv) := by
  intro pins s σ H D I h
  refine wpAny_Assign_Subscript (thn (hv pins s σ H _ I h) fun r s1 ⟨v, H1, I1, rv, q1⟩ => thn (ho pins s1 σ H1 _ I1 q1) fun u s2 ⟨x, H2, I2, rx, q2⟩ => thn (hi pins s2 σ H2 _ I2 q2) fun iv s3 ⟨y, H3, I3, ry, a, H4, ex, g, q3⟩ => ?_) hs
  subst ex
  obtain rfl : u = Value.ref a := rx
  exact zle hu I3 g ry rv fun s4 I4 => ⟨σ, H4, I4, q3⟩
end
theorem zmu {P : Program} {w : World} {H : Hp} (h : Heap) (hb : sysModules < h.objs.size) : zbB P w H (h.push { cls := .type "dict", data := .dict #[] }) h.objs.size (.dK []) :=
  ⟨Nat.zero_le _, beq_eq_false_iff_ne.mpr (Ne.symm (Nat.ne_of_lt hb)), [], .nil, Heap.DictOf.new h⟩
def zou : TE := fun _ H Q => ∀ p, H p = none -> Q (.ref p) (upd H p (.dK []))
section
variable {X : Cx} {pos : Pos}
theorem ziM : PE X (.Dict [] [] pos) zou := fun pins s σ H Q I h =>
  wpAny_Dict_empty ⟨.ref s.heap.objs.size, _, I.laid (a := s.heap.objs.size) (o := .dK []) (t' := s.toks) (fun _ _ q => Heap.get?_push_of_some _ q) (Nat.le_refl _) (zmu s.heap I.big), rfl, h _ (I.hok.fresh (Nat.le_refl _))⟩
end
structure M1 (X : Cx) (o : Expr) (m : Str) (apos : Pos) (e : Expr) (cpos : Pos) : Prop where
  base : attributeBase o m X.env (eval o X.env) = eval o X.env
  few : ((backTo cpos (starEach [e] X.env)).all (fun x => !x.1) && (backToKw cpos (keywordEach [] X.env)).all (fun x => x.1.isSome)
    && decide (([e] : List Expr).length + ([] : List Keyword).length + (if ([] : List Keyword).isEmpty then 0 else 1) < 30)) = true
  line : (apos.endLine == cpos.line) = true
  trees : backTo cpos (starEach [e] X.env) = [(false, eval e X.env)]
structure M2 (X : Cx) (o : Expr) (m : Str) (apos : Pos) (e f : Expr) (cpos : Pos) : Prop where
  base : attributeBase o m X.env (eval o X.env) = eval o X.env
  few : ((backTo cpos (starEach [e, f] X.env)).all (fun x => !x.1) && (backToKw cpos (keywordEach [] X.env)).all (fun x => x.1.isSome)
    && decide (([e, f] : List Expr).length + ([] : List Keyword).length + (if ([] : List Keyword).isEmpty then 0 else 1) < 30)) = true
  line : (apos.endLine == cpos.line) = true
  trees : backTo cpos (starEach [e, f] X.env) = [(false, eval e X.env), (false, eval f X.env)]
section
variable {X : Cx} {pins : List (Addr × Obj)} {σ : St} {H : Hp} {s : Shared} {a : Addr} {y d : V} {u r : Value} {o : Option V} {A : Around} {E : Value -> Shared -> Prop}
end
section
variable {X : Cx} {o e f : Expr} {apos cpos : Pos} {td ty tx : TE}
end
section
variable {X : Cx} {pins : List (Addr × Obj)} {σ : St} {H : Hp} {s : Shared} {a : Addr} {kvs : List (Key × V)} {A : Around} {E : Value -> Shared -> Prop}
end
section
variable {X : Cx} {pins : List (Addr × Obj)} {σ : St} {H : Hp} {s : Shared} {a : Addr} {y : V} {u : Value} {A : Around} {E : Value -> Shared -> Prop}
end
end L2
end
section
namespace Att
open PySem PySem.W PySem.Calls PyProof.Rows
theorem zfA {P : Params} {h : Heap} : ∀ (ns : List Int) (vs : List Value), WellAll P h vs (ns.map WData.int) -> IntsAre vs ns := by
  intro ns
  induction ns with
  | nil =>
    intro vs w
    rw [List.map_nil] at w
    cases w
    exact .nil
  | cons n ns ih =>
    intro vs w
    rw [List.map_cons] at w
    cases w with
    | cons a b =>
      cases a
      exact .cons _ _ (ih _ b)
theorem zhi {l : OpenLaw} {n : Nat} (hn : l.most = some n) {P : Params} {h : Heap} {args : List WData} {vals : List Value}
    (hpre : l.row.toRowW.claim.pre args = true) (hwl : WellAll P h vals args) :
    ∃ a vs ns, vals = [Value.ref a] /\ args = [WData.list (ns.map WData.int)] /\ h.get? a = some { cls := .type "list", data := .seq vs.toArray } /\ IntsAre vs ns /\ ns.length <= n := by
  have hsh : WShape.hasAll [] args [.list .int] = true := (pre_splitW hpre).1
  have hc : l.pre.holds [] { args := args } = true := (pre_splitW hpre).2
  obtain ⟨d, r, rfl, h1, h2⟩ := hasAllW_cons hsh
  obtain rfl := hasAllW_nil h2
  obtain ⟨xs, rfl, h3⟩ := hasW_list h1
  obtain ⟨ns, rfl⟩ := items_int h3
  have hlen : ns.length <= n := by
    unfold OpenLaw.pre at hc
    have h4 : (WTm.not (.lt (.lit (.int (n : Int))) (.len (.arg 0)))).holds [] { args := [.list (ns.map .int)] } = true := by
      have h4 := (holds_andW hc).1
      rw [hn] at h4
      exact h4
    have h5 := condW_of h4 (w_not (w_lt w_lit (w_len_list (w_arg rfl))))
    rw [List.length_map] at h5
    refine Nat.le_of_not_lt fun q => ?_
    have q' : (n : Int) < ((ns.length : Nat) : Int) := by omega
    first
      | (rw [decide_eq_true q'] at h5; exact absurd h5 (by decide))
      | (simp at h5; omega)
  cases hwl with
  | cons w1 w2 =>
    cases w2
    cases w1 with
    | list ho hall => exact ⟨_, _, ns, rfl, rfl, ho, zfA ns _ hall, hlen⟩
theorem zhq (l : OpenLaw) (args : List WData) : l.row.toRowW.claim.post args (.bool true) args = true :=
  postW_of (r := l.row.toRowW) (X := (true == true))
    (show WShape.has [] (.bool true) .bool = true by first | rfl | decide | simp [WShape.has, WShape.arms, WShape.armsAll])
    (show (WTm.eq .res (.lit (.bool true))).value [] { args := args, res := some (.bool true), after := args } = some (.bool (true == true)) from w_eq_bool (w_res rfl) w_lit) rfl
theorem zrm {l : OpenLaw} {n : Nat} {q : Program} {loose : List Str} {XP : (Str -> Option Value) -> Heap -> Prop} {YP : World -> Heap -> Prop} {d : DefRec} {x : Str}
    (hn : l.most = some n) (hdf : d.params.defaults = [])
    (hbind : ∀ pm cd doc v : Value, bindArgs (docDef d.name d.params d.body d.scope pm cd doc) ⟨[v], []⟩ = pure [(x, v)])
    (hx : d.scope.names.lookup x = some .local \/ d.scope.names.lookup x = some .cell)
    (hk : d.scope.kind = .function) (hco : d.scope.isCoroutine = false) (hgen : d.scope.isGenerator = false)
    (body : ∀ (w : World) (s₀ s₁ s : Shared) (mg mb : Str -> Option Value) (fa : Addr) (o : Obj) (pm cd doc : Value) (a : Addr) (vs : List Value) (ns : List Int),
      Ground q loose [] XP w s₀ mg mb s₁.heap -> YP w s₁.heap ->
      s₁.heap.get? fa = some o -> o.data = .func (docDef d.name d.params d.body d.scope pm cd doc) -> s₁.heap.CodeRec cd d.name -> mg d.name = some (.ref fa) ->
      s₁.heap.get? a = some { cls := .type "list", data := .seq vs.toArray } -> IntsAre vs ns -> ns.length <= n ->
      s.gens = #[] -> s.os = s₁.os ->
      Fr s₁.heap s₁.heap.objs.size s.heap (bindL (envOfC d.name d.scope s₁.heap.objs.size fa cd).kindOf [(x, .ref a)] fun _ => none) ->
      Cl s₁.heap.objs.size (cellsFrom (s₁.heap.objs.size + 1) d.scope.names []) s.heap (bindC (envOfC d.name d.scope s₁.heap.objs.size fa cd).kindOf [(x, .ref a)] fun _ => none) ->
      wpAny (model l.prog w) (callerA.deeper (envOfC d.name d.scope s₁.heap.objs.size fa cd)) (execs d.body (envOfC d.name d.scope s₁.heap.objs.size fa cd))
        (fun f s' => f = .ret (.bool true) /\ OldK s₁.heap s'.heap /\ s'.os = s₁.os /\ AllBare s'.gens) (fun _ _ => False) s) :
    WalkO q loose XP YP l.row.toRowW d [] (fun f vs => PySem.call f vs) := by
  intro w s₀ s₁ mg mb G Y fa o pm cd doc dV kV ho hd hcd hD hmg hg args vals as hpre hlay hrd hwl hlo
  obtain rfl : dV = .none := Dflts.none hD hdf
  obtain rfl : kV = .none := Dflts.noKw hD
  obtain ⟨a, vs, ns, rfl, rfl, hobj, hints, hlen⟩ := zhi hn hpre hwl
  refine enter_call ?_
  refine call_cells_ret (o := o) (by rw [depth_caller]; decide) ho (fd_plain hd) G.T.nolimit hcd (hbind pm cd doc (.ref a)) (fun y hy => ?_) (fun h₁ tk F X => ?_) hco hgen hk
  · obtain rfl : y = (x, Value.ref a) := List.mem_singleton.mp hy
    rcases hx with e | e
    · exact .inl e
    · exact .inr ⟨e, cellsFrom_some _ _ _ (.inl e)⟩
  · refine wpAny_mono (body w s₀ s₁ { s₁ with heap := h₁, toks := tk } mg mb fa o pm cd doc a vs ns G Y ho (fd_plain hd) hcd hmg hobj hints hlen hg rfl F X) (fun f s' hq => ?_) (fun _ _ hq => hq)
    obtain ⟨rfl, h2, h3, h4⟩ := hq
    exact ⟨.inl ⟨.bool true, .bool true, [], rfl, fun _ => rfl, .bool true, zhq l _, fun _ => ⟨List.Pairwise.nil, fun _ hm => (nomatch hm)⟩⟩, h2, h3, h4⟩
theorem attach_call {l : OpenLaw} {n : Nat} {q : Program} {loose : List Str} {XP : (Str -> Option Value) -> Heap -> Prop} {YP : World -> Heap -> Prop} {d : DefRec}
    (hn : l.most = some n) (hdf : d.params.defaults = [])
    (call : ∀ (w : World) (s₀ s₁ : Shared) (mg mb : Str -> Option Value) (fa : Addr) (o : Obj) (pm cd doc : Value) (a : Addr) (vs : List Value) (ns : List Int),
      Ground q loose [] XP w s₀ mg mb s₁.heap -> YP w s₁.heap ->
      s₁.heap.get? fa = some o -> o.data = .func (docDef d.name d.params d.body d.scope pm cd doc) -> s₁.heap.CodeRec cd d.name -> mg d.name = some (.ref fa) ->
      s₁.heap.get? a = some { cls := .type "list", data := .seq vs.toArray } -> IntsAre vs ns -> ns.length <= n -> s₁.gens = #[] ->
      codeAny (model l.prog w) callerA (.call (.ref fa) ⟨[.ref a], []⟩) (fun r s' => r = .ok (.ret (.bool true)) /\ OldK s₁.heap s'.heap /\ s'.os = s₁.os /\ AllBare s'.gens) s₁) :
    WalkO q loose XP YP l.row.toRowW d [] (fun f vs => PySem.call f vs) := by
  intro w s₀ s₁ mg mb G Y fa o pm cd doc dV kV ho hd hcd hD hmg hg args vals as hpre hlay hrd hwl hlo
  obtain rfl : dV = .none := Dflts.none hD hdf
  obtain rfl : kV = .none := Dflts.noKw hD
  obtain ⟨a, vs, ns, rfl, rfl, hobj, hints, hlen⟩ := zhi hn hpre hwl
  refine enter_call (codeAny_mono (call w s₀ s₁ mg mb fa o pm cd doc a vs ns G Y ho (fd_plain hd) hcd hmg hobj hints hlen hg) fun r s' hq => ?_)
  obtain ⟨rfl, h2, h3, h4⟩ := hq
  exact ⟨.inl ⟨.bool true, .bool true, [], rfl, fun _ => rfl, .bool true, zhq l _, fun _ => ⟨List.Pairwise.nil, fun _ hm => (nomatch hm)⟩⟩, h2, h3, h4⟩
section
variable {prog : Program} {w : World} {A : Around} {E : Value -> Shared -> Prop} {s : Shared} {K : Frag}
def zrj (h : Heap) (L d : Addr) : List (Addr × Obj) := (List.range h.objs.size).filterMap fun a => if a = L \/ a = d then none else (h.get? a).map fun o => (a, o)
end
end Att
namespace L2
open PySem PySem.Spec PyProof.Rows
theorem zg9 : ∀ {vs : List Value} {ns : List Int}, IntsAre vs ns -> zbC (ns.map V.int) vs
  | _, _, .nil => .nil
  | _, _, .cons n t h => .cons ⟨t, rfl⟩ (zg9 h)
def zq2 (H : Hp) : Prop := ∀ b, H b = none \/ ∃ o xs, H b = some (.frz o (.lst xs))
theorem zl8 {P : Program} {w : World} {K : PySem.W.Frag} {mg mb : Str -> Option Value} {CX : CXT} {k : Nat} {fa a : Addr} {fd : FuncData} {x : Str} {sp : Sp} {s₁ : Shared} {vs : List Value} {ns : List Int}
    (KX : K.In s₁.heap) (hns : s₁.heap.Ns mainGlobals mg) (hb : s₁.heap.Ns builtinsNs mb) (hbb : ∀ x : Str, x ≠ "__name__" -> mb x = bootBuiltins x) (hlim : s₁.heap.NoLimit) (hg : s₁.gens = #[])
    (ha : s₁.heap.get? a = some { cls := .type "list", data := .seq vs.toArray }) (hi : IntsAre vs ns) (hl : ns.length <= sizeLine) (hr : Room k callerA)
    (F : ∀ base : Heap, K.In base -> base.Ns mainGlobals mg -> FnOk P w K mg base CX k fa fd [x] sp) (hbind : ∀ (s : Shared) (u : Value), BindsTo s fd ⟨[u], []⟩ [(x, u)])
    (hsp : ∀ H : Hp, zq2 H -> SqL K H a (ns.map V.int) -> sp [.ref a] H (fun v _ => v = .bl true) fun _ _ _ => False)
    (hCX : ∀ H e s', CX [] H s₁ (fun _ _ _ => False) e s' -> False) :
    codeAny (model P w) callerA (.call (.ref fa) ⟨[.ref a], []⟩) (fun r s' => r = .ok (.ret (.bool true)) /\ OldK s₁.heap s'.heap /\ s'.os = s₁.os /\ AllBare s'.gens) s₁ := by
  have rv := zg9 hi
  have lenV := hi.length
  have core : ∀ H : Hp, zq2 H -> SqL K H a (ns.map V.int) -> HOk P w H s₁.heap -> (∀ b, H b ≠ none -> b = a) -> (H a ≠ none -> K.lookup a = none) ->
      codeAny (model P w) callerA (.call (.ref fa) ⟨[.ref a], []⟩) (fun r s' => r = .ok (.ret (.bool true)) /\ OldK s₁.heap s'.heap /\ s'.os = s₁.os /\ AllBare s'.gens) s₁ := by
    intro H hO hS hok hA hK
    have base_of : ∀ {b : Addr} {o : Obj}, s₁.heap.get? b = some o -> H b = none -> (zmf s₁.heap H).get? b = some o := fun e n => zme e n
    have noA : ∀ {b : Addr} {o : Obj} {es : Array DictEntry} {ep : Nat}, s₁.heap.get? b = some o -> o.data = .dict es ep -> H b = none := fun {b o es ep} e d => by
      cases q : H b with
      | none => rfl
      | some u =>
        have e' : b = a := hA b (by rw [q]; simp)
        subst e'
        rw [ha] at e; cases e
        have d' : Data.seq vs.toArray _ = Data.dict es ep := d
        cases d'
    have nsK : ∀ {b : Addr} {m : Str -> Option Value}, s₁.heap.Ns b m -> (zmf s₁.heap H).Ns b m := fun {b m} ⟨o, es, ep, e, d, r⟩ => ⟨o, es, ep, base_of e (noA e d), d, r⟩
    have hKb : K.In (zmf s₁.heap H) := fun b o e => base_of (KX b o e) (by
      cases q : H b with
      | none => rfl
      | some u =>
        have e' : b = a := hA b (by rw [q]; simp)
        subst e'
        rw [hK (by rw [q]; simp)] at e; cases e)
    have hM : Mod K mg (zmf s₁.heap H) := ⟨hKb, nsK hns, ⟨mb, nsK hb, hbb⟩, let ⟨mc, h1, h2⟩ := hlim; ⟨mc, nsK h1, h2⟩⟩
    have e0 : Env0 P w K mg (zmf s₁.heap H) callerA [] s₁ H := ⟨rfl, hM, fun b o e => znF e, Nat.le_of_eq (zkT _ _), trivial, fun b hb => absurd (show b ∈ ([] : List Addr) from hb) (by simp), hok, .of_eq hg⟩
    refine codeAny_mono ((F _ hKb (nsK hns)).run callerA [] s₁ H ⟨[.ref a], []⟩ [.ref a] [.ref a] _ _ hr e0 (hbind s₁ (.ref a)) (.cons rfl .nil) (hsp H hO hS)) fun r s' h => ?_
    cases r with
    | error e => exact (hCX H e s' h).elim
    | ok fl =>
      cases fl with
      | next => exact False.elim h
      | brk => exact False.elim h
      | cont => exact False.elim h
      | ret u =>
        obtain ⟨v, H', os, bare, un, hok', r', q⟩ := h
        have q' : v = .bl true := q
        subst q'
        obtain rfl : u = Value.bool true := r'
        refine ⟨rfl, OldK.of_keep fun b o e => ?_, os, bare⟩
        cases q : H b with
        | none => exact un.keep b o e q (by intro z; exact absurd (show b ∈ ([] : List Addr) from z) (by simp)) (by simp)
        | some u =>
          rcases hO b with z | ⟨ob, xs, z⟩
          · rw [q] at z; cases z
          · have z2 := un.frzs b ob _ z
            obtain ⟨e1, _⟩ := hok b _ z
            obtain ⟨e2, _⟩ := hok' b _ z2
            rw [e] at e1; cases e1
            exact e2
  cases hk : K.lookup a with
  | some o =>
    have e := KX a o hk
    rw [ha] at e
    cases e
    refine core (fun _ => none) (fun _ => .inl rfl) (.inr ⟨_, vs.toArray, _, hk, rfl, rfl, rfl, by rw [List.size_toArray, lenV]; exact hl, by simpa using rv⟩) (fun b u z => by have z' : (none : Option HO) = some u := z; cases z') (fun b z => absurd rfl z) fun z => absurd rfl z
  | none =>
    refine core (fun b => if b = a then some (.frz { cls := .type "list", data := .seq vs.toArray } (.lst (ns.map V.int))) else none) (fun b => ?_) (.inl (.inr ⟨{ cls := .type "list", data := .seq vs.toArray }, if_pos rfl⟩)) (fun b u z => ?_) (fun b z => ?_) fun _ => hk
    · by_cases hb : b = a
      · exact .inr ⟨_, _, if_pos hb⟩
      · exact .inl (if_neg hb)
    · by_cases hb : b = a
      · have z' := (if_pos hb).symm.trans z
        cases z'
        subst hb
        exact ⟨ha, by rw [List.length_map]; exact hl, vs, _, rv, ha⟩
      · have z' := (if_neg hb).symm.trans z
        cases z'
    · by_cases hb : b = a
      · exact hb
      · exact absurd (if_neg hb) z
end L2
namespace L2
open PySem PySem.Spec PyProof.Rows
abbrev KOf {K : PySem.W.Frag} {h : Heap} (_ : K.In h) : PySem.W.Frag := K
theorem walk_of {l : PySem.W.OpenLaw} {n k : Nat} {q : Program} {loose : List Str} {XP : (Str -> Option Value) -> Heap -> Prop} {YP : World -> Heap -> Prop} {d : DefRec} {K : Params -> PySem.W.Frag} {CX : World -> CXT} {sp : World -> Sp} {x : Str}
    (hn : l.most = some n) (hn2 : n <= sizeLine) (hdf : d.params.defaults = []) (hr : Room k callerA)
    (hY : ∀ (w : World) (h : Heap), YP w h -> (K w.params).In h)
    (F : ∀ (w : World) (mg : Str -> Option Value) (fa : Addr) (h : Heap), (K w.params).In h -> h.Ns mainGlobals mg -> mg d.name = some (.ref fa) ->
      ∃ fd : FuncData, (∀ (s : Shared) (u : Value), BindsTo s fd ⟨[u], []⟩ [(x, u)]) /\
        ∀ base : Heap, (K w.params).In base -> base.Ns mainGlobals mg -> FnOk l.prog w (K w.params) mg base (CX w) k fa fd [x] (sp w))
    (hsp : ∀ (w : World) (H : Hp) (a : Addr) (ns : List Int), ns.length <= n -> zq2 H -> SqL (K w.params) H a (ns.map V.int) -> sp w [.ref a] H (fun v _ => v = .bl true) fun _ _ _ => False)
    (hCX : ∀ (w : World) (H : Hp) (s : Shared) (e : Value) (s' : Shared), CX w [] H s (fun _ _ _ => False) e s' -> False) :
    PySem.W.WalkO q loose XP YP l.row.toRowW d [] (fun f vs => PySem.call f vs) := by
  refine Att.attach_call hn hdf fun w s₀ s₁ mg mb fa o pm cd doc a vs ns G Y ho hd hcd hmg hobj hints hlen hg => ?_
  have KX := hY w _ Y
  obtain ⟨fd, hb, hF⟩ := F w mg fa _ KX G.T.g hmg
  exact zl8 KX G.T.g G.T.b G.T.builtins G.T.nolimit hg hobj hints (Nat.le_trans hlen hn2) hr hF hb (fun H hO hS => hsp w H a ns hlen hO hS) fun H e s' => hCX w H s₁ e s'
end L2
namespace L2
open PySem PySem.Spec PyProof.Rows
def zkS (s : Stmt) (j : Nat) : Stmt := match s with
  | .ClassDef _ _ _ body _ _ _ _ _ _ _ => body.getD j (.Pass ⟨0, 0, 0, 0⟩)
  | _ => .Pass ⟨0, 0, 0, 0⟩
def zcC (s : Stmt) : Arguments := match s with
  | .FunctionDef _ a _ _ _ _ _ _ _ _ => a
  | _ => { posonlyargs := [], args := [], vararg := none, kwonlyargs := [], kw_defaults := [], kwarg := none, defaults := [] }
def zbz (s : Stmt) : List Stmt := match s with
  | .FunctionDef _ _ b _ _ _ _ _ _ _ => b
  | _ => []
def zan (s : Stmt) : Scope := match s with
  | .FunctionDef _ _ _ _ _ _ sc _ _ _ => sc
  | _ => { kind := .function, names := [], isGenerator := false, isCoroutine := false }
abbrev CX0 : CXT := fun _ _ _ _ _ _ => False
abbrev E0 : XK := fun _ _ _ => False
theorem zqt {X : Cx} : zlv CX0 X E0 := fun _ _ _ _ _ _ _ h => h.elim
structure Fun (K : PySem.W.Frag) (x qual : Str) (st : Stmt) (f : Addr) (fd : FuncData) : Prop where
  ex : ∃ (oc : Value) (od : Option Addr) (kV doc pm : Value) (an : Option Addr) (cdv ct : Value) (osl : Array (Option Value)),
    fd = PySem.W.fnOf x qual (zcC st) (zbz st) (zan st) .none kV doc pm an cdv ct /\ K.lookup f = some ⟨oc, od, .func fd, osl⟩ /\ PySem.W.codeIn K cdv qual = true
  kp : PySem.W.keepIn K (.ref f) = true
section
variable {P : Program} {w : World} {K : PySem.W.Frag} {mg : Str -> Option Value} {base : Heap}
theorem Fun.ok {x qual : Str} {st : Stmt} {f : Addr} {fd : FuncData} {N ps : List Str} {k : Nat} {sp : Sp} (F : Fun K x qual st f fd) (S : FnScope N ps (zan st)) (len : ∀ vs H Q E, sp vs H Q E -> vs.length = ps.length)
    (hbody : ∀ (cdv : Value) (A : Around) (outer : List Env) (s : Shared) (H : Hp) (vs : List V) (Q : VK) (E : XK), Room k (A.deeper (envOfC qual (zan st) s.heap.objs.size f cdv)) -> sp vs H Q E ->
      ∃ t, PSs (zgW CX0 P w K mg base N qual (zan st) f cdv A outer s H E).nox (zbz st) t /\ t { nx := fun _ H' => Q .non H', rt := Q } (zeb N vs) H) : FnOk P w K mg base CX0 (k + 1) f fd ps sp := by
  obtain ⟨oc, od, kV, doc, pm, an, cdv, ct, osl, rfl, lk, hcd⟩ := F.ex
  refine zpC lk hcd S len fun A outer s H vs Q E hr hsp => ?_
  obtain ⟨t, h, q⟩ := hbody cdv A outer s H vs Q E hr hsp
  exact ⟨t, h.nox, q⟩
theorem Fun.binds {x qual : Str} {st : Stmt} {f : Addr} {fd : FuncData} {ps : List Str} (F : Fun K x qual st f fd)
    (h : ∀ (kV doc pm : Value) (an : Option Addr) (cdv ct : Value) (us : List Value), us.length = ps.length -> bindArgs (PySem.W.fnOf x qual (zcC st) (zbz st) (zan st) .none kV doc pm an cdv ct) ⟨us, []⟩ = pure (ps.zip us)) : zcZ K fd ps [] := by
  obtain ⟨oc, od, kV, doc, pm, an, cdv, ct, osl, rfl, lk, hcd⟩ := F.ex
  exact .all (h kV doc pm an cdv ct)
theorem zkX {x qual : Str} {st : Stmt} {f : Addr} {oc : Value} {od an : Option Addr} {osl : Array (Option Value)} {kV doc pm cdv ct : Value} (l : K.lookup f = some ⟨oc, od, .func (PySem.W.fnOf x qual (zcC st) (zbz st) (zan st) .none kV doc pm an cdv ct), osl⟩)
    (c : PySem.W.codeIn K cdv qual = true) (k : PySem.W.keepIn K (.ref f) = true) : Fun K x qual st f (PySem.W.fnOf x qual (zcC st) (zbz st) (zan st) .none kV doc pm an cdv ct) := ⟨⟨oc, od, kV, doc, pm, an, cdv, ct, osl, rfl, l, c⟩, k⟩
end
section
variable {X : Cx}
end
theorem zmU {A B : Prop} (h : B) : if false = true then A else B := by
  rw [if_neg Bool.false_ne_true]
  exact h
theorem zmT {A B : Prop} (h : A) : if true = true then A else B := by
  rw [if_pos rfl]
  exact h
def zbw (H H' : Hp) : Prop := ∀ b o, H b = some o -> H' b = some o
theorem zbw.refl (H : Hp) : zbw H H := fun _ _ h => h
theorem zbw.trans {H H1 H2 : Hp} (a : zbw H H1) (b : zbw H1 H2) : zbw H H2 := fun c o h => b c o (a c o h)
theorem zbw.free {H H' : Hp} (e : zbw H H') {l : Addr} (h : H' l = Option.none) : H l = Option.none := by
  cases q : H l with
  | none => rfl
  | some o =>
    rw [e l o q] at h
    cases h
theorem zbw.seq {K : PySem.W.Frag} {H H' : Hp} {a : Addr} {xs : List V} (e : zbw H H') (h : SqL K H a xs) : SqL K H' a xs := by
  rcases h with (h | ⟨o, h⟩) | h
  · exact .inl (.inl (e _ _ h))
  · exact .inl (.inr ⟨o, e _ _ h⟩)
  · exact .inr h
section
variable {κ : Type} [DecidableEq κ]
end
end L2
end
section
namespace L2
open PySem PySem.Spec PyProof.Rows
theorem zdF {prog : Program} {w : World} {A : Around} {R : Result -> Shared -> Prop} {s : Shared} {elt target iter : Expr} {ifs : List Expr} {scope : Scope} {pos : Pos} {it acc : Value} {env : Env} (I : Nat -> Shared -> Prop)
    (turn : ∀ n s, I n s -> wpAny (model prog w) A (pyNext it) (fun r s₁ => match r with
      | none => R (.ok .next) s₁
      | some v => wpAny (model prog w) A (letOwnedTupleGo target it v) (fun _ s₁' => wpAny (model prog w) A (assign target env v) (fun _ s₂ =>
          wpAny (model prog w) A (forIn ifs true fun c r => if r = true then do let ok ← isTrue c env (eval c env); pure (ForInStep.yield ok) else pure (ForInStep.yield r)) (fun ok s₃ =>
            if ok = true then wpAny (model prog w) A (eval elt env) (fun x s₄ =>
              wpAny (model prog w) A (call (.builtin "list.append") [acc, x]) (fun _ s₅ => ∃ m, m < n /\ I m s₅) (fun _ _ => False) s₄) (fun _ _ => False) s₃
            else ∃ m, m < n /\ I m s₃) (fun _ _ => False) s₂) (fun _ _ => False) s₁') (fun _ _ => False) s₁) (fun _ _ => False) s)
    (n : Nat) (h : I n s) :
    codeAny (model prog w) A (.compLoop (.ListComp elt [⟨target, iter, ifs, 0⟩] scope pos) 0 it acc env) R s := by
  refine codeAny_loop rfl I (fun n s hI => ?_) n h
  show wpAny _ A ((compTurn (.ListComp elt [⟨target, iter, ifs, 0⟩] scope pos) 0 it acc env).onRaise (fun x => do noteFrame x env; theTreesLotGoes x)) _ _ s
  refine wpAny_noted ?_
  rw [compTurn_list]
  refine wpAny_bind (wpAny_standAt (wpAny_bind (wpAny_mono (turn n s hI) (fun r s₁ h₁ => ?_) fun _ _ h' => h'.elim)))
  cases r with
  | none => exact wpAny_pure h₁
  | some v =>
    refine wpAny_bind (wpAny_mono h₁ (fun _ s₁' h₁' => ?_) fun _ _ h' => h'.elim)
    refine wpAny_bind (wpAny_mono h₁' (fun _ s₂ h₂ => wpAny_bind (wpAny_mono h₂ (fun ok s₃ h₃ => ?_) fun _ _ h' => h'.elim)) fun _ _ h' => h'.elim)
    cases ok with
    | false => exact wpAny_pure ⟨rfl, h₃⟩
    | true =>
      exact wpAny_bind (wpAny_bind (wpAny_mono h₃ (fun x s₄ h₄ => wpAny_bind (wpAny_mono h₄ (fun _ s₅ h₅ => wpAny_pure (wpAny_pure ⟨rfl, h₅⟩)) fun _ _ h' => h'.elim)) fun _ _ h' => h'.elim))
def zcK (X : Cx) (N' : List Str) (scope : Scope) (cl : List (Str × Addr)) (C : Addr) (s₀ : Shared) (H₀ : Hp) (fp : List Addr) : Cx :=
  { X with N := N', s₀ := s₀, H₀ := H₀, env := compEnvC scope cl C X.env, outer := X.stack, stack := X.stack, ex := fp, fn := fun _ => false, pn := [], xe := fun _ _ => False }
def zdm (env : Env) : List (Str × NameKind) -> List (Str × Addr) -> List (Str × Addr)
  | [], acc => acc
  | (n, k) :: r, acc => zdm env r (if k == .free then (match env.cells.lookup n with | some c => (n, c) :: acc | none => acc) else acc)
theorem zgX {env : Env} {scope : Scope} (h : ∀ y ∈ scope.names, y.2 = .free -> ∃ c, env.cells.lookup y.1 = some c) : closureFor scope env = pure (zdm env scope.names []) := by
  have all : ∀ (l : List (Str × NameKind)) (acc : List (Str × Addr)), (∀ y ∈ l, y.2 = .free -> ∃ c, env.cells.lookup y.1 = some c) ->
      (forIn l acc fun x r => match x with
        | (name, kind) => if kind == .free then do let c ← cellOf env name; pure (ForInStep.yield ((name, c) :: r)) else pure (ForInStep.yield r) : Sem (List (Str × Addr))) = pure (zdm env l acc) := by
    intro l
    induction l with
    | nil => intro acc _; rfl
    | cons y r ih =>
      intro acc hl
      obtain ⟨n, k⟩ := y
      rw [List.forIn_cons]
      have hr : ∀ y ∈ r, y.2 = .free -> ∃ c, env.cells.lookup y.1 = some c := fun y hy => hl y (List.mem_cons_of_mem _ hy)
      unfold zdm
      cases hk : (k == NameKind.free) with
      | false =>
        simp only [hk, Bool.false_eq_true, if_false, pure_bind]
        exact ih acc hr
      | true =>
        obtain ⟨c, hc⟩ := hl (n, k) List.mem_cons_self (by simpa using hk)
        have hc' : env.cells.lookup n = some c := hc
        simp only [hk, if_true, cellOf, hc', pure_bind]
        exact ih _ hr
  have e := all scope.names [] h
  exact Eq.trans (bind_pure _) e
theorem zfG {env : Env} : ∀ (l : List (Str × NameKind)) (acc : List (Str × Addr)), (∀ x c, acc.lookup x = some c -> env.cells.lookup x = some c) -> ∀ x c, (zdm env l acc).lookup x = some c -> env.cells.lookup x = some c
  | [], _, h => h
  | (n, k) :: r, acc, h => by
    unfold zdm
    refine zfG r _ ?_
    split
    · split
      · rename_i c hc
        intro x d hx
        rw [List.lookup_cons] at hx
        cases e : x == n with
        | true =>
          rw [e] at hx
          have e' : x = n := by simpa using e
          have e2 : c = d := Option.some.inj hx
          rw [e', ← e2]; exact hc
        | false => rw [e] at hx; exact h x d hx
      · exact h
    · exact h
theorem zgq {env : Env} : ∀ (l : List (Str × NameKind)) (acc : List (Str × Addr)) (x : Str), (acc.lookup x).isSome = true -> ((zdm env l acc).lookup x).isSome = true
  | [], _, _, h => h
  | (n, k) :: r, acc, x, h => by
    unfold zdm
    refine zgq r _ x ?_
    split
    · split
      · rw [List.lookup_cons]
        split
        · rfl
        · exact h
      · exact h
    · exact h
theorem zfH {env : Env} : ∀ (l : List (Str × NameKind)) (acc : List (Str × Addr)) (x : Str) (c : Addr), (x, NameKind.free) ∈ l -> env.cells.lookup x = some c -> ((zdm env l acc).lookup x).isSome = true
  | [], _, _, _, h, _ => nomatch h
  | (n, k) :: r, acc, x, c, h, hc => by
    unfold zdm
    rcases List.mem_cons.mp h with e | h
    · injection e with e1 e2
      subst e1; subst e2
      refine zgq r _ _ ?_
      rw [if_pos (by rfl), hc]
      simp
    · exact zfH r _ x c h hc
theorem zch {env : Env} : ∀ (names : List (Str × NameKind)) (x : Str) (k' : NameKind),
    (names.map fun (n, k) => if (k == NameKind.free && env.scope.kind == .function && env.kindOf n == some .cell) then (n, NameKind.cell) else (n, k)).lookup x = some k' ->
    names.lookup x = some k' \/ (k' = .cell /\ names.lookup x = some .free)
  | [], _, _, h => by simp at h
  | (n, k) :: r, x, k', h => by
    have ih := @zch env r x k'
    have h' : List.lookup x ((if (k == NameKind.free && env.scope.kind == .function && env.kindOf n == some .cell) = true then (n, NameKind.cell) else (n, k)) :: (r.map fun (n, k) => if (k == NameKind.free && env.scope.kind == .function && env.kindOf n == some .cell) then (n, NameKind.cell) else (n, k))) = some k' := h
    cases hx : x == n with
    | true =>
      by_cases hc : (k == NameKind.free && env.scope.kind == .function && env.kindOf n == some .cell) = true
      · rw [if_pos hc] at h'
        simp only [List.lookup_cons, hx] at h' ⊢
        have hk : k = .free := by
          simp only [Bool.and_eq_true, beq_iff_eq] at hc
          exact hc.1.1
        right
        exact ⟨(Option.some.inj h').symm, by rw [hk]⟩
      · rw [if_neg hc] at h'
        simp only [List.lookup_cons, hx] at h' ⊢
        exact .inl h'
    | false =>
      have h2 : List.lookup x (r.map fun (n, k) => if (k == NameKind.free && env.scope.kind == .function && env.kindOf n == some .cell) then (n, NameKind.cell) else (n, k)) = some k' := by
        by_cases hc : (k == NameKind.free && env.scope.kind == .function && env.kindOf n == some .cell) = true
        · rw [if_pos hc] at h'
          simpa only [List.lookup_cons, hx] using h'
        · rw [if_neg hc] at h'
          simpa only [List.lookup_cons, hx] using h'
      simp only [List.lookup_cons, hx]
      exact ih h2
structure CompScope (X : Cx) (scope : Scope) : Prop where
  kind : scope.kind = .function
  nocell : ∀ y ∈ scope.names, y.2 ≠ .cell
  names : ∀ y ∈ scope.names, y.2 = .local -> scope.names.lookup y.1 = some .local
  free : ∀ y ∈ scope.names, y.2 = .free -> X.env.kindOf y.1 = some .cell \/ X.env.kindOf y.1 = some .free
def zkW (fv : List (Option Nat)) (σ : St) : St := fv.map fun o => o.bind fun j => (σ[j]?).join
section
variable {X : Cx} {pins : List (Addr × Obj)} {σ : St} {H : Hp} {s : Shared}
theorem zeZ (I : Inv X pins σ H s) {scope : Scope} (S : CompScope X scope) : closureFor scope X.env = pure (zdm X.env scope.names []) :=
  zgX fun y hy hf => I.ok.has y.1 (S.free y hy hf)
theorem zn6 (I : Inv X pins σ H s) {N' : List Str} {scope : Scope} (S : CompScope X scope) {fp : List Addr} (hf : ∀ b ∈ fp, zjR X pins H b) (hlt : ∀ b ∈ fp, b < s.heap.objs.size) {C : Addr} (hC : s.heap.objs.size <= C) :
    (zcK X N' scope (zdm X.env scope.names []) C s H fp).Ok := by
  have sub := zfG (env := X.env) scope.names [] (fun x c h => by simp at h)
  refine ⟨I.ok.mod, S.kind, I.ok.glob, I.ok.blt, hC, fun x y c h1 h2 => I.ok.inj x y c (sub x c h1) (sub y c h2), fun x hx => ?_, fun x c h _ => by simp [zcK] at h, I.ok.hd, I.ok.frames, .inl rfl, fun b hb => ⟨?_, fun x c e => ?_⟩, I.bs, Nat.le_trans I.ok.bsz I.sz,
    fun b o e hb => ?_, fun b hb => ?_, I.stack, I.stkFree⟩
  · have hx' : ((relabel scope X.env).names.lookup x = some .cell \/ (relabel scope X.env).names.lookup x = some .free) := hx
    have hfr : scope.names.lookup x = some .free := by
      rcases hx' with h | h
      · rcases zch _ _ _ h with h | ⟨_, h⟩
        · exact absurd rfl (S.nocell _ (PySem.mem_of_lookup h))
        · exact h
      · rcases zch _ _ _ h with h | ⟨h, _⟩
        · exact h
        · cases h
    have hm := PySem.mem_of_lookup hfr
    obtain ⟨c, hc⟩ := I.ok.has x (S.free _ hm rfl)
    exact Option.isSome_iff_exists.mp (zfH _ _ x c hm hc)
  · exact Nat.ne_of_lt (Nat.lt_of_lt_of_le (hlt b hb) hC)
  · exact (hf b hb).2.2.2.2.1 x c (sub x c e)
  · rcases (hf b hb).2.2.2.1 with z | z
    · exact I.ok.noex b o e z
    · exact absurd (Nat.lt_of_lt_of_le (Heap.lt_size e) I.ok.bsz) (Nat.not_lt.mpr z)
  · intro z
    rcases List.mem_cons.mp (I.stkSub b z) with e | e
    · exact (hf b hb).2.1 e
    · exact (hf b hb).2.2.1 e
theorem zjK (I : Inv X pins σ H s) {N' : List Str} {scope : Scope} (S : CompScope X scope) {fp : List Addr} (hf : ∀ b ∈ fp, zjR X pins H b) (hlt : ∀ b ∈ fp, b < s.heap.objs.size) {C : Addr} (hC : C = s.heap.objs.size) {fv : List (Option Nat)} (hlen : fv.length = N'.length)
    (hfv : ∀ (i j : Nat) x, N'[i]? = some x -> fv[i]? = some (some j) -> X.N[j]? = some x /\ (X.env.kindOf x = some .cell \/ X.env.kindOf x = some .free) /\ scope.names.lookup x = some .free) {h' : Heap} {t' : Nat} {m : Str -> Option Value} (hn : h'.Ns C m) (hk : ∀ b o, s.heap.get? b = some o -> h'.get? b = some o) :
    Inv (zcK X N' scope (zdm X.env scope.names []) C s H fp) [] (zkW fv σ) H { s with heap := h', toks := t' } := by
  have ok := zn6 (N' := N') I S hf hlt (C := C) (Nat.le_of_eq hC.symm)
  have sub := zfG (env := X.env) scope.names [] (fun x c h => by simp at h)
  refine ⟨ok, rfl, I.bare, Un.kept hk, ⟨m, hn, fun i x v e1 e2 e3 => ?_⟩, fun x c e => ?_, ?_, fun x c e => I.freeC x c (sub x c e), fun p hp => ?_, I.hok.kept hk, ?_⟩
  · have e1' : N'[i]? = some x := e1
    have e2' : (zkW fv σ)[i]? = some (some v) := e2
    unfold zkW at e2'
    rw [List.getElem?_map] at e2'
    cases q : fv[i]? with
    | none => rw [q] at e2'; cases e2'
    | some o =>
      rw [q] at e2'
      cases o with
      | none => cases e2'
      | some j =>
        have e2'' : (σ[j]?).join = some v := by simpa using e2'
        obtain ⟨hN, hkk, hfree⟩ := hfv i j x e1' q
        have hσ : σ[j]? = some (some v) := by
          cases z : σ[j]? with
          | none => rw [z] at e2''; cases e2''
          | some w => rw [z] at e2''; cases w with
            | none => cases e2''
            | some w' => simp at e2''; rw [e2'']
        obtain ⟨m0, hn0, hl⟩ := I.loc
        obtain ⟨u, r, l⟩ := hl j x v hN hσ (.inr hkk)
        refine ⟨u, r, .inr ⟨?_, ?_⟩⟩
        · rcases e3 with z | z | z
          · have z' : (relabel scope X.env).names.lookup x = some .local := z
            rcases zch _ _ _ z' with y | ⟨y, _⟩
            · rw [hfree] at y; cases y
            · cases y
          · exact .inl z
          · exact .inr z
        · rcases l with ⟨k, _⟩ | ⟨_, c, hc, hcell⟩
          · rcases hkk with y | y
            · rw [k] at y; cases y
            · rw [k] at y; cases y
          · obtain ⟨c', hc'⟩ := Option.isSome_iff_exists.mp (zfH scope.names [] x c (PySem.mem_of_lookup hfree) hc)
            have e := sub x c' hc'
            rw [hc] at e
            cases e
            obtain ⟨oc, ho, hd⟩ := hcell
            exact ⟨c, hc', oc, hk _ _ ho, hd⟩
  · obtain ⟨v, oc, ho, hd⟩ := I.cell x c (sub x c e)
    exact ⟨v, oc, hk _ _ ho, hd⟩
  · exact I.hok.fresh (Nat.le_of_eq hC.symm)
  · exact absurd (show p ∈ ([] : List (Addr × Obj)) from hp) (by simp)
  · show (zkW fv σ).length = N'.length
    unfold zkW
    rw [List.length_map, hlen]
theorem zmz (I : Inv X pins σ H s) {N' : List Str} {scope : Scope} {cl : List (Str × Addr)} {fp : List Addr} (hf : ∀ b ∈ fp, zjR X pins H b) {C : Addr} (hC : s.heap.objs.size <= C) {σ' : St} {H' : Hp} {s' : Shared} {pl : List (Addr × Obj)}
    (J : Inv (zcK X N' scope cl C s H fp) pl σ' H' s') {h' : Heap} (hs : Heap.SameBut C s'.heap h') : Inv X pins σ H' { s' with heap := h' } := by
  have hCn : H' C = none := J.free
  refine I.call' (ch := fp) (s' := { s' with heap := h' }) J.os ?_ ?_ J.bare fun b hb => ⟨(hf b hb).2.2.2.1, (hf b hb).2.1, (hf b hb).2.2.2.2.1, (hf b hb).2.2.2.2.2⟩
  · have U : Un (frs X.stack) fp H H' s.heap s'.heap := J.base
    have neC : ∀ b o, s.heap.get? b = some o -> b ≠ C := fun b o e => Nat.ne_of_lt (Nat.lt_of_lt_of_le (Heap.lt_size e) hC)
    refine ⟨fun b o e n h1 h2 => ?_, fun b o e n h1 h2 => ?_, U.free, fun b o e h2 => ?_, U.tups, U.frzs, U.tbls⟩
    · exact (hs.2 b (neC b o e)).trans (U.keep b o e n h1 h2)
    · obtain ⟨sl, q⟩ := U.slot b o e n h1 h2
      exact ⟨sl, (hs.2 b (neC b o e)).trans q⟩
    · obtain ⟨o', q⟩ := U.there b o e h2
      exact ⟨o', (hs.2 b (neC b o e)).trans q⟩
  · intro b u e
    refine (J.hok b u e).stay (fun c v hc q => (hs.2 c ?_).trans q) (fun _ q => q) fun _ _ q => q
    rintro rfl
    rcases hc with z | z
    · rw [← z, hCn] at e; cases e
    · rw [hCn] at z; cases z
end
end L2
end
section
namespace L2
open PySem PySem.Spec PyProof.Rows
def PTs (X : Cx) (es : List Expr) (t : TT) : Prop :=
  ∀ (pins : List (Addr × Obj)) (s : Shared) (σ : St) (H : Hp) (Q : Bool -> Hp -> Prop), Inv X pins σ H s -> t σ H Q ->
    wpAny (model X.prog X.w) X.A (forIn es true fun c r => if r = true then do let ok ← isTrue c X.env (eval c X.env); pure (ForInStep.yield ok) else pure (ForInStep.yield r)) (TP X pins σ Q) X.xe s
def zp8 : TT := fun _ H Q => Q true H
theorem znm {X : Cx} : PTs X [] zp8 := fun _ _ _ H _ I h => wpAny_tests_nil ⟨H, I, h⟩
def LcW (J : It) (g : TG) (tc : TT) (te : TE) (acc : Addr) (Q : V -> Hp -> Prop) (σ0 : St) (H1 : Hp) : Prop :=
  ∃ W : Nat -> Nat -> List V -> St -> Hp -> Prop, (∃ m, W 0 m [] σ0 (upd H1 acc (.lst []))) /\ ∀ i m ys σ' H', W i m ys σ' H' -> H' acc = some (.lst ys) /\
    ((J.stop i H' /\ Q (.ref acc) H') \/ (J.go i H' /\ ∀ x H2, J.yld i H' x H2 -> g x σ' H2 fun σ2 H3 => tc σ2 H3 fun b H4 =>
      if b = true then te σ2 H4 fun v H5 => H5 acc = some (.lst ys) /\ ys.length < sizeLine /\ ∃ m', m' < m /\ W (i + 1) m' (ys ++ [v]) σ2 (upd H5 acc (.lst (ys ++ [v])))
      else ∃ m', m' < m /\ W (i + 1) m' ys σ2 H4))
def tLC (wi : TI) (g : TG) (tc : TT) (te : TE) (fv : List (Option Nat)) : TE := fun σ H Q => wi σ H fun J H1 => ∀ acc, H1 acc = none -> LcW J g tc te acc Q (zkW fv σ) H1
def PB (X : Cx) (N' : List Str) (scope : Scope) (tg : Expr) (ifs : List Expr) (elt : Expr) (g : TG) (tc : TT) (te : TE) : Prop :=
  ∀ (cl : List (Str × Addr)) (C : Addr) (s₀ : Shared) (H₀ : Hp) (fp : List Addr), PG (zcK X N' scope cl C s₀ H₀ fp) tg g /\ PTs (zcK X N' scope cl C s₀ H₀ fp) ifs tc /\ PE (zcK X N' scope cl C s₀ H₀ fp) elt te
structure FvOk (X : Cx) (N' : List Str) (scope : Scope) (fv : List (Option Nat)) : Prop where
  len : fv.length = N'.length
  at' : ∀ (i j : Nat) x, N'[i]? = some x -> fv[i]? = some (some j) -> X.N[j]? = some x /\ (X.env.kindOf x = some .cell \/ X.env.kindOf x = some .free) /\ scope.names.lookup x = some .free
section
variable {X : Cx} {elt tg iter : Expr} {ifs : List Expr} {scope : Scope} {pos : Pos} {N' : List Str} {fv : List (Option Nat)} {g : TG} {tc : TT} {te : TE}
theorem zja {pins : List (Addr × Obj)} {σ : St} {H1 : Hp} {s2 : Shared} {it : Addr} {fp : List Addr} {tn : Nat -> Heap -> Prop} {J : It} {Q : VK} {RR : Value -> Addr -> Result -> Shared -> Prop} (hc : X.calm = true) (S : CompScope X scope) (F : FvOk X N' scope fv) (hb : PB X N' scope tg ifs elt g tc te)
    (I2 : Inv X pins σ H1 s2) (T : Turn X.prog X.w X.K tg J fp it tn) (st2 : tn 0 s2.heap) (f2 : ∀ b ∈ fp, zjR X pins H1 b) (q : ∀ acc, H1 acc = none -> LcW J g tc te acc Q (zkW fv σ) H1)
    (hRR : ∀ (a C : Addr) (H' : Hp) (s' : Shared) (m : Str -> Option Value), s'.heap.Ns C m -> (∀ h', Heap.SameBut C s'.heap h' -> Inv X pins σ H' { s' with heap := h' }) -> zjR X pins H' C -> Q (.ref a) H' -> RR (.ref a) C (.ok .next) s') :
    wpAny (model X.prog X.w) X.A (newList []) (fun acc s₃ => wpAny (model X.prog X.w) X.A (newFunctionEnv scope X.env.globals (zdm X.env scope.names []) [] X.env.qual none .none (some X.env)) (fun cenv s₄ =>
      codeAny (model X.prog X.w) X.A (.compStart (.ListComp elt [⟨tg, iter, ifs, 0⟩] scope pos) 0 (.ref it) acc { cenv with scope := relabel scope X.env }) (RR acc cenv.locals) s₄) X.xe s₃) X.xe s2 := by
  refine wpAny_newObj_type ?_
  have hacc : H1 s2.heap.objs.size = none := I2.fresh
  have I3 : Inv X pins σ (upd H1 s2.heap.objs.size (.lst [])) { s2 with heap := s2.heap.push { cls := .type "list", data := .seq ([] : List Value).toArray } } := I2.lnew (t' := s2.toks) .nil (Nat.zero_le _)
  generalize hs3 : ({ s2 with heap := s2.heap.push { cls := .type "list", data := .seq ([] : List Value).toArray } } : Shared) = s3 at I3 ⊢
  have up : ∀ b o, s2.heap.get? b = some o -> s3.heap.get? b = some o := fun b o e => by rw [← hs3]; exact Heap.get?_push_of_some _ e
  have lt2 : ∀ b ∈ fp, b < s2.heap.objs.size := fun b hb => by
    obtain ⟨o, e, _⟩ := T.obj 0 _ st2 b hb
    exact Heap.lt_size e
  have sz3 : s2.heap.objs.size < s3.heap.objs.size := by rw [← hs3]; show _ < (s2.heap.push _).objs.size; rw [Heap.size_push]; exact Nat.lt_succ_self _
  have lt3 : ∀ b ∈ fp, b < s3.heap.objs.size := fun b hb => Nat.lt_trans (lt2 b hb) sz3
  have f3 : ∀ b ∈ fp, zjR X pins (upd H1 s2.heap.objs.size (.lst [])) b := fun b hb => ⟨by rw [zas (Nat.ne_of_lt (lt2 b hb))]; exact (f2 b hb).1, (f2 b hb).2⟩
  have st3 : tn 0 s3.heap := T.keep _ _ _ st2 fun b _ o e => up b o e
  refine wpAny_newFunctionEnv S.nocell (by intro y hy; simp at hy) (fun h4 hn4 sb4 => ?_) S.kind
  have k4 : ∀ b o, s3.heap.get? b = some o -> h4.get? b = some o := fun b o e => (sb4.2 b (Nat.ne_of_lt (Heap.lt_size e))).trans (Heap.get?_push_of_some _ e)
  have st4 : tn 0 h4 := T.keep _ _ _ st3 fun b _ o e => k4 b o e
  have I4 := zjK I3 S f3 lt3 (C := s3.heap.objs.size) rfl F.len F.at' hn4 k4 (t' := s3.toks + ([] : List (Str × Value)).length)
  generalize hX : zcK X N' scope (zdm X.env scope.names []) s3.heap.objs.size s3 (upd H1 s2.heap.objs.size (.lst [])) fp = X' at I4
  obtain ⟨bg, bt, be⟩ := hb (zdm X.env scope.names []) s3.heap.objs.size s3 (upd H1 s2.heap.objs.size (.lst [])) fp
  rw [hX] at bg bt be
  have hprog : X'.prog = X.prog := by rw [← hX]; rfl
  have hw : X'.w = X.w := by rw [← hX]; rfl
  have hK : X'.K = X.K := by rw [← hX]; rfl
  have hA : X'.A = X.A := by rw [← hX]; rfl
  have hcalm : X'.calm = true := by rw [← hX]; exact hc
  have hxe : X'.xe = fun _ _ => False := by rw [← hX]; rfl
  have henv : X'.env = compEnvC scope (zdm X.env scope.names []) s3.heap.objs.size X.env := by rw [← hX]; rfl
  have stat : ∀ {H' : Hp}, (∀ b ∈ fp, H' b = none) -> ∀ b ∈ fp, zjR X' [] H' b := fun {H'} hn b hb => by
    have f := f3 b hb
    have ok := I4.ok
    refine ⟨hn b hb, (ok.exf b (by rw [← hX]; exact hb)).1, ok.exfs b (by rw [← hX]; exact hb), .inl (by rw [← hX]; exact hb), fun x c e => (ok.exf b (by rw [← hX]; exact hb)).2 x c e, fun p hp => ?_⟩
    rw [← hX] at hp
    exact absurd (show p ∈ ([] : List (Addr × Obj)) from hp) (by simp)
  obtain ⟨W, ⟨m0, w0⟩, turn⟩ := q s2.heap.objs.size hacc
  have loop : ∀ s5 : Shared, s5 = { s3 with heap := h4, toks := s3.toks + ([] : List (Str × Value)).length } ->
      codeAny (model X.prog X.w) X.A (.compLoop (.ListComp elt [⟨tg, iter, ifs, 0⟩] scope pos) 0 (.ref it) (.ref s2.heap.objs.size) (compEnvC scope (zdm X.env scope.names []) s3.heap.objs.size X.env))
        (RR (.ref s2.heap.objs.size) s3.heap.objs.size) s5 := by
    intro s5 hs5
    refine zdF (fun n s' => ∃ i ys σ' H', Inv X' [] σ' H' s' /\ tn i s'.heap /\ (∀ b ∈ fp, H' b = none) /\ W i n ys σ' H') ?_ m0 ⟨0, [], zkW fv σ, _, hs5 ▸ I4, hs5 ▸ st4, fun b hb => (f3 b hb).1, w0⟩
    rintro n s6 ⟨i, ys, σ6, H6, I6, st6, fr6, w6⟩
    obtain ⟨ha6, turn6⟩ := turn i n ys σ6 H6 w6
    rw [← henv]
    rcases turn6 with ⟨stop, qn⟩ | ⟨go, step⟩
    · have d := T.done X' hprog hw hK hcalm i [] s6 σ6 H6 (fun _ _ => False) I6 (stat fr6) st6 stop
      rw [hA] at d
      refine thn d fun r s7 ⟨hr, I7⟩ => ?_
      subst hr
      obtain ⟨m7, hn7, _⟩ := I7.loc
      have hl : X'.env.locals = s3.heap.objs.size := by rw [henv]; rfl
      refine hRR _ _ H6 s7 m7 (hl ▸ hn7) (fun h' hs' => ?_) ?_ qn
      · rw [← hX] at I7
        exact zmz I3 f3 (Nat.le_refl _) I7 hs'
      · exact I3.fpOk (Nat.le_refl _) (by have := I7.free; rw [hl] at this; exact this)
    · have d := T.item X' hprog hw hK hcalm i [] s6 σ6 H6 (fun _ _ => False) I6 (stat fr6) st6 go
      rw [hA] at d
      refine thn d fun r s7 ⟨u, hr, h7⟩ => ?_
      subst hr
      refine thn h7 fun _ s8 ⟨x, H8, I8, r8, y8, st8, fr8⟩ => ?_
      have I8' := I8.pinned (stat fr8) (T.obj _ _ st8)
      have dg := bg _ s8 σ6 H8 x u _ I8' r8 (step x H8 y8)
      rw [hprog, hw, hA, hxe] at dg
      refine thn dg fun _ s9 ⟨σ9, H9, I9, q9⟩ => ?_
      have dt := bt _ s9 σ9 H9 _ I9 q9
      rw [hprog, hw, hA, hxe] at dt
      refine thn dt fun b s10 ⟨H10, I10, q10⟩ => ?_
      have again : ∀ {σ7 : St} {H7 : Hp} {s7 : Shared} {ys' : List V}, Inv X' ([] ++ zhr fp s8.heap) σ7 H7 s7 -> (∃ m', m' < n /\ W (i + 1) m' ys' σ7 H7) -> ∃ m, m < n /\ ∃ i ys σ' H', Inv X' [] σ' H' s7 /\ tn i s7.heap /\ (∀ b ∈ fp, H' b = none) /\ W i m ys σ' H' := fun {σ7 H7 s7 ys'} I7 n7 => by
        obtain ⟨m', hm, w7⟩ := n7
        refine ⟨m', hm, i + 1, ys', σ7, H7, I7.unpinned, T.keep _ _ _ st8 fun b hb o e => (I7.pin (b, o) (List.mem_append_right _ (List.mem_append_right _ (zdC hb e)))).1, fun b hb => ?_, w7⟩
        obtain ⟨o, e, _⟩ := T.obj _ _ st8 b hb
        exact (I7.pin (b, o) (List.mem_append_right _ (List.mem_append_right _ (zdC hb e)))).2.1
      cases b with
      | false =>
        rw [if_neg Bool.false_ne_true] at q10 ⊢
        exact again I10 q10
      | true =>
        rw [if_pos rfl] at q10 ⊢
        have de := be _ s10 σ9 H10 _ I10 q10
        rw [hprog, hw, hA, hxe] at de
        refine thn de fun v s11 ⟨y, H11, I11, r11, ha11, hz11, n11⟩ => ?_
        have da := zhx _ s11 σ9 H11 (.ref s2.heap.objs.size) [y] (.ref s2.heap.objs.size) [v] (fun _ H' => H' = upd H11 s2.heap.objs.size (.lst (ys ++ [y]))) I11 rfl (.cons r11 .nil) ⟨_, ys, y, rfl, rfl, ha11, hz11, rfl⟩
        rw [hprog, hw, hA, hxe] at da
        refine thn da fun _ s12 ⟨_, H12, I12, _, e12⟩ => ?_
        subst e12
        exact again I12 n11
  exact codeAny_compStart_list (loop _ rfl) (T.self _ 0 _ _ _ st4 (loop _ rfl))
theorem zqq {wi : TI} (hc : X.calm = true) (S : CompScope X scope) (F : FvOk X N' scope fv) (hi : PI X tg iter wi) (hb : PB X N' scope tg ifs elt g tc te) (hs : ∀ x, foldedSetIterable iter X.env x = pure x := by intro _; rfl) :
    PE X (.ListComp elt [⟨tg, iter, ifs, 0⟩] scope pos) (tLC wi g tc te fv) := by
  intro pins s σ H Q I h
  rw [eval_ListComp]
  refine wpAny_comprehension_free (use := none) rfl hs (zeZ I S) S.kind S.names (thn (hi pins s σ H _ I h) fun x s1 h1 => thn h1 fun itv s2 h2 => ?_)
  obtain ⟨it, fp, tn, J, H1, e, I2, T, st2, f2, q⟩ := h2
  subst e
  refine zja (RR := fun acc C => compPost (model X.prog X.w) X.A X.xe none (EP X pins σ Q) acc C) hc S F hb I2 T st2 f2 q ?_
  intro a C H' s' m hn hI hCL hq
  exact ⟨m, hn, fun h' hs' => ⟨.ref a, H', hI h' hs', rfl, hq⟩⟩
theorem zqm {wi : TI} {i : Nat} {y : Str} {py spos : Pos} (hN : X.N.Nodup) (hy : X.N[i]? = some y) (hyl : X.env.scope.names.lookup y = some .local) (hc : X.calm = true) (S : CompScope X scope) (F : FvOk X N' scope fv) (hi : PI X tg iter wi) (hb : PB X N' scope tg ifs elt g tc te)
    (hsw : swapsWith (.ListComp elt [⟨tg, iter, ifs, 0⟩] scope pos) (some (.Name y py)) spos.line X.env = pure true)
    (hs : ∀ x, foldedSetIterable iter X.env x = pure x := by intro _; rfl) :
    PS X (.Assign [.Name y py] (.ListComp elt [⟨tg, iter, ifs, 0⟩] scope pos) spos) (zog (tLC wi g tc te fv) (zjG i)) := by
  intro pins s σ H D I h
  rw [exec_Assign_Name_used _ _ _ _ hsw]
  refine wpAny_bind (wpAny_standAt (wpAny_bind ?_))
  show wpAny _ _ (do let _ ← comprehension (.ListComp elt [⟨tg, iter, ifs, 0⟩] scope pos) scope X.env _ (newList []) false (eval iter X.env) (some (assign (.Name y py) X.env))) _ _ s
  refine wpAny_bind (wpAny_mono (wpAny_comprehension_free (use := some (assign (.Name y py) X.env)) (Q := fun _ s' => SP X pins D .next s') rfl hs (zeZ I S) S.kind S.names
    (thn (hi pins s σ H _ I h) fun x s1 h1 => thn h1 fun itv s2 h2 => ?_)) (fun _ s' hq => wpAny_pure (wpAny_pure hq)) fun _ _ e => e)
  obtain ⟨it, fp, tn, J, H1, e, I2, T, st2, f2, q⟩ := h2
  subst e
  refine zja (RR := fun acc C => compPost (model X.prog X.w) X.A X.xe (some (assign (.Name y py) X.env)) (fun _ s' => SP X pins D .next s') acc C) hc S F hb I2 T st2 f2 q ?_
  intro a C H' s' m hn hI hCL hq
  show wpAny _ _ (assign (.Name y py) X.env (.ref a)) _ _ _
  have I' : Inv X pins σ H' s' := hI s'.heap (Heap.SameBut.refl _ _)
  refine wpAny_assign_Name ?_
  refine zhd (v := .ref a) I' hN hy (.inl hyl) rfl (fun s'' I'' hch => ?_) (.inr hyl)
  obtain ⟨ad, hsb, had⟩ := hch
  obtain ⟨f0, f1, f2', f3, f4, f5⟩ := hCL
  have hne : C ≠ ad := by
    rcases had with z | z
    · rw [z]; exact f1
    · exact fun e => f4 y ad z e.symm
  refine ⟨m, hn.sameBut hsb hne, fun h' hs' => ?_⟩
  exact ⟨_, H', I''.turned (t' := s''.toks) (fun b o hb e => (hs'.2 b hb).trans e) f0 f1 f3 f4 f5, hq⟩
end
end L2
end
section
namespace L2
open PySem PySem.Spec PyProof.Rows
def Its (x : Str) : It := ⟨fun i _ => i < x.cps.size, fun i H v H' => H' = H /\ ∃ c, x.cps[i]? = some c /\ v = .str ⟨#[c]⟩, fun i _ => i = x.cps.size⟩
theorem znQ {M : Model} {A : Around} {E : Value -> Shared -> Prop} {s : Shared} {n : Str} {p : Pos} {it : Value} {u : Value} {Q : Unit -> Shared -> Prop} (hQ : Q () s) : wpAny M A (letOwnedTupleGo (.Name n p) it u) Q E s := wpAny_pure hQ
theorem ziD {P : Program} {w : World} {K : PySem.W.Frag} {n : Str} {p : Pos} {ty : String} (it : Addr) (x : Str) (t : Tok)
    (W : ∀ A : Around, A.handled = none -> Walks P w A it [it] [it] x.cps.size (SignAt x) (fun i h => h.IsStrIter it ty x t i))
    (sf : ∀ (A : Around) (i : Nat) (s : Shared) (Q : Value -> Shared -> Prop) (E : Value -> Shared -> Prop), s.heap.IsStrIter it ty x t i -> Q (.ref it) s -> wpAny (model P w) A (pyIter (.ref it)) Q E s) : Turn P w K (.Name n p) (Its x) [it] it (fun i h => h.IsStrIter it ty x t i) where
  mem := by simp
  obj := fun i h st b hb => by
    have e : b = it := by simpa using hb
    subst e
    obtain ⟨o, e, c, d⟩ := st
    exact ⟨o, e, fun v z => by rw [d] at z; cases z⟩
  keep := fun i h h' st k => by
    obtain ⟨o, e, r⟩ := st
    exact ⟨o, k it (by simp) o e, r⟩
  item := by
    intro X hP hw hK hc i pins s σ H E I hf st hg
    subst hP hw hK
    obtain ⟨f0, f1, f2, f3, f4, f5⟩ := hf it (by simp)
    refine (W X.A (I.ok.hd hc)).item i s _ _ hg st fun v h' tk hv st' kk => ?_
    obtain ⟨c, u, hcc, rfl⟩ := hv
    have I1 : Inv X pins σ H { s with heap := h', toks := tk } := I.turned (fun b o hb e => kk b o (by simpa using hb) e) f0 f1 f3 f4 f5
    exact ⟨_, rfl, znQ ⟨.str ⟨#[c]⟩, H, I1, ⟨_, rfl⟩, ⟨rfl, c, hcc, rfl⟩, st', fun b hb => (hf b hb).1⟩⟩
  done := by
    intro X hP hw hK hc i pins s σ H E I hf st hg
    subst hP hw hK
    obtain ⟨f0, f1, f2, f3, f4, f5⟩ := hf it (by simp)
    have hi : i = x.cps.size := hg
    subst hi
    exact (W X.A (I.ok.hd hc)).done s _ _ st fun h' tk kk => ⟨rfl, I.turned (fun b o hb e => kk b o (by simpa using hb) e) f0 f1 f3 f4 f5⟩
  self := sf
def zrN (te : TE) : TI := fun σ H R => te σ H fun v H1 => ∃ x, v = .str x /\ R (Its x) H1
theorem zoS {X : Cx} {e : Expr} {te : TE} {n : Str} {p : Pos} (he : PE X e te) : PI X (.Name n p) e (zrN te) := by
  intro pins s σ H R I h
  refine thn (he pins s σ H _ I h) fun v s1 ⟨y, H1, I1, r1, q1⟩ => ?_
  obtain ⟨x, e, q⟩ := q1
  subst e
  obtain ⟨t, rfl⟩ := r1
  have fin : ∀ (ty : String) (o : Obj), (s1.heap.push o).IsStrIter s1.heap.objs.size ty x t 0 -> Turn X.prog X.w X.K (.Name n p) (Its x) [s1.heap.objs.size] s1.heap.objs.size (fun i h => h.IsStrIter s1.heap.objs.size ty x t i) ->
      PIE X pins σ (.Name n p) R (.ref s1.heap.objs.size) { s1 with heap := s1.heap.push o } := fun ty o st T => by
    refine ⟨s1.heap.objs.size, [s1.heap.objs.size], _, _, H1, rfl, I1.kept (t' := s1.toks) fun b o e => Heap.get?_push_of_some _ e, T, st, fun b hb => ?_, q⟩
    have e : b = s1.heap.objs.size := by simpa using hb
    subst e
    exact I1.fpOk (Nat.le_refl _) (I1.hok.fresh (Nat.le_refl _))
  cases ha : x.cps.all (· < 128)
  · exact wpAny_pyIter_wide ha (fin _ _ ⟨_, Heap.get?_push_size _ rfl, rfl, rfl⟩ (ziD _ x t (fun A' hA => Walks.strWide hA _ x t) fun _ _ _ _ _ st h => wpAny_pyIter_striter_wide st h))
  · exact wpAny_pyIter_ascii ha (fin _ _ ⟨_, Heap.get?_push_size _ rfl, rfl, rfl⟩ (ziD _ x t (fun A' hA => Walks.strAscii hA _ x t) fun _ _ _ _ _ st h => wpAny_pyIter_striter_ascii st h))
end L2
end
section
namespace L2
open PySem PySem.Spec PyProof.Rows
inductive D where
  | non | bl (b : Bool) | int (i : Int) | str (x : Str) | tup (l : List D) | lst (l : List D) | scr (ns : List Int)
  | dk (l : List (Key × D)) | dt (l : List (List Key × D)) | ins (c : Str) (fs : List (Str × D)) | ty (n : String)
structure Cn where
  cls : Str -> Option Addr
  self : Option Addr := none
mutual
inductive Rep (Γ : Cn) (K : PySem.W.Frag) (G : Hp) : V -> D -> Prop where
  | non : Rep Γ K G .non .non
  | bl (b : Bool) : Rep Γ K G (.bl b) (.bl b)
  | int (i : Int) : Rep Γ K G (.int i) (.int i)
  | str (x : Str) : Rep Γ K G (.str x) (.str x)
  | ty (n : String) : Rep Γ K G (.ty n) (.ty n)
  | tup {a : Addr} {vs : List V} {ds : List D} : G a = some (.tup vs) -> Reps Γ K G vs ds -> Rep Γ K G (.ref a) (.tup ds)
  | lst {a : Addr} {vs : List V} {ds : List D} : G a = some (.lst vs) -> Reps Γ K G vs ds -> Rep Γ K G (.ref a) (.lst ds)
  | scr {a : Addr} {ns : List Int} : SqL K G a (ns.map V.int) -> Rep Γ K G (.ref a) (.scr ns)
  | dk {a : Addr} {us : List (Key × V)} {kvs : List (Key × D)} : G a = some (.dK us) -> us.map (·.1) = kvs.map (·.1) -> Reps Γ K G (us.map (·.2)) (kvs.map (·.2)) -> Rep Γ K G (.ref a) (.dk kvs)
  | dt {a : Addr} {us : List (List Key × V)} {kvs : List (List Key × D)} : G a = some (.dT us) -> us.map (·.1) = kvs.map (·.1) -> Reps Γ K G (us.map (·.2)) (kvs.map (·.2)) -> Rep Γ K G (.ref a) (.dt kvs)
  | ins {a C dx : Addr} {c : Str} {us : List (Str × V)} {fs : List (Str × D)} : G a = some (.ins C dx us) -> Γ.cls c = some C -> us.map (·.1) = fs.map (·.1) -> Reps Γ K G (us.map (·.2)) (fs.map (·.2)) -> Rep Γ K G (.ref a) (.ins c fs)
inductive Reps (Γ : Cn) (K : PySem.W.Frag) (G : Hp) : List V -> List D -> Prop where
  | nil : Reps Γ K G [] []
  | cons {v : V} {d : D} {vs : List V} {ds : List D} : Rep Γ K G v d -> Reps Γ K G vs ds -> Reps Γ K G (v :: vs) (d :: ds)
end
section
variable {Γ : Cn} {K : PySem.W.Frag} {G G' G1 H H' H1 H2 G2 : Hp}
mutual
theorem Rep.mono : ∀ {v : V} {d : D}, Rep Γ K G v d -> zbw G G' -> Rep Γ K G' v d
  | _, _, .non, _ => .non
  | _, _, .bl b, _ => .bl b
  | _, _, .int i, _ => .int i
  | _, _, .str x, _ => .str x
  | _, _, .ty x, _ => .ty x
  | _, _, .tup h r, s => .tup (s _ _ h) (r.mono s)
  | _, _, .lst h r, s => .lst (s _ _ h) (r.mono s)
  | _, _, .scr h, s => .scr (s.seq h)
  | _, _, .dk h e r, s => .dk (s _ _ h) e (r.mono s)
  | _, _, .dt h e r, s => .dt (s _ _ h) e (r.mono s)
  | _, _, .ins h c e r, s => .ins (s _ _ h) c e (r.mono s)
theorem Reps.mono : ∀ {vs : List V} {ds : List D}, Reps Γ K G vs ds -> zbw G G' -> Reps Γ K G' vs ds
  | _, _, .nil, _ => .nil
  | _, _, .cons h r, s => .cons (h.mono s) (r.mono s)
end
mutual
theorem Rep.re {Γ' : Cn} (hc : Γ'.cls = Γ.cls) : ∀ {v : V} {d : D}, Rep Γ K G v d -> Rep Γ' K G v d
  | _, _, .non => .non
  | _, _, .bl b => .bl b
  | _, _, .int i => .int i
  | _, _, .str x => .str x
  | _, _, .ty x => .ty x
  | _, _, .tup h r => .tup h (r.re hc)
  | _, _, .lst h r => .lst h (r.re hc)
  | _, _, .scr h => .scr h
  | _, _, .dk h e r => .dk h e (r.re hc)
  | _, _, .dt h e r => .dt h e (r.re hc)
  | _, _, .ins h c e r => .ins h (by rw [hc]; exact c) e (r.re hc)
theorem Reps.re {Γ' : Cn} (hc : Γ'.cls = Γ.cls) : ∀ {vs : List V} {ds : List D}, Reps Γ K G vs ds -> Reps Γ' K G vs ds
  | _, _, .nil => .nil
  | _, _, .cons h r => .cons (h.re hc) (r.re hc)
end
theorem Reps.length : ∀ {vs : List V} {ds : List D}, Reps Γ K G vs ds -> vs.length = ds.length
  | _, _, .nil => rfl
  | _, _, .cons _ r => by rw [List.length_cons, List.length_cons, r.length]
theorem Reps.get : ∀ {vs : List V} {ds : List D} {i : Nat} {d : D}, Reps Γ K G vs ds -> ds[i]? = some d -> ∃ v, vs[i]? = some v /\ Rep Γ K G v d
  | _, _, _, _, .nil, e => by simp at e
  | _, _, 0, _, .cons r _, e => by simp at e; subst e; exact ⟨_, rfl, r⟩
  | _, _, i + 1, d, .cons _ t, e => by
    obtain ⟨u, h1, h2⟩ := Reps.get (i := i) (d := d) t (by simpa using e)
    exact ⟨u, by simpa using h1, h2⟩
theorem Reps.append : ∀ {vs ws : List V} {ds es : List D}, Reps Γ K G vs ds -> Reps Γ K G ws es -> Reps Γ K G (vs ++ ws) (ds ++ es)
  | _, _, _, _, .nil, s => s
  | _, _, _, _, .cons r t, s => .cons r (t.append s)
theorem Reps.take : ∀ {vs : List V} {ds : List D} (n : Nat), Reps Γ K G vs ds -> Reps Γ K G (vs.take n) (ds.take n)
  | _, _, 0, _ => .nil
  | _, _, _ + 1, .nil => .nil
  | _, _, n + 1, .cons r t => .cons r (t.take n)
theorem Reps.drop : ∀ {vs : List V} {ds : List D} (n : Nat), Reps Γ K G vs ds -> Reps Γ K G (vs.drop n) (ds.drop n)
  | _, _, 0, r => r
  | _, _, _ + 1, .nil => .nil
  | _, _, n + 1, .cons _ t => t.drop n
theorem Reps.ints : ∀ (ns : List Int), Reps Γ K G (ns.map V.int) (ns.map D.int)
  | [] => .nil
  | n :: r => .cons (.int n) (Reps.ints r)
theorem Reps.rep {vs : List V} {ds : List D} (h : Reps Γ K G vs ds) : ∀ k : Nat, Reps Γ K G (List.replicate k vs).flatten (List.replicate k ds).flatten
  | 0 => .nil
  | k + 1 => by
    rw [List.replicate_succ, List.replicate_succ, List.flatten_cons, List.flatten_cons]
    exact h.append (Reps.rep h k)
structure Step (G H G' H' : Hp) : Prop where
  hh : zbw H H'
  gg : zbw G G'
  gh : zbw G' H'
  out : ∀ a o, H a = some o -> G' a = G a
theorem Step.refl (gh : zbw G H) : Step G H G H := ⟨.refl _, .refl _, gh, fun _ _ _ => rfl⟩
theorem Step.trans (a : Step G H G1 H1) (b : Step G1 H1 G2 H2) : Step G H G2 H2 :=
  ⟨a.hh.trans b.hh, a.gg.trans b.gg, b.gh, fun c o e => (b.out c o (a.hh c o e)).trans (a.out c o e)⟩
theorem Step.new {p : Addr} {o : HO} (gh : zbw G H) (hp : H p = none) : Step G H (upd G p o) (upd H p o) := by
  have gp : G p = none := gh.free hp
  refine ⟨fun b u e => ?_, fun b u e => ?_, fun b u e => ?_, fun b u e => ?_⟩
  · rw [zas (zav e hp)]; exact e
  · rw [zas (zav e gp)]; exact e
  · by_cases hb : b = p
    · subst hb; rw [zaw] at e ⊢; exact e
    · rw [zas hb] at e ⊢; exact gh b u e
  · rw [zas (zav e hp)]
theorem Step.newOwn {p : Addr} {o : HO} (gh : zbw G H) (hp : H p = none) : Step G H G (upd H p o) := by
  refine ⟨fun b u e => ?_, .refl _, fun b u e => ?_, fun _ _ _ => rfl⟩
  · rw [zas (zav e hp)]; exact e
  · rw [zas (zav (gh b u e) hp)]; exact gh b u e
end
inductive Slot where
  | sh (d : D)
  | own (ds : List D)
  | obj (c : Str) (fs : List (Str × D))
  | objd (c : Str) (fs : List (Str × D)) (n : Str) (kvs : List (Key × D))
  | odk (kvs : List (Key × D))
  | odt (kvs : List (List Key × D))
  | tlo (ds es : List D)
  | pin (a : Addr)
abbrev zbx := List (Option Slot)
def zqH : D -> Bool
  | .non => true
  | .bl _ => true
  | .int _ => true
  | .str _ => true
  | _ => false
inductive SR (Γ : Cn) (K : PySem.W.Frag) (H₀ G H : Hp) : Slot -> V -> List Addr -> Prop where
  | sh {d : D} {v : V} : Rep Γ K G v d -> SR Γ K H₀ G H (.sh d) v []
  | own {a : Addr} {vs : List V} {ds : List D} : H₀ a = none -> G a = none -> H a = some (.lst vs) -> Reps Γ K G vs ds -> SR Γ K H₀ G H (.own ds) (.ref a) [a]
  | obj {c : Str} {a C dx : Addr} {vs : List (Str × V)} {fs : List (Str × D)} : Γ.cls c = some C -> H₀ a = none -> G a = none -> H a = some (.ins C dx vs) -> vs.map (·.1) = fs.map (·.1) -> Reps Γ K G (vs.map (·.2)) (fs.map (·.2)) -> Γ.self = some a -> SR Γ K H₀ G H (.obj c fs) (.ref a) [a]
  | objd {c n : Str} {a C dx p : Addr} {vs : List (Str × V)} {fs : List (Str × D)} {us : List (Key × V)} {kvs : List (Key × D)} : Γ.cls c = some C -> H₀ a = none -> G a = none -> H a = some (.ins C dx (vs ++ [(n, .ref p)])) -> vs.map (·.1) = fs.map (·.1) -> Reps Γ K G (vs.map (·.2)) (fs.map (·.2)) ->
      H₀ p = none -> G p = none -> H p = some (.dK us) -> us.map (·.1) = kvs.map (·.1) -> Reps Γ K G (us.map (·.2)) (kvs.map (·.2)) -> Γ.self = some a -> SR Γ K H₀ G H (.objd c fs n kvs) (.ref a) [a, p]
  | odk {a : Addr} {us : List (Key × V)} {kvs : List (Key × D)} : H₀ a = none -> G a = none -> H a = some (.dK us) -> us.map (·.1) = kvs.map (·.1) -> Reps Γ K G (us.map (·.2)) (kvs.map (·.2)) -> SR Γ K H₀ G H (.odk kvs) (.ref a) [a]
  | odt {a : Addr} {us : List (List Key × V)} {kvs : List (List Key × D)} : H₀ a = none -> G a = none -> H a = some (.dT us) -> us.map (·.1) = kvs.map (·.1) -> Reps Γ K G (us.map (·.2)) (kvs.map (·.2)) -> SR Γ K H₀ G H (.odt kvs) (.ref a) [a]
  | tlo {t p : Addr} {vs ws : List V} {ds es : List D} : H₀ p = none -> G p = none -> H p = some (.lst ws) -> G t = some (.tup (vs ++ [.ref p])) -> Reps Γ K G vs ds -> Reps Γ K G ws es -> SR Γ K H₀ G H (.tlo ds es) (.ref t) [p]
  | pin (a : Addr) : SR Γ K H₀ G H (.pin a) (.ref a) []
section
variable {Γ : Cn} {K : PySem.W.Frag} {H₀ G G' H H' : Hp} {s : Slot} {v : V} {fp : List Addr}
theorem SR.fpt (r : SR Γ K H₀ G H s v fp) : ∀ b ∈ fp, H₀ b = none /\ G b = none /\ ∃ o, H b = some o := by
  cases r with
  | sh r => intro b hb; cases hb
  | own h1 h2 h3 _ => intro b hb; rw [List.mem_singleton.mp hb]; exact ⟨h1, h2, _, h3⟩
  | obj _ h1 h2 h3 _ _ _ => intro b hb; rw [List.mem_singleton.mp hb]; exact ⟨h1, h2, _, h3⟩
  | objd _ h1 h2 h3 _ _ q1 q2 q3 _ _ _ =>
    intro b hb
    rcases List.mem_cons.mp hb with rfl | hb
    · exact ⟨h1, h2, _, h3⟩
    · rw [List.mem_singleton.mp hb]; exact ⟨q1, q2, _, q3⟩
  | odk h1 h2 h3 _ _ => intro b hb; rw [List.mem_singleton.mp hb]; exact ⟨h1, h2, _, h3⟩
  | odt h1 h2 h3 _ _ => intro b hb; rw [List.mem_singleton.mp hb]; exact ⟨h1, h2, _, h3⟩
  | tlo h1 h2 h3 _ _ _ => intro b hb; rw [List.mem_singleton.mp hb]; exact ⟨h1, h2, _, h3⟩
  | pin a => intro b hb; cases hb
theorem SR.stay (r : SR Γ K H₀ G H s v fp) (gg : zbw G G') (hg : ∀ b ∈ fp, G' b = none) (hh : ∀ b ∈ fp, H' b = H b) : SR Γ K H₀ G' H' s v fp := by
  cases r with
  | sh r => exact .sh (r.mono gg)
  | own h1 h2 h3 h4 => exact .own h1 (hg _ (List.mem_singleton.mpr rfl)) ((hh _ (List.mem_singleton.mpr rfl)).trans h3) (h4.mono gg)
  | obj c h1 h2 h3 h4 h5 hs => exact .obj c h1 (hg _ (List.mem_singleton.mpr rfl)) ((hh _ (List.mem_singleton.mpr rfl)).trans h3) h4 (h5.mono gg) hs
  | objd c h1 h2 h3 h4 h5 q1 q2 q3 q4 q5 hs =>
    exact .objd c h1 (hg _ List.mem_cons_self) ((hh _ List.mem_cons_self).trans h3) h4 (h5.mono gg) q1 (hg _ (List.mem_cons_of_mem _ List.mem_cons_self)) ((hh _ (List.mem_cons_of_mem _ List.mem_cons_self)).trans q3) q4 (q5.mono gg) hs
  | odk h1 h2 h3 h4 h5 => exact .odk h1 (hg _ (List.mem_singleton.mpr rfl)) ((hh _ (List.mem_singleton.mpr rfl)).trans h3) h4 (h5.mono gg)
  | odt h1 h2 h3 h4 h5 => exact .odt h1 (hg _ (List.mem_singleton.mpr rfl)) ((hh _ (List.mem_singleton.mpr rfl)).trans h3) h4 (h5.mono gg)
  | pin a => exact .pin a
  | tlo h1 h2 h3 h4 h5 h6 => exact .tlo h1 (hg _ (List.mem_singleton.mpr rfl)) ((hh _ (List.mem_singleton.mpr rfl)).trans h3) (gg _ _ h4) (h5.mono gg) (h6.mono gg)
theorem SR.stepS (r : SR Γ K H₀ G H s v fp) (t : Step G H G' H') : SR Γ K H₀ G' H' s v fp := r.stay t.gg (fun b hb => by
  obtain ⟨_, h2, o, h3⟩ := r.fpt b hb
  exact (t.out b o h3).trans h2) (fun b hb => by
  obtain ⟨_, _, o, h3⟩ := r.fpt b hb
  rw [h3]; exact t.hh b o h3)
end
theorem SR.uniq {Γ : Cn} {K : PySem.W.Frag} {H₀ G H : Hp} {s : Slot} {v : V} {fp fq : List Addr} (r : SR Γ K H₀ G H s v fp) (q : SR Γ K H₀ G H s v fq) : fp = fq := by
  cases r with
  | sh r => cases q; rfl
  | own h1 h2 h3 _ => cases q; rfl
  | obj _ h1 h2 h3 _ _ _ => cases q; rfl
  | objd _ h1 h2 h3 _ _ q1 q2 q3 _ _ _ =>
    cases q with
    | objd _ _ _ k3 _ _ _ _ _ _ _ _ =>
      rw [h3] at k3
      have z := (HO.ins.inj (Option.some.inj k3)).2.2
      have z2 := (List.append_inj' z rfl).2
      cases z2
      rfl
  | odk h1 h2 h3 _ _ => cases q; rfl
  | odt h1 h2 h3 _ _ => cases q; rfl
  | pin a => cases q; rfl
  | tlo _ _ _ h4 _ _ =>
    cases q with
    | tlo _ _ _ k4 _ _ =>
      rw [h4] at k4
      have z := HO.tup.inj (Option.some.inj k4)
      have z2 := (List.append_inj' z rfl).2
      cases z2
      rfl
structure EnvRel (Γ : Cn) (K : PySem.W.Frag) (H₀ G H : Hp) (ρ : zbx) (σ : St) : Prop where
  len : ρ.length = σ.length
  sl : ∃ fps : Nat -> List Addr, (∀ (i : Nat) s, ρ[i]? = some (some s) -> ∃ v, σ[i]? = some (some v) /\ SR Γ K H₀ G H s v (fps i)) /\
    ∀ (i j : Nat) s t, i ≠ j -> ρ[i]? = some (some s) -> ρ[j]? = some (some t) -> ∀ b ∈ fps i, b ∉ fps j
structure At (Γ : Cn) (K : PySem.W.Frag) (G₀ H₀ G H : Hp) (ρ : zbx) (σ : St) : Prop where
  st : Step G₀ H₀ G H
  env : EnvRel Γ K H₀ G H ρ σ
def zeN (ρ : zbx) : Prop := ∀ (i : Nat) s, ρ[i]? = some (some s) -> ∃ d, s = .sh d
section
variable {Γ : Cn} {K : PySem.W.Frag} {G₀ H₀ G G' H H' : Hp} {ρ : zbx} {σ : St}
theorem EnvRel.ofSh (len : ρ.length = σ.length) (no : zeN ρ) (sh : ∀ (i : Nat) d, ρ[i]? = some (some (.sh d)) -> ∃ v, σ[i]? = some (some v) /\ Rep Γ K G v d) : EnvRel Γ K H₀ G H ρ σ :=
  ⟨len, fun _ => [], fun i s e => by
    obtain ⟨d, rfl⟩ := no i s e
    obtain ⟨v, h1, h2⟩ := sh i d e
    exact ⟨v, h1, .sh h2⟩, fun _ _ _ _ _ _ _ b hb => by cases hb⟩
theorem EnvRel.sh (E : EnvRel Γ K H₀ G H ρ σ) (i : Nat) (d : D) (e : ρ[i]? = some (some (.sh d))) : ∃ v, σ[i]? = some (some v) /\ Rep Γ K G v d := by
  obtain ⟨fps, h, _⟩ := E.sl
  obtain ⟨v, h1, h2⟩ := h i _ e
  generalize fps i = fp at h2
  cases h2 with
  | sh r => exact ⟨v, h1, r⟩
theorem EnvRel.own (E : EnvRel Γ K H₀ G H ρ σ) (i : Nat) (ds : List D) (e : ρ[i]? = some (some (.own ds))) : ∃ a vs, σ[i]? = some (some (.ref a)) /\ H₀ a = none /\ G a = none /\ H a = some (.lst vs) /\ Reps Γ K G vs ds := by
  obtain ⟨fps, h, _⟩ := E.sl
  obtain ⟨v, h1, h2⟩ := h i _ e
  generalize fps i = fp at h2
  cases h2 with
  | own q1 q2 q3 q4 => exact ⟨_, _, h1, q1, q2, q3, q4⟩
theorem At.gh (A : At Γ K G₀ H₀ G H ρ σ) : zbw G H := A.st.gh
theorem At.step (A : At Γ K G₀ H₀ G H ρ σ) (s : Step G H G' H') : At Γ K G₀ H₀ G' H' ρ σ := by
  obtain ⟨fps, h, ap⟩ := A.env.sl
  exact ⟨A.st.trans s, A.env.len, fps, fun i t e => by
    obtain ⟨v, h1, h2⟩ := h i t e
    exact ⟨v, h1, h2.stepS s⟩, ap⟩
theorem At.put (A : At Γ K G₀ H₀ G H ρ σ) {i : Nat} {s' : Slot} {v' : V} {fp fp' : List Addr}
    (hfp : fp = [] \/ ∃ s v, ρ[i]? = some (some s) /\ σ[i]? = some (some v) /\ SR Γ K H₀ G H s v fp)
    (hH : ∀ b o, H b = some o -> b ∉ fp -> H' b = some o) (hS : SR Γ K H₀ G' H' s' v' fp') (hn : ∀ b ∈ fp', b ∈ fp \/ H b = none)
    (gg : zbw G G') (gh : zbw G' H') (out : ∀ b o, H b = some o -> b ∉ fp -> G' b = G b) (out2 : ∀ b ∈ fp, H₀ b = none) : At Γ K G₀ H₀ G' H' (ρ.set i (some s')) (σ.set i (some v')) := by
  obtain ⟨fps, h, ap⟩ := A.env.sl
  have hl := A.env.len
  have old : ∀ b ∈ fp, ∀ j t, j ≠ i -> ρ[j]? = some (some t) -> b ∉ fps j := fun b hb j t hj e => by
    rcases hfp with rfl | ⟨s, v, h1, h2, h3⟩
    · cases hb
    · obtain ⟨v2, h4, h5⟩ := h i s h1
      rw [h2] at h4
      cases h4
      have efp : fp = fps i := h3.uniq h5
      subst efp
      exact ap i j s t (Ne.symm hj) h1 e b hb
  have slj : ∀ (j : Nat) t, j ≠ i -> ρ[j]? = some (some t) -> ∃ v, σ[j]? = some (some v) /\ SR Γ K H₀ G' H' t v (fps j) := fun j t hj e => by
    obtain ⟨v, h1, h2⟩ := h j t e
    refine ⟨v, h1, h2.stay gg (fun b hb => ?_) (fun b hb => ?_)⟩
    · obtain ⟨_, q2, o, q3⟩ := h2.fpt b hb
      exact (out b o q3 fun z => old b z j t hj e hb).trans q2
    · obtain ⟨_, _, o, q3⟩ := h2.fpt b hb
      rw [q3]; exact hH b o q3 fun z => old b z j t hj e hb
  have no2 : ∀ b o, H₀ b = some o -> b ∉ fp := fun b o e z => by rw [out2 b z] at e; cases e
  have hst : Step G₀ H₀ G' H' := ⟨fun b o e => hH b o (A.st.hh b o e) (no2 b o e), A.st.gg.trans gg, gh, fun b o e => (out b o (A.st.hh b o e) (no2 b o e)).trans (A.st.out b o e)⟩
  refine ⟨hst, by simp [hl], fun j => if j = i then fp' else fps j, fun j t e => ?_, fun j k t u hjk e1 e2 b hb => ?_⟩
  · by_cases hj : j = i
    · subst hj
      have hlt : j < ρ.length := by
        rcases Nat.lt_or_ge j ρ.length with q | q
        · exact q
        · rw [List.getElem?_eq_none (by simp; omega)] at e; cases e
      rw [List.getElem?_set_self hlt] at e
      cases e
      show ∃ v, _ /\ SR _ _ _ _ _ _ v (if j = j then fp' else fps j)
      rw [if_pos rfl]
      exact ⟨v', by rw [List.getElem?_set_self (by omega)], hS⟩
    · rw [List.getElem?_set_ne (Ne.symm hj)] at e ⊢
      show ∃ v, _ /\ SR _ _ _ _ _ _ v (if j = i then fp' else fps j)
      rw [if_neg hj]
      exact slj j t hj e
  · have cross : ∀ {k : Nat} {u : Slot}, k ≠ i -> ρ[k]? = some (some u) -> ∀ b ∈ fp', b ∉ fps k := fun {k u} hk e b hb hb2 => by
      rcases hn b hb with z | z
      · exact old b z k u hk e hb2
      · obtain ⟨v, _, q⟩ := h k u e
        obtain ⟨_, _, o, q3⟩ := q.fpt b hb2
        rw [z] at q3; cases q3
    replace hb : b ∈ (if j = i then fp' else fps j) := hb
    show b ∉ (if k = i then fp' else fps k)
    by_cases hj : j = i
    · subst hj
      have hk : k ≠ j := Ne.symm hjk
      rw [if_pos rfl] at hb
      rw [if_neg hk]
      rw [List.getElem?_set_ne hjk] at e2
      exact cross hk e2 b hb
    · rw [if_neg hj] at hb
      rw [List.getElem?_set_ne (Ne.symm hj)] at e1
      by_cases hk : k = i
      · subst hk
        rw [if_pos rfl]
        exact fun z => cross hj e1 b z hb
      · rw [if_neg hk]
        rw [List.getElem?_set_ne (Ne.symm hk)] at e2
        exact ap j k t u hjk e1 e2 b hb
theorem At.setSh (A : At Γ K G₀ H₀ G H ρ σ) {i : Nat} {v : V} {d : D} (r : Rep Γ K G v d) : At Γ K G₀ H₀ G H (ρ.set i (some (.sh d))) (σ.set i (some v)) :=
  A.put (fp := []) (fp' := []) (.inl rfl) (fun b o e _ => e) (.sh r) (fun b hb => by cases hb) (.refl _) A.gh (fun _ _ _ _ => rfl) (fun b hb => by cases hb)
theorem At.setOwn (A : At Γ K G₀ H₀ G H ρ σ) {i : Nat} {a : Addr} {vs : List V} {ds : List D} (ha : H a = none) (r : Reps Γ K G vs ds) : At Γ K G₀ H₀ G (upd H a (.lst vs)) (ρ.set i (some (.own ds))) (σ.set i (some (.ref a))) := by
  have h0 : H₀ a = none := A.st.hh.free ha
  have hg : G a = none := A.gh.free ha
  refine A.put (fp := []) (fp' := [a]) (.inl rfl) (fun b o e _ => by rw [zas (zav e ha)]; exact e) (.own h0 hg zaw r) (fun b hb => .inr (by rw [List.mem_singleton.mp hb]; exact ha)) (.refl _) (fun b o e => ?_) (fun _ _ _ _ => rfl) (fun b hb => by cases hb)
  rw [zas (zav e hg)]; exact A.gh b o e
theorem zhg {α : Type} {l : List α} {i : Nat} {x : α} (h : l[i]? = some x) : l.set i x = l := by
  apply List.ext_getElem?
  intro j
  by_cases hj : j = i
  · subst hj
    rw [List.getElem?_set_self (List.getElem?_eq_some_iff.mp h).1, h]
  · rw [List.getElem?_set_ne (Ne.symm hj)]
theorem At.ch (A : At Γ K G₀ H₀ G H ρ σ) {i : Nat} {s s' : Slot} {v : V} {fp fp' : List Addr} (hi : ρ[i]? = some (some s)) (hv : σ[i]? = some (some v)) (hs : SR Γ K H₀ G H s v fp)
    (hH : ∀ b o, H b = some o -> b ∉ fp -> H' b = some o) (hS : SR Γ K H₀ G' H' s' v fp') (hn : ∀ b ∈ fp', b ∈ fp \/ H b = none)
    (gg : zbw G G') (gh : zbw G' H') (out : ∀ b o, H b = some o -> b ∉ fp -> G' b = G b) : At Γ K G₀ H₀ G' H' (ρ.set i (some s')) σ := by
  have := A.put (i := i) (.inr ⟨s, v, hi, hv, hs⟩) hH hS hn gg gh out fun b hb => (hs.fpt b hb).1
  rwa [zhg hv] at this
theorem At.get (A : At Γ K G₀ H₀ G H ρ σ) {i : Nat} {s : Slot} (hi : ρ[i]? = some (some s)) : ∃ v fp, σ[i]? = some (some v) /\ SR Γ K H₀ G H s v fp := by
  obtain ⟨fps, h, _⟩ := A.env.sl
  obtain ⟨v, h1, h2⟩ := h i s hi
  exact ⟨v, _, h1, h2⟩
theorem At.chOwn (A : At Γ K G₀ H₀ G H ρ σ) {i : Nat} {a : Addr} {ds es : List D} {ws : List V} (hi : ρ[i]? = some (some (.own ds))) (ha : σ[i]? = some (some (.ref a))) (r : Reps Γ K G ws es) : At Γ K G₀ H₀ G (upd H a (.lst ws)) (ρ.set i (some (.own es))) σ := by
  obtain ⟨v, fp, h1, h2⟩ := A.get hi
  rw [ha] at h1
  cases h1
  cases h2 with
  | own q1 q2 q3 q4 =>
    refine A.ch hi ha (.own q1 q2 q3 q4) (fun b o e hb => ?_) (.own q1 q2 zaw r) (fun b hb => .inl hb) (.refl _) (fun b o e => ?_) (fun _ _ _ _ => rfl)
    · rw [zas (fun z => hb (List.mem_singleton.mpr z))]; exact e
    · rw [zas (zav e q2)]; exact A.gh b o e
theorem At.freeze (A : At Γ K G₀ H₀ G H ρ σ) {i : Nat} {ds : List D} (hi : ρ[i]? = some (some (.own ds))) : ∃ G', zbw G G' /\ At Γ K G₀ H₀ G' H (ρ.set i (some (.sh (.lst ds)))) σ := by
  obtain ⟨v, fp, h1, h2⟩ := A.get hi
  cases h2 with
  | own q1 q2 q3 q4 =>
    rename_i a vs
    have sm : zbw G (upd G a (.lst vs)) := fun b o e => by rw [zas (zav e q2)]; exact e
    refine ⟨upd G a (.lst vs), sm, A.ch hi h1 (.own q1 q2 q3 q4) (fun b o e hb => e) (.sh (.lst zaw (q4.mono sm))) (fun b hb => by cases hb) sm (fun b o e => ?_) (fun b o e hb => ?_)⟩
    · by_cases hb : b = a
      · subst hb; rw [zaw] at e; cases e; exact q3
      · rw [zas hb] at e; exact A.gh b o e
    · rw [zas (fun z => hb (List.mem_singleton.mpr z))]
end
end L2
end
section
namespace L2
open PySem PySem.Spec PyProof.Rows
mutual
inductive NewL (H G : Hp) : V -> D -> Prop where
  | flat {v : V} {d : D} : zqH d = true -> NewL H G v d
  | tup {a : Addr} {vs : List V} {ds : List D} : G a = some (.tup vs) -> NewLs H G vs ds -> NewL H G (.ref a) (.tup ds)
  | lst {a : Addr} {vs : List V} {ds : List D} : G a = some (.lst vs) -> H a = none -> NewLs H G vs ds -> NewL H G (.ref a) (.lst ds)
inductive NewLs (H G : Hp) : List V -> List D -> Prop where
  | nil : NewLs H G [] []
  | cons {v : V} {d : D} {vs : List V} {ds : List D} : NewL H G v d -> NewLs H G vs ds -> NewLs H G (v :: vs) (d :: ds)
end
section
variable {H H' G G' : Hp}
mutual
theorem NewL.mono : ∀ {v : V} {d : D}, NewL H G v d -> zbw G G' -> zbw H' H -> NewL H' G' v d
  | _, _, .flat h, _, _ => .flat h
  | _, _, .tup h r, s, t => .tup (s _ _ h) (r.mono s t)
  | _, _, .lst h n r, s, t => .lst (s _ _ h) (t.free n) (r.mono s t)
theorem NewLs.mono : ∀ {vs : List V} {ds : List D}, NewLs H G vs ds -> zbw G G' -> zbw H' H -> NewLs H' G' vs ds
  | _, _, .nil, _, _ => .nil
  | _, _, .cons h r, s, t => .cons (h.mono s t) (r.mono s t)
end
end
inductive Fl where
  | nx | bk | ct | rt (d : D) | ow (ds : List D) | nw (d : D) | od (kvs : List (Key × D))
abbrev FE := zbx -> Option D
abbrev FT := zbx -> Option Bool
abbrev FA := zbx -> Option (List D)
abbrev FS := zbx -> Option (Fl × zbx)
def TD (Γ : Cn) (K : PySem.W.Frag) (f : FE) : TE := fun σ H Q => ∃ G₀ H₀ G ρ d, At Γ K G₀ H₀ G H ρ σ /\ f ρ = some d /\ ∀ v G' H', Step G H G' H' -> Rep Γ K G' v d -> Q v H'
def TDt (Γ : Cn) (K : PySem.W.Frag) (f : FT) : TT := fun σ H Q => ∃ G₀ H₀ G ρ b, At Γ K G₀ H₀ G H ρ σ /\ f ρ = some b /\ ∀ G' H', Step G H G' H' -> Q b H'
def TDa (Γ : Cn) (K : PySem.W.Frag) (f : FA) : TA := fun σ H Q => ∃ G₀ H₀ G ρ ds, At Γ K G₀ H₀ G H ρ σ /\ f ρ = some ds /\ ∀ vs G' H', Step G H G' H' -> Reps Γ K G' vs ds -> Q vs H'
def zq6 (Γ : Cn) (K : PySem.W.Frag) (E : Ends) (H₀ G' H' : Hp) (σ' : St) : Fl -> Prop
  | .nx => E.nx σ' H'
  | .bk => E.bk σ' H'
  | .ct => E.ct σ' H'
  | .rt d => ∀ v, Rep Γ K G' v d -> E.rt v H'
  | .ow ds => ∀ p vs, H₀ p = none -> G' p = none -> H' p = some (.lst vs) -> Reps Γ K G' vs ds -> E.rt (.ref p) H'
  | .nw d => ∀ v, Rep Γ K G' v d -> NewL H₀ G' v d -> E.rt v H'
  | .od kvs => ∀ p us, H₀ p = none -> G' p = none -> H' p = some (.dK us) -> us.map (·.1) = kvs.map (·.1) -> Reps Γ K G' (us.map (·.2)) (kvs.map (·.2)) -> E.rt (.ref p) H'
def TDs (Γ : Cn) (K : PySem.W.Frag) (g : FS) : TS := fun E σ H => ∃ G₀ H₀ G ρ fl ρ', At Γ K G₀ H₀ G H ρ σ /\ g ρ = some (fl, ρ') /\ ∀ σ' G' H', zbw G G' -> At Γ K G₀ H₀ G' H' ρ' σ' -> zq6 Γ K E H₀ G' H' σ' fl
def TDo (Γ : Cn) (K : PySem.W.Frag) (f : FA) : TE := fun σ H Q => ∃ G₀ H₀ G ρ ds, At Γ K G₀ H₀ G H ρ σ /\ f ρ = some ds /\ ∀ p vs G' H', Step G H G' H' -> H' p = none -> Reps Γ K G' vs ds -> Q (.ref p) (upd H' p (.lst vs))
structure DE (Γ : Cn) (X : Cx) (e : Expr) (f : FE) : Prop where
  out : PE X e (TD Γ X.K f)
structure DT (Γ : Cn) (X : Cx) (e : Expr) (f : FT) : Prop where
  out : PT X e (TDt Γ X.K f)
structure DW (Γ : Cn) (X : Cx) (e : Expr) (f : FT) : Prop where
  out : PW X e (TDt Γ X.K f)
structure DA (Γ : Cn) (X : Cx) (es : List Expr) (f : FA) : Prop where
  out : PA X es (TDa Γ X.K f)
structure DS (Γ : Cn) (X : Cx) (st : Stmt) (g : FS) : Prop where
  out : PS X st (TDs Γ X.K g)
structure DSs (Γ : Cn) (X : Cx) (st : List Stmt) (g : FS) : Prop where
  out : PSs X st (TDs Γ X.K g)
structure DO (Γ : Cn) (X : Cx) (e : Expr) (f : FA) : Prop where
  out : PE X e (TDo Γ X.K f)
section
variable {Γ : Cn} {X : Cx} {a b c e : Expr} {es : List Expr} {fa fb fc f : FE} {pos : Pos}
theorem PE.imp {t t' : TE} (h : PE X e t) (i : ∀ σ H Q, t' σ H Q -> t σ H Q) : PE X e t' := fun pins s σ H Q I q => h pins s σ H Q I (i _ _ _ q)
theorem PT.imp {t t' : TT} (h : PT X e t) (i : ∀ σ H Q, t' σ H Q -> t σ H Q) : PT X e t' := fun pins s σ H Q I q => h pins s σ H Q I (i _ _ _ q)
theorem PW.imp {t t' : TT} (h : PW X e t) (i : ∀ σ H Q, t' σ H Q -> t σ H Q) : PW X e t' := fun wh pins s σ H Q I q => h wh pins s σ H Q I (i _ _ _ q)
theorem PA.imp {t t' : TA} (h : PA X es t) (i : ∀ σ H Q, t' σ H Q -> t σ H Q) : PA X es t' := fun p pins s σ H Q I q => h p pins s σ H Q I (i _ _ _ q)
theorem PS.imp {st : Stmt} {t t' : TS} (h : PS X st t) (i : ∀ E σ H, t' E σ H -> t E σ H) : PS X st t' := fun pins s σ H E I q => h pins s σ H E I (i _ _ _ q)
theorem PSs.imp {st : List Stmt} {t t' : TS} (h : PSs X st t) (i : ∀ E σ H, t' E σ H -> t E σ H) : PSs X st t' := fun pins s σ H E I q => h pins s σ H E I (i _ _ _ q)
def vSh (i : Nat) : FE := fun ρ => match ρ[i]? with
  | some (some (.sh d)) => some d
  | _ => none
theorem zlC {i : Nat} {ρ : zbx} {d : D} (h : vSh i ρ = some d) : ρ[i]? = some (some (.sh d)) := by
  unfold vSh at h
  split at h
  · rename_i e; cases h; exact e
  · cases h
theorem zad (i : Nat) {x : Str} (hN : X.N[i]? = some x := by rfl) (hv : Vis X.env.scope x := by first | exact Or.inl rfl | exact Or.inr (Or.inl rfl) | exact Or.inr (Or.inr rfl)) (hd : (x == ("__debug__" : Str)) = false := by decide)
    (hcd : (x == ("__classdict__" : Str)) = false := by decide) : DE Γ X (.Name x pos) (vSh i) := ⟨(zci hN hv hd hcd).imp fun σ H Q ⟨G₀, H₀, G, ρ, d, A, h, k⟩ => by
  obtain ⟨v, h1, h2⟩ := A.env.sh i d (zlC h)
  exact ⟨v, h1, k v G H (.refl A.gh) h2⟩⟩
def vC (d : D) : FE := fun _ => some d
theorem TD.const {d : D} {v : V} (r : ∀ G, Rep Γ X.K G v d) (h : PE X e (tC v)) : DE Γ X e (vC d) := ⟨h.imp fun σ H Q ⟨G₀, H₀, G, ρ, d', A, h, k⟩ => by
  cases h
  exact k v G H (.refl A.gh) (r G)⟩
theorem zae {i j} : DE Γ X (.Constant (.int i) j pos) (vC (.int i)) := TD.const (fun _ => .int i) zmN
theorem zce {i j} : DE Γ X (.Constant (.bool i) j pos) (vC (.bl i)) := TD.const (fun _ => .bl i) zqs
theorem zi7 {j} : DE Γ X (.Constant .none j pos) (vC .non) := TD.const (fun _ => .non) zmM
theorem zaj {i j} : DE Γ X (.Constant (.str i) j pos) (vC (.str i)) := TD.const (fun _ => .str i) zhs
theorem zbQ {x : Str} {i : Int} {t : Tok} (hg : Gl X x) (hm : X.mg x = some (.int i t)) (hd : (x == ("__debug__" : Str)) = false := by decide) : DE Γ X (.Name x pos) (vC (.int i)) := TD.const (fun _ => .int i) (zds hg hm ⟨t, rfl⟩ hd)
def b2 (g : D -> D -> Option D) (fa fb : FE) : FE := fun ρ => (fa ρ).bind fun x => (fb ρ).bind fun y => g x y
def b1 (g : D -> Option D) (fa : FE) : FE := fun ρ => (fa ρ).bind g
def zje (Γ : Cn) (K : PySem.W.Frag) (g : D -> D -> Option D) (r : R2) : Prop :=
  ∀ {G H v u x y z}, zbw G H -> Rep Γ K G v x -> Rep Γ K G u y -> g x y = some z -> ∀ Q : VK, (∀ w G' H', Step G H G' H' -> Rep Γ K G' w z -> Q w H') -> r v u H Q
theorem TD.two {g : D -> D -> Option D} {r : R2} (hr : zje Γ X.K g r) : ∀ σ H Q, TD Γ X.K (b2 g fa fb) σ H Q -> tOp r (TD Γ X.K fa) (TD Γ X.K fb) σ H Q := by
  rintro σ H Q ⟨G₀, H₀, G, ρ, d, A, h, k⟩
  unfold b2 at h
  cases ha : fa ρ with
  | none => rw [ha] at h; cases h
  | some x =>
    cases hb : fb ρ with
    | none => rw [ha] at h; simp only [Option.bind_some, hb, Option.bind_none] at h; cases h
    | some y =>
      simp only [ha, hb, Option.bind_some] at h
      refine ⟨G₀, H₀, G, ρ, x, A, ha, fun v G1 H1 s1 r1 => ⟨G₀, H₀, G1, ρ, y, A.step s1, hb, fun u G2 H2 s2 r2 => ?_⟩⟩
      exact hr s2.gh (r1.mono s2.gg) r2 h Q fun w G' H' s r => k w G' H' ((s1.trans s2).trans s) r
theorem zlb {op : Operator} {g : D -> D -> Option D} {r : R2} (ho : OpR X (binaryOp op) r) (hr : zje Γ X.K g r) (ha : DE Γ X a fa) (hb : DE Γ X b fb) : DE Γ X (.BinOp a op b pos) (b2 g fa fb) := ⟨(zqp ho ha.1 hb.1).imp (TD.two hr)⟩
def zcr : D -> D -> Option D
  | .int i, .int j => some (.int (i + j))
  | .str x, .str y => if x.length + y.length <= sizeLine then some (.str (x ++ y)) else none
  | .lst x, .lst y => if x.length + y.length <= sizeLine then some (.lst (x ++ y)) else none
  | _, _ => none
def zov : D -> D -> Option D
  | .int i, .int j => some (.int (i - j))
  | _, _ => none
def zlx (x : Str) (n : Nat) : Str := ⟨(List.replicate n x.cps.toList).flatten.toArray⟩
def zlz : D -> D -> Option D
  | .int i, .int j => if (-(2 ^ 64) < i /\ i < 2 ^ 64) \/ (-(2 ^ 64) < j /\ j < 2 ^ 64) then some (.int (i * j)) else none
  | .lst x, .int j => if -(2 ^ 63) <= j /\ j < 2 ^ 63 /\ x.length * j.toNat <= sizeLine then some (.lst (List.replicate j.toNat x).flatten) else none
  | .str x, .int j => if 0 <= j /\ j < 1000 /\ x.length < 1000 then some (.str (zlx x j.toNat)) else none
  | _, _ => none
def zgR : D -> D -> Option D
  | .int i, .int j => if 0 < j /\ j < 1073741824 then some (.int (i / j)) else none
  | _, _ => none
def zft : D -> D -> Option D
  | .int i, .int j => if 0 < j then some (.int (i % j)) else none
  | _, _ => none
theorem Rep.int_inv {K : PySem.W.Frag} {G : Hp} {v : V} {i : Int} (r : Rep Γ K G v (.int i)) : v = .int i := by cases r; rfl
theorem Rep.str_inv {K : PySem.W.Frag} {G : Hp} {v : V} {i : Str} (r : Rep Γ K G v (.str i)) : v = .str i := by cases r; rfl
theorem Rep.bl_inv {K : PySem.W.Frag} {G : Hp} {v : V} {i : Bool} (r : Rep Γ K G v (.bl i)) : v = .bl i := by cases r; rfl
theorem Rep.lst_inv {K : PySem.W.Frag} {G : Hp} {v : V} {ds : List D} (r : Rep Γ K G v (.lst ds)) : ∃ a vs, v = .ref a /\ G a = some (.lst vs) /\ Reps Γ K G vs ds := by cases r; exact ⟨_, _, rfl, by assumption, by assumption⟩
theorem Rep.tup_inv {K : PySem.W.Frag} {G : Hp} {v : V} {ds : List D} (r : Rep Γ K G v (.tup ds)) : ∃ a vs, v = .ref a /\ G a = some (.tup vs) /\ Reps Γ K G vs ds := by cases r; exact ⟨_, _, rfl, by assumption, by assumption⟩
theorem Rep.scr_inv {K : PySem.W.Frag} {G : Hp} {v : V} {ns : List Int} (r : Rep Γ K G v (.scr ns)) : ∃ a, v = .ref a /\ SqL K G a (ns.map V.int) := by cases r; exact ⟨_, rfl, by assumption⟩
theorem zdt {K : PySem.W.Frag} {G H : Hp} {vs : List V} {ds : List D} {Q : VK} (gh : zbw G H) (r : Reps Γ K G vs ds) (k : ∀ w G' H', Step G H G' H' -> Rep Γ K G' w (.lst ds) -> Q w H') : ∀ p, H p = none -> Q (.ref p) (upd H p (.lst vs)) := fun p hp => by
  have s := Step.new (o := .lst vs) gh hp
  exact k _ _ _ s (.lst zaw (r.mono s.gg))
theorem zie {K : PySem.W.Frag} {G H : Hp} {vs : List V} {ds : List D} {Q : VK} (gh : zbw G H) (r : Reps Γ K G vs ds) (k : ∀ w G' H', Step G H G' H' -> Rep Γ K G' w (.tup ds) -> Q w H') : ∀ p, H p = none -> Q (.ref p) (upd H p (.tup vs)) := fun p hp => by
  have s := Step.new (o := .tup vs) gh hp
  exact k _ _ _ s (.tup zaw (r.mono s.gg))
theorem zms {K : PySem.W.Frag} : zje Γ K zcr (fun x y H Q => (rI0 (fun i j => V.int (i + j)) x y H Q \/ (∃ i j, x = .str i /\ y = .str j /\ i.length + j.length <= sizeLine /\ Q (.str (i ++ j)) H)) \/ zql x y H Q) := by
  intro G H v u x y z gh r1 r2 h Q k
  unfold zcr at h
  split at h
  · cases h
    cases r1.int_inv; cases r2.int_inv
    exact .inl (.inl ⟨_, _, rfl, rfl, k _ G H (.refl gh) (.int _)⟩)
  · split at h
    · cases h
      cases r1.str_inv; cases r2.str_inv
      exact .inl (.inr ⟨_, _, rfl, rfl, by assumption, k _ G H (.refl gh) (.str _)⟩)
    · cases h
  · split at h
    · rename_i hz
      cases h
      obtain ⟨a, vs, rfl, ha, ra⟩ := r1.lst_inv
      obtain ⟨b, us, rfl, hb, rb⟩ := r2.lst_inv
      exact .inr ⟨a, b, vs, us, rfl, rfl, gh _ _ ha, gh _ _ hb, by rw [ra.length, rb.length]; exact hz, zdt gh (ra.append rb) k⟩
    · cases h
  · cases h
theorem znE : OpR X (binaryOp .Add) (fun x y H Q => (rI0 (fun i j => V.int (i + j)) x y H Q \/ (∃ i j, x = .str i /\ y = .str j /\ i.length + j.length <= sizeLine /\ Q (.str (i ++ j)) H)) \/ zql x y H Q) := (zpa.or zju).or zo9
theorem zaT (ha : DE Γ X a fa) (hb : DE Γ X b fb) : DE Γ X (.BinOp a .Add b pos) (b2 zcr fa fb) := zlb znE zms ha hb
theorem zk4 {K : PySem.W.Frag} {g : D -> D -> Option D} {o : Int -> Int -> Int} (hg : ∀ x y z, g x y = some z -> ∃ i j, x = .int i /\ y = .int j /\ z = .int (o i j)) : zje Γ K g (rI0 fun i j => V.int (o i j)) := by
  intro G H v u x y z gh r1 r2 h Q k
  obtain ⟨i, j, rfl, rfl, rfl⟩ := hg x y z h
  cases r1.int_inv; cases r2.int_inv
  exact ⟨_, _, rfl, rfl, k _ G H (.refl gh) (.int _)⟩
theorem zhI {K : PySem.W.Frag} {g : D -> D -> Option D} {C : Int -> Int -> Prop} {o : Int -> Int -> Int} (hg : ∀ x y z, g x y = some z -> ∃ i j, x = .int i /\ y = .int j /\ C i j /\ z = .int (o i j)) : zje Γ K g (rI C fun i j => V.int (o i j)) := by
  intro G H v u x y z gh r1 r2 h Q k
  obtain ⟨i, j, rfl, rfl, hc, rfl⟩ := hg x y z h
  cases r1.int_inv; cases r2.int_inv
  exact ⟨_, _, rfl, rfl, hc, k _ G H (.refl gh) (.int _)⟩
theorem zpM (ha : DE Γ X a fa) (hb : DE Γ X b fb) : DE Γ X (.BinOp a .Sub b pos) (b2 zov fa fb) := zlb zo3 (zk4 fun x y z h => by
  unfold zov at h; split at h <;> cases h; exact ⟨_, _, rfl, rfl, rfl⟩) ha hb
theorem zeK (ha : DE Γ X a fa) (hb : DE Γ X b fb) : DE Γ X (.BinOp a .FloorDiv b pos) (b2 zgR fa fb) := zlb znD (zhI fun x y z h => by
  unfold zgR at h; split at h
  · split at h <;> cases h; exact ⟨_, _, rfl, rfl, by assumption, rfl⟩
  · cases h) ha hb
theorem zcq (ha : DE Γ X a fa) (hb : DE Γ X b fb) : DE Γ X (.BinOp a .Mod b pos) (b2 zft fa fb) := zlb zo7 (zhI fun x y z h => by
  unfold zft at h; split at h
  · split at h <;> cases h; exact ⟨_, _, rfl, rfl, by assumption, rfl⟩
  · cases h) ha hb
theorem zi1 (a : Array Nat) : ∀ (k : Nat) (acc : List Nat), (List.replicate k a).foldl (· ++ ·) acc.toArray = (acc ++ (List.replicate k a.toList).flatten).toArray
  | 0, acc => by simp
  | k + 1, acc => by
    rw [List.replicate_succ, List.foldl_cons, List.replicate_succ, List.flatten_cons, ← List.append_assoc, ← zi1 a k (acc ++ a.toList)]
    congr 1
    simp
def zoF : R2 := fun x y H Q => ∃ z n, x = .str z /\ y = .int n /\ 0 <= n /\ n < 1000 /\ z.length < 1000 /\ Q (.str (zlx z n.toNat)) H
theorem znC : OpR X (binaryOp .Mult) zoF := by
  intro pins s σ H x y v u Q I rx ry h
  obtain ⟨z, n, rfl, rfl, h0, h1, h2, q⟩ := h
  obtain ⟨t, rfl⟩ := rx
  obtain ⟨t', rfl⟩ := ry
  have hl : z.length * n.toNat <= 1000000 := Nat.le_trans (Nat.mul_le_mul (Nat.le_of_lt h2) (show n.toNat <= 1000 by omega)) (by decide)
  have e0 : (List.replicate n.toNat z.cps).foldl (· ++ ·) #[] = (zlx z n.toNat).cps := by
    have := zi1 z.cps n.toNat []
    simpa [zlx] using this
  refine PySem.P.mul_str ?_ (fun h _ => ?_) (fun _ _ => ?_) ?_
  · rw [decide_eq_false (by omega), decide_eq_false (by omega)]; rfl
  · have e : (z.length : Int) * n = ((z.length * n.toNat : Nat) : Int) := by rw [Int.natCast_mul]; congr 1; omega
    have : (z.length : Int) <= (2 ^ 63 - 1 : Int) / n := Int.le_ediv_of_mul_le (by omega) (by rw [e]; omega)
    omega
  · unfold Builtin.Str.tooLong
    exact decide_eq_false (by have := sizeLine_eq; omega)
  · split
    · have : n = 0 := by omega
      subst this
      exact ⟨by decide, ⟨.str _, H, I.tok _, ⟨_, rfl⟩, by simpa [zlx, Str.empty] using q⟩⟩
    · split
      · rename_i hc
        have ez : zlx z n.toNat = z := by
          rcases Bool.or_eq_true _ _ ▸ hc with e | e
          · have : n = 1 := by simpa using e
            subst this
            simp [zlx]
          · have hz : z.cps = #[] := by
              have : z.cps.size = 0 := by simpa [Str.length] using e
              exact Array.eq_empty_of_size_eq_zero this
            cases z
            simp only at hz
            subst hz
            simp [zlx]
        exact ⟨.str _, H, I, ⟨_, rfl⟩, by rw [← ez]; exact q⟩
      · rw [e0]
        refine ⟨?_, ⟨.str _, H, I.tok _, ⟨_, rfl⟩, q⟩⟩
        have e1 : (zlx z n.toNat).length = n.toNat * z.length := by
          show (List.replicate n.toNat z.cps.toList).flatten.toArray.size = _
          rw [List.size_toArray, zkH]
          simp [Str.length]
        show (zlx z n.toNat).length <= sizeLine
        rw [e1, Nat.mul_comm]
        have := sizeLine_eq
        omega
theorem zmr {K : PySem.W.Frag} : zje Γ K zlz (fun x y H Q => (rI zp7 (fun i j => V.int (i * j)) x y H Q \/ zrc x y H Q) \/ zoF x y H Q) := by
  intro G H v u x y z gh r1 r2 h Q k
  unfold zlz at h
  split at h
  · split at h
    · cases h
      cases r1.int_inv; cases r2.int_inv
      exact .inl (.inl ⟨_, _, rfl, rfl, by assumption, k _ G H (.refl gh) (.int _)⟩)
    · cases h
  · split at h
    · rename_i hz
      cases h
      obtain ⟨a, vs, rfl, ha, ra⟩ := r1.lst_inv
      cases r2.int_inv
      exact .inl (.inr ⟨a, _, vs, rfl, rfl, gh _ _ ha, hz.1, hz.2.1, by rw [ra.length]; exact hz.2.2, zdt gh (ra.rep _) k⟩)
    · cases h
  · split at h
    · rename_i hz
      cases h
      cases r1.str_inv
      cases r2.int_inv
      exact .inr ⟨_, _, rfl, rfl, hz.1, hz.2.1, hz.2.2, k _ G H (.refl gh) (.str _)⟩
    · cases h
  · cases h
theorem zfE (ha : DE Γ X a fa) (hb : DE Γ X b fb) : DE Γ X (.BinOp a .Mult b pos) (b2 zlz fa fb) := zlb ((zo6.or zo4).or znC) zmr ha hb
end
end L2
end
section
namespace L2
open PySem PySem.Spec PyProof.Rows
section
variable {Γ : Cn} {X : Cx} {a b c e : Expr} {es : List Expr} {fa fb fc f : FE} {pos : Pos}
theorem Rep.non_inv {K : PySem.W.Frag} {G : Hp} {v : V} (r : Rep Γ K G v .non) : v = .non := by cases r; rfl
def ltS (x y : Str) : Bool := decide (x.cps.toList < y.cps.toList)
def ltD : D -> D -> Option D
  | .int i, .int j => some (.bl (decide (i < j)))
  | .str x, .str y => some (.bl (ltS x y))
  | _, _ => none
def leD : D -> D -> Option D
  | .int i, .int j => some (.bl (decide (i <= j)))
  | .str x, .str y => some (.bl (!ltS y x))
  | _, _ => none
def eqS : D -> D -> Option Bool
  | .int i, .int j => some (decide (i = j))
  | .bl i, .bl j => some (decide (i = j))
  | .str i, .str j => some (decide (i = j))
  | .non, .non => some true
  | .non, .int _ => some false | .int _, .non => some false | .non, .bl _ => some false | .bl _, .non => some false | .non, .str _ => some false | .str _, .non => some false
  | .int _, .str _ => some false | .str _, .int _ => some false | .bl _, .str _ => some false | .str _, .bl _ => some false
  | _, _ => none
def eqD (x y : D) : Option D := (eqS x y).map D.bl
def neD (x y : D) : Option D := (eqS x y).map fun b => D.bl (!b)
theorem zmY {K : PySem.W.Frag} {G : Hp} {v u : V} {x y : D} {k : Bool} (r1 : Rep Γ K G v x) (r2 : Rep Γ K G u y) (h : eqS x y = some k) : zqi v u = true /\ decide (v = u) = k := by
  unfold eqS at h
  split at h <;> cases h
  · cases r1.int_inv; cases r2.int_inv; exact ⟨rfl, by simp⟩
  · cases r1.bl_inv; cases r2.bl_inv; exact ⟨rfl, by simp⟩
  · cases r1.str_inv; cases r2.str_inv; exact ⟨rfl, by simp⟩
  · cases r1.non_inv; cases r2.non_inv; exact ⟨rfl, by simp⟩
  · cases r1.non_inv; cases r2.int_inv; exact ⟨rfl, by simp⟩
  · cases r1.int_inv; cases r2.non_inv; exact ⟨rfl, by simp⟩
  · cases r1.non_inv; cases r2.bl_inv; exact ⟨rfl, by simp⟩
  · cases r1.bl_inv; cases r2.non_inv; exact ⟨rfl, by simp⟩
  · cases r1.non_inv; cases r2.str_inv; exact ⟨rfl, by simp⟩
  · cases r1.str_inv; cases r2.non_inv; exact ⟨rfl, by simp⟩
  · cases r1.int_inv; cases r2.str_inv; exact ⟨rfl, by simp⟩
  · cases r1.str_inv; cases r2.int_inv; exact ⟨rfl, by simp⟩
  · cases r1.bl_inv; cases r2.str_inv; exact ⟨rfl, by simp⟩
  · cases r1.str_inv; cases r2.bl_inv; exact ⟨rfl, by simp⟩
theorem zn3 {K : PySem.W.Frag} : zje Γ K eqD rEq := by
  intro G H v u x y z gh r1 r2 h Q k
  unfold eqD at h
  cases e : eqS x y with
  | none => rw [e] at h; cases h
  | some b =>
    rw [e] at h
    cases h
    obtain ⟨h1, h2⟩ := zmY r1 r2 e
    exact ⟨h1, by rw [h2]; exact k _ G H (.refl gh) (.bl _)⟩
theorem znZ {K : PySem.W.Frag} : zje Γ K neD rNe := by
  intro G H v u x y z gh r1 r2 h Q k
  unfold neD at h
  cases e : eqS x y with
  | none => rw [e] at h; cases h
  | some b =>
    rw [e] at h
    cases h
    obtain ⟨h1, h2⟩ := zmY r1 r2 e
    exact ⟨h1, by rw [h2]; exact k _ G H (.refl gh) (.bl _)⟩
theorem zkr : OpR X (compareOp .LtE) (fun x y H Q => ∃ i j, x = .str i /\ y = .str j /\ Q (.bl (!ltS j i)) H) := by
  intro pins s σ H x y v u Q I rx ry h
  obtain ⟨i, j, rfl, rfl, q⟩ := h
  obtain ⟨t, rfl⟩ := rx
  obtain ⟨t', rfl⟩ := ry
  exact PySem.P.le_str (za6 I q (by simp [ltS]))
theorem zn0 {K : PySem.W.Frag} : zje Γ K ltD (fun x y H Q => rI0 (fun i j => V.bl (decide (i < j))) x y H Q \/ ∃ i j, x = .str i /\ y = .str j /\ Q (.bl (decide (i.cps.toList < j.cps.toList))) H) := by
  intro G H v u x y z gh r1 r2 h Q k
  unfold ltD at h
  split at h <;> cases h
  · cases r1.int_inv; cases r2.int_inv; exact .inl ⟨_, _, rfl, rfl, k _ G H (.refl gh) (.bl _)⟩
  · cases r1.str_inv; cases r2.str_inv; exact .inr ⟨_, _, rfl, rfl, k _ G H (.refl gh) (.bl _)⟩
theorem zn1 {K : PySem.W.Frag} : zje Γ K leD (fun x y H Q => rI0 (fun i j => V.bl (decide (i <= j))) x y H Q \/ ∃ i j, x = .str i /\ y = .str j /\ Q (.bl (!ltS j i)) H) := by
  intro G H v u x y z gh r1 r2 h Q k
  unfold leD at h
  split at h <;> cases h
  · cases r1.int_inv; cases r2.int_inv; exact .inl ⟨_, _, rfl, rfl, k _ G H (.refl gh) (.bl _)⟩
  · cases r1.str_inv; cases r2.str_inv; exact .inr ⟨_, _, rfl, rfl, k _ G H (.refl gh) (.bl _)⟩
structure CmpD (Γ : Cn) (X : Cx) (op : CmpOp) (g : D -> D -> Option D) : Prop where
  ex : ∃ r, OpR X (compareOp op) r /\ zje Γ X.K g r
theorem zn9 : CmpD Γ X .Lt ltD := ⟨_, zqw.or zkq, zn0⟩
theorem zhM : CmpD Γ X .LtE leD := ⟨_, zqx.or zkr, zn1⟩
theorem zli : CmpD Γ X .Eq eqD := ⟨_, zqy, zn3⟩
theorem zqW : CmpD Γ X .NotEq neD := ⟨_, zqv, znZ⟩
theorem zek {op : CmpOp} {g : D -> D -> Option D} (h : CmpD Γ X op g) (ha : DE Γ X a fa) (hb : DE Γ X b fb) (hm : behindInMarks op b = false) : DE Γ X (.Compare a [op] [b] pos) (b2 g fa fb) := ⟨by
  obtain ⟨r, ho, hr⟩ := h.ex
  exact (zny ho ha.1 hb.1 hm).imp (TD.two hr)⟩
def chD (g g' : D -> D -> Option D) (fa fb fc : FE) : FE := fun ρ => (fa ρ).bind fun x => (fb ρ).bind fun y => (g x y).bind fun z => match z with
  | .bl true => (fc ρ).bind fun w => g' y w
  | .bl false => some (.bl false)
  | _ => none
theorem TD.chain {g g' : D -> D -> Option D} {r r' : R2} (hr : zje Γ X.K g r) (hr' : zje Γ X.K g' r') : ∀ σ H Q, TD Γ X.K (chD g g' fa fb fc) σ H Q -> zj2 r r' (TD Γ X.K fa) (TD Γ X.K fb) (TD Γ X.K fc) σ H Q := by
  rintro σ H Q ⟨G₀, H₀, G, ρ, d, A, h, k⟩
  unfold chD at h
  obtain ⟨x, ha, h⟩ := Option.bind_eq_some_iff.mp h
  obtain ⟨y, hb, h⟩ := Option.bind_eq_some_iff.mp h
  obtain ⟨z, hz, h⟩ := Option.bind_eq_some_iff.mp h
  refine ⟨G₀, H₀, G, ρ, x, A, ha, fun v G1 H1 s1 r1 => ⟨G₀, H₀, G1, ρ, y, A.step s1, hb, fun u G2 H2 s2 r2 => ?_⟩⟩
  refine hr s2.gh (r1.mono s2.gg) r2 hz _ fun w G3 H3 s3 r3 => ?_
  split at h
  · cases r3.bl_inv
    obtain ⟨w, hc, h⟩ := Option.bind_eq_some_iff.mp h
    refine ⟨true, rfl, zmT ⟨G₀, H₀, G3, ρ, w, ((A.step s1).step s2).step s3, hc, fun q G4 H4 s4 r4 => ?_⟩⟩
    exact hr' s4.gh ((r2.mono s3.gg).mono s4.gg) r4 h Q fun w' G' H' s r => k w' G' H' ((((s1.trans s2).trans s3).trans s4).trans s) r
  · cases r3.bl_inv
    cases h
    exact ⟨false, rfl, zmU (k _ G3 H3 ((s1.trans s2).trans s3) (.bl _))⟩
  · cases h
theorem zgV {op op' : CmpOp} {g g' : D -> D -> Option D} (h : CmpD Γ X op g) (h' : CmpD Γ X op' g') (ha : DE Γ X a fa) (hb : DE Γ X b fb) (hc : DE Γ X c fc) (hm : lastMarks [op, op'] [b, c] = false := by with_unfolding_all rfl) :
    DE Γ X (.Compare a [op, op'] [b, c] pos) (chD g g' fa fb fc) := ⟨by
  obtain ⟨r, ho, hr⟩ := h.ex
  obtain ⟨r', ho', hr'⟩ := h'.ex
  exact (zlV ho ho' ha.1 hb.1 hc.1 hm).imp (TD.chain hr hr')⟩
def toB (f : FE) : FT := fun ρ => (f ρ).bind fun d => match d with
  | .bl b => some b
  | _ => none
theorem TDt.val {f : FE} : ∀ σ H Q, TDt Γ X.K (toB f) σ H Q -> TD Γ X.K f σ H fun x H' => ∃ k, x = .bl k /\ Q k H' := by
  rintro σ H Q ⟨G₀, H₀, G, ρ, b, A, h, k⟩
  unfold toB at h
  obtain ⟨d, hd, h⟩ := Option.bind_eq_some_iff.mp h
  split at h <;> cases h
  exact ⟨G₀, H₀, G, ρ, _, A, hd, fun v G' H' s r => ⟨b, r.bl_inv, k G' H' s⟩⟩
theorem zi4 {op : CmpOp} {g : D -> D -> Option D} (h : CmpD Γ X op g) (ha : DE Γ X a fa) (hb : DE Γ X b fb) (hm : behindInMarks op b = false) : DT Γ X (.Compare a [op] [b] pos) (toB (b2 g fa fb)) := ⟨by
  obtain ⟨r, ho, hr⟩ := h.ex
  exact (zno ho ha.1 hb.1 hm).imp fun σ H Q q => TD.two hr σ H _ (TDt.val σ H Q q)⟩
theorem zmq {op op' : CmpOp} {g g' : D -> D -> Option D} (h : CmpD Γ X op g) (h' : CmpD Γ X op' g') (ha : DE Γ X a fa) (hb : DE Γ X b fb) (hc : DE Γ X c fc) (hm : lastMarks [op, op'] [b, c] = false := by with_unfolding_all rfl) :
    DT Γ X (.Compare a [op, op'] [b, c] pos) (toB (chD g g' fa fb fc)) := ⟨by
  obtain ⟨r, ho, hr⟩ := h.ex
  obtain ⟨r', ho', hr'⟩ := h'.ex
  exact (zlQ ho ho' ha.1 hb.1 hc.1 hm).imp fun σ H Q q => TD.chain hr hr' σ H _ (TDt.val σ H Q q)⟩
theorem zaK (h : DE Γ X e f) (he : ∀ whole, isTrue e X.env whole = (do let v ← whole; standAt e.pos; holding [v] (truthy v)) := by intro _; rfl) : DT Γ X e (toB f) := ⟨(ziK h.1 he).imp TDt.val⟩
def zbM (f : FT) : FT := fun ρ => (f ρ).map (!·)
def zq0 (f g : FT) : FT := fun ρ => (f ρ).bind fun b => if b = true then g ρ else some false
def orT (f g : FT) : FT := fun ρ => (f ρ).bind fun b => if b = true then some true else g ρ
variable {ft gt : FT} {zbL : List Expr}
theorem DW.dt {e : Expr} (h : DW Γ X e ft) : DT Γ X e ft := ⟨h.1.pt⟩
theorem zaL (h : DT Γ X a ft) : DT Γ X (.UnaryOp .Not a pos) (zbM ft) := ⟨(zki h.1).imp fun σ H Q => by
  rintro ⟨G₀, H₀, G, ρ, b, A, h, k⟩
  unfold zbM at h
  obtain ⟨c, hc, h⟩ := Option.map_eq_some_iff.mp h
  exact ⟨G₀, H₀, G, ρ, c, A, hc, fun G' H' s => by show Q (!c) H'; rw [h]; exact k G' H' s⟩⟩
theorem znY (h : DT Γ X a ft) : DW Γ X (.BoolOp .And [a] pos) ft := ⟨znl h.1⟩
theorem zb6 (h : DT Γ X a ft) : DW Γ X (.BoolOp .Or [a] pos) ft := ⟨zmJ h.1⟩
theorem zpF (h : DT Γ X a ft) (h' : DW Γ X (.BoolOp .And (b :: zbL) pos) gt) : DW Γ X (.BoolOp .And (a :: b :: zbL) pos) (zq0 ft gt) := ⟨(zoJ h.1 h'.1).imp fun σ H Q => by
  rintro ⟨G₀, H₀, G, ρ, r, A, h, k⟩
  unfold zq0 at h
  obtain ⟨c, hc, h⟩ := Option.bind_eq_some_iff.mp h
  refine ⟨G₀, H₀, G, ρ, c, A, hc, fun G1 H1 s1 => ?_⟩
  cases c with
  | true => exact zmT ⟨G₀, H₀, G1, ρ, r, A.step s1, by simpa using h, fun G' H' s => k G' H' (s1.trans s)⟩
  | false =>
    rw [if_neg Bool.false_ne_true] at h
    cases h
    exact zmU (k _ _ s1)⟩
theorem zcF (h : DT Γ X a ft) (h' : DW Γ X (.BoolOp .Or (b :: zbL) pos) gt) : DW Γ X (.BoolOp .Or (a :: b :: zbL) pos) (orT ft gt) := ⟨(zoI h.1 h'.1).imp fun σ H Q => by
  rintro ⟨G₀, H₀, G, ρ, r, A, h, k⟩
  unfold orT at h
  obtain ⟨c, hc, h⟩ := Option.bind_eq_some_iff.mp h
  refine ⟨G₀, H₀, G, ρ, c, A, hc, fun G1 H1 s1 => ?_⟩
  cases c with
  | false => exact zmU ⟨G₀, H₀, G1, ρ, r, A.step s1, by simpa using h, fun G' H' s => k G' H' (s1.trans s)⟩
  | true =>
    rw [if_pos rfl] at h
    cases h
    exact zmT (k _ _ s1)⟩
def zdx (fa fb : FE) : FE := fun ρ => (fa ρ).bind fun d => match d with
  | .bl true => fb ρ
  | .bl false => some (.bl false)
  | _ => none
def zp2 (fa : FE) : FE := fun ρ => (fa ρ).bind fun d => match d with
  | .bl b => some (.bl (!b))
  | _ => none
theorem zcJ {op} (h : DE Γ X a fa) : DE Γ X (.BoolOp op [a] pos) fa := ⟨zoV h.1⟩
theorem zb7 (ha : DE Γ X a fa) (hb : DE Γ X (.BoolOp .And (b :: zbL) pos) fb) : DE Γ X (.BoolOp .And (a :: b :: zbL) pos) (zdx fa fb) := ⟨(zoZ ha.1 hb.1).imp fun σ H Q => by
  rintro ⟨G₀, H₀, G, ρ, d, A, h, k⟩
  unfold zdx at h
  obtain ⟨x, hx, h⟩ := Option.bind_eq_some_iff.mp h
  refine ⟨G₀, H₀, G, ρ, x, A, hx, fun v G1 H1 s1 r1 => ?_⟩
  split at h
  · cases r1.bl_inv
    exact ⟨true, rfl, zmT ⟨G₀, H₀, G1, ρ, d, A.step s1, h, fun w G' H' s r => k w G' H' (s1.trans s) r⟩⟩
  · cases r1.bl_inv
    cases h
    exact ⟨false, rfl, zmU (k _ G1 H1 s1 (.bl _))⟩
  · cases h⟩
theorem zpN (ha : DE Γ X a fa) : DE Γ X (.UnaryOp .Not a pos) (zp2 fa) := ⟨(zoW ha.1).imp fun σ H Q => by
  rintro ⟨G₀, H₀, G, ρ, d, A, h, k⟩
  unfold zp2 at h
  obtain ⟨x, hx, h⟩ := Option.bind_eq_some_iff.mp h
  refine ⟨G₀, H₀, G, ρ, x, A, hx, fun v G1 H1 s1 r1 => ?_⟩
  split at h
  · cases r1.bl_inv
    cases h
    exact ⟨_, rfl, k _ G1 H1 s1 (.bl _)⟩
  · cases h⟩
def zag : FA := fun _ => some []
def zab (fa : FE) (fr : FA) : FA := fun ρ => (fa ρ).bind fun x => (fr ρ).map (x :: ·)
variable {fr : FA}
theorem zac : DA Γ X [] zag := ⟨zdK.imp fun σ H Q => by
  rintro ⟨G₀, H₀, G, ρ, d, A, h, k⟩
  cases h
  exact k _ G H (.refl A.gh) .nil⟩
theorem zaa (ha : DE Γ X e fa) (hr : DA Γ X es fr) (hs : starEach (e :: es) X.env = (false, eval e X.env) :: starEach es X.env := by rfl) : DA Γ X (e :: es) (zab fa fr) := ⟨(zbq ha.1 hr.1 hs).imp fun σ H Q => by
  rintro ⟨G₀, H₀, G, ρ, d, A, h, k⟩
  unfold zab at h
  obtain ⟨x, hx, h⟩ := Option.bind_eq_some_iff.mp h
  obtain ⟨xs, hxs, h⟩ := Option.map_eq_some_iff.mp h
  subst h
  exact ⟨G₀, H₀, G, ρ, x, A, hx, fun v G1 H1 s1 r1 => ⟨G₀, H₀, G1, ρ, xs, A.step s1, hxs, fun vs G2 H2 s2 r2 => k _ G2 H2 (s1.trans s2) (.cons (r1.mono s2.gg) r2)⟩⟩⟩
def szF (fr : FA) : FA := fun ρ => (fr ρ).bind fun l => if l.length <= sizeLine then some l else none
def zaC (fr : FA) : FE := fun ρ => (fr ρ).map D.lst
def zaX (fr : FA) : FE := fun ρ => (fr ρ).map D.tup
theorem DO.de (h : DO Γ X e fr) : DE Γ X e (zaC fr) := ⟨h.1.imp fun σ H Q => by
  rintro ⟨G₀, H₀, G, ρ, d, A, h, k⟩
  unfold zaC at h
  obtain ⟨ds, hd, rfl⟩ := Option.map_eq_some_iff.mp h
  exact ⟨G₀, H₀, G, ρ, ds, A, hd, fun p vs G' H' s hp r => zdt s.gh r (fun w G2 H2 s2 r2 => k w G2 H2 (s.trans s2) r2) p hp⟩⟩
theorem zao (h : DA Γ X es fr) : DO Γ X (.List es pos) (szF fr) := ⟨(zoX h.1).imp fun σ H Q => by
  rintro ⟨G₀, H₀, G, ρ, d, A, h, k⟩
  unfold szF at h
  obtain ⟨ds, hd, h⟩ := Option.bind_eq_some_iff.mp h
  split at h
  · rename_i hz
    cases h
    exact ⟨G₀, H₀, G, ρ, d, A, hd, fun vs G' H' s r => ⟨by rw [r.length]; exact hz, fun p hp => k p vs G' H' s hp r⟩⟩
  · cases h⟩
theorem zat {x1} (h : DA Γ X es fr) : DE Γ X (.Tuple es x1 pos) (zaX (szF fr)) := ⟨(zmL h.1).imp fun σ H Q => by
  rintro ⟨G₀, H₀, G, ρ, d, A, h, k⟩
  unfold zaX szF at h
  obtain ⟨ds', hd', rfl⟩ := Option.map_eq_some_iff.mp h
  obtain ⟨ds, hd, h⟩ := Option.bind_eq_some_iff.mp hd'
  split at h
  · rename_i hz
    cases h
    exact ⟨G₀, H₀, G, ρ, ds', A, hd, fun vs G' H' s r => ⟨by rw [r.length]; exact hz, zie s.gh r fun w G2 H2 s2 r2 => k w G2 H2 (s.trans s2) r2⟩⟩
  · cases h⟩
def zof (Γ : Cn) (K : PySem.W.Frag) (g : List D -> Option D) (r : List V -> Hp -> VK -> Prop) : Prop :=
  ∀ {G H vs ds z}, zbw G H -> Reps Γ K G vs ds -> g ds = some z -> ∀ Q : VK, (∀ w G' H', Step G H G' H' -> Rep Γ K G' w z -> Q w H') -> r vs H Q
def cF (g : List D -> Option D) (fr : FA) : FE := fun ρ => (fr ρ).bind g
theorem TD.call {g : List D -> Option D} {r : List V -> Hp -> VK -> Prop} (hr : zof Γ X.K g r) : ∀ σ H Q, TD Γ X.K (cF g fr) σ H Q -> tCB r (TDa Γ X.K fr) σ H Q := by
  rintro σ H Q ⟨G₀, H₀, G, ρ, d, A, h, k⟩
  unfold cF at h
  obtain ⟨ds, hd, h⟩ := Option.bind_eq_some_iff.mp h
  exact ⟨G₀, H₀, G, ρ, ds, A, hd, fun vs G1 H1 s1 r1 => hr s1.gh r1 h Q fun w G' H' s r => k w G' H' (s1.trans s) r⟩
structure BltD (Γ : Cn) (X : Cx) (id : String) (g : List D -> Option D) : Prop where
  ex : ∃ r, zfb X (.builtin id) r /\ zof Γ X.K g r
structure TyD (Γ : Cn) (X : Cx) (id : String) (g : List D -> Option D) : Prop where
  ex : ∃ r, zfb X (.type id) r /\ zof Γ X.K g r
variable {x : Str} {p : Pos}
theorem zaI {id : String} {g : List D -> Option D} (hc : BltD Γ X id g) (hg : Gl X x) (hm : X.mg x = none) (hv : bootBuiltins x = some (.builtin id)) (ha : DA Γ X (e :: es) fr) (hn : x ≠ "__name__" := by decide) (hdb : (x == ("__debug__" : Str)) = false := by decide)
    (he : starEach (e :: es) X.env = (false, eval e X.env) :: starEach es X.env := by rfl) (hpl : (backTo pos (starEach es X.env)).any (·.1) = false := by rfl) : DE Γ X (.Call (.Name x p) (e :: es) [] pos) (cF g fr) := ⟨by
  obtain ⟨r, h1, h2⟩ := hc.ex
  exact (zeg h1 hg hm hv ha.1 hn hdb he hpl).imp (TD.call h2)⟩
theorem zcD {id : String} {g : List D -> Option D} (hc : TyD Γ X id g) (hg : Gl X x) (hm : X.mg x = none) (hv : bootBuiltins x = some (.type id)) (ha : DA Γ X (e :: es) fr) (hn : x ≠ "__name__" := by decide) (hdb : (x == ("__debug__" : Str)) = false := by decide)
    (he : starEach (e :: es) X.env = (false, eval e X.env) :: starEach es X.env := by rfl) (hpl : (backTo pos (starEach es X.env)).any (·.1) = false := by rfl) : DE Γ X (.Call (.Name x p) (e :: es) [] pos) (cF g fr) := ⟨by
  obtain ⟨r, h1, h2⟩ := hc.ex
  exact (zht h1 hg hm hv ha.1 hn hdb he hpl).imp (TD.call h2)⟩
theorem zhK {n : String} (hg : Gl X x) (hm : X.mg x = none) (hv : bootBuiltins x = some (.type n)) (hn : x ≠ "__name__" := by decide) (hd : (x == ("__debug__" : Str)) = false := by decide) : DE Γ X (.Name x pos) (vC (.ty n)) := TD.const (fun _ => .ty n) (zkm hg hm hv rfl hn hd)
theorem Reps.one {K : PySem.W.Frag} {G : Hp} {vs : List V} {d : D} (r : Reps Γ K G vs [d]) : ∃ v, vs = [v] /\ Rep Γ K G v d := by
  cases r with
  | cons h t => cases t; exact ⟨_, rfl, h⟩
theorem Reps.two {K : PySem.W.Frag} {G : Hp} {vs : List V} {d d' : D} (r : Reps Γ K G vs [d, d']) : ∃ v u, vs = [v, u] /\ Rep Γ K G v d /\ Rep Γ K G u d' := by
  cases r with
  | cons h t => cases t with
    | cons h2 t2 => cases t2; exact ⟨_, _, rfl, h, h2⟩
def zr6 : List D -> Option D
  | [.int i] => some (.int (if i < 0 then -i else i))
  | _ => none
def zfy : List D -> Option D
  | [.str x] => if x.length <= sizeLine then some (.int (x.length : Nat)) else none
  | [.lst l] => some (.int (l.length : Nat))
  | [.tup l] => some (.int (l.length : Nat))
  | [.scr l] => some (.int (l.length : Nat))
  | _ => none
theorem zeq : BltD Γ X "len" zfy := ⟨_, zmD, fun {G H vs ds z} gh r h Q k => by
  unfold zfy at h
  split at h
  · split at h
    · cases h
      obtain ⟨v, rfl, r1⟩ := r.one
      cases r1.str_inv
      exact ⟨_, _, rfl, ⟨by assumption, rfl⟩, k _ G H (.refl gh) (.int _)⟩
    · cases h
  · cases h
    obtain ⟨v, rfl, r1⟩ := r.one
    obtain ⟨a, vs, rfl, ha, rv⟩ := r1.lst_inv
    exact ⟨_, _, rfl, .inl ⟨vs, .inl (.inl (gh _ _ ha)), rfl⟩, k _ G H (.refl gh) (by rw [rv.length]; exact .int _)⟩
  · cases h
    obtain ⟨v, rfl, r1⟩ := r.one
    obtain ⟨a, vs, rfl, ha, rv⟩ := r1.tup_inv
    exact ⟨_, _, rfl, .inr ⟨vs, .inl (.inl (gh _ _ ha)), rfl⟩, k _ G H (.refl gh) (by rw [rv.length]; exact .int _)⟩
  · cases h
    obtain ⟨v, rfl, r1⟩ := r.one
    obtain ⟨a, rfl, ha⟩ := r1.scr_inv
    exact ⟨_, _, rfl, .inl ⟨_, gh.seq ha, rfl⟩, k _ G H (.refl gh) (by rw [List.length_map]; exact .int _)⟩
  · cases h⟩
def tyD : D -> Option String
  | .non => some "NoneType"
  | .bl _ => some "bool"
  | .int _ => some "int"
  | .str _ => some "str"
  | .lst _ => some "list"
  | .tup _ => some "tuple"
  | .dk _ => some "dict"
  | .dt _ => some "dict"
  | _ => none
def zij (t c : String) : Option Bool := if (Value.type t == Value.type c) = true then some true else if PySem.W.kitMeta c = true then Option.map (fun x => x.contains (Value.type c)) (PySem.fastBuiltinMro t) else none
def zf2 : List D -> Option D
  | [d, .ty c] => (tyD d).bind fun t => (zij t c).map D.bl
  | _ => none
theorem zm9 {K : PySem.W.Frag} {G H : Hp} {v : V} {d : D} {t : String} (gh : zbw G H) (r : Rep Γ K G v d) (h : tyD d = some t) : TyOf K H v (.type t) := by
  unfold tyD at h
  split at h <;> cases h
  · cases r.non_inv; exact .non
  · cases r.bl_inv; exact .bl _
  · cases r.int_inv; exact .int _
  · cases r.str_inv; exact .str _
  · obtain ⟨a, vs, rfl, ha, _⟩ := r.lst_inv; exact .lst (gh _ _ ha)
  · obtain ⟨a, vs, rfl, ha, _⟩ := r.tup_inv; exact .tup (gh _ _ ha)
  · cases r with
    | dk h _ _ => exact .dK (gh _ _ h)
  · cases r with
    | dt h _ _ => exact .dT (gh _ _ h)
theorem ze1 : BltD Γ X "isinstance" zf2 := by
  refine ⟨fun vs H Q => ∃ v t c b, vs = [v, .ty c] /\ TyOf X.K H v (.type t) /\ PySem.W.kitOne X.K (.type t) (.type c) = some b /\ Q (.bl b) H, ?_, ?_⟩
  · intro pins s σ H xs us Q I r h
    obtain ⟨v, t, c, b, rfl, ty, hk, q⟩ := h
    obtain ⟨u, w', rfl, r1, r2⟩ := zm7 r
    cases r2
    exact zkP I r1 ty hk fun tk => ⟨.bl b, H, I.tok tk, rfl, q⟩
  · intro G H vs ds z gh r h Q k
    unfold zf2 at h
    split at h
    · obtain ⟨t, ht, h⟩ := Option.bind_eq_some_iff.mp h
      obtain ⟨b, hb, rfl⟩ := Option.map_eq_some_iff.mp h
      obtain ⟨v, u, rfl, r1, r2⟩ := r.two
      cases r2
      exact ⟨v, t, _, b, rfl, zm9 gh r1 ht, hb, k _ G H (.refl gh) (.bl _)⟩
    · cases h
end
end L2
end
section
namespace L2
open PySem PySem.Spec PyProof.Rows
section
variable {Γ : Cn} {X : Cx} {a b c e : Expr} {es : List Expr} {fa fb fc f : FE} {fr : FA} {pos p2 : Pos}
theorem Reps.atI {K : PySem.W.Frag} {G : Hp} {vs : List V} {ds : List D} {i : Int} {d : D} (r : Reps Γ K G vs ds) (h : L2.atI ds i = some d) : ∃ v, L2.atI vs i = some v /\ Rep Γ K G v d := by
  unfold L2.atI at h ⊢
  rw [r.length]
  cases e : ixN ds.length i with
  | none => rw [e] at h; cases h
  | some j =>
    rw [e] at h
    obtain ⟨v, h1, h2⟩ := r.get (i := j) (d := d) h
    exact ⟨v, h1, h2⟩
theorem zoc {α β : Type} (g : α -> β) (xs : List α) (i : Int) : L2.atI (xs.map g) i = (L2.atI xs i).map g := by
  unfold L2.atI
  rw [List.length_map]
  cases ixN xs.length i with
  | none => rfl
  | some j => simp
def ixD : D -> D -> Option D
  | .lst l, .int i => atI l i
  | .tup l, .int i => atI l i
  | .scr l, .int i => (atI l i).map D.int
  | .str x, .int i => if x.length <= sizeLine then (atI x.cps.toList i).map fun c => D.str ⟨#[c]⟩ else none
  | _, _ => none
theorem zn2 {K : PySem.W.Frag} : zje Γ K ixD (rIx K) := by
  intro G H v u x y z gh r1 r2 h Q k
  unfold ixD at h
  split at h
  · obtain ⟨a, vs, rfl, ha, rv⟩ := r1.lst_inv
    cases r2.int_inv
    obtain ⟨w, hw, rw'⟩ := rv.atI h
    exact .inl ⟨a, vs, _, w, rfl, rfl, .inl (.inl (gh _ _ ha)), hw, k w G H (.refl gh) rw'⟩
  · obtain ⟨a, vs, rfl, ha, rv⟩ := r1.tup_inv
    cases r2.int_inv
    obtain ⟨w, hw, rw'⟩ := rv.atI h
    exact .inr (.inl ⟨a, vs, _, w, rfl, rfl, .inl (.inl (gh _ _ ha)), hw, k w G H (.refl gh) rw'⟩)
  · obtain ⟨a, rfl, ha⟩ := r1.scr_inv
    cases r2.int_inv
    obtain ⟨n, hn, rfl⟩ := Option.map_eq_some_iff.mp h
    exact .inl ⟨a, _, _, .int n, rfl, rfl, gh.seq ha, by rw [zoc, hn]; rfl, k _ G H (.refl gh) (.int _)⟩
  · split at h
    · cases r1.str_inv
      cases r2.int_inv
      obtain ⟨n, hn, rfl⟩ := Option.map_eq_some_iff.mp h
      exact .inr (.inr ⟨_, _, n, rfl, rfl, by assumption, hn, k _ G H (.refl gh) (.str _)⟩)
    · cases h
  · cases h
theorem zaH (ha : DE Γ X a fa) (hb : DE Γ X b fb) (hs : zlu b := by intro _ _; rfl) : DE Γ X (.Subscript a b pos) (b2 ixD fa fb) := ⟨(zqr zpo ha.1 hb.1 hs).imp (TD.two zn2)⟩
def zg8 {α : Type} (xs : List α) (lo hi : Option Int) : List α := (xs.drop (HT.sIx xs.length 0 lo)).take (HT.sIx xs.length xs.length hi - HT.sIx xs.length 0 lo)
theorem zmy {α β : Type} (g : α -> β) (xs : List α) (lo hi : Option Int) : zg8 (xs.map g) lo hi = (zg8 xs lo hi).map g := by
  unfold zg8
  simp
theorem Reps.cut {K : PySem.W.Frag} {G : Hp} {vs : List V} {ds : List D} (r : Reps Γ K G vs ds) (lo hi : Option Int) : Reps Γ K G (zm2 vs lo hi) (zg8 ds lo hi) := by
  unfold zm2 zg8
  rw [r.length]
  exact (r.drop _).take _
def zol (x : Str) (lo hi : Option Int) : Str := ⟨(zg8 x.cps.toList lo hi).toArray⟩
theorem zhc (lo hi : Option Int) (n : Nat) : Builtin.Str.strSliceIndices lo hi 1 n = (List.range (HT.sIx n n hi - HT.sIx n 0 lo)).map (HT.sIx n 0 lo + ·) := by
  rw [← sliceRange_one]
  unfold Builtin.Str.strSliceIndices
  have h1 : ∀ (o : Option Int) (d : Nat), d <= n -> (match o with | none => (d : Int) | some i => if (1 : Int) > 0 then max 0 (min (if i < 0 then i + (n : Int) else i) n) else max (-1) (min (if i < 0 then i + (n : Int) else i) ((n : Int) - 1))) = ((HT.sIx n d o : Nat) : Int) := fun o d hd => by
    cases o with
    | none => simp [HT.sIx]
    | some i =>
      simp only [HT.sIx, show (1 : Int) > 0 by decide, if_true]
      by_cases h : i < 0
      · simp only [h, if_true]; omega
      · simp only [h, if_false]; omega
  have e0 := h1 lo 0 (Nat.zero_le _)
  have e1 := h1 hi n (Nat.le_refl _)
  rw [← e0, ← e1]
  rfl
theorem ziH (x : Str) (lo hi : Option Int) : Txt.slice x lo hi = zol x lo hi := by
  have key : (Builtin.Str.strSliceIndices lo hi 1 x.length).filterMap (x.cps[·]?) = zg8 x.cps.toList lo hi := by
    rw [zhc, pick_run]
    unfold zg8
    rw [show x.cps.toList.length = x.length by simp [Str.length]]
  unfold Txt.slice zol
  split
  · rename_i h
    rw [← key]
    have hl : (Builtin.Str.strSliceIndices lo hi 1 x.length).length = x.length := by simpa using h
    rw [zhc] at hl ⊢
    rw [pick_run]
    rw [List.length_map, List.length_range] at hl
    have hb : HT.sIx x.length x.length hi <= x.length := by
      cases hi with
      | none => simp [HT.sIx]
      | some i => simp only [HT.sIx]; split <;> omega
    have h0 : HT.sIx x.length 0 lo = 0 \/ x.length = 0 := by omega
    have hx : x.cps.toList.length = x.length := by simp [Str.length]
    have e : (x.cps.toList.drop (HT.sIx x.length 0 lo)).take (HT.sIx x.length x.length hi - HT.sIx x.length 0 lo) = x.cps.toList := by
      rcases h0 with h0 | h0
      · rw [h0, List.drop_zero]
        rw [h0] at hl
        exact List.take_of_length_le (by omega)
      · have : x.cps.toList = [] := List.length_eq_zero_iff.mp (by omega)
        rw [this]; simp
    rw [e]
  · rw [key]
def pN : zbx -> Option (Option Int) := fun _ => some none
def pS (f : FE) : zbx -> Option (Option Int) := fun ρ => (f ρ).bind fun d => match d with
  | .int i => some (some i)
  | _ => none
def TDp (Γ : Cn) (K : PySem.W.Frag) (f : zbx -> Option (Option Int)) : TO := fun σ H Q => ∃ G₀ H₀ G ρ o, At Γ K G₀ H₀ G H ρ σ /\ f ρ = some o /\ ∀ G' H', Step G H G' H' -> Q o H'
structure DP (Γ : Cn) (X : Cx) (e : Option Expr) (f : zbx -> Option (Option Int)) : Prop where
  out : PO X e (TDp Γ X.K f)
theorem zdd : DP Γ X none pN := ⟨fun pins s σ H Q I ⟨G₀, H₀, G, ρ, o, A, h, k⟩ => by
  cases h
  exact znt pins s σ H Q I (k G H (.refl A.gh))⟩
theorem zdc (h : DE Γ X e f) : DP Γ X (some e) (pS f) := ⟨fun pins s σ H Q I ⟨G₀, H₀, G, ρ, o, A, q, k⟩ => by
  unfold pS at q
  obtain ⟨d, hd, q⟩ := Option.bind_eq_some_iff.mp q
  split at q <;> cases q
  exact zns h.1 pins s σ H Q I ⟨G₀, H₀, G, ρ, _, A, hd, fun v G' H' s r => ⟨_, r.int_inv, k G' H' s⟩⟩⟩
theorem zoz : SlR X (fun x lo hi H Q => ∃ z, x = .str z /\ z.length <= sizeLine /\ Q (.str (zol z lo hi)) H) := by
  intro pins s σ H x v vl vu lo hi sl Q I rx hs pl pu h
  obtain ⟨z, rfl, hz, q⟩ := h
  obtain ⟨t, rfl⟩ := rx
  refine ⟨"str", _, PySem.F.slot_str_getitem.lookup, typeIs_str _ _ _, ?_⟩
  obtain ⟨l, rfl, el⟩ : ∃ l : Option (Int × Tok), vl = partValue l /\ l.map (·.1) = lo := by
    cases pl with
    | none => exact ⟨none, rfl, rfl⟩
    | int i t => exact ⟨some (i, t), rfl, rfl⟩
  obtain ⟨u, rfl, eu⟩ : ∃ l : Option (Int × Tok), vu = partValue l /\ l.map (·.1) = hi := by
    cases pu with
    | none => exact ⟨none, rfl, rfl⟩
    | int i t => exact ⟨some (i, t), rfl, rfl⟩
  refine wpAny_getItem_str_slice (l := l) (u := u) (st := none) hs rfl ?_
  have e : (if ((Option.map (fun x => x.fst) (none : Option (Int × Tok))).getD 1 == 1 && (slicePicked z l u none).length == z.length) = true then z else { cps := (List.filterMap (fun x => z.cps[x]?) (slicePicked z l u none)).toArray }) = zol z lo hi := by
    have e0 : Txt.slice z (l.map (·.1)) (u.map (·.1)) = zol z lo hi := by
      rw [el, eu]
      exact ziH z lo hi
    exact e0
  refine post_val_or_str ⟨?_, fun t' k => ?_⟩
  · rw [e, ← ziH]
    exact Nat.le_trans (Txt.slice_le z _ _) hz
  · rw [e]
    exact ⟨.str _, H, I.tok k, ⟨_, rfl⟩, q⟩
def ziI (lo hi : Option Int) : D -> Option D
  | .lst l => some (.lst (zg8 l lo hi))
  | .scr l => some (.lst ((zg8 l lo hi).map D.int))
  | .tup l => if HT.sIx l.length 0 lo = 0 /\ HT.sIx l.length l.length hi = l.length then none else some (.tup (zg8 l lo hi))
  | .str x => if x.length <= sizeLine then some (.str (zol x lo hi)) else none
  | _ => none
def slF (f : FE) (fl fh : zbx -> Option (Option Int)) : FE := fun ρ => (f ρ).bind fun d => (fl ρ).bind fun l => (fh ρ).bind fun h => ziI l h d
variable {fl fh : zbx -> Option (Option Int)} {lo hi : Option Expr}
theorem zct (he : DE Γ X e f) (hl : DP Γ X lo fl) (hh : DP Γ X hi fh) : DE Γ X (.Subscript e (.Slice lo hi none p2) pos) (slF f fl fh) := ⟨(zlU (zne.or (zoy.or zoz)) he.1 hl.1 hh.1).imp fun σ H Q => by
  rintro ⟨G₀, H₀, G, ρ, d, A, h, k⟩
  unfold slF at h
  obtain ⟨x, hx, h⟩ := Option.bind_eq_some_iff.mp h
  obtain ⟨l, hl, h⟩ := Option.bind_eq_some_iff.mp h
  obtain ⟨u, hu, h⟩ := Option.bind_eq_some_iff.mp h
  refine ⟨G₀, H₀, G, ρ, x, A, hx, fun v G1 H1 s1 r1 => ⟨G₀, H₀, G1, ρ, l, A.step s1, hl, fun G2 H2 s2 => ⟨G₀, H₀, G2, ρ, u, (A.step s1).step s2, hu, fun G3 H3 s3 => ?_⟩⟩⟩
  have s := (s1.trans s2).trans s3
  have r := r1.mono (s2.gg.trans s3.gg)
  have gh := s3.gh
  unfold ziI at h
  split at h
  · cases h
    obtain ⟨a, vs, rfl, ha, rv⟩ := r.lst_inv
    exact .inl ⟨a, vs, rfl, .inl (.inl (gh _ _ ha)), zdt gh (rv.cut l u) fun w G4 H4 s4 r4 => k w G4 H4 (s.trans s4) r4⟩
  · cases h
    obtain ⟨a, rfl, ha⟩ := r.scr_inv
    refine .inl ⟨a, _, rfl, gh.seq ha, zdt gh ?_ fun w G4 H4 s4 r4 => k w G4 H4 (s.trans s4) r4⟩
    show Reps Γ X.K G3 (zg8 _ l u) _
    rw [zmy]
    exact Reps.ints _
  · split at h
    · cases h
    · rename_i hw
      cases h
      obtain ⟨a, vs, rfl, ha, rv⟩ := r.tup_inv
      exact .inr (.inl ⟨a, vs, rfl, .inl (.inl (gh _ _ ha)), by rw [rv.length]; exact hw, zie gh (rv.cut l u) fun w G4 H4 s4 r4 => k w G4 H4 (s.trans s4) r4⟩)
  · split at h
    · cases h
      cases r.str_inv
      exact .inr (.inr ⟨_, rfl, by assumption, k _ _ _ s (.str _)⟩)
    · cases h
  · cases h⟩
structure MtD (Γ : Cn) (X : Cx) (T id : String) (g : D -> List D -> Option D) : Prop where
  ex : ∃ r, MtR X id r /\ ∀ {G H v x vs ds z}, zbw G H -> Rep Γ X.K G v x -> Reps Γ X.K G vs ds -> g x ds = some z -> ∀ Q : VK, (∀ w G' H', Step G H G' H' -> Rep Γ X.K G' w z -> Q w H') -> r v vs H Q
  ty : ∀ {G H v x ds z}, zbw G H -> Rep Γ X.K G v x -> g x ds = some z -> tyV X.K T v H
variable {name : Str} {apos cpos : Pos} {o : Expr} {fo : FE}
def zow : List D -> Option (List Str)
  | [] => some []
  | .str x :: r => (zow r).map (x :: ·)
  | _ :: _ => none
def zrL : D -> List D -> Option D
  | .str sep, [.lst l] => (zow l).bind fun ys => if (ys.map (·.length)).sum + ys.length * sep.length <= 16777216 then some (.str (Txt.join sep ys)) else none
  | _, _ => none
def zom : List D -> Option (List Bool)
  | [] => some []
  | .bl x :: r => (zom r).map (x :: ·)
  | _ :: _ => none
theorem zlm {K : PySem.W.Frag} {G : Hp} : ∀ {vs : List V} {ds : List D} {ys : List Bool}, Reps Γ K G vs ds -> zom ds = some ys -> vs = ys.map V.bl
  | _, [], ys, r, h => by cases r; cases h; rfl
  | _, d :: ds, ys, .cons h1 h2, h => by
    cases d with
    | bl x =>
      obtain ⟨zs, hz, rfl⟩ := Option.map_eq_some_iff.mp (show (zom ds).map (x :: ·) = some ys from h)
      rw [h1.bl_inv, zlm h2 hz]; rfl
    | _ => cases h
def zh1 : List D -> Option D
  | [.lst l] => (zom l).map fun bs => D.bl (bs.all id)
  | _ => none
theorem zjX : ∀ {bs : List Bool} {us : List Value}, zbC (bs.map V.bl) us -> us = bs.map Value.bool
  | [], _, r => by rw [List.map_nil] at r; cases r; rfl
  | y :: ys, _, r => by
    rw [List.map_cons] at r
    cases r with
    | cons r1 r2 => cases r1; rw [zjX r2]; rfl
theorem zls (bs : List Bool) : (List.range bs.length).all (fun i => bs.getD i false) = bs.all id := by
  rw [Bool.eq_iff_iff, List.all_eq_true, List.all_eq_true]
  constructor
  · intro h x hx
    obtain ⟨i, hi, e⟩ := List.mem_iff_getElem.mp hx
    have := h i (List.mem_range.mpr hi)
    simp [List.getD, hi] at this
    rw [← e]; exact this
  · intro h i hi
    have hi' := List.mem_range.mp hi
    have := h (bs[i]) (List.getElem_mem hi')
    simp [List.getD, hi']
    exact this
theorem zlD {prog : Program} {w : World} {A : Around} {bs : List Bool} : TruthOf prog w A (fun i v => (bs.map Value.bool).toArray[i]? = some v) (fun i => bs.getD i false) := fun i v s Q E hP hQ => by
  have hP' : (bs.map Value.bool)[i]? = some v := by simpa using hP
  rw [List.getElem?_map] at hP'
  obtain ⟨b, hb, rfl⟩ := Option.map_eq_some_iff.mp hP'
  have : bs.getD i false = b := by simp [List.getD, hb]
  have hQ' : Q (bs.getD i false) s := hQ
  rw [this] at hQ'
  exact wpAny_truthy_bool hQ'
theorem zdg (hc : X.calm = true) : BltD Γ X "all" zh1 := by
  refine ⟨fun vs H Q => ∃ (a : Addr) (bs : List Bool), vs = [.ref a] /\ H a = some (.lst (bs.map V.bl)) /\ Q (.bl (bs.all id)) H, ?_, ?_⟩
  · intro pins s σ H xs us Q I r h
    obtain ⟨a, bs, rfl, ha, q⟩ := h
    obtain ⟨u, rfl, ru⟩ := zha r
    cases ru
    obtain ⟨its, rv, pl, _⟩ := I.list (.inl (.inl ha))
    have e := zjX rv
    subst e
    refine call_all_walk (wpAny_pyIter_list pl.isList ?_)
    have ne : a ≠ s.heap.objs.size := by obtain ⟨o, _, h1, _⟩ := pl; exact Nat.ne_of_lt (Heap.lt_size h1)
    refine ⟨s.heap.objs.size, _, _, _, _, _, fun i => bs.getD i false, rfl, Walks.list (A := X.A.in1) (show X.A.in1.handled = none from I.ok.hd hc) s.heap.objs.size a ne (bs.map Value.bool).toArray, ⟨⟨_, Heap.get?_push_size _ rfl, rfl, rfl⟩, pl.isList.at fun o q => Heap.get?_push_of_some _ q⟩, zlD, fun h' tk hk => ?_⟩
    have e2 : (bs.map Value.bool).toArray.size = bs.length := by simp
    rw [e2, zls]
    refine ⟨.bl _, H, I.kept fun b o z => hk b o ?_ (Heap.get?_push_of_some _ z), rfl, q⟩
    intro z'
    have : b = s.heap.objs.size := by simpa using z'
    exact absurd (Heap.lt_size z) (by rw [this]; exact Nat.lt_irrefl _)
  · intro G H vs ds z gh r h Q k
    unfold zh1 at h
    split at h
    · obtain ⟨bs, hb, rfl⟩ := Option.map_eq_some_iff.mp h
      obtain ⟨v, rfl, r1⟩ := r.one
      obtain ⟨a, ws, rfl, ha, rw'⟩ := r1.lst_inv
      refine ⟨a, bs, rfl, ?_, k _ G H (.refl gh) (.bl _)⟩
      rw [← zlm rw' hb]
      exact gh _ _ ha
    · cases h
end
end L2
end
section
namespace L2
open PySem PySem.Spec PyProof.Rows
structure Yd (Γ : Cn) (K : PySem.W.Frag) (J : It) (G : Hp) (ds : List D) : Prop where
  go : ∀ (i : Nat) d G2 H2, ds[i]? = some d -> zbw G G2 -> zbw G2 H2 -> J.go i H2 /\ ∀ x H3, J.yld i H2 x H3 -> ∃ G3, Step G2 H2 G3 H3 /\ Rep Γ K G3 x d
  stop : ∀ G2 H2, zbw G G2 -> zbw G2 H2 -> J.stop ds.length H2
def TDi (Γ : Cn) (K : PySem.W.Frag) (f : FA) : TI := fun σ H R => ∃ G₀ H₀ G ρ ds, At Γ K G₀ H₀ G H ρ σ /\ f ρ = some ds /\ ∀ J G' H', Step G H G' H' -> Yd Γ K J G' ds -> R J H'
structure DI (Γ : Cn) (X : Cx) (tg e : Expr) (f : FA) : Prop where
  out : PI X tg e (TDi Γ X.K f)
theorem PI.imp {X : Cx} {tg e : Expr} {t t' : TI} (h : PI X tg e t) (i : ∀ σ H R, t' σ H R -> t σ H R) : PI X tg e t' := fun pins s σ H R I q => h pins s σ H R I (i _ _ _ q)
section
variable {Γ : Cn} {X : Cx} {a b c e tg iter : Expr} {es : List Expr} {fa fb fc f : FE} {fr fi : FA} {pos p2 p : Pos}
theorem zon {K : PySem.W.Frag} {G : Hp} {a : Addr} {vs : List V} {ds : List D} (h : G a = some (.tup vs)) (r : Reps Γ K G vs ds) : Yd Γ K (Itt K a) G ds := by
  refine ⟨fun i d G2 H2 hd g1 g2 => ?_, fun G2 H2 g1 g2 => ⟨vs, .inl (.inl (g2 _ _ (g1 _ _ h))), by rw [r.length]; exact Nat.le_refl _⟩⟩
  obtain ⟨v, hv, rv⟩ := r.get hd
  refine ⟨⟨vs, v, .inl (.inl (g2 _ _ (g1 _ _ h))), hv⟩, fun x H3 ⟨e1, e2⟩ => ?_⟩
  subst e1
  have := e2 vs (.inl (.inl (g2 _ _ (g1 _ _ h))))
  rw [hv] at this
  cases this
  exact ⟨G2, .refl g2, rv.mono g1⟩
def zhC : D -> Option (List D)
  | .lst l => some l
  | .tup l => some l
  | .scr l => some (l.map D.int)
  | _ => none
def itF (f : FE) : FA := fun ρ => (f ρ).bind zhC
theorem zoT {l : Expr} {tl : TE} (hl : PE X l tl) : PI X tg l (fun σ H R => tl σ H fun x H1 => (∃ a, x = .ref a /\ (∃ xs, SqL X.K H1 a xs) /\ R (Itl X.K a) H1) \/ (∃ a, x = .ref a /\ (∃ xs, SqT X.K H1 a xs) /\ R (Itt X.K a) H1)) := by
  intro pins s σ H R I h
  refine thn (hl pins s σ H _ I h) fun v s1 ⟨x, H1, I1, r1, q1⟩ => ?_
  rcases q1 with ⟨a, e, ⟨xs, hq⟩, q⟩ | ⟨a, e, ⟨xs, hq⟩, q⟩
  · subst e
    cases r1
    obtain ⟨its, rv, p, hz⟩ := I1.list hq
    refine wpAny_pyIter_list p.isList ?_
    refine ⟨s1.heap.objs.size, [s1.heap.objs.size], _, _, H1, rfl, I1.kept (t' := s1.toks) fun b o e => Heap.get?_push_of_some _ e, zj0 a _, ⟨_, Heap.get?_push_size _ rfl, rfl, rfl⟩, fun b hb => ?_, q⟩
    have e : b = s1.heap.objs.size := by simpa using hb
    subst e
    exact I1.fpOk (Nat.le_refl _) (I1.hok.fresh (Nat.le_refl _))
  · subst e
    cases r1
    obtain ⟨its, rv, p, hz⟩ := I1.tuple hq
    refine wpAny_pyIter_tuple (show s1.heap.IsTuple a its.toArray from p) ?_
    refine ⟨s1.heap.objs.size, [s1.heap.objs.size], _, _, H1, rfl, I1.kept (t' := s1.toks) fun b o e => Heap.get?_push_of_some _ e, zjg a _, ⟨_, Heap.get?_push_size _ rfl, rfl, rfl⟩, fun b hb => ?_, q⟩
    have e : b = s1.heap.objs.size := by simpa using hb
    subst e
    exact I1.fpOk (Nat.le_refl _) (I1.hok.fresh (Nat.le_refl _))
theorem za9 (h : DE Γ X iter f) : DI Γ X tg iter (itF f) := ⟨(zoT h.1).imp fun σ H R => by
  rintro ⟨G₀, H₀, G, ρ, ds, A, h, k⟩
  unfold itF at h
  obtain ⟨d, hd, h⟩ := Option.bind_eq_some_iff.mp h
  refine ⟨G₀, H₀, G, ρ, d, A, hd, fun v G' H' s r => ?_⟩
  unfold zhC at h
  split at h
  · cases h
    obtain ⟨a, vs, rfl, ha, rv⟩ := r.lst_inv
    refine .inl ⟨a, rfl, ⟨vs, .inl (.inl (s.gh _ _ ha))⟩, k _ G' H' s ?_⟩
    refine ⟨fun i d G2 H2 hd g1 g2 => ?_, fun G2 H2 g1 g2 => ⟨vs, .inl (.inl (g2 _ _ (g1 _ _ ha))), by rw [rv.length]; exact Nat.le_refl _⟩⟩
    obtain ⟨v, hv, rv'⟩ := rv.get hd
    refine ⟨⟨vs, v, .inl (.inl (g2 _ _ (g1 _ _ ha))), hv⟩, fun x H3 ⟨e1, e2⟩ => ?_⟩
    subst e1
    have := e2 vs (.inl (.inl (g2 _ _ (g1 _ _ ha))))
    rw [hv] at this
    cases this
    exact ⟨G2, .refl g2, rv'.mono g1⟩
  · cases h
    obtain ⟨a, vs, rfl, ha, rv⟩ := r.tup_inv
    exact .inr ⟨a, rfl, ⟨vs, .inl (.inl (s.gh _ _ ha))⟩, k _ G' H' s (zon ha rv)⟩
  · rename_i l
    cases h
    obtain ⟨a, rfl, ha⟩ := r.scr_inv
    refine .inl ⟨a, rfl, ⟨_, s.gh.seq ha⟩, k _ G' H' s ?_⟩
    refine ⟨fun i d G2 H2 hd g1 g2 => ?_, fun G2 H2 g1 g2 => ⟨_, g2.seq (g1.seq ha), by simp⟩⟩
    rw [List.getElem?_map] at hd
    obtain ⟨n, hn, rfl⟩ := Option.map_eq_some_iff.mp hd
    have hv : (List.map V.int l)[i]? = some (V.int n) := by rw [List.getElem?_map, hn]; rfl
    refine ⟨⟨_, _, g2.seq (g1.seq ha), hv⟩, fun x H3 ⟨e1, e2⟩ => ?_⟩
    subst e1
    have := e2 _ (g2.seq (g1.seq ha))
    rw [hv] at this
    cases this
    exact ⟨G2, .refl g2, .int _⟩
  · cases h⟩
def zj7 : D -> Option (List D)
  | .str x => some (x.cps.toList.map fun c => D.str ⟨#[c]⟩)
  | _ => none
def itS (f : FE) : FA := fun ρ => (f ρ).bind zj7
theorem zpL {n : Str} {q : Pos} (h : DE Γ X iter f) : DI Γ X (.Name n q) iter (itS f) := ⟨(zoS h.1).imp fun σ H R => by
  rintro ⟨G₀, H₀, G, ρ, ds, A, h, k⟩
  unfold itS at h
  obtain ⟨d, hd, h⟩ := Option.bind_eq_some_iff.mp h
  refine ⟨G₀, H₀, G, ρ, d, A, hd, fun v G' H' s r => ?_⟩
  unfold zj7 at h
  split at h <;> cases h
  cases r.str_inv
  rename_i x
  refine ⟨x, rfl, k _ G' H' s ⟨fun i d G2 H2 hd g1 g2 => ?_, fun G2 H2 g1 g2 => ?_⟩⟩
  · rw [List.getElem?_map] at hd
    obtain ⟨c, hc, rfl⟩ := Option.map_eq_some_iff.mp hd
    have hc' : x.cps[i]? = some c := by simpa using hc
    refine ⟨(Array.getElem?_eq_some_iff.mp hc').1, fun y H3 ⟨e1, c2, h2, e2⟩ => ?_⟩
    subst e1
    subst e2
    rw [hc'] at h2
    cases h2
    exact ⟨G2, .refl g2, .str _⟩
  · show _ = x.cps.size
    simp⟩
theorem ziA {K : PySem.W.Frag} {G : Hp} {lo : Int} {n : Nat} : Yd Γ K (Itr lo n) G ((List.range n).map fun i : Nat => D.int (lo + i)) := by
  refine ⟨fun i d G2 H2 hd g1 g2 => ?_, fun G2 H2 g1 g2 => ?_⟩
  · rw [List.getElem?_map] at hd
    obtain ⟨j, hj, rfl⟩ := Option.map_eq_some_iff.mp hd
    have hi : i < n := by
      have := (List.getElem?_eq_some_iff.mp hj).1
      simpa using this
    have e : j = i := by simpa [hi] using hj.symm
    subst e
    refine ⟨hi, fun x H3 ⟨e1, e2⟩ => ?_⟩
    subst e1
    subst e2
    exact ⟨G2, .refl g2, .int _⟩
  · show n <= _
    simp
def zkg : List D -> Option (List D)
  | [.int j] => if -(2 ^ 62) <= j /\ j < 2 ^ 62 then some ((List.range j.toNat).map fun i : Nat => D.int (0 + i)) else none
  | _ => none
def zni : List D -> Option (List D)
  | [.int i, .int j] => if -(2 ^ 62) <= i /\ i < 2 ^ 62 /\ -(2 ^ 62) <= j /\ j < 2 ^ 62 then some ((List.range (j - i).toNat).map fun k : Nat => D.int (i + k)) else none
  | _ => none
def itR (g : List D -> Option (List D)) (fr : FA) : FA := fun ρ => (fr ρ).bind g
theorem zb0 (hg : Gl X "range") (hm : X.mg "range" = none) (h : DA Γ X [a] fr) (hs : starEach [a] X.env = [(false, eval a X.env)] := by rfl) : DI Γ X tg (.Call (.Name "range" p) [a] [] pos) (itR zkg fr) := ⟨(zkl hg hm h.1 hs).imp fun σ H R => by
  rintro ⟨G₀, H₀, G, ρ, ds, A, h, k⟩
  unfold itR at h
  obtain ⟨d, hd, h⟩ := Option.bind_eq_some_iff.mp h
  refine ⟨G₀, H₀, G, ρ, d, A, hd, fun v G' H' s r => ?_⟩
  unfold zkg at h
  split at h
  · split at h
    · rename_i hz
      cases h
      obtain ⟨v, rfl, r1⟩ := r.one
      cases r1.int_inv
      exact ⟨_, rfl, hz.1, hz.2, k _ G' H' s ziA⟩
    · cases h
  · cases h⟩
theorem zk7 (hg : Gl X "range") (hm : X.mg "range" = none) (h : DA Γ X [a, b] fr) (hs : starEach [a, b] X.env = [(false, eval a X.env), (false, eval b X.env)] := by rfl) (hs2 : starEach [b] X.env = [(false, eval b X.env)] := by rfl) : DI Γ X tg (.Call (.Name "range" p) [a, b] [] pos) (itR zni fr) := ⟨(zkk hg hm h.1 hs hs2).imp fun σ H R => by
  rintro ⟨G₀, H₀, G, ρ, ds, A, h, k⟩
  unfold itR at h
  obtain ⟨d, hd, h⟩ := Option.bind_eq_some_iff.mp h
  refine ⟨G₀, H₀, G, ρ, d, A, hd, fun v G' H' s r => ?_⟩
  unfold zni at h
  split at h
  · split at h
    · rename_i hz
      cases h
      obtain ⟨v, u, rfl, r1, r2⟩ := r.two
      cases r1.int_inv
      cases r2.int_inv
      exact ⟨_, _, rfl, hz, k _ G' H' s ziA⟩
    · cases h
  · cases h⟩
abbrev FG := D -> zbx -> Option zbx
abbrev FGs := List D -> zbx -> Option zbx
def TDg (Γ : Cn) (K : PySem.W.Frag) (g : FG) : TG := fun v σ H Q => ∃ G₀ H₀ G ρ d ρ', At Γ K G₀ H₀ G H ρ σ /\ Rep Γ K G v d /\ g d ρ = some ρ' /\ ∀ σ', At Γ K G₀ H₀ G H ρ' σ' -> Q σ' H
def zr1 (Γ : Cn) (K : PySem.W.Frag) (g : FGs) : TGs := fun vs σ H Q => ∃ G₀ H₀ G ρ ds ρ', At Γ K G₀ H₀ G H ρ σ /\ Reps Γ K G vs ds /\ g ds ρ = some ρ' /\ ∀ σ', At Γ K G₀ H₀ G H ρ' σ' -> Q σ' H
structure DG (Γ : Cn) (X : Cx) (tg : Expr) (g : FG) : Prop where
  pg : PG X tg (TDg Γ X.K g)
  no : ∀ d ρ ρ', g d ρ = some ρ' -> zeN ρ -> zeN ρ'
structure DGs (Γ : Cn) (X : Cx) (ts : List Expr) (g : FGs) : Prop where
  pg : PGs X ts (zr1 Γ X.K g)
  no : ∀ d ρ ρ', g d ρ = some ρ' -> zeN ρ -> zeN ρ'
theorem PG.imp {t t' : TG} (h : PG X tg t) (i : ∀ v σ H Q, t' v σ H Q -> t v σ H Q) : PG X tg t' := fun pins s σ H v u Q I r q => h pins s σ H v u Q I r (i _ _ _ _ q)
def zbK (i : Nat) : FG := fun d ρ => some (ρ.set i (some (.sh d)))
theorem zkt {ρ : zbx} {i : Nat} {d : D} (h : zeN ρ) : zeN (ρ.set i (some (.sh d))) := fun j ds e => by
  by_cases hj : j = i
  · subst hj
    rw [List.getElem?_set, if_pos rfl] at e
    split at e <;> cases e
    exact ⟨_, rfl⟩
  · rw [List.getElem?_set_ne (Ne.symm hj)] at e
    exact h j ds e
theorem zaE (i : Nat) {x : Str} (hN : X.N.Nodup) (hi : X.N[i]? = some x := by rfl) (hx : Loc X.env.scope x := by first | exact Or.inl rfl | exact Or.inr rfl) (hf : X.fn x = true \/ X.env.scope.names.lookup x = some .local := by first | exact .inl rfl | exact .inr rfl | assumption) : DG Γ X (.Name x pos) (zbK i) := by
  refine ⟨(znx hN hi hx hf).imp fun v σ H Q => ?_, fun d ρ ρ' e h => ?_⟩
  · rintro ⟨G₀, H₀, G, ρ, d, ρ', A, r, h, k⟩
    cases h
    exact k _ (A.setSh r)
  · cases e
    exact zkt h
def zir (g : FG) (ft : FT) (fe : FE) : List D -> zbx -> Option (List D)
  | [], _ => some []
  | x :: xs, ρ => (g x ρ).bind fun ρ1 => (ft ρ1).bind fun b => if b = true then (fe ρ1).bind fun d => (zir g ft fe xs ρ1).map (d :: ·) else zir g ft fe xs ρ1
def zfC (fv : List (Option Nat)) (ρ : zbx) : zbx := fv.map fun o => o.bind fun j => match ρ[j]? with
  | some (some (.sh d)) => some (.sh d)
  | _ => none
def za1 (fi : FA) (g : FG) (ft : FT) (fe : FE) (fv : List (Option Nat)) : FA := fun ρ => (fi ρ).bind fun xs => if xs.length <= sizeLine then zir g ft fe xs (zfC fv ρ) else none
structure DTs (Γ : Cn) (X : Cx) (es : List Expr) (f : FT) : Prop where
  out : PTs X es (TDt Γ X.K f)
theorem PTs.imp {t t' : TT} (h : PTs X es t) (i : ∀ σ H Q, t' σ H Q -> t σ H Q) : PTs X es t' := fun pins s σ H Q I q => h pins s σ H Q I (i _ _ _ q)
def tT : FT := fun _ => some true
theorem zaG : DTs Γ X [] tT := ⟨znm.imp fun σ H Q => by
  rintro ⟨G₀, H₀, G, ρ, b, A, h, k⟩
  cases h
  exact k G H (.refl A.gh)⟩
variable {scope : Scope} {N' : List Str} {fv : List (Option Nat)} {g : FG} {ft : FT} {fe : FE} {ifs : List Expr} {elt : Expr}
structure DB (Γ : Cn) (X : Cx) (N' : List Str) (scope : Scope) (tg : Expr) (ifs : List Expr) (elt : Expr) (g : FG) (ft : FT) (fe : FE) : Prop where
  out : ∀ (cl : List (Str × Addr)) (C : Addr) (s₀ : Shared) (H₀ : Hp) (fp : List Addr), DG Γ (zcK X N' scope cl C s₀ H₀ fp) tg g /\ DTs Γ (zcK X N' scope cl C s₀ H₀ fp) ifs ft /\ DE Γ (zcK X N' scope cl C s₀ H₀ fp) elt fe
theorem DB.pb (h : DB Γ X N' scope tg ifs elt g ft fe) : PB X N' scope tg ifs elt (TDg Γ X.K g) (TDt Γ X.K ft) (TD Γ X.K fe) := fun cl C s₀ H₀ fp => ⟨(h.1 cl C s₀ H₀ fp).1.pg, (h.1 cl C s₀ H₀ fp).2.1.1, (h.1 cl C s₀ H₀ fp).2.2.1⟩
theorem zpx {K : PySem.W.Frag} {G₀ H₀ G H : Hp} {ρ : zbx} {σ : St} (A : At Γ K G₀ H₀ G H ρ σ) : At Γ K G H G H (zfC fv ρ) (zkW fv σ) /\ zeN (zfC fv ρ) := by
  have no : zeN (zfC fv ρ) := fun i ds e => by
    unfold zfC at e
    rw [List.getElem?_map] at e
    obtain ⟨o, ho, e⟩ := Option.map_eq_some_iff.mp e
    cases o with
    | none => cases e
    | some j =>
      simp only [Option.bind_some] at e
      split at e <;> cases e
      exact ⟨_, rfl⟩
  refine ⟨⟨.refl A.gh, .ofSh (by simp [zfC, zkW]) no fun i d e => ?_⟩, no⟩
  unfold zfC at e
  unfold zkW
  rw [List.getElem?_map] at e ⊢
  obtain ⟨o, ho, e⟩ := Option.map_eq_some_iff.mp e
  rw [ho]
  cases o with
  | none => cases e
  | some j =>
    simp only [Option.bind_some] at e
    split at e
    · rename_i d' hd'
      cases e
      obtain ⟨v, h1, h2⟩ := A.env.sh j d hd'
      exact ⟨v, by simp [h1], h2⟩
    · cases e
theorem zi9 (no : ∀ d ρ ρ', g d ρ = some ρ' -> zeN ρ -> zeN ρ') : ∀ σ H Q, TDo Γ X.K (za1 fi g ft fe fv) σ H Q -> tLC (TDi Γ X.K fi) (TDg Γ X.K g) (TDt Γ X.K ft) (TD Γ X.K fe) fv σ H Q := by
  rintro σ H Q ⟨G₀, H₀, G, ρ, ds, A, h, k⟩
  unfold za1 at h
  obtain ⟨xs, hx, h⟩ := Option.bind_eq_some_iff.mp h
  split at h
  case isFalse => cases h
  rename_i hz
  refine ⟨G₀, H₀, G, ρ, xs, A, hx, fun J G1 H1 s1 Y acc hacc => ?_⟩
  have gacc : G1 acc = none := s1.gh.free hacc
  obtain ⟨A0, no0⟩ := zpx (fv := fv) (A.step s1)
  refine ⟨fun i m ys σ' H' => m = xs.length - i /\ i <= xs.length /\ ys.length <= i /\ ∃ G' ρ' done zbL, At Γ X.K G1 H1 G' H' ρ' σ' /\ zeN ρ' /\ H' acc = some (.lst ys) /\ G' acc = none /\ Reps Γ X.K G' ys done /\ zir g ft fe (xs.drop i) ρ' = some zbL /\ done ++ zbL = ds, ?_, ?_⟩
  · refine ⟨xs.length, rfl, Nat.zero_le _, Nat.le_refl _, G1, zfC fv ρ, [], ds, ?_, no0, zaw, gacc, .nil, by rw [List.drop_zero]; exact h, rfl⟩
    have sn := Step.newOwn (o := .lst []) s1.gh hacc
    exact ⟨sn, .ofSh A0.env.len no0 A0.env.sh⟩
  · rintro i m ys σ' H' ⟨hm, hi, hyi, G', ρ', done, zbL, A', no', hacc', gacc', ry, hr, hd⟩
    subst hm
    refine ⟨hacc', ?_⟩
    by_cases hlt : i < xs.length
    · right
      have hxi : xs[i]? = some xs[i] := by simp [hlt]
      obtain ⟨go, yl⟩ := Y.go i _ G' H' hxi A'.st.gg A'.gh
      refine ⟨go, fun x H2 hy => ?_⟩
      obtain ⟨G2, s2, r2⟩ := yl x H2 hy
      have A2 := A'.step s2
      have hdr : xs.drop i = xs[i] :: xs.drop (i + 1) := List.drop_eq_getElem_cons hlt
      rw [hdr] at hr
      unfold zir at hr
      obtain ⟨ρ1, h1, hr⟩ := Option.bind_eq_some_iff.mp hr
      obtain ⟨b, h2, hr⟩ := Option.bind_eq_some_iff.mp hr
      refine ⟨G1, H1, G2, ρ', _, ρ1, A2, r2, h1, fun σ2 A3 => ⟨G1, H1, G2, ρ1, b, A3, h2, fun G4 H4 s4 => ?_⟩⟩
      have no1 := no _ _ _ h1 no'
      have hH4 : H4 acc = some (.lst ys) := s4.hh _ _ (s2.hh _ _ hacc')
      have hG4 : G4 acc = none := (s4.out _ _ (s2.hh _ _ hacc')).trans ((s2.out _ _ hacc').trans gacc')
      cases b with
      | false =>
        rw [if_neg Bool.false_ne_true] at hr
        refine zmU ⟨xs.length - (i + 1), by omega, rfl, hlt, by omega, G4, ρ1, done, zbL, A3.step s4, no1, hH4, hG4, (ry.mono s2.gg).mono s4.gg, hr, hd⟩
      | true =>
        rw [if_pos rfl] at hr
        obtain ⟨d, h3, hr⟩ := Option.bind_eq_some_iff.mp hr
        obtain ⟨zs, h5, rfl⟩ := Option.map_eq_some_iff.mp hr
        refine zmT ⟨G1, H1, G4, ρ1, d, A3.step s4, h3, fun v G5 H5 s5 r5 => ?_⟩
        have A5 := (A3.step s4).step s5
        have hH5 : H5 acc = some (.lst ys) := s5.hh _ _ hH4
        have hG5 : G5 acc = none := (s5.out _ _ hH4).trans hG4
        refine ⟨hH5, by omega, xs.length - (i + 1), by omega, rfl, hlt, by rw [List.length_append, List.length_singleton]; omega, G5, ρ1, done ++ [d], zs, ?_, no1, zaw, hG5, ((((ry.mono s2.gg).mono s4.gg).mono s5.gg).append (.cons r5 .nil)), h5, by rw [List.append_assoc]; exact hd⟩
        refine ⟨⟨fun b o e => ?_, A5.st.gg, fun b o e => ?_, A5.st.out⟩, .ofSh A5.env.len no1 A5.env.sh⟩
        · rw [zas (zav e hacc)]; exact A5.st.hh b o e
        · rw [zas (zav e hG5)]; exact A5.st.gh b o e
    · left
      have e : i = xs.length := by omega
      subst e
      rw [List.drop_length] at hr
      cases hr
      rw [List.append_nil] at hd
      subst hd
      refine ⟨Y.stop G' H' A'.st.gg A'.gh, ?_⟩
      have hf : H' = upd (fun b => if b = acc then none else H' b) acc (.lst ys) := by
        funext b
        by_cases hb : b = acc
        · subst hb; rw [zaw]; exact hacc'
        · rw [zas hb, if_neg hb]
      rw [hf]
      refine k acc ys G' (fun b => if b = acc then none else H' b) (s1.trans ⟨fun b o e => ?_, A'.st.gg, fun b o e => ?_, A'.st.out⟩) (if_pos rfl) ry
      · show (if b = acc then none else H' b) = some o
        rw [if_neg (zav e hacc)]; exact A'.st.hh b o e
      · show (if b = acc then none else H' b) = some o
        rw [if_neg (zav e gacc')]; exact A'.st.gh b o e
theorem zbT (hc : X.calm = true) (S : CompScope X scope) (F : FvOk X N' scope fv) (hi : DI Γ X tg iter fi) (hb : DB Γ X N' scope tg ifs elt g ft fe) (hs : ∀ x, foldedSetIterable iter X.env x = pure x := by intro _; rfl) :
    DO Γ X (.ListComp elt [⟨tg, iter, ifs, 0⟩] scope pos) (za1 fi g ft fe fv) := ⟨(zqq hc S F hi.1 hb.pb hs).imp (zi9 (hb.1 [] 0 X.s₀ X.H₀ []).1.no)⟩
end
end L2
end
section
namespace L2
open PySem PySem.Spec PyProof.Rows
section
variable {Γ : Cn} {X : Cx} {a b c e tg iter : Expr} {es : List Expr} {fa fb fc f : FE} {fr fi : FA} {pos p2 p : Pos} {g g' : FS} {st : Stmt} {sts : List Stmt} {ft : FT}
def zcx : FS := fun ρ => some (.nx, ρ)
def zaS (g g' : FS) : FS := fun ρ => (g ρ).bind fun r => match r.1 with
  | .nx => g' r.2
  | fl => some (fl, r.2)
theorem zaU : DSs Γ X [] zcx := ⟨zfp.imp fun E σ H => by
  rintro ⟨G₀, H₀, G, ρ, fl, ρ', A, h, k⟩
  cases h
  exact k σ G H (.refl _) A⟩
theorem zar (h : DS Γ X st g) : DSs Γ X [st] g := ⟨zdr h.1⟩
theorem zak (h1 : DS Γ X st g) (h2 : DSs Γ X sts g') : DSs Γ X (st :: sts) (zaS g g') := ⟨(zcG h1.1 h2.1).imp fun E σ H => by
  rintro ⟨G₀, H₀, G, ρ, fl, ρ', A, h, k⟩
  unfold zaS at h
  obtain ⟨⟨fl1, ρ1⟩, h1, h⟩ := Option.bind_eq_some_iff.mp h
  refine ⟨G₀, H₀, G, ρ, fl1, ρ1, A, h1, fun σ1 G1 H1 sm A1 => ?_⟩
  cases fl1 with
  | nx => exact ⟨G₀, H₀, G1, ρ1, fl, ρ', A1, h, fun σ' G' H' sm' A' => k σ' G' H' (sm.trans sm') A'⟩
  | bk => cases h; exact k σ1 G1 H1 sm A1
  | ct => cases h; exact k σ1 G1 H1 sm A1
  | rt d => cases h; exact k σ1 G1 H1 sm A1
  | ow d => cases h; exact k σ1 G1 H1 sm A1
  | nw d => cases h; exact k σ1 G1 H1 sm A1
  | od d => cases h; exact k σ1 G1 H1 sm A1⟩
def zbc (f : FE) : FS := fun ρ => (f ρ).map fun d => (.rt d, ρ)
theorem zaz (h : DE Γ X e f) : DS Γ X (.Return (some e) pos) (zbc f) := ⟨(zhp h.1).imp fun E σ H => by
  rintro ⟨G₀, H₀, G, ρ, fl, ρ', A, h, k⟩
  unfold zbc at h
  obtain ⟨d, hd, h⟩ := Option.map_eq_some_iff.mp h
  cases h
  exact ⟨G₀, H₀, G, ρ, d, A, hd, fun v G' H' s r => k σ G' H' s.gg (A.step s) v r⟩⟩
def zcw (i : Nat) (f : FE) : FS := fun ρ => (f ρ).map fun d => (.nx, ρ.set i (some (.sh d)))
theorem zbd (i : Nat) {x : Str} {pos' : Pos} (hN : X.N.Nodup) (h : DE Γ X e f) (hi : X.N[i]? = some x := by rfl) (hx : Loc X.env.scope x := by first | exact Or.inl rfl | exact Or.inr rfl) (hs : swapsWith e (some (.Name x pos')) pos.line X.env = pure false := by rfl) (hf : X.fn x = true \/ X.env.scope.names.lookup x = some .local := by first | exact .inl rfl | exact .inr rfl | assumption) :
    DS Γ X (.Assign [.Name x pos'] e pos) (zcw i f) := ⟨(ziL hN hi hx h.1 hs hf).imp fun E σ H => by
  rintro ⟨G₀, H₀, G, ρ, fl, ρ', A, h, k⟩
  unfold zcw at h
  obtain ⟨d, hd, h⟩ := Option.map_eq_some_iff.mp h
  cases h
  exact ⟨G₀, H₀, G, ρ, d, A, hd, fun v G' H' s r => k _ G' H' s.gg ((A.step s).setSh r)⟩⟩
def zkc (i : Nat) (f : FA) : FS := fun ρ => (f ρ).map fun d => (.nx, ρ.set i (some (.own d)))
theorem zo1 {i : Nat} : ∀ E σ H, TDs Γ X.K (zkc i fr) E σ H -> zog (TDo Γ X.K fr) (zjG i) E σ H := by
  rintro E σ H ⟨G₀, H₀, G, ρ, fl, ρ', A, h, k⟩
  unfold zkc at h
  obtain ⟨d, hd, h⟩ := Option.map_eq_some_iff.mp h
  cases h
  exact ⟨G₀, H₀, G, ρ, d, A, hd, fun p vs G' H' s hp r => k _ G' _ s.gg ((A.step s).setOwn hp r)⟩
theorem zi5 (i : Nat) {x : Str} {pos' : Pos} (hN : X.N.Nodup) (h : DO Γ X e fr) (hi : X.N[i]? = some x := by rfl) (hx : Loc X.env.scope x := by first | exact Or.inl rfl | exact Or.inr rfl) (hs : swapsWith e (some (.Name x pos')) pos.line X.env = pure false := by rfl) (hf : X.fn x = true \/ X.env.scope.names.lookup x = some .local := by first | exact .inl rfl | exact .inr rfl | assumption) :
    DS Γ X (.Assign [.Name x pos'] e pos) (zkc i fr) := ⟨(ziL hN hi hx h.1 hs hf).imp zo1⟩
theorem zoA {i : Nat} : ∀ E σ H, TDs Γ X.K (zcw i (zaC fr)) E σ H -> zog (TDo Γ X.K fr) (zjG i) E σ H := by
  rintro E σ H ⟨G₀, H₀, G, ρ, fl, ρ', A, h, k⟩
  unfold zcw zaC at h
  obtain ⟨d, hd, h⟩ := Option.map_eq_some_iff.mp h
  obtain ⟨ds, hd', rfl⟩ := Option.map_eq_some_iff.mp hd
  cases h
  refine ⟨G₀, H₀, G, ρ, ds, A, hd', fun p vs G' H' s hp r => ?_⟩
  have s2 := Step.new (o := .lst vs) s.gh hp
  exact k _ _ _ (s.gg.trans s2.gg) (((A.step s).step s2).setSh (.lst zaw (r.mono s2.gg)))
variable {scope : Scope} {N' : List Str} {fv : List (Option Nat)} {gg : FG} {fe : FE} {ifs : List Expr} {elt : Expr}
theorem zjJ (i : Nat) {y : Str} {py spos : Pos} (hN : X.N.Nodup) (hc : X.calm = true) (S : CompScope X scope) (F : FvOk X N' scope fv) (hi : DI Γ X tg iter fi) (hb : DB Γ X N' scope tg ifs elt gg ft fe)
    (hy : X.N[i]? = some y := by rfl) (hyl : X.env.scope.names.lookup y = some .local := by rfl) (hsw : swapsWith (.ListComp elt [⟨tg, iter, ifs, 0⟩] scope pos) (some (.Name y py)) spos.line X.env = pure true := by rfl) (hs : ∀ x, foldedSetIterable iter X.env x = pure x := by intro _; rfl) :
    DS Γ X (.Assign [.Name y py] (.ListComp elt [⟨tg, iter, ifs, 0⟩] scope pos) spos) (zcw i (zaC (za1 fi gg ft fe fv))) := ⟨(zqm hN hy hyl hc S F hi.1 hb.pb hsw hs).imp fun E σ H q => zi9 (hb.1 [] 0 X.s₀ X.H₀ []).1.no σ H _ (zoA E σ H q)⟩
def zoC (i : Nat) (f : FE) : FS := fun ρ => match ρ[i]? with
  | some (some (.own ds)) => (f ρ).bind fun d => if ds.length < sizeLine then some (.nx, ρ.set i (some (.own (ds ++ [d])))) else none
  | _ => none
theorem zhH (i : Nat) {x : Str} {vp apos cpos : Pos} (h : DE Γ X e f) (hN : X.N[i]? = some x := by rfl) (hv : Vis X.env.scope x := by first | exact Or.inl rfl | exact Or.inr (Or.inl rfl) | exact Or.inr (Or.inr rfl)) (hd : (x == ("__debug__" : Str)) = false := by decide)
    (hcd : (x == ("__classdict__" : Str)) = false := by decide)
    (hbase : attributeBase (.Name x vp) "append" X.env (eval (.Name x vp) X.env) = eval (.Name x vp) X.env := by rfl)
    (hfew : ((backTo cpos (starEach [e] X.env)).all (fun x => !x.1) && (backToKw cpos (keywordEach [] X.env)).all (fun x => x.1.isSome)
      && decide ([e].length + ([] : List Keyword).length + (if ([] : List Keyword).isEmpty then 0 else 1) < 30)) = true := by rfl)
    (hline : (apos.endLine == cpos.line) = true := by rfl) (hs : starEach [e] X.env = (false, eval e X.env) :: starEach [] X.env := by rfl) (hplain : (backTo cpos (starEach [] X.env)).any (·.1) = false := by rfl)
    (hsw : swapsWith (.Call (.Attribute (.Name x vp) "append" apos) [e] [] cpos) none pos.line X.env = pure false := by rfl) :
    DS Γ X (.Expr (.Call (.Attribute (.Name x vp) "append" apos) [e] [] cpos) pos) (zoC i f) := ⟨(zic (zoY PySem.F.plainAttrs_list PySem.F.slot_list_append PySem.F.type_list_append zhx (zci hN hv hd hcd) (zbq h.1 zdK hs) hbase hfew hline hs hplain) hsw).imp fun E σ H => by
    rintro ⟨G₀, H₀, G, ρ, fl, ρ', A, h, k⟩
    unfold zoC at h
    split at h
    · rename_i ds hi
      obtain ⟨d, hd, h⟩ := Option.bind_eq_some_iff.mp h
      split at h
      · rename_i hz
        cases h
        obtain ⟨a, vs, h1, h2, h3, h4, h5⟩ := A.env.own i ds hi
        refine ⟨.ref a, h1, .inl ⟨rfl, vs, .inl (.inl h4)⟩, G₀, H₀, G, ρ, d, A, hd, fun v G1 H1 s1 r1 => ?_⟩
        have A1 := A.step s1
        refine ⟨a, vs, v, rfl, rfl, s1.hh _ _ h4, by rw [h5.length]; exact hz, ?_⟩
        exact k σ G1 _ s1.gg (A1.chOwn hi h1 ((h5.mono s1.gg).append (.cons r1 .nil)))
      · cases h
    · cases h⟩
def zke (i : Nat) (g : FS) : FS := fun ρ => match ρ[i]? with
  | some (some (.own ds)) => g (ρ.set i (some (.sh (.lst ds))))
  | _ => none
theorem TDs.frz (i : Nat) : ∀ E σ H, TDs Γ X.K (zke i g) E σ H -> TDs Γ X.K g E σ H := by
  rintro E σ H ⟨G₀, H₀, G, ρ, fl, ρ', A, h, k⟩
  unfold zke at h
  split at h
  · rename_i ds hi
    obtain ⟨G', sm, A'⟩ := A.freeze hi
    exact ⟨G₀, H₀, G', _, fl, ρ', A', h, fun σ1 G1 H1 sm1 A1 => k σ1 G1 H1 (sm.trans sm1) A1⟩
  · cases h
theorem zgS (i : Nat) (h : DSs Γ X sts g) : DSs Γ X sts (zke i g) := ⟨h.1.imp (TDs.frz i)⟩
def sIf (ft : FT) (g g' : FS) : FS := fun ρ => (ft ρ).bind fun c => if c = true then g ρ else g' ρ
theorem zbZ {sa sb : List Stmt} (hc : DT Γ X c ft) (ha : DSs Γ X sa g) (hb : DSs Γ X sb g') : DS Γ X (.If c sa sb pos) (sIf ft g g') := ⟨(zkj hc.1 ha.1 hb.1).imp fun E σ H => by
  rintro ⟨G₀, H₀, G, ρ, fl, ρ', A, h, k⟩
  unfold sIf at h
  obtain ⟨x, hx, h⟩ := Option.bind_eq_some_iff.mp h
  refine ⟨G₀, H₀, G, ρ, x, A, hx, fun G1 H1 s1 => ?_⟩
  cases x with
  | true => exact zmT ⟨G₀, H₀, G1, ρ, fl, ρ', A.step s1, by simpa using h, fun σ2 G2 H2 sm2 A2 => k σ2 G2 H2 (s1.gg.trans sm2) A2⟩
  | false => exact zmU ⟨G₀, H₀, G1, ρ, fl, ρ', A.step s1, by simpa using h, fun σ2 G2 H2 sm2 A2 => k σ2 G2 H2 (s1.gg.trans sm2) A2⟩⟩
def zjT (gg : FG) (body : FS) : List D -> FS
  | [], ρ => some (.nx, ρ)
  | x :: xs, ρ => (gg x ρ).bind fun ρ1 => (body ρ1).bind fun r => match r.1 with
    | .nx => zjT gg body xs r.2
    | .ct => zjT gg body xs r.2
    | .bk => some (.nx, r.2)
    | .rt d => some (.rt d, r.2)
    | .ow d => some (.ow d, r.2)
    | .nw d => some (.nw d, r.2)
    | .od d => some (.od d, r.2)
def zgH (fi : FA) (gg : FG) (body : FS) : FS := fun ρ => (fi ρ).bind fun xs => zjT gg body xs ρ
theorem zhG {body : List Stmt} (hp : PassesOwn (model X.prog X.w) X.A X.env X.xe) (hc : X.calm = true) (hi : DI Γ X tg iter fi) (hg : DG Γ X tg gg) (hb : DSs Γ X body g) (hs : ∀ x, foldedSetIterable iter X.env x = pure x := by intro _; rfl) :
    DS Γ X (.For tg iter body [] pos) (zgH fi gg g) := ⟨(zoN hp hc hi.1 hg.pg hb.1 hs).imp fun E σ H => by
  rintro ⟨G₀, H₀, G, ρ, fl, ρ', A, h, k⟩
  unfold zgH at h
  obtain ⟨xs, hx, h⟩ := Option.bind_eq_some_iff.mp h
  refine ⟨G₀, H₀, G, ρ, xs, A, hx, fun J G1 H1 s1 Y => ?_⟩
  refine ⟨fun i m σ' H' => m = xs.length - i /\ i <= xs.length /\ ∃ G' ρ1, zbw G1 G' /\ At Γ X.K G₀ H₀ G' H' ρ1 σ' /\ zjT gg g (xs.drop i) ρ1 = some (fl, ρ'), ⟨xs.length, rfl, Nat.zero_le _, G1, ρ, .refl _, A.step s1, by rw [List.drop_zero]; exact h⟩, ?_⟩
  rintro i m σ' H' ⟨rfl, hi, G', ρ1, sm, A', hr⟩
  by_cases hlt : i < xs.length
  · right
    have hxi : xs[i]? = some xs[i] := by simp [hlt]
    obtain ⟨go, yl⟩ := Y.go i _ G' H' hxi sm A'.gh
    have hdr : xs.drop i = xs[i] :: xs.drop (i + 1) := List.drop_eq_getElem_cons hlt
    rw [hdr] at hr
    unfold zjT at hr
    obtain ⟨ρ2, h2, hr⟩ := Option.bind_eq_some_iff.mp hr
    obtain ⟨⟨fl3, ρ3⟩, h3, hr⟩ := Option.bind_eq_some_iff.mp hr
    refine ⟨go, fun σ3 H3 => (fl3 = .nx \/ fl3 = .ct) /\ ∃ G3, zbw G1 G3 /\ At Γ X.K G₀ H₀ G3 H3 ρ3 σ3, fun σ3 H3 ⟨hfl, G3, sm3, A3⟩ => ?_, fun x H2 hy => ?_⟩
    · refine ⟨xs.length - (i + 1), by omega, rfl, hlt, G3, ρ3, sm3, A3, ?_⟩
      rcases hfl with e | e <;> subst e <;> exact hr
    · obtain ⟨G2, s2, r2⟩ := yl x H2 hy
      refine ⟨G₀, H₀, G2, ρ1, _, ρ2, A'.step s2, r2, h2, fun σ2 A2 => ⟨G₀, H₀, G2, ρ2, fl3, ρ3, A2, h3, fun σ3 G3 H3 sm3 A3 => ?_⟩⟩
      have smm : zbw G1 G3 := (sm.trans s2.gg).trans sm3
      cases fl3 with
      | nx => exact ⟨.inl rfl, G3, smm, A3⟩
      | ct => exact ⟨.inr rfl, G3, smm, A3⟩
      | bk => cases hr; exact k σ3 G3 H3 (s1.gg.trans smm) A3
      | rt d => cases hr; exact k σ3 G3 H3 (s1.gg.trans smm) A3
      | ow d => cases hr; exact k σ3 G3 H3 (s1.gg.trans smm) A3
      | nw d => cases hr; exact k σ3 G3 H3 (s1.gg.trans smm) A3
      | od d => cases hr; exact k σ3 G3 H3 (s1.gg.trans smm) A3
  · left
    have e : i = xs.length := by omega
    subst e
    rw [List.drop_length] at hr
    cases hr
    exact ⟨Y.stop G' H' sm A'.gh, k σ' G' H' (s1.gg.trans sm) A'⟩⟩
end
end L2
end
section
namespace L2
open PySem PySem.Spec PyProof.Rows
section
variable {Γ : Cn} {X : Cx} {a b c e tg iter : Expr} {es : List Expr} {fa fb fc f fk fw : FE} {fr fi : FA} {pos p2 p : Pos}
theorem zmx : DE Γ X (.Dict [] [] pos) (vC (.dk [])) := ⟨ziM.imp fun σ H Q => by
  rintro ⟨G₀, H₀, G, ρ, d, A, h, k⟩ p hp
  cases h
  have s := Step.new (o := .dK []) A.gh hp
  exact k _ _ _ s (.dk (us := []) (kvs := []) zaw rfl .nil)⟩
def spF (Γ : Cn) (K : PySem.W.Frag) (n : Nat) (F : List D -> Option D) : Sp := fun vs H Q _ => ∃ G ds d, zbw G H /\ Reps Γ K G vs ds /\ ds.length = n /\ F ds = some d /\ ∀ v G' H', Step G H G' H' -> Rep Γ K G' v d -> Q v H'
def zbP (n : Nat) (g : FS) : List D -> Option D := fun ds => (g (ds.map (fun d => some (Slot.sh d)) ++ List.replicate n none)).bind fun r => match r.1 with
  | .rt d => some d
  | .nx => some .non
  | _ => none
theorem zj5 {K : PySem.W.Frag} {G H : Hp} {vs : List V} {ds : List D} {N : List Str} {m : Nat} (gh : zbw G H) (r : Reps Γ K G vs ds) (hm : m = N.length - vs.length) : At Γ K G H G H (ds.map (fun d => some (Slot.sh d)) ++ List.replicate m none) (zeb N vs) := by
  have no : zeN (ds.map (fun d => some (Slot.sh d)) ++ List.replicate m none) := fun i es e => by
    by_cases hi : i < ds.length
    · rw [List.getElem?_append_left (by simpa using hi), List.getElem?_map] at e
      obtain ⟨d, _, e⟩ := Option.map_eq_some_iff.mp e
      cases e
      exact ⟨_, rfl⟩
    · rw [List.getElem?_append_right (by simpa using hi), List.getElem?_replicate] at e
      split at e <;> cases e
  refine ⟨.refl gh, .ofSh (by simp [zeb, r.length, hm]) no fun i d e => ?_⟩
  by_cases hi : i < ds.length
  · rw [List.getElem?_append_left (by simpa using hi), List.getElem?_map] at e
    obtain ⟨d', hd, e⟩ := Option.map_eq_some_iff.mp e
    cases e
    obtain ⟨v, hv, rv⟩ := r.get hd
    refine ⟨v, ?_, rv⟩
    unfold zeb
    rw [List.getElem?_append_left (by rw [List.length_map, r.length]; exact hi), List.getElem?_map, hv]
    rfl
  · rw [List.getElem?_append_right (by simpa using hi), List.getElem?_replicate] at e
    split at e <;> cases e
theorem Fun.okD {P : Program} {w : World} {K : PySem.W.Frag} {mg : Str -> Option Value} {base : Heap} {x qual : Str} {st : Stmt} {f : Addr} {fd : FuncData} {N ps : List Str} {k : Nat} {g : FS} (F : Fun K x qual st f fd) (S : FnScope N ps (zan st))
    (hbody : ∀ (cdv : Value) (A : Around) (outer : List Env) (s : Shared) (H : Hp) (E : XK), Room k (A.deeper (envOfC qual (zan st) s.heap.objs.size f cdv)) ->
      DSs Γ (zgW CX0 P w K mg base N qual (zan st) f cdv A outer s H E).nox (zbz st) g) : FnOk P w K mg base CX0 (k + 1) f fd ps (spF Γ K ps.length (zbP (N.length - ps.length) g)) := by
  refine F.ok S (fun vs H Q E h => ?_) (fun cdv A outer s H vs Q E hr h => ?_)
  · obtain ⟨G, ds, d, _, r, hl, _⟩ := h
    rw [r.length, hl]
  · obtain ⟨G, ds, d, gh, r, hl, hd, k⟩ := h
    refine ⟨_, (hbody cdv A outer s H E hr).1, ?_⟩
    unfold zbP at hd
    obtain ⟨⟨fl, ρ'⟩, hg, hd⟩ := Option.bind_eq_some_iff.mp hd
    refine ⟨G, H, G, _, fl, ρ', zj5 gh r (by rw [r.length, hl]), hg, fun σ' G' H' sm A' => ?_⟩
    cases fl with
    | rt d' => cases hd; exact fun v rv => k v G' H' A'.st rv
    | nx => cases hd; exact k .non G' H' A'.st .non
    | bk => cases hd
    | ct => cases hd
    | ow d => cases hd
    | nw d => cases hd
    | od d => cases hd
theorem zn5 {k : Nat} {fx : Addr} {fd : FuncData} {ps : List Str} {n : Nat} {F : List D -> Option D} {x : Str} (Fo : FnOk X.prog X.w X.K X.mg X.base CX0 k fx fd ps (spF Γ X.K n F)) (hr : Room k X.A) (hg : Gl X x) (hm : X.mg x = some (.ref fx)) (hk : PySem.W.keepIn X.K (.ref fx) = true) (hb : zcZ X.K fd ps [])
    (ha : DA Γ X (e :: es) fr) (hn : ∀ ρ ds, fr ρ = some ds -> ds.length = n) (hdb : (x == ("__debug__" : Str)) = false := by decide) (he : starEach (e :: es) X.env = (false, eval e X.env) :: starEach es X.env := by rfl) (hpl : (backTo pos (starEach es X.env)).any (·.1) = false := by rfl) :
    DE Γ X (.Call (.Name x p) (e :: es) [] pos) (cF F fr) := ⟨(znz Fo hr hg hm hk hb .nil zqt ha.1 hdb he hpl).imp fun σ H Q => by
  rintro ⟨G₀, H₀, G, ρ, d, A, h, k⟩
  unfold cF at h
  obtain ⟨ds, hd, h⟩ := Option.bind_eq_some_iff.mp h
  refine ⟨G₀, H₀, G, ρ, ds, A, hd, fun vs G1 H1 s1 r1 => ?_⟩
  show spF Γ X.K n F (vs ++ []) H1 Q E0
  rw [List.append_nil]
  exact ⟨G1, ds, d, s1.gh, r1, hn ρ ds hd, h, fun v G' H' s r => k v G' H' (s1.trans s) r⟩⟩
theorem zmG {ρ : zbx} {ds : List D} (h : zag ρ = some ds) : ds.length = 0 := by cases h; rfl
theorem zcE {n : Nat} (hn : ∀ ρ ds, fr ρ = some ds -> ds.length = n) : ∀ ρ ds, zab fa fr ρ = some ds -> ds.length = n + 1 := fun ρ ds h => by
  unfold zab at h
  obtain ⟨x, hx, h⟩ := Option.bind_eq_some_iff.mp h
  obtain ⟨xs, hxs, rfl⟩ := Option.map_eq_some_iff.mp h
  rw [List.length_cons, hn ρ xs hxs]
end
end L2
end
section
namespace L2
open PySem PySem.Spec PyProof.Rows
structure Cal (Γ : Cn) (P : Program) (w : World) (K : PySem.W.Frag) (mg : Str -> Option Value) (base : Heap) (x : Str) (n k : Nat) (F : List D -> Option D) : Prop where
  ex : ∃ f fd ps, FnOk P w K mg base CX0 k f fd ps (spF Γ K n F) /\ mg x = some (.ref f) /\ PySem.W.keepIn K (.ref f) = true /\ zcZ K fd ps []
structure Dfn (K : PySem.W.Frag) (mg : Str -> Option Value) (x : Str) (st : Stmt) : Prop where
  ex : ∃ f fd, Fun K x x st f fd /\ mg x = some (.ref f)
section
variable {Γ : Cn} {X : Cx} {e : Expr} {es : List Expr} {fr : FA} {pos p : Pos}
theorem zap {x : Str} {n k : Nat} {F : List D -> Option D} (C : Cal Γ X.prog X.w X.K X.mg X.base x n k F) {j : Nat} (hr : Room j X.A) (hk : k <= j) (hg : Gl X x) (ha : DA Γ X (e :: es) fr) (hn : ∀ ρ ds, fr ρ = some ds -> ds.length = n)
    (hdb : (x == ("__debug__" : Str)) = false := by decide) (he : starEach (e :: es) X.env = (false, eval e X.env) :: starEach es X.env := by rfl) (hpl : (backTo pos (starEach es X.env)).any (·.1) = false := by rfl) :
    DE Γ X (.Call (.Name x p) (e :: es) [] pos) (cF F fr) := by
  obtain ⟨f, fd, ps, h1, h2, h3, h4⟩ := C.ex
  exact zn5 h1 (hr.mono hk) hg h2 h3 h4 ha hn hdb he hpl
theorem Dfn.cal {P : Program} {w : World} {K : PySem.W.Frag} {mg : Str -> Option Value} {base : Heap} {x : Str} {st : Stmt} {N ps : List Str} {k : Nat} {g : FS} (F : Dfn K mg x st) (S : FnScope N ps (zan st))
    (hb : ∀ (kV doc pm : Value) (an : Option Addr) (cdv ct : Value) (us : List Value), us.length = ps.length -> bindArgs (PySem.W.fnOf x x (zcC st) (zbz st) (zan st) .none kV doc pm an cdv ct) ⟨us, []⟩ = pure (ps.zip us))
    (hbody : ∀ (f : Addr) (cdv : Value) (A : Around) (outer : List Env) (s : Shared) (H : Hp) (E : XK), Room k (A.deeper (envOfC x (zan st) s.heap.objs.size f cdv)) ->
      DSs Γ (zgW CX0 P w K mg base N x (zan st) f cdv A outer s H E).nox (zbz st) g) : Cal Γ P w K mg base x ps.length (k + 1) (zbP (N.length - ps.length) g) := by
  obtain ⟨f, fd, h1, h2⟩ := F.ex
  exact ⟨f, fd, ps, h1.okD S (hbody f), h2, h1.kp, h1.binds hb⟩
theorem Dfn.mk' {K : PySem.W.Frag} {h : Heap} {mg : Str -> Option Value} {x : Str} {st : Stmt} {f : Addr} {oc : Value} {od an : Option Addr} {osl : Array (Option Value)} {kV doc pm cdv ct : Value} (X : K.In h) (G : h.Ns mainGlobals mg) (a : PySem.W.nsIn K mainGlobals x = some (some (.ref f)))
    (l : K.lookup f = some ⟨oc, od, .func (PySem.W.fnOf x x (zcC st) (zbz st) (zan st) .none kV doc pm an cdv ct), osl⟩) (c : PySem.W.codeIn K cdv x = true) (k : PySem.W.keepIn K (.ref f) = true) : Dfn K mg x st :=
  ⟨f, _, zkX l c k, PySem.W.mg_of X G a⟩
def zpP (names : List (Str × NameKind)) (outer : List (Str × NameKind)) : Bool :=
  names.all fun y => y.2 != .cell && (y.2 != .local || names.lookup y.1 == some .local) && (y.2 != .free || outer.lookup y.1 == some .cell || outer.lookup y.1 == some .free)
theorem CompScope.of {X : Cx} {scope : Scope} (hk : scope.kind = .function) (h : zpP scope.names X.env.scope.names = true) : CompScope X scope := by
  unfold zpP at h
  rw [List.all_eq_true] at h
  refine ⟨hk, fun y hy e => ?_, fun y hy e => ?_, fun y hy e => ?_⟩
  · have := h y hy
    rw [e] at this
    simp at this
  · have := h y hy
    rw [e] at this
    simpa using this
  · have := h y hy
    rw [e] at this
    simpa [Env.kindOf] using this
def zpy (N' : List Str) (fv : List (Option Nat)) (N : List Str) (outer names : List (Str × NameKind)) : Bool :=
  fv.length == N'.length && (N'.zip fv).all fun y => match y.2 with
    | none => true
    | some j => N[j]? == some y.1 && (outer.lookup y.1 == some .cell || outer.lookup y.1 == some .free) && names.lookup y.1 == some .free
theorem FvOk.of {X : Cx} {N' : List Str} {scope : Scope} {fv : List (Option Nat)} (h : zpy N' fv X.N X.env.scope.names scope.names = true) : FvOk X N' scope fv := by
  unfold zpy at h
  rw [Bool.and_eq_true, List.all_eq_true] at h
  obtain ⟨h1, h2⟩ := h
  refine ⟨by simpa using h1, fun i j x e1 e2 => ?_⟩
  have hm : (x, some j) ∈ N'.zip fv := by
    refine List.mem_iff_getElem?.mpr ⟨i, ?_⟩
    rw [List.getElem?_zip_eq_some]
    exact ⟨e1, e2⟩
  have := h2 _ hm
  simp only [Bool.and_eq_true, Bool.or_eq_true, beq_iff_eq] at this
  exact ⟨this.1.1, this.1.2, this.2⟩
end
end L2
end
section
namespace L2
open PySem PySem.Spec PyProof.Rows
mutual
def pdD : D -> Option PyData
  | .non => some .none
  | .bl b => some (.bool b)
  | .int i => some (.int i)
  | .str x => some (.str x)
  | .tup l => (zlW l).map PyData.tuple
  | .lst l => (zlW l).map PyData.list
  | .scr ns => some (.list (ns.map PyData.int))
  | _ => none
def zlW : List D -> Option (List PyData)
  | [] => some []
  | d :: r => (pdD d).bind fun p => (zlW r).map (p :: ·)
end
section
variable {Γ : Cn} {X : Cx} {pins : List (Addr × Obj)} {σ : St} {G H : Hp} {s : Shared}
theorem zgc {h : Heap} : ∀ {ns : List Int} {us : List Value}, zbC (ns.map V.int) us -> ∃ as, ReadsAll h us (ns.map PyData.int) as
  | [], _, r => by rw [List.map_nil] at r; cases r; exact ⟨_, .nil⟩
  | n :: ns, _, r => by
    rw [List.map_cons] at r
    cases r with
    | cons r1 r2 =>
      obtain ⟨t, e⟩ := r1
      subst e
      obtain ⟨as, q⟩ := zgc r2
      exact ⟨_, .cons (.int n t) q⟩
mutual
theorem Rep.reads (I : Inv X pins σ H s) (gh : zbw G H) : ∀ {v : V} {d : D} {u : Value} {p : PyData}, Rep Γ X.K G v d -> zbJ v u -> pdD d = some p -> ∃ as, Reads s.heap u p as
  | _, _, u, p, .non, r, h => by cases r; rw [pdD] at h; cases h; exact ⟨_, .none⟩
  | _, _, u, p, .bl b, r, h => by cases r; rw [pdD] at h; cases h; exact ⟨_, .bool b⟩
  | _, _, u, p, .int i, r, h => by obtain ⟨t, rfl⟩ := r; rw [pdD] at h; cases h; exact ⟨_, .int i t⟩
  | _, _, u, p, .str x, r, h => by obtain ⟨t, rfl⟩ := r; rw [pdD] at h; cases h; exact ⟨_, .str x t⟩
  | _, _, u, p, .ty n, r, h => by rw [pdD] at h; cases h; all_goals (intros; contradiction)
  | _, _, u, p, .tup ha rs, r, h => by
    cases r
    rw [pdD] at h
    obtain ⟨ps, hp, rfl⟩ := Option.map_eq_some_iff.mp h
    obtain ⟨its, rv, ⟨o, e1, e2, n, e3⟩, _⟩ := I.tuple (.inl (.inl (gh _ _ ha)))
    obtain ⟨as, q⟩ := Reps.reads I gh rs rv hp
    exact ⟨_, .tuple e1 e2 e3 (by simpa using q)⟩
  | _, _, u, p, .lst ha rs, r, h => by
    cases r
    rw [pdD] at h
    obtain ⟨ps, hp, rfl⟩ := Option.map_eq_some_iff.mp h
    obtain ⟨its, rv, ⟨o, n, e1, e2, _, e3⟩, _⟩ := I.list (.inl (.inl (gh _ _ ha)))
    obtain ⟨as, q⟩ := Reps.reads I gh rs rv hp
    exact ⟨_, .list e1 e2 e3 (by simpa using q)⟩
  | _, _, u, p, .scr hs, r, h => by
    cases r
    rw [pdD] at h
    cases h
    obtain ⟨its, rv, ⟨o, n, e1, e2, _, e3⟩, _⟩ := I.list (gh.seq hs)
    obtain ⟨as, q⟩ := zgc (h := s.heap) rv
    exact ⟨_, .list e1 e2 e3 (by simpa using q)⟩
  | _, _, u, p, .dk ha _ _, r, h => by rw [pdD] at h; cases h; all_goals (intros; contradiction)
  | _, _, u, p, .dt ha _ _, r, h => by rw [pdD] at h; cases h; all_goals (intros; contradiction)
  | _, _, u, p, .ins ha _ _ _, r, h => by rw [pdD] at h; cases h; all_goals (intros; contradiction)
theorem Reps.reads (I : Inv X pins σ H s) (gh : zbw G H) : ∀ {vs : List V} {ds : List D} {us : List Value} {ps : List PyData}, Reps Γ X.K G vs ds -> zbC vs us -> zlW ds = some ps -> ∃ as, ReadsAll s.heap us ps as
  | _, _, _, _, .nil, r, h => by cases r; rw [zlW] at h; cases h; exact ⟨_, .nil⟩
  | _, _, _, _, .cons r1 r2, r, h => by
    cases r with
    | cons q1 q2 =>
      rw [zlW] at h
      obtain ⟨p, hp, h⟩ := Option.bind_eq_some_iff.mp h
      obtain ⟨ps, hps, rfl⟩ := Option.map_eq_some_iff.mp h
      obtain ⟨as, a1⟩ := Rep.reads I gh r1 q1 hp
      obtain ⟨bs, a2⟩ := Reps.reads I gh r2 q2 hps
      exact ⟨_, .cons a1 a2⟩
end
end
section
variable {Γ : Cn} {X : Cx} {a b c e : Expr} {es : List Expr} {fa fb fc f : FE} {fr : FA} {pos : Pos}
def eqX (x y : D) : Option Bool := (pdD x).bind fun p => (pdD y).bind fun q => if SeqAt.shaped p = true /\ SeqAt.shaped q = true then some (PyData.eqv p q) else none
def zqB (x y : D) : Option D := (eqX x y).map fun b => D.bl (!b)
def rX (Γ : Cn) (K : PySem.W.Frag) (neg : Bool) : R2 := fun x y H Q => ∃ G d e b, zbw G H /\ Rep Γ K G x d /\ Rep Γ K G y e /\ eqX d e = some b /\ Q (.bl (if neg then !b else b)) H
theorem zmo {x y : D} {b : Bool} (h : eqX x y = some b) : ∃ p q, pdD x = some p /\ pdD y = some q /\ SeqAt.shaped p = true /\ SeqAt.shaped q = true /\ b = PyData.eqv p q := by
  unfold eqX at h
  obtain ⟨p, hp, h⟩ := Option.bind_eq_some_iff.mp h
  obtain ⟨q, hq, h⟩ := Option.bind_eq_some_iff.mp h
  split at h
  · rename_i hz
    cases h
    exact ⟨p, q, hp, hq, hz.1, hz.2, rfl⟩
  · cases h
theorem zo5 (hu : X.A.units + 64 < cLine) : OpR X (compareOp .NotEq) (rX Γ X.K true) := by
  intro pins s σ H x y v u Q I rx ry h
  obtain ⟨G, d, e, b, gh, r1, r2, hb, q⟩ := h
  obtain ⟨p, q', hp, hq, s1, s2, rfl⟩ := zmo hb
  obtain ⟨as, a1⟩ := r1.reads I gh rx hp
  obtain ⟨bs, a2⟩ := r2.reads I gh ry hq
  exact ne_dataH a1 a2 s1 s2 hu ⟨.bl _, H, I, rfl, q⟩
theorem zpQ (hu : X.A.units + 64 < cLine) : CmpD Γ X .NotEq zqB := ⟨_, zo5 (Γ := Γ) hu, fun {G H v u x y z} gh r1 r2 h Q k => by
  unfold zqB at h
  obtain ⟨b, hb, rfl⟩ := Option.map_eq_some_iff.mp h
  exact ⟨G, x, y, b, gh, r1, r2, hb, k _ G H (.refl gh) (.bl _)⟩⟩
def inX (x y : D) : Option Bool := (pdD x).bind fun p => (pdD y).bind fun q => match q with
  | .list l => if SeqAt.shaped p = true /\ PyData.canLayAll0 l = true then some (l.any fun z => PyData.eqv z p) else none
  | _ => none
def zpu (x y : D) : Option D := (inX x y).map D.bl
def zrI (Γ : Cn) (K : PySem.W.Frag) (neg : Bool) : R2 := fun x y H Q => ∃ G d e b, zbw G H /\ Rep Γ K G x d /\ Rep Γ K G y e /\ inX d e = some b /\ Q (.bl (if neg then !b else b)) H
theorem zmd {x y : D} {b : Bool} (h : inX x y = some b) : ∃ p l, pdD x = some p /\ pdD y = some (.list l) /\ SeqAt.shaped p = true /\ PyData.canLayAll0 l = true /\ b = l.any fun z => PyData.eqv z p := by
  unfold inX at h
  obtain ⟨p, hp, h⟩ := Option.bind_eq_some_iff.mp h
  obtain ⟨q, hq, h⟩ := Option.bind_eq_some_iff.mp h
  split at h
  · split at h
    · rename_i hz
      cases h
      exact ⟨p, _, hp, hq, hz.1, hz.2, rfl⟩
    · cases h
  · cases h
theorem zjj {p : PyData} (h : SeqAt.shaped p = true) : p.canLay0 = true /\ p.depth <= 64 := by
  unfold SeqAt.shaped at h
  rw [Bool.and_eq_true] at h
  exact ⟨h.1, of_decide_eq_true h.2⟩
theorem zo8 (hu : X.A.units + 66 < cLine) : OpR X (compareOp .In) (zrI Γ X.K false) := by
  intro pins s σ H x y v u Q I rx ry h
  obtain ⟨G, d, e, b, gh, r1, r2, hb, q⟩ := h
  obtain ⟨p, l, hp, hq, s1, s2, rfl⟩ := zmd hb
  obtain ⟨as, a1⟩ := r1.reads I gh rx hp
  obtain ⟨bs, a2⟩ := r2.reads I gh ry hq
  obtain ⟨c1, c2⟩ := zjj s1
  have := Nat.min_le_right (PyData.depthAll l) p.depth
  exact SeqAt.in_list_reads a2 a1 s2 c1 (by omega) ⟨.bl _, H, I, rfl, q⟩
theorem zpR (hu : X.A.units + 66 < cLine) : CmpD Γ X .In zpu := ⟨_, zo8 (Γ := Γ) hu, fun {G H v u x y z} gh r1 r2 h Q k => by
  unfold zpu at h
  obtain ⟨b, hb, rfl⟩ := Option.map_eq_some_iff.mp h
  exact ⟨G, x, y, b, gh, r1, r2, hb, k _ G H (.refl gh) (.bl _)⟩⟩
theorem zok {k : Nat} (hr : Room k X.A) : X.A.units + 66 < cLine := by have := hr.un; omega
theorem zqG {k : Nat} (hr : Room k X.A) : X.A.units + 64 < cLine := by have := hr.un; omega
def zik (d : D) : Bool := match d with
  | .non => true
  | _ => false
def zkQ (x y : D) : Option D := match y with
  | .non => some (.bl (!zik x))
  | _ => none
theorem zjq {K : PySem.W.Frag} {G : Hp} {v : V} {d : D} (r : Rep Γ K G v d) : decide (v = .non) = zik d := by
  cases r <;> simp [zik]
theorem zmB : CmpD Γ X .IsNot zkQ := ⟨_, znB, fun {G H v u x y z} gh r1 r2 h Q k => by
  unfold zkQ at h
  split at h <;> cases h
  exact ⟨r2.non_inv, by rw [zjq r1]; exact k _ G H (.refl gh) (.bl _)⟩⟩
end
end L2
end
section
namespace L2
open PySem PySem.Spec PyProof.Rows
section
variable {Γ : Cn} {X : Cx} {a b c e o i : Expr} {es : List Expr} {fa fb fc f fo fk fx : FE} {fr fi : FA} {pos p apos cpos : Pos} {ft : FT} {g : FS} {x : Str}
def bwT (i : Nat) (ft : FT) : FT := fun ρ => match ρ[i]? with
  | some (some (.own ds)) => ft (ρ.set i (some (.sh (.lst ds))))
  | _ => none
theorem Step.back {G G1 G' H H' : Hp} (gh : zbw G H) (s1 : zbw G G1) (s : Step G1 H G' H') : Step G H G H' := ⟨s.hh, .refl _, (s1.trans s.gg).trans s.gh, fun _ _ _ => rfl⟩
theorem zpG (i : Nat) (h : DT Γ X c ft) : DT Γ X c (bwT i ft) := ⟨h.1.imp fun σ H Q => by
  rintro ⟨G₀, H₀, G, ρ, b, A, h, k⟩
  unfold bwT at h
  split at h
  · rename_i ds hi
    obtain ⟨G1, sm, A1⟩ := A.freeze hi
    exact ⟨G₀, H₀, G1, _, b, A1, h, fun G' H' s => k G H' (s.back A.gh sm)⟩
  · cases h⟩
def zoj (i : Nat) (f : FE) : FS := fun ρ => match ρ[i]? with
  | some (some (.own ds)) => (f ρ).bind fun d => match d with
    | .lst l => if ds.length + l.length <= sizeLine then some (.nx, ρ.set i (some (.own (ds ++ l)))) else none
    | _ => none
  | _ => none
theorem zk3 (i : Nat) {vp : Pos} (h : DE Γ X e f) (hN : X.N[i]? = some x := by rfl) (hv : Vis X.env.scope x := by first | exact Or.inl rfl | exact Or.inr (Or.inl rfl) | exact Or.inr (Or.inr rfl)) (hd : (x == ("__debug__" : Str)) = false := by decide)
    (hcd : (x == ("__classdict__" : Str)) = false := by decide)
    (hbase : attributeBase (.Name x vp) "extend" X.env (eval (.Name x vp) X.env) = eval (.Name x vp) X.env := by rfl)
    (hfew : ((backTo cpos (starEach [e] X.env)).all (fun x => !x.1) && (backToKw cpos (keywordEach [] X.env)).all (fun x => x.1.isSome)
      && decide ([e].length + ([] : List Keyword).length + (if ([] : List Keyword).isEmpty then 0 else 1) < 30)) = true := by rfl)
    (hline : (apos.endLine == cpos.line) = true := by rfl) (hs : starEach [e] X.env = (false, eval e X.env) :: starEach [] X.env := by rfl) (hplain : (backTo cpos (starEach [] X.env)).any (·.1) = false := by rfl)
    (hsw : swapsWith (.Call (.Attribute (.Name x vp) "extend" apos) [e] [] cpos) none pos.line X.env = pure false := by rfl) :
    DS Γ X (.Expr (.Call (.Attribute (.Name x vp) "extend" apos) [e] [] cpos) pos) (zoj i f) := ⟨(zic (zoY PySem.F.plainAttrs_list PySem.F.slot_list_extend PySem.F.type_list_extend zkx (zci hN hv hd hcd) (zbq h.1 zdK hs) hbase hfew hline hs hplain) hsw).imp fun E σ H => by
    rintro ⟨G₀, H₀, G, ρ, fl, ρ', A, h, k⟩
    unfold zoj at h
    split at h
    · rename_i ds hi
      obtain ⟨d, hd, h⟩ := Option.bind_eq_some_iff.mp h
      split at h
      · rename_i l
        split at h
        · rename_i hz
          cases h
          obtain ⟨a, vs, h1, h2, h3, h4, h5⟩ := A.env.own i ds hi
          refine ⟨.ref a, h1, .inl ⟨rfl, vs, .inl (.inl h4)⟩, G₀, H₀, G, ρ, _, A, hd, fun v G1 H1 s1 r1 => ?_⟩
          have A1 := A.step s1
          obtain ⟨b, us, rfl, hb, rb⟩ := r1.lst_inv
          refine ⟨a, b, vs, us, rfl, rfl, s1.hh _ _ h4, s1.gh _ _ hb, by rw [h5.length, rb.length]; exact hz, ?_⟩
          exact k σ G1 _ s1.gg (A1.chOwn hi h1 ((h5.mono s1.gg).append rb))
        · cases h
      · cases h
    · cases h⟩
def zr5 : List D -> Option D
  | [.int i] => some (.int i)
  | [.bl k] => some (.int (if k then 1 else 0))
  | _ => none
def zj1 : List D -> Option D
  | [.lst l] => some (.tup l)
  | [.tup l] => some (.tup l)
  | _ => none
theorem zlE : TyD Γ X "tuple" zj1 := ⟨_, zgY, fun {G H vs ds z} gh r h Q k => by
  unfold zj1 at h
  split at h <;> cases h
  · obtain ⟨v, rfl, r1⟩ := r.one
    obtain ⟨a, us, rfl, ha, ra⟩ := r1.lst_inv
    exact ⟨a, us, rfl, .inl ⟨.inl (.inl (gh _ _ ha)), zie gh ra k⟩⟩
  · obtain ⟨v, rfl, r1⟩ := r.one
    obtain ⟨a, us, rfl, ha, ra⟩ := r1.tup_inv
    exact ⟨a, us, rfl, .inr ⟨.inl (.inl (gh _ _ ha)), k _ G H (.refl gh) (.tup ha ra)⟩⟩⟩
def zkF : List D -> Option D
  | [.lst l] => some (.lst l)
  | [.tup l] => some (.lst l)
  | [.scr l] => some (.lst (l.map D.int))
  | _ => none
theorem zh3 : TyD Γ X "list" zkF := ⟨_, zhN, fun {G H vs ds z} gh r h Q k => by
  unfold zkF at h
  split at h <;> cases h
  · obtain ⟨v, rfl, r1⟩ := r.one
    obtain ⟨a, us, rfl, ha, ra⟩ := r1.lst_inv
    exact ⟨a, us, rfl, .inl (.inl (.inl (gh _ _ ha))), zdt gh ra k⟩
  · obtain ⟨v, rfl, r1⟩ := r.one
    obtain ⟨a, us, rfl, ha, ra⟩ := r1.tup_inv
    exact ⟨a, us, rfl, .inr (.inl (.inl (gh _ _ ha))), zdt gh ra k⟩
  · obtain ⟨v, rfl, r1⟩ := r.one
    obtain ⟨a, rfl, ha⟩ := r1.scr_inv
    exact ⟨a, _, rfl, .inl (gh.seq ha), zdt gh (Reps.ints _) k⟩⟩
def zpX {κ α : Type} [DecidableEq κ] (kvs : List (κ × α)) (k : κ) : Option α := (kvs.find? fun kv => decide (kv.1 = k)).map (·.2)
def zjs {κ α : Type} [DecidableEq κ] (kvs : List (κ × α)) (k : κ) (v : α) : List (κ × α) :=
  if (kvs.any fun kv => decide (kv.1 = k)) = true then kvs.map (fun kv => if kv.1 = k then (kv.1, v) else kv) else kvs ++ [(k, v)]
theorem zpf {κ : Type} [DecidableEq κ] {K : PySem.W.Frag} {G : Hp} {k : κ} : ∀ {us : List (κ × V)} {kvs : List (κ × D)}, us.map (·.1) = kvs.map (·.1) -> Reps Γ K G (us.map (·.2)) (kvs.map (·.2)) ->
    (zpX kvs k = none /\ zlB us k = none) \/ ∃ d v, zpX kvs k = some d /\ zlB us k = some v /\ Rep Γ K G v d
  | [], [], _, _ => .inl ⟨rfl, rfl⟩
  | [], _ :: _, e, _ => by cases e
  | _ :: _, [], e, _ => by cases e
  | (k1, v) :: us, (k2, d) :: kvs, e, r => by
    have e1 : k1 = k2 := (List.cons.inj e).1
    have e2 : us.map (·.1) = kvs.map (·.1) := (List.cons.inj e).2
    subst e1
    have r : Reps Γ K G (v :: us.map (·.2)) (d :: kvs.map (·.2)) := r
    cases r with
    | cons r1 r2 =>
      by_cases h : k1 = k
      · exact .inr ⟨d, v, by simp [zpX, List.find?_cons, h], zgw h, r1⟩
      · have := zpf (k := k) e2 r2
        rw [zgx (p := (k1, v)) h]
        simpa [zpX, List.find?_cons, h] using this
theorem zmS {κ : Type} [DecidableEq κ] {k : κ} {α β : Type} : ∀ {us : List (κ × α)} {kvs : List (κ × β)}, us.map (·.1) = kvs.map (·.1) -> (us.any fun kv => decide (kv.1 = k)) = (kvs.any fun kv => decide (kv.1 = k))
  | [], [], _ => rfl
  | [], _ :: _, e => by cases e
  | _ :: _, [], e => by cases e
  | (k1, v) :: us, (k2, d) :: kvs, e => by
    have e1 : k1 = k2 := (List.cons.inj e).1
    subst e1
    rw [List.any_cons, List.any_cons, zmS (us := us) (kvs := kvs) (List.cons.inj e).2]
theorem zmR {κ : Type} [DecidableEq κ] {K : PySem.W.Frag} {G : Hp} {k : κ} {v : V} {d : D} (rv : Rep Γ K G v d) : ∀ {us : List (κ × V)} {kvs : List (κ × D)}, us.map (·.1) = kvs.map (·.1) -> Reps Γ K G (us.map (·.2)) (kvs.map (·.2)) ->
    (us.map fun kv => if kv.1 = k then (kv.1, v) else kv).map (·.1) = (kvs.map fun kv => if kv.1 = k then (kv.1, d) else kv).map (·.1) /\ Reps Γ K G ((us.map fun kv => if kv.1 = k then (kv.1, v) else kv).map (·.2)) ((kvs.map fun kv => if kv.1 = k then (kv.1, d) else kv).map (·.2))
  | [], [], _, _ => ⟨rfl, .nil⟩
  | [], _ :: _, e, _ => by cases e
  | _ :: _, [], e, _ => by cases e
  | (k1, u) :: us, (k2, x) :: kvs, e, r => by
    have e1 : k1 = k2 := (List.cons.inj e).1
    have e2 : us.map (·.1) = kvs.map (·.1) := (List.cons.inj e).2
    subst e1
    have r : Reps Γ K G (u :: us.map (·.2)) (x :: kvs.map (·.2)) := r
    cases r with
    | cons r1 r2 =>
      obtain ⟨h1, h2⟩ := zmR (k := k) rv e2 r2
      by_cases h : k1 = k
      · subst h
        simp only [List.map_cons, if_true]
        exact ⟨by rw [h1], .cons rv h2⟩
      · simp only [List.map_cons, if_neg h]
        exact ⟨by rw [h1], .cons r1 h2⟩
theorem zmQ {κ : Type} [DecidableEq κ] {K : PySem.W.Frag} {G : Hp} {k : κ} {v : V} {d : D} (rv : Rep Γ K G v d) {us : List (κ × V)} {kvs : List (κ × D)} (e : us.map (·.1) = kvs.map (·.1)) (r : Reps Γ K G (us.map (·.2)) (kvs.map (·.2))) :
    (zgd us k v).map (·.1) = (zjs kvs k d).map (·.1) /\ Reps Γ K G ((zgd us k v).map (·.2)) ((zjs kvs k d).map (·.2)) := by
  unfold zgd zjs
  rw [zmS (k := k) e]
  split
  · exact zmR rv e r
  · simp only [List.map_append, List.map_cons, List.map_nil]
    exact ⟨by rw [e], r.append (.cons rv .nil)⟩
def zmt : D -> Option Key
  | .int i => some (.inl i)
  | .str x => some (.inr x)
  | _ => none
def ze7 : List D -> Option (List Key)
  | [] => some []
  | d :: r => (zmt d).bind fun k => (ze7 r).map (k :: ·)
theorem zio {K : PySem.W.Frag} {G : Hp} {v : V} {d : D} {k : Key} (r : Rep Γ K G v d) (h : zmt d = some k) : v = kV k := by
  unfold zmt at h
  split at h <;> cases h
  · exact r.int_inv
  · exact r.str_inv
theorem zej {K : PySem.W.Frag} {G : Hp} : ∀ {vs : List V} {ds : List D} {ks : List Key}, Reps Γ K G vs ds -> ze7 ds = some ks -> vs = ks.map kV
  | _, [], ks, r, h => by cases r; cases h; rfl
  | _, d :: ds, ks, .cons h1 h2, h => by
    unfold ze7 at h
    obtain ⟨k, hk, h⟩ := Option.bind_eq_some_iff.mp h
    obtain ⟨zs, hz, rfl⟩ := Option.map_eq_some_iff.mp h
    rw [zio h1 hk, zej h2 hz]; rfl
def b3 (g : D -> D -> D -> Option D) (fa fb fc : FE) : FE := fun ρ => (fa ρ).bind fun x => (fb ρ).bind fun y => (fc ρ).bind fun z => g x y z
end
end L2
end
section
namespace L2
open PySem PySem.Spec PyProof.Rows
section
variable {Γ : Cn} {X : Cx} {a b c e o i : Expr} {es : List Expr} {fa fb fc f fo fk fx : FE} {fr fi : FA} {pos p apos cpos : Pos} {ft : FT} {g : FS} {x : Str}
end
end L2
end
section
namespace L2
open PySem PySem.Spec PyProof.Rows
section
variable {Γ : Cn} {X : Cx} {a b c e o i : Expr} {es : List Expr} {fa fb fc f fo fk fx : FE} {fr fi : FA} {pos p apos cpos : Pos} {ft : FT} {g : FS} {x : Str}
def zor : D -> Option Str
  | .str x => if x.length <= sizeLine then some x else none
  | .int i => if i.natAbs.log2 < 1920 then some (toString i) else none
  | _ => none
def zjU : Str -> List D -> Option Str
  | acc, [] => if acc.length <= sizeLine then some acc else none
  | acc, d :: r => (zor d).bind fun y => if (acc ++ y).length <= sizeLine then zjU (acc ++ y) r else none
def fsF (fr : FA) : FE := fun ρ => (fr ρ).bind fun ds => (zjU Str.empty ds).map D.str
structure DJ (Γ : Cn) (X : Cx) (es : List Expr) (fr : FA) : Prop where
  out : ∀ (acc : Str) (pins : List (Addr × Obj)) (s : Shared) (σ : St) (H : Hp) (Q : VK), Inv X pins σ H s -> (∃ G₀ H₀ G ρ ds z, At Γ X.K G₀ H₀ G H ρ σ /\ fr ρ = some ds /\ zjU acc ds = some z /\ ∀ G' H', Step G H G' H' -> Q (.str z) H') ->
    wpAny (model X.prog X.w) X.A (joinParts acc (evalEach es X.env)) (EP X pins σ Q) X.xe s
theorem zpK : DJ Γ X [] zag := ⟨fun acc pins s σ H Q I ⟨G₀, H₀, G, ρ, ds, z, A, h, hz, k⟩ => by
  cases h
  unfold zjU at hz
  split at hz
  · rename_i hl
    cases hz
    exact joinParts_nil ⟨.str _, H, I.tok _, ⟨_, rfl⟩, k G H (.refl A.gh)⟩ hl
  · cases hz⟩
theorem zmv {y : Str} {j} (h : DJ Γ X es fr) (hs : evalEach (.Constant (.str y) j p :: es) X.env = eval (.Constant (.str y) j p) X.env :: evalEach es X.env := by rfl) : DJ Γ X (.Constant (.str y) j p :: es) (zab (vC (.str y)) fr) := ⟨fun acc pins s σ H Q I ⟨G₀, H₀, G, ρ, ds, z, A, hq, hz, k⟩ => by
  unfold zab vC at hq
  simp only [Option.bind_some] at hq
  obtain ⟨xs, hxs, rfl⟩ := Option.map_eq_some_iff.mp hq
  unfold zjU at hz
  obtain ⟨w, hw, hz2⟩ := Option.bind_eq_some_iff.mp hz
  clear hz
  have hz := hz2
  clear hz2
  split at hz
  · rename_i hl
    have hw' : w = y /\ y.length <= sizeLine := by
      simp only [zor] at hw
      split at hw
      · exact ⟨(Option.some.inj hw).symm, by assumption⟩
      · exact nomatch hw
    obtain ⟨rfl, _⟩ := hw'
    rw [hs]
    refine joinParts_cons (thn (zhs (X := X) pins s σ H (fun v H' => v = .str w /\ H' = H) I ⟨rfl, rfl⟩) fun v s1 ⟨v', H1, I1, r1, e1, e2⟩ => ?_)
    subst e1 e2
    obtain ⟨t, rfl⟩ := r1
    exact ⟨hl, h.1 _ pins s1 σ _ Q I1 ⟨G₀, H₀, G, ρ, xs, z, A, hxs, hz, k⟩⟩
  · cases hz⟩
theorem zpJ (hv : DE Γ X e f) (h : DJ Γ X es fr) (hs : evalEach (.FormattedValue e (-1) none p :: es) X.env = eval (.FormattedValue e (-1) none p) X.env :: evalEach es X.env := by rfl) : DJ Γ X (.FormattedValue e (-1) none p :: es) (zab f fr) := ⟨fun acc pins s σ H Q I ⟨G₀, H₀, G, ρ, ds, z, A, hq, hz, k⟩ => by
  unfold zab at hq
  obtain ⟨d, hd, hq⟩ := Option.bind_eq_some_iff.mp hq
  obtain ⟨xs, hxs, rfl⟩ := Option.map_eq_some_iff.mp hq
  unfold zjU at hz
  obtain ⟨w, hw, hz2⟩ := Option.bind_eq_some_iff.mp hz
  clear hz
  have hz := hz2
  clear hz2
  split at hz
  · rename_i hl
    rw [hs]
    refine joinParts_cons (FormattedValue_plain (thn (hv.1 pins s σ H (fun v H' => ∃ G', Step G H G' H' /\ Rep Γ X.K G' v d) I ⟨G₀, H₀, G, ρ, d, A, hd, fun v G' H' st r => ⟨G', st, r⟩⟩) fun v s1 ⟨v', H1, I1, r1, G1, st, rp⟩ => ?_))
    have fin : ∀ (t' : Tok) (tk : Nat), (acc ++ w).length <= sizeLine /\ wpAny (model X.prog X.w) X.A (joinParts (acc ++ w) (evalEach es X.env)) (EP X pins σ Q) X.xe { s1 with toks := tk } := fun t' tk =>
      ⟨hl, h.1 _ pins _ σ _ Q (I1.tok tk) ⟨G₀, H₀, G1, ρ, xs, z, A.step st, hxs, hz, fun G' H' s' => k G' H' (st.trans s')⟩⟩
    unfold zor at hw
    split at hw
    · split at hw
      · cases hw
        cases rp.str_inv
        obtain ⟨t, rfl⟩ := r1
        exact formatField_str (fun t' tk => fin t' tk) (by assumption)
      · cases hw
    · split at hw
      · cases hw
        cases rp.int_inv
        obtain ⟨t, rfl⟩ := r1
        exact formatField_int_small (by assumption) (fin 0 _)
      · cases hw
    · cases hw
  · cases hz⟩
theorem zqO {v1 v2 : Expr} {zbL : List Expr} (h : DJ Γ X (v1 :: v2 :: zbL) fr) (hs : evalEach (v1 :: v2 :: zbL) X.env = eval v1 X.env :: eval v2 X.env :: evalEach zbL X.env := by rfl) : DE Γ X (.JoinedStr (v1 :: v2 :: zbL) pos) (fsF fr) := ⟨fun pins s σ H Q I => by
  rintro ⟨G₀, H₀, G, ρ, d, A, hq, k⟩
  unfold fsF at hq
  obtain ⟨ds, hd, hq⟩ := Option.bind_eq_some_iff.mp hq
  obtain ⟨z, hz, rfl⟩ := Option.map_eq_some_iff.mp hq
  refine JoinedStr_many ?_
  rw [← hs]
  exact h.1 _ pins s σ H Q I ⟨G₀, H₀, G, ρ, ds, z, A, hd, hz, fun G' H' s' => k _ G' H' s' (.str _)⟩⟩
end
end L2
end
section
namespace L2
open PySem PySem.Spec PyProof.Rows
section
variable {X : Cx} {pins : List (Addr × Obj)} {σ : St} {H H' : Hp} {s : Shared} {h' : Heap}
end
section
variable {Γ : Cn} {X : Cx} {a b c e o i : Expr} {es : List Expr} {fa fb fc f fo fk fx : FE} {fr fi : FA} {pos p p2 p3 p4 apos cpos : Pos} {ft : FT} {g : FS} {x : Str}
end
end L2
end
section
namespace L2
open PySem PySem.Spec PyProof.Rows
section
variable {α β : Type} [DecidableEq α]
end
section
variable {Γ : Cn} {X : Cx} {a b c e o i : Expr} {es : List Expr} {fa fb fc f fo fk fx : FE} {fr fi : FA} {pos p p2 p3 p4 apos cpos : Pos} {ft : FT} {g : FS} {x : Str}
def zqA : D -> Option D
  | .int i => some (.int (-i))
  | _ => none
end
end L2
end
section
namespace L2
open PySem PySem.Spec PyProof.Rows
structure CF (Γ : Cn) (K : PySem.W.Frag) (c : Str) (attrs : List Str) : Prop where
  ex : ∃ C, Γ.cls c = some C /\ Cls K C /\ ∀ f ∈ attrs, zdM K C f
section
variable {Γ : Cn} {X : Cx} {a b c e o i value : Expr} {es : List Expr} {fa fb fc f fo fk fx fv : FE} {fr fi : FA} {pos pos' p apos cpos : Pos} {ft : FT} {g : FS} {x cl fl n m : Str} {attrs : List Str}
theorem zc1 {K : PySem.W.Frag} {G : Hp} {k : Str} : ∀ {us : List (Str × V)} {fs : List (Str × D)}, us.map (·.1) = fs.map (·.1) -> Reps Γ K G (us.map (·.2)) (fs.map (·.2)) ->
    (fs.lookup k = none /\ us.lookup k = none) \/ ∃ d v, fs.lookup k = some d /\ us.lookup k = some v /\ Rep Γ K G v d
  | [], [], _, _ => .inl ⟨rfl, rfl⟩
  | [], _ :: _, e, _ => by cases e
  | _ :: _, [], e, _ => by cases e
  | (k1, v) :: us, (k2, d) :: fs, e, r => by
    have e1 : k1 = k2 := (List.cons.inj e).1
    have e2 : us.map (·.1) = fs.map (·.1) := (List.cons.inj e).2
    subst e1
    have r : Reps Γ K G (v :: us.map (·.2)) (d :: fs.map (·.2)) := r
    cases r with
    | cons r1 r2 =>
      by_cases h : k = k1
      · subst h
        exact .inr ⟨d, v, by simp [List.lookup], by simp [List.lookup], r1⟩
      · have hb : (k == k1) = false := by simpa using h
        have := zc1 (k := k) e2 r2
        simpa [List.lookup, hb] using this
theorem zgI {f : Str} {v : V} : ∀ {fs : List (Str × V)}, fs.lookup f = none -> zg7 f v fs = fs ++ [(f, v)]
  | [], _ => rfl
  | (g, x) :: r, h => by
    by_cases e : f = g
    · subst e; simp [List.lookup] at h
    · have hb : (f == g) = false := by simpa using e
      rw [zg7, if_neg (fun z => e z.symm), zgI (by simpa [List.lookup, hb] using h)]
      rfl
def zj6 (f : Str) : Slot -> Option D
  | .obj _ fs => fs.lookup f
  | .objd _ fs n _ => if f = n then none else fs.lookup f
  | _ => none
def znd : Slot -> Option Str
  | .obj c _ => some c
  | .objd c _ _ _ => some c
  | _ => none
def zfY (c f : Str) (i : Nat) : FE := fun ρ => match ρ[i]? with
  | some (some s) => if znd s = some c then zj6 f s else none
  | _ => none
theorem zl5 {vs : List (Str × V)} {n f : Str} {v w : V} (h : vs.lookup f = some v) : (vs ++ [(n, w)]).lookup f = some v := by
  induction vs with
  | nil => cases h
  | cons p r ih =>
    obtain ⟨g, x⟩ := p
    by_cases e : f = g
    · subst e; simpa [List.lookup] using h
    · have hb : (f == g) = false := by simpa using e
      simp only [List.cons_append, List.lookup, hb] at h ⊢
      exact ih h
theorem zgU (i : Nat) (hc : CF Γ X.K cl attrs) (hf : fl ∈ attrs) {vp : Pos} (hN : X.N[i]? = some x := by rfl) (hv : Vis X.env.scope x := by first | exact Or.inl rfl | exact Or.inr (Or.inl rfl) | exact Or.inr (Or.inr rfl)) (hd : (x == ("__debug__" : Str)) = false := by decide)
    (hcd : (x == ("__classdict__" : Str)) = false := by decide) (hb : attributeBase (.Name x vp) fl X.env (eval (.Name x vp) X.env) = eval (.Name x vp) X.env := by rfl) : DE Γ X (.Attribute (.Name x vp) fl pos) (zfY cl fl i) := ⟨(zmO (zci hN hv hd hcd) hb).imp fun σ H Q => by
  rintro ⟨G₀, H₀, G, ρ, d, A, h, k⟩
  unfold zfY at h
  split at h
  · rename_i s hi
    split at h
    · rename_i hcl
      obtain ⟨C, q1, q2, q3⟩ := hc.ex
      obtain ⟨v, fp, h1, h2⟩ := A.get hi
      cases h2 with
      | sh _ => cases h
      | own _ _ _ _ => cases h
      | odk _ _ _ _ _ => cases h
      | odt _ _ _ _ _ => cases h
      | tlo _ _ _ _ _ _ => cases h
      | pin _ => cases h
      | obj g1 g2 g3 g4 g5 g6 g7 =>
        cases hcl
        rw [q1] at g1
        cases g1
        have h : List.lookup fl _ = some d := h
        rcases zc1 (k := fl) g5 g6 with ⟨z1, _⟩ | ⟨d', v', z1, z2, z3⟩
        · rw [z1] at h; cases h
        · rw [z1] at h
          cases h
          exact ⟨_, h1, _, C, _, _, v', rfl, g4, q2, q3 fl hf, z2, k v' G H (.refl A.gh) z3⟩
      | objd g1 g2 g3 g4 g5 g6 _ _ _ _ _ g7 =>
        cases hcl
        rw [q1] at g1
        cases g1
        unfold zj6 at h
        simp only at h
        split at h
        · cases h
        · rcases zc1 (k := fl) g5 g6 with ⟨z1, _⟩ | ⟨d', v', z1, z2, z3⟩
          · rw [z1] at h; cases h
          · rw [z1] at h
            cases h
            exact ⟨_, h1, _, C, _, _, v', rfl, g4, q2, q3 fl hf, zl5 z2, k v' G H (.refl A.gh) z3⟩
    · cases h
  · cases h⟩
def zee (c f : Str) (i : Nat) (fv : FE) : FS := fun ρ => (fv ρ).bind fun d => match ρ[i]? with
  | some (some (.obj c' fs)) => if c' = c /\ fs.lookup f = none /\ fs.length < 100 then some (.nx, ρ.set i (some (.obj c (fs ++ [(f, d)])))) else none
  | _ => none
theorem zcU (i : Nat) (hc : CF Γ X.K cl attrs) (hf : fl ∈ attrs) {vp : Pos} (hv' : DE Γ X value fv) (hN : X.N[i]? = some x := by rfl) (hv : Vis X.env.scope x := by first | exact Or.inl rfl | exact Or.inr (Or.inl rfl) | exact Or.inr (Or.inr rfl)) (hd : (x == ("__debug__" : Str)) = false := by decide)
    (hcd : (x == ("__classdict__" : Str)) = false := by decide) (hs : swapsWith value (some (.Attribute (.Name x vp) fl pos')) pos.line X.env = pure false := by rfl) : DS Γ X (.Assign [.Attribute (.Name x vp) fl pos'] value pos) (zee cl fl i fv) := ⟨(zmK (zci hN hv hd hcd) hv'.1 hs).imp fun E σ H => by
  rintro ⟨G₀, H₀, G, ρ, flw, ρ', A, h, k⟩
  unfold zee at h
  obtain ⟨d, hd, h⟩ := Option.bind_eq_some_iff.mp h
  split at h
  · rename_i c' fs hi
    split at h
    · rename_i hz
      obtain ⟨rfl, hz2, hz3⟩ := hz
      cases h
      obtain ⟨C, q1, q2, q3⟩ := hc.ex
      refine ⟨G₀, H₀, G, ρ, d, A, hd, fun v G1 H1 s1 r1 => ?_⟩
      have A1 := A.step s1
      obtain ⟨w, fp, h1, h2⟩ := A1.get hi
      cases h2 with
      | obj g1 g2 g3 g4 g5 g6 g7 =>
        rename_i a C' dx vs
        have g1' := g1
        rw [q1] at g1
        cases g1
        have hl : vs.lookup fl = none := by
          rcases zc1 (k := fl) g5 g6 with ⟨_, z2⟩ | ⟨d', v', z1, _, _⟩
          · exact z2
          · rw [z1] at hz2; cases hz2
        have hlen : vs.length = fs.length := by simpa using congrArg List.length g5
        refine ⟨_, h1, a, C, dx, vs, rfl, g4, q2, q3 fl hf, by omega, ?_⟩
        rw [zgI hl]
        refine k σ G1 _ s1.gg (A1.ch hi h1 (.obj g1' g2 g3 g4 g5 g6 g7) (fun b o e hb => ?_) (.obj (vs := vs ++ [(fl, v)]) g1' g2 g3 zaw (by simp [g5]) (by simpa using g6.append (.cons r1 .nil)) g7) (fun b hb => .inl hb) (.refl _) (fun b o e => ?_) (fun _ _ _ _ => rfl))
        · rw [zas (fun z => hb (List.mem_singleton.mpr z))]; exact e
        · rw [zas (zav e g3)]; exact A1.gh b o e
    · cases h
  · cases h⟩
def zoi (c f : Str) (i : Nat) : FS := fun ρ => match ρ[i]? with
  | some (some (.obj c' fs)) => if c' = c /\ fs.lookup f = none /\ fs.length < 100 then some (.nx, ρ.set i (some (.objd c fs f []))) else none
  | _ => none
theorem zpH (i : Nat) (hc : CF Γ X.K cl attrs) (hf : fl ∈ attrs) {vp dp : Pos} (hN : X.N[i]? = some x := by rfl) (hv : Vis X.env.scope x := by first | exact Or.inl rfl | exact Or.inr (Or.inl rfl) | exact Or.inr (Or.inr rfl)) (hd : (x == ("__debug__" : Str)) = false := by decide)
    (hcd : (x == ("__classdict__" : Str)) = false := by decide) (hs : swapsWith (.Dict [] [] dp) (some (.Attribute (.Name x vp) fl pos')) pos.line X.env = pure false := by rfl) : DS Γ X (.Assign [.Attribute (.Name x vp) fl pos'] (.Dict [] [] dp) pos) (zoi cl fl i) := ⟨(zmK (zci hN hv hd hcd) ziM hs).imp fun E σ H => by
  rintro ⟨G₀, H₀, G, ρ, flw, ρ', A, h, k⟩ p hp
  unfold zoi at h
  split at h
  · rename_i c' fs hi
    split at h
    · rename_i hz
      obtain ⟨rfl, hz2, hz3⟩ := hz
      cases h
      obtain ⟨C, q1, q2, q3⟩ := hc.ex
      obtain ⟨w, fp, h1, h2⟩ := A.get hi
      cases h2 with
      | obj g1 g2 g3 g4 g5 g6 g7 =>
        rename_i a C' dx vs
        have g1' := g1
        rw [q1] at g1
        cases g1
        have hl : vs.lookup fl = none := by
          rcases zc1 (k := fl) g5 g6 with ⟨_, z2⟩ | ⟨d', v', z1, _, _⟩
          · exact z2
          · rw [z1] at hz2; cases hz2
        have hlen : vs.length = fs.length := by simpa using congrArg List.length g5
        have npa : a ≠ p := zav g4 hp
        refine ⟨_, h1, a, C, dx, vs, rfl, by rw [zas npa]; exact g4, q2, q3 fl hf, by omega, ?_⟩
        rw [zgI hl]
        have hp0 : H₀ p = none := A.st.hh.free hp
        have hpg : G p = none := A.gh.free hp
        refine k σ G _ (.refl _) (A.ch hi h1 (.obj g1' g2 g3 g4 g5 g6 g7) (fun b o e hb => ?_) (.objd (vs := vs) (p := p) (us := []) (kvs := []) g1' g2 g3 zaw g5 g6 hp0 hpg (by rw [zas npa.symm, zaw]) rfl .nil g7) (fun b hb => ?_) (.refl _) (fun b o e => ?_) (fun _ _ _ _ => rfl))
        · rw [zas (fun z => hb (List.mem_singleton.mpr z)), zas (zav e hp)]; exact e
        · rcases List.mem_cons.mp hb with rfl | hb
          · exact .inl (List.mem_singleton.mpr rfl)
          · rw [List.mem_singleton.mp hb]; exact .inr hp
        · rw [zas (zav e g3), zas (zav e hpg)]; exact A.gh b o e
    · cases h
  · cases h⟩
def zcR (c f : Str) (i : Nat) (fk fv : FE) : FS := fun ρ => (fv ρ).bind fun d => (fk ρ).bind fun kd => (zmt kd).bind fun k => match ρ[i]? with
  | some (some (.objd c' fs n kvs)) => if c' = c /\ n = f /\ fs.lookup f = none /\ kvs.length < 100000 then some (.nx, ρ.set i (some (.objd c fs n (zjs kvs k d)))) else none
  | _ => none
theorem zkE {vs : List (Str × V)} {f : Str} {w : V} (h : vs.lookup f = none) : (vs ++ [(f, w)]).lookup f = some w := by
  induction vs with
  | nil => simp [List.lookup]
  | cons p r ih =>
    obtain ⟨g, x⟩ := p
    by_cases e : f = g
    · subst e; simp [List.lookup] at h
    · have hb : (f == g) = false := by simpa using e
      simp only [List.cons_append, List.lookup, hb] at h ⊢
      exact ih h
theorem zk2 (i : Nat) (hu : X.A.units + 66 < cLine) (hc : CF Γ X.K cl attrs) (hf : fl ∈ attrs) {vp ap : Pos} {ke : Expr} (hk : DE Γ X ke fk) (hv' : DE Γ X value fv) (hN : X.N[i]? = some x := by rfl) (hv : Vis X.env.scope x := by first | exact Or.inl rfl | exact Or.inr (Or.inl rfl) | exact Or.inr (Or.inr rfl)) (hd : (x == ("__debug__" : Str)) = false := by decide)
    (hcd : (x == ("__classdict__" : Str)) = false := by decide) (hb : attributeBase (.Name x vp) fl X.env (eval (.Name x vp) X.env) = eval (.Name x vp) X.env := by rfl) (hs : swapsWith value (some (.Subscript (.Attribute (.Name x vp) fl ap) ke pos')) pos.line X.env = pure false := by rfl) :
    DS Γ X (.Assign [.Subscript (.Attribute (.Name x vp) fl ap) ke pos'] value pos) (zcR cl fl i fk fv) := ⟨(znr (by omega) (zmO (zci hN hv hd hcd) hb) hk.1 hv'.1 hs).imp fun E σ H => by
  rintro ⟨G₀, H₀, G, ρ, flw, ρ', A, h, k⟩
  unfold zcR at h
  obtain ⟨d, hd, ha⟩ := Option.bind_eq_some_iff.mp h
  clear h
  obtain ⟨kd, hkd, hb1⟩ := Option.bind_eq_some_iff.mp ha
  clear ha
  obtain ⟨kk, hkk, hq⟩ := Option.bind_eq_some_iff.mp hb1
  clear hb1
  split at hq
  · rename_i c' fs n kvs hi
    split at hq
    · rename_i hz
      obtain ⟨rfl, rfl, hz2, hz3⟩ := hz
      cases hq
      obtain ⟨C, q1, q2, q3⟩ := hc.ex
      refine ⟨G₀, H₀, G, ρ, d, A, hd, fun v G1 H1 s1 r1 => ?_⟩
      have A1 := A.step s1
      obtain ⟨w, fp, h1, h2⟩ := A1.get hi
      cases h2 with
      | objd g1 g2 g3 g4 g5 g6 y1 y2 y3 y4 y5 g7 =>
        rename_i a C' dx p vs us
        have g1' := g1
        rw [q1] at g1
        cases g1
        have hl : vs.lookup n = none := by
          rcases zc1 (k := n) g5 g6 with ⟨_, z2⟩ | ⟨d', v', z1, _, _⟩
          · exact z2
          · rw [z1] at hz2; cases hz2
        refine ⟨_, h1, a, C, dx, _, .ref p, rfl, g4, q2, q3 n hf, zkE hl, G₀, H₀, G1, ρ, kd, A1, hkd, fun u G2 H2 s2 r2 => ?_⟩
        have A2 := A1.step s2
        have eu := zio r2 hkk
        subst eu
        have hp2 : H2 p = some (.dK us) := s2.hh _ _ y3
        have ha2 : H2 a = some (.ins C dx (vs ++ [(n, .ref p)])) := s2.hh _ _ g4
        have ga2 : G2 a = none := (s2.out _ _ g4).trans g3
        have gp2 : G2 p = none := (s2.out _ _ y3).trans y2
        have npa : a ≠ p := zf0 ha2 hp2 (by intro z; cases z)
        have hlen : us.length = kvs.length := by simpa using congrArg List.length y4
        obtain ⟨w1, w2⟩ := zmQ (k := kk) (r1.mono s2.gg) y4 (y5.mono s2.gg)
        refine ⟨p, _, rfl, zpV.k hp2 (by have := sizeLine_eq; omega), ?_⟩
        refine k σ G2 _ (s1.gg.trans s2.gg) (A2.ch hi h1 (.objd g1' g2 ga2 ha2 g5 (g6.mono s2.gg) y1 gp2 hp2 y4 (y5.mono s2.gg) g7) (fun b o e hb => ?_) (.objd (p := p) g1' g2 ga2 (by rw [zas npa]; exact ha2) g5 (g6.mono s2.gg) y1 gp2 zaw w1 w2 g7) (fun b hb => .inl hb) (.refl _) (fun b o e => ?_) (fun _ _ _ _ => rfl))
        · rw [zas (fun z => hb (by rw [z]; exact List.mem_cons_of_mem _ List.mem_cons_self))]; exact e
        · rw [zas (zav e gp2)]; exact A2.gh b o e
    · cases hq
  · cases hq⟩
def zgz : Slot -> Option D
  | .obj c fs => some (.ins c fs)
  | .objd c fs n kvs => some (.ins c (fs ++ [(n, .dk kvs)]))
  | _ => none
theorem At.done {K : PySem.W.Frag} {G₀ H₀ G H : Hp} {ρ : zbx} {σ : St} (A : At Γ K G₀ H₀ G H ρ σ) {i : Nat} {s : Slot} {d : D} (hi : ρ[i]? = some (some s)) (hd : zgz s = some d) : ∃ a G', Γ.self = some a /\ Step G₀ H₀ G' H /\ Rep Γ K G' (.ref a) d := by
  obtain ⟨v, fp, h1, h2⟩ := A.get hi
  cases h2 with
  | sh _ => cases hd
  | own _ _ _ _ => cases hd
  | odk _ _ _ _ _ => cases hd
  | odt _ _ _ _ _ => cases hd
  | tlo _ _ _ _ _ _ => cases hd
  | pin _ => cases hd
  | obj g1 g2 g3 g4 g5 g6 g7 =>
    cases hd
    rename_i a C dx vs fs
    have sm : zbw G (upd G a (.ins C dx vs)) := fun b o e => by rw [zas (zav e g3)]; exact e
    refine ⟨a, upd G a (.ins C dx vs), g7, ⟨A.st.hh, A.st.gg.trans sm, fun b o e => ?_, fun b o e => ?_⟩, .ins zaw g1 g5 (g6.mono sm)⟩
    · by_cases hb : b = a
      · subst hb; rw [zaw] at e; cases e; exact g4
      · rw [zas hb] at e; exact A.gh b o e
    · rw [zas (zav e g2)]; exact A.st.out b o e
  | objd g1 g2 g3 g4 g5 g6 y1 y2 y3 y4 y5 g7 =>
    cases hd
    rename_i n a C dx p vs fs us kvs
    have npa : a ≠ p := zf0 g4 y3 (by intro z; cases z)
    have sm : zbw G (upd (upd G p (.dK us)) a (.ins C dx (vs ++ [(n, .ref p)]))) := fun b o e => by rw [zas (zav e g3), zas (zav e y2)]; exact e
    refine ⟨a, _, g7, ⟨A.st.hh, A.st.gg.trans sm, fun b o e => ?_, fun b o e => ?_⟩, .ins (us := vs ++ [(n, .ref p)]) (fs := fs ++ [(n, .dk kvs)]) zaw g1 (by simp [g5]) ?_⟩
    · by_cases hb : b = a
      · subst hb; rw [zaw] at e; cases e; exact g4
      · rw [zas hb] at e
        by_cases hb' : b = p
        · subst hb'; rw [zaw] at e; cases e; exact y3
        · rw [zas hb'] at e; exact A.gh b o e
    · rw [zas (zav e g2), zas (zav e y1)]; exact A.st.out b o e
    · have r2 : Rep Γ K (upd (upd G p (.dK us)) a (.ins C dx (vs ++ [(n, .ref p)]))) (.ref p) (.dk kvs) := .dk (us := us) (by rw [zas npa.symm, zaw]) y4 (y5.mono sm)
      simpa using (g6.mono sm).append (.cons r2 .nil)
end
end L2
end
section
namespace L2
open PySem PySem.Spec PyProof.Rows
def Cn.mk1 (Γ : Cn) (x : Addr) : Cn := ⟨Γ.cls, some x⟩
section
variable {Γ : Cn} {P : Program} {w : World} {K : PySem.W.Frag} {mg : Str -> Option Value} {base : Heap} {c : Str} {attrs : List Str} {x : Addr}
theorem Rep.to1 {G : Hp} {v : V} {d : D} (x : Addr) (r : Rep Γ K G v d) : Rep (Γ.mk1 x) K G v d := Rep.re (Γ := Γ) (Γ' := Γ.mk1 x) rfl r
theorem Rep.of1 {G : Hp} {v : V} {d : D} {x : Addr} (r : Rep (Γ.mk1 x) K G v d) : Rep Γ K G v d := Rep.re (Γ := Γ.mk1 x) (Γ' := Γ) rfl r
theorem Reps.of1 {G : Hp} {v : List V} {d : List D} {x : Addr} (r : Reps (Γ.mk1 x) K G v d) : Reps Γ K G v d := Reps.re (Γ := Γ.mk1 x) (Γ' := Γ) rfl r
theorem CF.re (h : CF Γ K c attrs) (x : Addr) : CF (Γ.mk1 x) K c attrs := ⟨h.ex⟩
theorem zox {n : Nat} {F : List D -> Option D} {vs : List V} {H : Hp} {Q : VK} {E : XK} (x : Addr) (h : spF (Γ.mk1 x) K n F vs H Q E) : spF Γ K n F vs H Q E := by
  obtain ⟨G, ds, d, h1, h2, h3, h4, k⟩ := h
  exact ⟨G, ds, d, h1, h2.of1, h3, h4, fun v G' H' s r => k v G' H' s (r.to1 x)⟩
theorem Cal.re {y : Str} {n k : Nat} {F : List D -> Option D} (C : Cal Γ P w K mg base y n k F) (x : Addr) : Cal (Γ.mk1 x) P w K mg base y n k F := by
  obtain ⟨f, fd, ps, h1, h2, h3, h4⟩ := C.ex
  exact ⟨f, fd, ps, h1.imp fun vs H Q E q => zox x q, h2, h3, h4⟩
structure CalM (Γ : Cn) (P : Program) (w : World) (K : PySem.W.Frag) (mg : Str -> Option Value) (base : Heap) (c m : Str) (n k : Nat) (F : List D -> Option D) : Prop where
  ex : ∃ C f fd ps, Γ.cls c = some C /\ Cls K C /\ Meth K C m f /\ FnOk P w K mg base CX0 k f fd ps (spF Γ K n F) /\ zcZ K fd ps []
def spI (Γ : Cn) (K : PySem.W.Frag) (C : Addr) (n : Nat) (F : List D -> Option D) : Sp := fun vs H Q _ => ∃ x dx H1 G ds d us, vs = .ref x :: us /\ H = upd (upd H1 dx (.own x)) x (.ins C dx []) /\ H1 x = none /\ H1 dx = none /\ dx ≠ x /\ zbw G H1 /\ Reps Γ K G us ds /\ ds.length = n /\ F ds = some d /\
  ∀ G' H', Step G H1 G' H' -> Rep Γ K G' (.ref x) d -> Q .non H'
structure CalI (Γ : Cn) (P : Program) (w : World) (K : PySem.W.Frag) (mg : Str -> Option Value) (base : Heap) (c : Str) (n k : Nat) (F : List D -> Option D) : Prop where
  ex : ∃ C f fd ps, Γ.cls c = some C /\ Mk K C f /\ mg c = some (.ref C) /\ FnOk P w K mg base CX0 k f fd ps (spI Γ K C n F) /\ zcZ K fd ps []
end
section
variable {Γ : Cn} {X : Cx} {e o : Expr} {es : List Expr} {fo : FE} {fr : FA} {pos p apos : Pos} {c m : Str}
end
section
variable {Γ : Cn} {P : Program} {w : World} {K : PySem.W.Frag} {mg : Str -> Option Value} {base : Heap} {c : Str} {attrs : List Str}
structure DfnM (K : PySem.W.Frag) (C : Addr) (c m qual : Str) (st : Stmt) : Prop where
  ex : ∃ f fd, Fun K m qual st f fd /\ PySem.W.findIn K (.ref C) m = some (some (.ref f)) /\ PySem.W.isFn K (.ref f) = true
structure ClsOk (Γ : Cn) (K : PySem.W.Frag) (mg : Str -> Option Value) (c : Str) (C : Addr) : Prop where
  cn : Γ.cls c = some C
  cl : Cls K C
  mgC : mg c = some (.ref C)
  makes : PySem.W.makesIn K C = true
  kp : PySem.W.keepIn K (.ref C) = true
theorem ClsOk.cf {C : Addr} (O : ClsOk Γ K mg c C) (h : ∀ f ∈ attrs, zdM K C f) : CF Γ K c attrs := ⟨C, O.cn, O.cl, h⟩
end
end L2
end
section
namespace ST
open PySem
structure Pr where
  j : Nat
  more : Nat
  i : Nat
  pt : Nat
def adv (M : Nat) (p : Pr) : Pr := if p.more > 0 then { p with j := p.j + 1, more := p.more - 1 } else
  { j := (SetTable.leap M p.i p.pt).1, more := SetTable.runEnd M (SetTable.leap M p.i p.pt).1 - (SetTable.leap M p.i p.pt).1, i := (SetTable.leap M p.i p.pt).1, pt := (SetTable.leap M p.i p.pt).2 }
def st0 (M : Nat) (h : Int) : Pr := { j := SetTable.bits h % (M + 1), more := SetTable.runEnd M (SetTable.bits h % (M + 1)) - SetTable.bits h % (M + 1), i := SetTable.bits h % (M + 1), pt := SetTable.bits h }
def it (M : Nat) (h : Int) : Nat -> Pr
  | 0 => st0 M h
  | n + 1 => adv M (it M h n)
def J (M : Nat) (h : Int) (n : Nat) : Nat := (it M h n).j
def lp (M : Nat) (h : Int) : Nat -> Nat × Nat
  | 0 => (SetTable.bits h % (M + 1), SetTable.bits h)
  | r + 1 => SetTable.leap M (lp M h r).1 (lp M h r).2
def ziy (M : Nat) (x : Nat × Nat) : Pr := { j := x.1, more := SetTable.runEnd M x.1 - x.1, i := x.1, pt := x.2 }
theorem ziY (M : Nat) (h : Int) (n : Nat) : ∀ k, it M h (n + k) = (Nat.repeat (adv M) k (it M h n))
  | 0 => rfl
  | k + 1 => by rw [← Nat.add_assoc, it, ziY M h n k]; rfl
theorem zng (M i : Nat) : SetTable.runEnd M i - i <= 9 := by
  unfold SetTable.runEnd
  split <;> omega
theorem zlH (M : Nat) : ∀ (k : Nat) (p : Pr), k <= p.more -> Nat.repeat (adv M) k p = { p with j := p.j + k, more := p.more - k }
  | 0, p, _ => rfl
  | k + 1, p, h => by
    rw [Nat.repeat, zlH M k p (by omega)]
    unfold adv
    rw [if_pos (by show p.more - k > 0; omega)]
    simp only [Nat.sub_sub, Nat.add_assoc]
theorem zmI (M : Nat) (h : Int) : ∀ r, ∃ n, n <= 10 * r /\ it M h n = ziy M (lp M h r)
  | 0 => ⟨0, Nat.le_refl _, rfl⟩
  | r + 1 => by
    obtain ⟨n, hn, e⟩ := zmI M h r
    have hl := zng M (lp M h r).1
    refine ⟨n + (SetTable.runEnd M (lp M h r).1 - (lp M h r).1) + 1, by omega, ?_⟩
    have e2 := zlH M (SetTable.runEnd M (lp M h r).1 - (lp M h r).1) (ziy M (lp M h r)) (Nat.le_refl _)
    rw [it, ziY, e, e2]
    unfold adv
    rw [if_neg (by show ¬ ((SetTable.runEnd M (lp M h r).1 - (lp M h r).1) - (SetTable.runEnd M (lp M h r).1 - (lp M h r).1) > 0); omega)]
    rfl
theorem zob (h : Int) : SetTable.bits h < 2 ^ 64 := by
  unfold SetTable.bits
  have h1 := Int.emod_nonneg h (show (2 ^ 64 : Int) ≠ 0 by decide)
  have h2 := Int.emod_lt_of_pos h (show (0 : Int) < 2 ^ 64 by decide)
  omega
theorem zoM (M : Nat) (h : Int) : ∀ r, (lp M h r).2 = SetTable.bits h / 32 ^ r
  | 0 => by simp [lp]
  | r + 1 => by
    show (lp M h r).2 / 32 = _
    rw [zoM M h r, Nat.div_div_eq_div_mul, Nat.pow_succ]
theorem znn (M : Nat) (h : Int) {r : Nat} (hr : 13 <= r) : (lp M h r).2 = 0 := by
  rw [zoM]
  refine Nat.div_eq_of_lt (Nat.lt_of_lt_of_le (zob h) ?_)
  exact Nat.le_trans (show 2 ^ 64 <= 32 ^ 13 by decide) (Nat.pow_le_pow_right (by decide) hr)
def fl (M i : Nat) : Nat := (i * 5 + 1) % (M + 1)
def orb (M : Nat) : Nat -> Nat -> Nat
  | 0, i => i
  | m + 1, i => fl M (orb M m i)
theorem zkC (M : Nat) (h : Int) : ∀ m, (lp M h (13 + m)).1 = orb M m (lp M h 13).1
  | 0 => rfl
  | m + 1 => by
    show (SetTable.leap M (lp M h (13 + m)).1 (lp M h (13 + m)).2).1 = _
    rw [znn M h (by omega), zkC M h m]
    simp [SetTable.leap, orb, fl]
theorem zgJ (M i : Nat) (a : Nat) : ∀ b, orb M (a + b) i = orb M b (orb M a i)
  | 0 => rfl
  | b + 1 => by rw [← Nat.add_assoc, orb, zgJ M i a b]; rfl
def zqu (M : Nat) : Nat -> Nat -> List Nat
  | 0, _ => []
  | n + 1, i => i :: zqu M n (fl M i)
theorem ziN (M : Nat) : ∀ m i, orb M (m + 1) i = orb M m (fl M i)
  | 0, _ => rfl
  | m + 1, i => by rw [orb, ziN M m i]; rfl
theorem ziO (M : Nat) : ∀ (n i j : Nat), j ∈ zqu M n i -> ∃ m, m < n /\ orb M m i = j
  | 0, _, _, h => nomatch h
  | n + 1, i, j, h => by
    rcases List.mem_cons.mp h with e | h
    · exact ⟨0, Nat.succ_pos _, e.symm⟩
    · obtain ⟨m, hm, e⟩ := ziO M n (fl M i) j h
      exact ⟨m + 1, by omega, by rw [ziN]; exact e⟩
structure Full (M : Nat) : Prop where
  all : ∀ j, j <= M -> ∃ m, m < M + 1 /\ orb M m 0 = j
  back : orb M (M + 1) 0 = 0
def chk (M : Nat) : Bool := (List.range (M + 1)).all (fun j => (zqu M (M + 1) 0).contains j) && orb M (M + 1) 0 == 0
theorem zgP {M : Nat} (h : chk M = true) : Full M := by
  unfold chk at h
  rw [Bool.and_eq_true, List.all_eq_true] at h
  refine ⟨fun j hj => ?_, by simpa using h.2⟩
  have := h.1 j (List.mem_range.mpr (by omega))
  exact ziO M (M + 1) 0 j (by simpa using this)
theorem zpz : Full 7 := zgP (by decide +kernel)
theorem zpA : Full 31 := zgP (by decide +kernel)
theorem znT : Full 127 := zgP (by decide +kernel)
theorem znS : Full 511 := zgP (by decide +kernel)
theorem Full.reach {M : Nat} (F : Full M) {i j : Nat} (hi : i <= M) (hj : j <= M) : ∃ m, m <= M /\ orb M m i = j := by
  obtain ⟨a, ha, ea⟩ := F.all i hi
  obtain ⟨b, hb, eb⟩ := F.all j hj
  by_cases h : a <= b
  · refine ⟨b - a, by omega, ?_⟩
    rw [← ea, ← zgJ, show a + (b - a) = b by omega, eb]
  · refine ⟨M + 1 - a + b, by omega, ?_⟩
    rw [← ea, ← zgJ, show a + (M + 1 - a + b) = (M + 1) + b by omega, zgJ, F.back, eb]
theorem znK (M : Nat) (h : Int) : ∀ r, (lp M h r).1 <= M
  | 0 => Nat.lt_succ_iff.mp (Nat.mod_lt _ (Nat.succ_pos _))
  | r + 1 => Nat.lt_succ_iff.mp (Nat.mod_lt _ (Nat.succ_pos _))
theorem Full.covers {M : Nat} (F : Full M) (h : Int) {j : Nat} (hj : j <= M) : ∃ n, n < 10 * (M + 15) /\ J M h n = j := by
  obtain ⟨m, hm, e⟩ := F.reach (znK M h 13) hj
  obtain ⟨n, hn, en⟩ := zmI M h (13 + m)
  refine ⟨n, by omega, ?_⟩
  unfold J
  rw [en]
  show (lp M h (13 + m)).1 = j
  rw [zkC, e]
theorem zpr (M : Nat) (h : Int) : ∀ n, (it M h n).j + (it M h n).more <= M
  | 0 => by
    have := znK M h 0
    show (lp M h 0).1 + (SetTable.runEnd M (lp M h 0).1 - (lp M h 0).1) <= M
    unfold SetTable.runEnd
    split <;> omega
  | n + 1 => by
    have ih := zpr M h n
    rw [it]
    unfold adv
    split
    · show (it M h n).j + 1 + ((it M h n).more - 1) <= M
      omega
    · show (SetTable.leap M (it M h n).i (it M h n).pt).1 + (SetTable.runEnd M (SetTable.leap M (it M h n).i (it M h n).pt).1 - (SetTable.leap M (it M h n).i (it M h n).pt).1) <= M
      have : (SetTable.leap M (it M h n).i (it M h n).pt).1 <= M := Nat.lt_succ_iff.mp (Nat.mod_lt _ (Nat.succ_pos _))
      unfold SetTable.runEnd
      split <;> omega
theorem zq3 (M : Nat) (h : Int) (n : Nat) : J M h n <= M := Nat.le_trans (Nat.le_add_right _ _) (zpr M h n)
theorem Full.first {M : Nat} (F : Full M) (h : Int) (occ : Nat -> Bool) (hf : ∃ j, j <= M /\ occ j = false) : ∃ n, n < 10 * (M + 15) /\ occ (J M h n) = false /\ ∀ m, m < n -> occ (J M h m) = true := by
  obtain ⟨j, hj, hof⟩ := hf
  obtain ⟨n, hn, e⟩ := F.covers h hj
  have key : ∀ n, n < 10 * (M + 15) -> occ (J M h n) = false -> ∃ n, n < 10 * (M + 15) /\ occ (J M h n) = false /\ ∀ m, m < n -> occ (J M h m) = true := by
    intro n
    induction n using Nat.strongRecOn with
    | ind n ih =>
      intro hn ho
      by_cases hx : ∃ m, m < n /\ occ (J M h m) = false
      · obtain ⟨m, hm, hm2⟩ := hx
        exact ih m hm (by omega) hm2
      · refine ⟨n, hn, ho, fun m hm => ?_⟩
        cases q : occ (J M h m) with
        | true => rfl
        | false => exact absurd ⟨m, hm, q⟩ hx
  exact key n hn (by rw [e]; exact hof)
end ST
end
section
namespace ST
open PySem
theorem zg5 (xs : Array Nat) (j : Nat) (hs : xs.toList.Pairwise (· < ·)) : ∀ (fuel lo hi : Nat), hi - lo <= fuel -> lo <= hi -> hi <= xs.size -> (∀ i, i < lo -> ∀ v, xs[i]? = some v -> v < j) -> (∀ i, hi <= i -> ∀ v, xs[i]? = some v -> j <= v) ->
    (SetTable.below.go xs j fuel lo hi <= xs.size) /\ (∀ i, i < SetTable.below.go xs j fuel lo hi -> ∀ v, xs[i]? = some v -> v < j) /\ ∀ i, SetTable.below.go xs j fuel lo hi <= i -> ∀ v, xs[i]? = some v -> j <= v
  | 0, lo, hi, hf, hl, hh, h1, h2 => by
    have e : lo = hi := by omega
    subst e
    exact ⟨hh, h1, h2⟩
  | fuel + 1, lo, hi, hf, hl, hh, h1, h2 => by
    have mono : ∀ a b va vb, a < b -> xs[a]? = some va -> xs[b]? = some vb -> va < vb := fun a b va vb hab ha hb => by
      have := List.pairwise_iff_getElem.mp hs a b
      obtain ⟨a1, a2⟩ := Array.getElem?_eq_some_iff.mp ha
      obtain ⟨b1, b2⟩ := Array.getElem?_eq_some_iff.mp hb
      have q := this (by simpa using a1) (by simpa using b1) hab
      simpa [a2, b2] using q
    unfold SetTable.below.go
    by_cases hlt : lo < hi
    · rw [if_pos hlt]
      have hm1 : lo <= (lo + hi) / 2 := by omega
      have hm2 : (lo + hi) / 2 < hi := by omega
      have hget : ∃ v, xs[(lo + hi) / 2]? = some v := ⟨xs[(lo + hi) / 2]'(by omega), by simp [show (lo + hi) / 2 < xs.size by omega]⟩
      obtain ⟨v, hv⟩ := hget
      have hd : xs.getD ((lo + hi) / 2) j = v := by simp [Array.getD_eq_getD_getElem?, hv]
      dsimp only
      rw [hd]
      by_cases hvj : v < j
      · rw [if_pos hvj]
        refine zg5 xs j hs fuel _ _ (by omega) (by omega) hh (fun i hi' w hw => ?_) h2
        rcases Nat.lt_or_ge i ((lo + hi) / 2) with hi2 | hi2
        · exact Nat.lt_trans (mono i _ w v hi2 hw hv) hvj
        · have e : i = (lo + hi) / 2 := by omega
          subst e
          rw [hv] at hw; cases hw; exact hvj
      · rw [if_neg hvj]
        refine zg5 xs j hs fuel _ _ (by omega) (by omega) (by omega) h1 fun i hi' w hw => ?_
        rcases Nat.lt_or_ge ((lo + hi) / 2) i with hi2 | hi2
        · exact Nat.le_trans (by omega) (Nat.le_of_lt (mono _ i v w hi2 hv hw))
        · have e : i = (lo + hi) / 2 := by omega
          subst e
          rw [hv] at hw; cases hw; omega
    · rw [if_neg hlt]
      have e : lo = hi := by omega
      subst e
      exact ⟨hh, h1, h2⟩
theorem zg4 (xs : Array Nat) (j : Nat) (hs : xs.toList.Pairwise (· < ·)) : SetTable.below xs j <= xs.size /\ (∀ i, i < SetTable.below xs j -> ∀ v, xs[i]? = some v -> v < j) /\ ∀ i, SetTable.below xs j <= i -> ∀ v, xs[i]? = some v -> j <= v :=
  zg5 xs j hs xs.size 0 xs.size (Nat.le_refl _) (Nat.zero_le _) (Nat.le_refl _) (fun i h => absurd h (Nat.not_lt_zero _)) fun i h v hv => by
    have := (Array.getElem?_eq_some_iff.mp hv).1
    omega
theorem zfN (xs : Array Nat) (j i : Nat) (hs : xs.toList.Pairwise (· < ·)) (h : xs[i]? = some j) : SetTable.below xs j = i := by
  obtain ⟨h0, h1, h2⟩ := zg4 xs j hs
  rcases Nat.lt_trichotomy (SetTable.below xs j) i with hl | hl | hl
  · have hi := (Array.getElem?_eq_some_iff.mp h).1
    have hg : xs[SetTable.below xs j]? = some (xs[SetTable.below xs j]'(by omega)) := by simp [show SetTable.below xs j < xs.size by omega]
    have q1 := h2 _ (Nat.le_refl _) _ hg
    have := List.pairwise_iff_getElem.mp hs (SetTable.below xs j) i (by simp; omega) (by simpa using hi) hl
    obtain ⟨_, e⟩ := Array.getElem?_eq_some_iff.mp h
    simp only [Array.getElem_toList] at this
    omega
  · exact hl
  · have := h1 i hl j h
    omega
structure Tb (t : SetTable) (es : Array (Int × Value)) : Prop where
  full : Full t.mask
  sz : t.place.size = es.size
  dm : t.dummies = #[]
  ri : t.place.toList.Pairwise (· < ·)
  le : ∀ j ∈ t.place.toList, j <= t.mask
  few : es.size * 5 < t.mask * 3
  rc : ∀ (i j : Nat) (h : Int) (x : Value), t.place[i]? = some j -> es[i]? = some (h, x) -> ∃ n, J t.mask h n = j /\ ∀ m, m < n -> J t.mask h m ∈ t.place.toList
section
variable {t : SetTable} {es : Array (Int × Value)}
theorem Tb.live (T : Tb t es) {j i : Nat} (h : t.place[i]? = some j) : t.slot j = .live i := by
  unfold SetTable.slot
  rw [zfN _ _ _ T.ri h]
  simp [h]
theorem Tb.empty (T : Tb t es) {j : Nat} (h : j ∉ t.place.toList) : t.slot j = .empty := by
  unfold SetTable.slot
  have h1 : t.place[SetTable.below t.place j]? ≠ some j := fun e => h (by
    rw [← Array.getElem?_toList] at e
    exact List.mem_of_getElem? e)
  have h2 : SetTable.has t.dummies j = false := by rw [T.dm]; rfl
  simp [h1, h2]
theorem Tb.occ (T : Tb t es) {j : Nat} (h : j ∈ t.place.toList) : ∃ i : Nat, t.place[i]? = some j := by
  obtain ⟨i, hi⟩ := List.mem_iff_getElem?.mp h
  exact ⟨i, by rw [← Array.getElem?_toList]; exact hi⟩
theorem Tb.fits (T : Tb t es) : t.fits es.size = true := by
  have h1 := T.sz
  have h2 := T.few
  simp only [SetTable.fits, SetTable.fill, T.dm, Array.size_empty, Bool.and_eq_true, beq_iff_eq, decide_eq_true_eq]
  omega
theorem zfh : ∀ (a b : List Nat), a.Nodup -> (∀ x ∈ a, x ∈ b) -> a.length <= b.length
  | [], _, _, _ => Nat.zero_le _
  | x :: r, b, nd, h => by
    have hx := h x List.mem_cons_self
    have nd' := List.nodup_cons.mp nd
    have := zfh r (b.erase x) nd'.2 fun y hy => (List.mem_erase_of_ne (show y ≠ x from fun e => nd'.1 (by rw [← e]; exact hy))).mpr (h y (List.mem_cons_of_mem _ hy))
    have hl := List.length_erase_of_mem hx
    have hp : 0 < b.length := List.length_pos_of_mem hx
    rw [List.length_cons]
    omega
theorem Tb.free (T : Tb t es) : ∃ j, j <= t.mask /\ decide (j ∈ t.place.toList) = false := by
  by_cases hx : ∃ j, j <= t.mask /\ j ∉ t.place.toList
  · obtain ⟨j, h1, h2⟩ := hx
    exact ⟨j, h1, decide_eq_false h2⟩
  · exfalso
    have all : ∀ j, j <= t.mask -> j ∈ t.place.toList := fun j hj => Classical.byContradiction fun hn => hx ⟨j, hj, hn⟩
    have h1 := zfh (List.range (t.mask + 1)) t.place.toList List.nodup_range fun j hj => all j (by have := List.mem_range.mp hj; omega)
    have h2 := T.sz
    have h3 := T.few
    simp only [List.length_range, Array.length_toList] at h1
    omega
theorem Tb.first (T : Tb t es) (h : Int) : ∃ n, n < 10 * (t.mask + 15) /\ J t.mask h n ∉ t.place.toList /\ ∀ m, m < n -> J t.mask h m ∈ t.place.toList := by
  obtain ⟨n, h1, h2, h3⟩ := T.full.first h (fun j => decide (j ∈ t.place.toList)) T.free
  exact ⟨n, h1, of_decide_eq_false h2, fun m hm => of_decide_eq_true (h3 m hm)⟩
def zcg (p : Pr) : SetTable.Probe := { j := p.j, more := p.more, i := p.i, perturb := p.pt, dummy := none }
theorem zm3 (t : SetTable) (p : Pr) : t.advance (zcg p) = zcg (adv t.mask p) := by
  unfold SetTable.advance adv zcg
  by_cases h : p.more > 0
  · simp only [h, if_true]
  · simp only [h, if_false]
theorem Tb.probe_go (T : Tb t es) (hashAt : Nat -> Int) (h : Int) {n0 : Nat} (hf : J t.mask h n0 ∉ t.place.toList) (ho : ∀ m, m < n0 -> J t.mask h m ∈ t.place.toList) : ∀ (fuel n : Nat), n <= n0 -> n0 < n + fuel ->
    (∃ n' i, n <= n' /\ n' < n0 /\ t.place[i]? = some (J t.mask h n') /\ hashAt i = h /\ (∀ m i, n <= m -> m < n' -> t.place[i]? = some (J t.mask h m) -> hashAt i ≠ h) /\ SetTable.probe.go t hashAt h fuel (zcg (it t.mask h n)) = some (.candidate (J t.mask h n') i (zcg (it t.mask h (n' + 1))))) \/
    ((∀ m i, n <= m -> m < n0 -> t.place[i]? = some (J t.mask h m) -> hashAt i ≠ h) /\ SetTable.probe.go t hashAt h fuel (zcg (it t.mask h n)) = some (.empty (J t.mask h n0) none))
  | 0, n, h1, h2 => by omega
  | fuel + 1, n, h1, h2 => by
    unfold SetTable.probe.go
    by_cases hn : n = n0
    · subst hn
      right
      refine ⟨fun m i a b => by omega, ?_⟩
      have hs : t.slot (zcg (it t.mask h n)).j = .empty := T.empty hf
      rw [hs]
      rfl
    · obtain ⟨i, hi⟩ := T.occ (ho n (by omega))
      have hs : t.slot (zcg (it t.mask h n)).j = .live i := T.live hi
      rw [hs]
      dsimp only
      by_cases hh : hashAt i = h
      · left
        refine ⟨n, i, Nat.le_refl _, by omega, hi, hh, fun m i a b => by omega, ?_⟩
        rw [if_pos (by simpa using hh), zm3]
        rfl
      · rw [if_neg (by simpa using hh), zm3]
        have inj : ∀ i', t.place[i']? = some (J t.mask h n) -> i' = i := fun i' h' => by
          rw [← zfN _ _ _ T.ri h', ← zfN _ _ _ T.ri hi]
        have ext : ∀ {b : Nat}, (∀ m i, n + 1 <= m -> m < b -> t.place[i]? = some (J t.mask h m) -> hashAt i ≠ h) -> ∀ m i, n <= m -> m < b -> t.place[i]? = some (J t.mask h m) -> hashAt i ≠ h := fun {b} q m i' a c d => by
          by_cases e : m = n
          · subst e
            rw [inj i' d]; exact hh
          · exact q m i' (by omega) c d
        rcases T.probe_go hashAt h hf ho fuel (n + 1) (by omega) (by omega) with ⟨n', i', a, b, c, d, e, f⟩ | ⟨e, f⟩
        · exact .inl ⟨n', i', by omega, b, c, d, ext e, f⟩
        · exact .inr ⟨ext e, f⟩
theorem zbY {α : Type} (xs : Array α) (p : Nat) (x : α) (hp : p <= xs.size) : (SetTable.insertAt xs p x).toList = xs.toList.take p ++ x :: xs.toList.drop p := by
  unfold SetTable.insertAt
  simp [Array.toList_extract, List.extract_eq_take_drop]
  exact List.take_of_length_le (by simp)
theorem zgm {α : Type} (l : List α) (p : Nat) (x : α) (hp : p <= l.length) (i : Nat) : (l.take p ++ x :: l.drop p)[i]? = if i < p then l[i]? else if i = p then some x else l[i - 1]? := by
  by_cases h1 : i < p
  · rw [if_pos h1, List.getElem?_append_left (by rw [List.length_take]; omega), List.getElem?_take_of_lt h1]
  · rw [if_neg h1, List.getElem?_append_right (by rw [List.length_take]; omega), List.length_take, Nat.min_eq_left hp]
    by_cases h2 : i = p
    · rw [if_pos h2, h2]; simp
    · rw [if_neg h2]
      obtain ⟨k, hk⟩ : ∃ k, i - p = k + 1 := ⟨i - p - 1, by omega⟩
      rw [hk, List.getElem?_cons_succ, List.getElem?_drop]
      congr 1
      omega
theorem zeH {α : Type} (l : List α) (p : Nat) (x y : α) : y ∈ l.take p ++ x :: l.drop p ↔ y = x \/ y ∈ l := by
  rw [List.mem_append, List.mem_cons]
  constructor
  · rintro (h | h | h)
    · exact .inr (List.mem_of_mem_take h)
    · exact .inl h
    · exact .inr (List.mem_of_mem_drop h)
  · rintro (h | h)
    · exact .inr (.inl h)
    · have : y ∈ l.take p ++ l.drop p := by rw [List.take_append_drop]; exact h
      rcases List.mem_append.mp this with h | h
      · exact .inl h
      · exact .inr (.inr h)
theorem Tb.put (T : Tb t es) {h : Int} {x : Value} {n0 : Nat} (hf : J t.mask h n0 ∉ t.place.toList) (ho : ∀ m, m < n0 -> J t.mask h m ∈ t.place.toList) (few : (es.size + 1) * 5 < t.mask * 3) (pl : Bool) :
    Tb { (t.put (J t.mask h n0)).1 with plain := pl } (SetTable.insertAt es (t.put (J t.mask h n0)).2 (h, x)) := by
  obtain ⟨b0, b1, b2⟩ := zg4 t.place (J t.mask h n0) T.ri
  have bes : SetTable.below t.place (J t.mask h n0) <= es.size := by rw [← T.sz]; exact b0
  have pl1 : (SetTable.insertAt t.place (SetTable.below t.place (J t.mask h n0)) (J t.mask h n0)).toList = t.place.toList.take (SetTable.below t.place (J t.mask h n0)) ++ J t.mask h n0 :: t.place.toList.drop (SetTable.below t.place (J t.mask h n0)) := zbY _ _ _ b0
  have el1 : (SetTable.insertAt es (SetTable.below t.place (J t.mask h n0)) (h, x)).toList = es.toList.take (SetTable.below t.place (J t.mask h n0)) ++ (h, x) :: es.toList.drop (SetTable.below t.place (J t.mask h n0)) := zbY _ _ _ bes
  have szp : (SetTable.insertAt t.place (SetTable.below t.place (J t.mask h n0)) (J t.mask h n0)).size = t.place.size + 1 := by
    rw [← Array.length_toList, pl1]; simp; omega
  have sze : (SetTable.insertAt es (SetTable.below t.place (J t.mask h n0)) (h, x)).size = es.size + 1 := by
    rw [← Array.length_toList, el1]; simp; omega
  refine ⟨T.full, ?_, ?_, ?_, ?_, ?_, ?_⟩
  · show (SetTable.insertAt t.place _ _).size = _
    rw [szp]
    show _ = (SetTable.insertAt es (SetTable.below t.place (J t.mask h n0)) (h, x)).size
    rw [sze, T.sz]
  · show (if SetTable.has t.dummies (J t.mask h n0) = true then _ else t.dummies) = #[]
    rw [T.dm]; rfl
  · show (SetTable.insertAt t.place (SetTable.below t.place (J t.mask h n0)) (J t.mask h n0)).toList.Pairwise (· < ·)
    rw [pl1, List.pairwise_append, List.pairwise_cons]
    have tk : ∀ a ∈ t.place.toList.take (SetTable.below t.place (J t.mask h n0)), a < J t.mask h n0 := fun a ha => by
      obtain ⟨i, hi⟩ := List.mem_iff_getElem?.mp ha
      have hi' : i < SetTable.below t.place (J t.mask h n0) := by
        have := (List.getElem?_eq_some_iff.mp hi).1
        rw [List.length_take] at this; omega
      rw [List.getElem?_take_of_lt hi', Array.getElem?_toList] at hi
      exact b1 i hi' a hi
    have dr : ∀ a ∈ t.place.toList.drop (SetTable.below t.place (J t.mask h n0)), J t.mask h n0 < a := fun a ha => by
      obtain ⟨i, hi⟩ := List.mem_iff_getElem?.mp ha
      rw [List.getElem?_drop, Array.getElem?_toList] at hi
      have h1 := b2 _ (Nat.le_add_right _ i) a hi
      rcases Nat.lt_or_ge (J t.mask h n0) a with q | q
      · exact q
      · exact absurd (by rw [← Array.getElem?_toList] at hi; have e : a = J t.mask h n0 := by omega
                         rw [e] at hi; exact List.mem_of_getElem? hi) hf
    refine ⟨T.ri.sublist (List.take_sublist _ _), ⟨dr, T.ri.sublist (List.drop_sublist _ _)⟩, fun a ha b hb => ?_⟩
    rcases List.mem_cons.mp hb with e | hb
    · rw [e]; exact tk a ha
    · exact Nat.lt_trans (tk a ha) (dr b hb)
  · intro j hj
    have hj' : j ∈ (SetTable.insertAt t.place (SetTable.below t.place (J t.mask h n0)) (J t.mask h n0)).toList := hj
    rw [pl1, zeH] at hj'
    rcases hj' with e | hj'
    · rw [e]; exact zq3 _ _ _
    · exact T.le j hj'
  · show (SetTable.insertAt es (SetTable.below t.place (J t.mask h n0)) (h, x)).size * 5 < t.mask * 3
    rw [sze]; exact few
  · intro i j h' x' e1 e2
    have e1' : (SetTable.insertAt t.place (SetTable.below t.place (J t.mask h n0)) (J t.mask h n0)).toList[i]? = some j := by rw [Array.getElem?_toList]; exact e1
    have e2' : (SetTable.insertAt es (SetTable.below t.place (J t.mask h n0)) (h, x)).toList[i]? = some (h', x') := by rw [Array.getElem?_toList]; exact e2
    rw [pl1, zgm _ _ _ (by simpa using b0)] at e1'
    rw [el1, zgm _ _ _ (by simpa using bes)] at e2'
    have up : ∀ {n : Nat}, (∀ m, m < n -> J t.mask h' m ∈ t.place.toList) -> ∀ m, m < n -> J t.mask h' m ∈ (SetTable.insertAt t.place (SetTable.below t.place (J t.mask h n0)) (J t.mask h n0)).toList := fun q m hm => by
      rw [pl1, zeH]; exact .inr (q m hm)
    by_cases c1 : i < SetTable.below t.place (J t.mask h n0)
    · rw [if_pos c1] at e1' e2'
      rw [Array.getElem?_toList] at e1' e2'
      obtain ⟨n, hn, q⟩ := T.rc i j h' x' e1' e2'
      exact ⟨n, hn, up q⟩
    · rw [if_neg c1] at e1' e2'
      by_cases c2 : i = SetTable.below t.place (J t.mask h n0)
      · rw [if_pos c2] at e1' e2'
        cases e1'
        cases e2'
        exact ⟨n0, rfl, up ho⟩
      · rw [if_neg c2] at e1' e2'
        rw [Array.getElem?_toList] at e1' e2'
        obtain ⟨n, hn, q⟩ := T.rc _ j h' x' e1' e2'
        exact ⟨n, hn, up q⟩
end
end ST
end
section
namespace ST
open PySem
def zbX (owner : Array (Option Nat)) (j : Nat) : Bool := (owner.getD j (some 0)).isNone
theorem zkf {M : Nat} {h : Int} {n r : Nat} (e : it M h n = ziy M (lp M h r)) {k : Nat} (hk : k < SetTable.runEnd M (lp M h r).1 + 1 - (lp M h r).1) : J M h (n + k) = (lp M h r).1 + k := by
  unfold J
  rw [ziY, e, zlH M k _ (by show k <= SetTable.runEnd M (lp M h r).1 - (lp M h r).1; omega)]
  rfl
theorem zlM {M : Nat} {h : Int} {n r : Nat} (e : it M h n = ziy M (lp M h r)) : it M h (n + (SetTable.runEnd M (lp M h r).1 + 1 - (lp M h r).1)) = ziy M (lp M h (r + 1)) := by
  have hge : (lp M h r).1 <= SetTable.runEnd M (lp M h r).1 := by unfold SetTable.runEnd; split <;> omega
  have e2 := zlH M (SetTable.runEnd M (lp M h r).1 - (lp M h r).1) (ziy M (lp M h r)) (Nat.le_refl _)
  rw [show n + (SetTable.runEnd M (lp M h r).1 + 1 - (lp M h r).1) = n + (SetTable.runEnd M (lp M h r).1 - (lp M h r).1) + 1 by omega, it, ziY, e, e2]
  unfold adv
  rw [if_neg (by show ¬ ((SetTable.runEnd M (lp M h r).1 - (lp M h r).1) - (SetTable.runEnd M (lp M h r).1 - (lp M h r).1) > 0); omega)]
  rfl
theorem zkZ {M : Nat} {h : Int} (owner : Array (Option Nat)) {rs : Nat} (hfr : zbX owner (lp M h rs).1 = true) : ∀ (fuel r n : Nat), it M h n = ziy M (lp M h r) -> r <= rs -> rs < r + fuel -> (∀ m, m < n -> zbX owner (J M h m) = false) ->
    ∃ n', zbX owner (J M h n') = true /\ (∀ m, m < n' -> zbX owner (J M h m) = false) /\ SetTable.layClean.free M owner fuel (lp M h r).1 (lp M h r).2 = some (J M h n')
  | 0, r, n, _, h1, h2, _ => by omega
  | fuel + 1, r, n, e, h1, h2, h3 => by
    unfold SetTable.layClean.free
    cases hf : (List.range (SetTable.runEnd M (lp M h r).1 + 1 - (lp M h r).1)).find? (fun k => (owner.getD ((lp M h r).1 + k) (some 0)).isNone) with
    | some k =>
      have hk := List.mem_range.mp (List.mem_of_find?_eq_some hf)
      have hp : zbX owner ((lp M h r).1 + k) = true := by
        have := List.find?_some hf
        exact this
      refine ⟨n + k, by rw [zkf e hk]; exact hp, fun m hm => ?_, ?_⟩
      · rcases Nat.lt_or_ge m n with c | c
        · exact h3 m c
        · obtain ⟨d, rfl⟩ : ∃ d, m = n + d := ⟨m - n, by omega⟩
          rw [zkf e (by omega)]
          obtain ⟨as, bs, hab, hno⟩ := (List.find?_eq_some_iff_append.mp hf).2
          have hd : d ∈ as := by
            have hl : as = List.range k := by
              have hlen : as.length = k := by
                have : (List.range (SetTable.runEnd M (lp M h r).1 + 1 - (lp M h r).1))[as.length]? = some k := by rw [hab]; simp
                rw [List.getElem?_range] at this
                · exact Option.some.inj this
                · have := congrArg List.length hab
                  simp at this
                  omega
              have := congrArg (List.take k) hab
              rw [List.take_range, Nat.min_eq_left (by omega), ← hlen, List.take_left'] at this
              · rw [hlen] at this; exact this.symm
              · rfl
            rw [hl]; exact List.mem_range.mpr (by omega)
          have := hno d hd
          exact Bool.eq_false_iff.mpr (fun z => by rw [show (owner.getD ((lp M h r).1 + d) (some 0)).isNone = true from z] at this; cases this)
      · rw [zkf e hk]
    | none =>
      have hn : ∀ k, k < SetTable.runEnd M (lp M h r).1 + 1 - (lp M h r).1 -> zbX owner (J M h (n + k)) = false := fun k hk => by
        rw [zkf e hk]
        have := List.find?_eq_none.mp hf k (List.mem_range.mpr hk)
        exact Bool.eq_false_iff.mpr this
      have hge : (lp M h r).1 <= SetTable.runEnd M (lp M h r).1 := by unfold SetTable.runEnd; split <;> omega
      have hr : r ≠ rs := fun z => by
        subst z
        have := hn 0 (by omega)
        rw [zkf e (by omega), Nat.add_zero, hfr] at this
        cases this
      exact zkZ owner hfr fuel (r + 1) _ (zlM e) (by omega) (by omega) fun m hm => by
        rcases Nat.lt_or_ge m n with c | c
        · exact h3 m c
        · obtain ⟨d, rfl⟩ : ∃ d, m = n + d := ⟨m - n, by omega⟩
          exact hn d (by omega)
theorem Full.free {M : Nat} (F : Full M) (h : Int) (owner : Array (Option Nat)) (hf : ∃ j, j <= M /\ zbX owner j = true) :
    ∃ n, zbX owner (J M h n) = true /\ (∀ m, m < n -> zbX owner (J M h m) = false) /\ SetTable.layClean.free M owner (SetTable.turns M) (SetTable.bits h % (M + 1)) (SetTable.bits h) = some (J M h n) := by
  obtain ⟨j, hj, hjf⟩ := hf
  obtain ⟨m, hm, e⟩ := F.reach (znK M h 13) hj
  have hl : (lp M h (13 + m)).1 = j := by rw [zkC, e]
  exact zkZ owner (rs := 13 + m) (by rw [hl]; exact hjf) (SetTable.turns M) 0 0 rfl (Nat.zero_le _) (by unfold SetTable.turns; omega) fun m hm => absurd hm (Nat.not_lt_zero _)
structure Own (M : Nat) (hs : List Int) (owner : Array (Option Nat)) : Prop where
  sz : owner.size = M + 1
  lt : ∀ (j k : Nat), owner[j]? = some (some k) -> k < hs.length
  on : ∀ k, k < hs.length -> ∃ j : Nat, owner[j]? = some (some k)
  inj : ∀ (j j' k : Nat), owner[j]? = some (some k) -> owner[j']? = some (some k) -> j = j'
  rc : ∀ (j k : Nat) h, owner[j]? = some (some k) -> hs[k]? = some h -> ∃ n, J M h n = j /\ ∀ m, m < n -> zbX owner (J M h m) = false
theorem zc2 {owner : Array (Option Nat)} {j : Nat} : zbX owner j = true ↔ owner[j]? = some none := by
  unfold zbX
  rw [Array.getD_eq_getD_getElem?]
  cases e : owner[j]? with
  | none => simp
  | some o => cases o <;> simp
theorem Own.empty (M : Nat) : Own M [] (Array.replicate (M + 1) none) := by
  have no : ∀ (j k : Nat), (Array.replicate (M + 1) (none : Option Nat))[j]? = some (some k) -> False := fun j k h => by
    rw [Array.getElem?_replicate] at h
    split at h <;> cases h
  exact ⟨by simp, fun j k h => (no j k h).elim, fun k h => absurd h (Nat.not_lt_zero _), fun j _ k h _ => (no j k h).elim, fun j k _ h _ => (no j k h).elim⟩
theorem Own.room {M : Nat} {hs : List Int} {owner : Array (Option Nat)} (O : Own M hs owner) (hr : hs.length <= M) : ∃ j, j <= M /\ zbX owner j = true := by
  by_cases hx : ∃ j, j <= M /\ zbX owner j = true
  · exact hx
  · exfalso
    have all : ∀ j, j <= M -> ∃ k, owner[j]? = some (some k) := fun j hj => by
      have h1 : zbX owner j ≠ true := fun z => hx ⟨j, hj, z⟩
      have h2 : j < owner.size := by rw [O.sz]; omega
      cases q : owner[j] with
      | none => exact absurd (zc2.mpr (by simp [h2, q])) h1
      | some k => exact ⟨k, by simp [h2, q]⟩
    have pig := zfh ((List.range (M + 1)).map fun j => ((owner[j]?).join).getD 0) (List.range hs.length) ?_ ?_
    · rw [List.length_map, List.length_range, List.length_range] at pig
      omega
    · refine List.nodup_iff_pairwise_ne.mpr (List.pairwise_map.mpr (List.Pairwise.imp_of_mem ?_ List.nodup_range))
      intro a b ha hb hab e
      obtain ⟨k, hk⟩ := all a (by have := List.mem_range.mp ha; omega)
      obtain ⟨k', hk'⟩ := all b (by have := List.mem_range.mp hb; omega)
      simp only [hk, hk', Option.join_some, Option.getD_some] at e
      subst e
      exact hab (O.inj a b k hk hk')
    · intro x hx'
      obtain ⟨j, hj, rfl⟩ := List.mem_map.mp hx'
      obtain ⟨k, hk⟩ := all j (by have := List.mem_range.mp hj; omega)
      simp only [hk, Option.join_some, Option.getD_some]
      exact List.mem_range.mpr (O.lt j k hk)
theorem Own.more {M : Nat} {hs : List Int} {owner : Array (Option Nat)} (O : Own M hs owner) {h : Int} {n : Nat} (hf : zbX owner (J M h n) = true) (ho : ∀ m, m < n -> zbX owner (J M h m) = false) :
    Own M (hs ++ [h]) (owner.setIfInBounds (J M h n) (some hs.length)) := by
  have hlt : J M h n < owner.size := by rw [O.sz]; have := zq3 M h n; omega
  have hold := zc2.mp hf
  have get : ∀ j : Nat, (owner.setIfInBounds (J M h n) (some hs.length))[j]? = if j = J M h n then some (some hs.length) else owner[j]? := fun j => by
    rw [Array.getElem?_setIfInBounds]
    by_cases e : J M h n = j
    · subst e; simp [hlt]
    · rw [if_neg e, if_neg (Ne.symm e)]
  have stay : ∀ {j k : Nat}, owner[j]? = some (some k) -> (owner.setIfInBounds (J M h n) (some hs.length))[j]? = some (some k) := fun {j k} q => by
    rw [get, if_neg]
    · exact q
    · intro e; rw [e, hold] at q; cases q
  have notfree : ∀ {j : Nat}, zbX owner j = false -> zbX (owner.setIfInBounds (J M h n) (some hs.length)) j = false := fun {j} q => by
    refine Bool.eq_false_iff.mpr fun z => ?_
    have z' := zc2.mp z
    rw [get] at z'
    split at z'
    · cases z'
    · rw [zc2.mpr z'] at q; cases q
  refine ⟨by simp [O.sz], fun j k q => ?_, fun k hk => ?_, fun j j' k q q' => ?_, fun j k h' q q' => ?_⟩
  · rw [get] at q
    rw [List.length_append, List.length_singleton]
    split at q
    · cases q; omega
    · have := O.lt j k q; omega
  · rw [List.length_append, List.length_singleton] at hk
    by_cases e : k = hs.length
    · exact ⟨J M h n, by rw [get, if_pos rfl, e]⟩
    · obtain ⟨j, hj⟩ := O.on k (by omega)
      exact ⟨j, stay hj⟩
  · rw [get] at q q'
    split at q
    · rename_i c
      cases q
      split at q'
      · rename_i c'; rw [c, c']
      · have := O.lt j' _ q'; omega
    · split at q'
      · cases q'
        have := O.lt j _ q; omega
      · exact O.inj j j' k q q'
  · rw [get] at q
    split at q
    · rename_i c
      cases q
      rw [List.getElem?_append_right (Nat.le_refl _)] at q'
      simp at q'
      subst q'
      exact ⟨n, c.symm, fun m hm => notfree (ho m hm)⟩
    · have hk := O.lt j k q
      rw [List.getElem?_append_left hk] at q'
      obtain ⟨n', e, r⟩ := O.rc j k h' q q'
      exact ⟨n', e, fun m hm => notfree (r m hm)⟩
theorem Full.lays {M : Nat} (F : Full M) (hs : Array Int) (hr : hs.size <= M) : ∃ owner, SetTable.layClean M hs = some owner /\ Own M hs.toList owner := by
  have all : ∀ (zbL done : List Int) (owner : Array (Option Nat)), Own M done owner -> (done ++ zbL).length <= M -> ∃ owner', Own M (done ++ zbL) owner' /\
      zbL.foldl (fun (acc : Option (Array (Option Nat) × Nat)) h => do
        let (owner, k) ← acc
        let j ← SetTable.layClean.free M owner (SetTable.turns M) (SetTable.bits h % (M + 1)) (SetTable.bits h)
        pure (owner.setIfInBounds j (some k), k + 1)) (some (owner, done.length)) = some (owner', (done ++ zbL).length) := by
    intro zbL
    induction zbL with
    | nil => intro done owner O _; exact ⟨owner, by rw [List.append_nil]; exact O, by simp⟩
    | cons h r ih =>
      intro done owner O hl
      obtain ⟨n, h1, h2, h3⟩ := F.free h owner (O.room (by simp at hl; omega))
      have O' := O.more h1 h2
      obtain ⟨owner', O2, e⟩ := ih (done ++ [h]) _ O' (by simpa using hl)
      refine ⟨owner', by simpa using O2, ?_⟩
      rw [List.foldl_cons]
      have e1 : (do
        let (owner, k) ← some (owner, done.length)
        let j ← SetTable.layClean.free M owner (SetTable.turns M) (SetTable.bits h % (M + 1)) (SetTable.bits h)
        pure (owner.setIfInBounds j (some k), k + 1) : Option (Array (Option Nat) × Nat)) = some (owner.setIfInBounds (J M h n) (some done.length), done.length + 1) := by
        show (SetTable.layClean.free M owner (SetTable.turns M) (SetTable.bits h % (M + 1)) (SetTable.bits h) >>= fun j => pure (owner.setIfInBounds j (some done.length), done.length + 1)) = _
        rw [h3]; rfl
      rw [e1]
      rw [List.length_append, List.length_singleton] at e
      rw [e]
      simp
  obtain ⟨owner', O, e⟩ := all hs.toList [] _ (Own.empty M) (by simpa using hr)
  refine ⟨owner', ?_, by simpa using O⟩
  unfold SetTable.layClean
  rw [← Array.foldl_toList]
  have e' := congrArg (Option.map (·.1)) e
  exact e'
end ST
end
section
namespace ST
open PySem
theorem zmX {α β : Type} (f : α -> Option β) : ∀ (l : List α), (∀ k ∈ l, ∃ y, f k = some y) -> ∀ i : Nat, (l.filterMap f)[i]? = (l[i]?).bind f
  | [], _, i => by simp
  | k :: r, h, i => by
    obtain ⟨y, hy⟩ := h k List.mem_cons_self
    rw [List.filterMap_cons_some hy]
    cases i with
    | zero => simp [hy]
    | succ i => simp only [List.getElem?_cons_succ]; exact zmX f r (fun k hk => h k (List.mem_cons_of_mem _ hk)) i
theorem zmW {α β : Type} (f : α -> Option β) : ∀ (l : List α), (∀ k ∈ l, ∃ y, f k = some y) -> (l.filterMap f).length = l.length
  | [], _ => rfl
  | k :: r, h => by
    obtain ⟨y, hy⟩ := h k List.mem_cons_self
    rw [List.filterMap_cons_some hy, List.length_cons, List.length_cons, zmW f r fun k hk => h k (List.mem_cons_of_mem _ hk)]
def zdb (M : Nat) (owner : Array (Option Nat)) : List (Nat × Nat) := (List.range (M + 1)).filterMap fun j => (owner.getD j none).map (j, ·)
theorem zcs {M : Nat} {owner : Array (Option Nat)} (hsz : owner.size = M + 1) {j k : Nat} : (j, k) ∈ zdb M owner ↔ owner[j]? = some (some k) := by
  unfold zdb
  rw [List.mem_filterMap]
  constructor
  · rintro ⟨j', hj', e⟩
    rw [Array.getD_eq_getD_getElem?] at e
    cases q : owner[j']? with
    | none => rw [q] at e; cases e
    | some o =>
      rw [q] at e
      cases o with
      | none => cases e
      | some k' => cases e; exact q
  · intro q
    have hj : j < owner.size := (Array.getElem?_eq_some_iff.mp q).1
    exact ⟨j, List.mem_range.mpr (by omega), by rw [Array.getD_eq_getD_getElem?, q]; rfl⟩
theorem zfv (M : Nat) (owner : Array (Option Nat)) : ((zdb M owner).map (·.1)).Pairwise (· < ·) := by
  unfold zdb
  rw [List.pairwise_map]
  refine List.Pairwise.filterMap _ ?_ (List.pairwise_lt_range (n := M + 1))
  intro a a' haa b hb b' hb'
  obtain ⟨k, _, rfl⟩ := Option.map_eq_some_iff.mp hb
  obtain ⟨k', _, rfl⟩ := Option.map_eq_some_iff.mp hb'
  exact haa
theorem zjz {M : Nat} {hs : List Int} {owner : Array (Option Nat)} (O : Own M hs owner) : ((zdb M owner).map (·.2)).Nodup := by
  have h1 := List.pairwise_map.mp (zfv M owner)
  refine List.nodup_iff_pairwise_ne.mpr (List.pairwise_map.mpr (List.Pairwise.imp_of_mem ?_ h1))
  rintro ⟨j, k⟩ ⟨j', k'⟩ ha hb hlt e
  have e' : k = k' := e
  subst e'
  have := O.inj j j' k ((zcs O.sz).mp ha) ((zcs O.sz).mp hb)
  have hlt' : j < j' := hlt
  omega
theorem zl6 {M : Nat} {hs : List Int} {owner : Array (Option Nat)} (O : Own M hs owner) : (zdb M owner).length = hs.length := by
  have h1 := zfh ((zdb M owner).map (·.2)) (List.range hs.length) (zjz O) fun k hk => by
    obtain ⟨⟨j, k'⟩, hm, rfl⟩ := List.mem_map.mp hk
    exact List.mem_range.mpr (O.lt j k' ((zcs O.sz).mp hm))
  have h2 := zfh (List.range hs.length) ((zdb M owner).map (·.2)) List.nodup_range fun k hk => by
    obtain ⟨j, hj⟩ := O.on k (List.mem_range.mp hk)
    exact List.mem_map.mpr ⟨(j, k), (zcs O.sz).mpr hj, rfl⟩
  rw [List.length_map, List.length_range] at h1 h2
  omega
theorem Full.relaid {t : SetTable} {es : Array (Int × Value)} {wanted : Nat} (F : Full (SetTable.sizeAbove wanted - 1)) (few : es.size * 5 < (SetTable.sizeAbove wanted - 1) * 3) :
    ∃ t' order, t.relaid (es.map (·.1)) wanted = some (t', order) /\ (order.filterMap (es[·]?)).size = es.size /\ Tb t' (order.filterMap (es[·]?)) /\ (∀ e, e ∈ (order.filterMap (es[·]?)).toList ↔ e ∈ es.toList) /\ t'.mask = SetTable.sizeAbove wanted - 1 /\ t'.led = t.led := by
  generalize hM : SetTable.sizeAbove wanted - 1 = M at F few
  obtain ⟨owner, hl, O⟩ := F.lays (es.map (·.1)) (by simp; omega)
  have hlen : (es.map (·.1)).toList.length = es.size := by simp
  have llen : (zdb M owner).length = es.size := by rw [zl6 O, hlen]
  refine ⟨{ mask := M, place := ((zdb M owner).map (·.1)).toArray, dummies := #[], finger := t.finger, led := t.led, moves := t.movedTo M, plain := t.plain }, ((zdb M owner).map (·.2)).toArray, ?_, ?_⟩
  · unfold SetTable.relaid
    rw [hM]
    unfold SetTable.laid
    rw [hl]
    rfl
  · have hall : ∀ k ∈ (zdb M owner).map (·.2), ∃ y, es[k]? = some y := fun k hk => by
      obtain ⟨⟨j, k'⟩, hm, rfl⟩ := List.mem_map.mp hk
      have := O.lt j k' ((zcs O.sz).mp hm)
      rw [hlen] at this
      exact ⟨es[k'], by simp [this]⟩
    have etl : (Array.filterMap (fun x => es[x]?) ((zdb M owner).map (·.2)).toArray).toList = ((zdb M owner).map (·.2)).filterMap (fun x => es[x]?) := by simp
    have esz : (Array.filterMap (fun x => es[x]?) ((zdb M owner).map (·.2)).toArray).size = es.size := by
      rw [← Array.length_toList, etl, zmW _ _ hall, List.length_map, llen]
    refine ⟨esz, ⟨F, ?_, rfl, ?_, ?_, ?_, ?_⟩, fun e => ?_, rfl, rfl⟩
    · rw [esz]; simp [llen]
    · show ((zdb M owner).map (·.1)).toArray.toList.Pairwise (· < ·)
      exact zfv M owner
    · intro j hj
      have hj' : j ∈ (zdb M owner).map (·.1) := hj
      obtain ⟨⟨j', k⟩, hm, rfl⟩ := List.mem_map.mp hj'
      have := (Array.getElem?_eq_some_iff.mp ((zcs O.sz).mp hm)).1
      rw [O.sz] at this
      show j' <= M
      omega
    · rw [esz]; exact few
    · intro i j h x e1 e2
      have e1' : ((zdb M owner).map (·.1))[i]? = some j := by simpa using e1
      rw [← Array.getElem?_toList, etl, zmX _ _ hall, List.getElem?_map] at e2
      rw [List.getElem?_map] at e1'
      obtain ⟨⟨j', k⟩, hm, rfl⟩ := Option.map_eq_some_iff.mp e1'
      rw [hm] at e2
      have e2' : es[k]? = some (h, x) := e2
      have ho := (zcs O.sz).mp (List.mem_of_getElem? hm)
      obtain ⟨n, hn, q⟩ := O.rc j' k h ho (by simp [e2'])
      refine ⟨n, hn, fun m hm' => ?_⟩
      have hnf := q m hm'
      have hle := zq3 M h m
      have hlt : J M h m < owner.size := by rw [O.sz]; omega
      cases c : owner[J M h m] with
      | none =>
        rw [zc2.mpr (by simp [hlt, c])] at hnf; cases hnf
      | some k' =>
        show J M h m ∈ (zdb M owner).map (·.1)
        exact List.mem_map.mpr ⟨(J M h m, k'), (zcs O.sz).mpr (by simp [hlt, c]), rfl⟩
    · rw [etl, List.mem_filterMap]
      constructor
      · rintro ⟨k, _, hk⟩
        rw [← Array.getElem?_toList] at hk
        exact List.mem_of_getElem? hk
      · intro he
        obtain ⟨k, hk⟩ := List.mem_iff_getElem?.mp he
        rw [Array.getElem?_toList] at hk
        have hlt := (Array.getElem?_eq_some_iff.mp hk).1
        obtain ⟨j, hj⟩ := O.on k (by rw [hlen]; exact hlt)
        exact ⟨k, List.mem_map.mpr ⟨(j, k), (zcs O.sz).mpr hj, rfl⟩, hk⟩
def Mk (M : Nat) : Prop := M = 7 \/ M = 31 \/ M = 127 \/ M = 511
theorem Mk.full {M : Nat} (h : Mk M) : Full M := by
  rcases h with h | h | h | h <;> subst h
  · exact zpz
  · exact zpA
  · exact znT
  · exact znS
theorem Mk.grow {M n : Nat} (h : Mk M) (h1 : n * 5 < M * 3) (h2 : ¬ (n + 1) * 5 < M * 3) (hn : n <= 300) : Mk (SetTable.sizeAbove (SetTable.grown (n + 1)) - 1) /\ (n + 1) * 5 < (SetTable.sizeAbove (SetTable.grown (n + 1)) - 1) * 3 /\ SetTable.sizeAbove (SetTable.grown (n + 1)) <= 512 := by
  rcases h with h | h | h | h <;> subst h
  · have : n = 4 := by omega
    subst this
    exact ⟨.inr (.inl (by decide)), by decide, by decide⟩
  · have : n = 18 := by omega
    subst this
    exact ⟨.inr (.inr (.inl (by decide))), by decide, by decide⟩
  · have : n = 76 := by omega
    subst this
    exact ⟨.inr (.inr (.inr (by decide))), by decide, by decide⟩
  · omega
end ST
end
section
namespace ST
open PySem PySem.Spec PyProof.Rows
section
variable {prog : Program} {w : World} {A : Around} {R : Result -> Shared -> Prop} {I : Addr} {fp wr : List Addr} {G : Array GenState -> Array GenState -> Prop} {n : Nat} {P : Nat -> Value -> Prop} {St : Nat -> Shared -> Prop}
def zrp (prog : Program) (w : World) (A : Around) (S : Addr) (Ba : Heap -> Prop) (P : Nat -> Value -> Prop) (n : Nat) (J : Nat -> Obj -> Prop) : Prop :=
  ∀ (i : Nat) (v : Value) (s : Shared) (o : Obj) (Q : Bool -> Shared -> Prop) (E : Value -> Shared -> Prop), i < n -> P i v -> s.heap.get? S = some o -> J i o -> Ba s.heap ->
    (∀ b h' tk o', s.toks <= tk -> Heap.SameBut S s.heap h' -> h'.get? S = some o' -> J (i + 1) o' -> Q b { s with heap := h', toks := tk }) -> wpAny (model prog w) A (setAdd S v) Q E s
theorem zlJ (W : WalksS prog w A.in1 I fp wr G n P St) (S : Addr) (hSf : S ∉ fp) (Ba : Heap -> Prop) (hBa : ∀ h h', Ba h -> (∀ b o, b ∉ S :: wr -> h.get? b = some o -> h'.get? b = some o) -> Ba h') (J : Nat -> Obj -> Prop) (hadd : zrp prog w A.in1 S Ba P n J) :
    ∀ (k i : Nat) (s : Shared) (o : Obj), n - i = k -> i <= n -> St i s -> s.heap.get? S = some o -> J i o -> Ba s.heap ->
      (∀ s' o', Moved (S :: wr) G s s' -> s'.heap.get? S = some o' -> J n o' -> R (.ok (.ret .none)) s') ->
      codeAny (model prog w) A (.builtin "set.update.loop" ⟨[.ref S, .ref I], []⟩) R s := by
  have hSw : S ∉ wr := fun h => hSf (W.sub _ h)
  have hsub : ∀ b ∈ wr, b ∈ S :: wr := fun b hb => List.mem_cons_of_mem _ hb
  intro k
  induction k with
  | zero =>
    intro i s o hk hi hst hS hJ hB hR
    have hin : i = n := by omega
    subst hin
    refine codeAny_builtin F.entry_set_update_loop ?_
    rw [Around.under_plainId F.plain_set_update_loop _]
    show wpAny _ A.in1 (pyNext (.ref I) >>= _) _ _ s
    refine wpAny_bind (W.done s _ _ hst fun s' hm => ?_)
    show wpAny _ A.in1 (ret Value.none) _ _ s'
    exact wpAny_pure (hR s' o (hm.mono hsub) (hm.heap S _ hSw hS) hJ)
  | succ k ih =>
    intro i s o hk hi hst hS hJ hB hR
    have hlt : i < n := by omega
    refine codeAny_builtin F.entry_set_update_loop ?_
    rw [Around.under_plainId F.plain_set_update_loop _]
    show wpAny _ A.in1 (pyNext (.ref I) >>= _) _ _ s
    refine wpAny_bind (W.item i s _ _ hlt hst fun v s' hP hst' hm => ?_)
    show wpAny _ A.in1 (holding [v] (setAdd S v) >>= _) _ _ s'
    refine wpAny_bind (wpAny_holding ?_)
    refine hadd i v s' o _ _ hlt hP (hm.heap S _ hSw hS) hJ (hBa _ _ hB fun b o hb e => hm.heap b o (fun z => hb (hsub b z)) e) fun b h' tk o' htk hsb hS' hJ' => ?_
    refine wpAny_pure ⟨plainId_quiet F.plain_set_update_loop _, ih (i + 1) _ o' (by omega) hlt (W.frame _ s' _ _ hst' htk fun b hb o e => ?_) hS' hJ' ?_ fun s'' o'' hm'' hS'' hJ'' => ?_⟩
    · rw [hsb.2 b (fun h : b = S => hSf (by rw [← h]; exact hb))]; exact e
    · refine hBa _ _ (hBa _ _ hB fun b o hb e => hm.heap b o (fun z => hb (hsub b z)) e) fun b o hb e => ?_
      show h'.get? b = some o
      rw [hsb.2 b (fun h : b = S => hb (by rw [h]; exact List.mem_cons_self))]; exact e
    · refine hR s'' o'' (Moved.trans W.gtrans ((hm.mono hsub).then_heap htk fun b o hb e => ?_) hm'') hS'' hJ''
      rw [hsb.2 b (fun h : b = S => hb (by rw [h]; exact List.mem_cons_self))]; exact e
end
section
variable {prog : Program} {w : World} {A : Around} {E : Value -> Shared -> Prop} {s : Shared}
set_option maxRecDepth 100000 in
set_option maxHeartbeats 3200000 in
theorem ze0 {l : Addr} {items : Array Value} {Q : Value -> Shared -> Prop} (hh : A.handled = none) (hl : s.heap.IsList l items) (J : Nat -> Obj -> Prop)
    (hJ0 : ∀ led : Bool, J 0 { cls := .type "set", dict := none, data := .set #[] 0 (.fresh 0 0 led) })
    (hadd : ∀ A' : Around, A'.units <= A.units + 16 -> zrp prog w A' s.heap.objs.size (fun h => ∀ b o, b < s.heap.objs.size -> s.heap.get? b = some o -> h.get? b = some o) (fun i v => items[i]? = some v) items.size J)
    (h : ∀ (h' : Heap) (tk : Nat) (o : Obj), h'.get? s.heap.objs.size = some o -> J items.size o ->
      (∀ b o, b < s.heap.objs.size -> s.heap.get? b = some o -> h'.get? b = some o) -> Q (.ref s.heap.objs.size) { s with heap := h', toks := tk }) :
    wpAny (model prog w) A (call (.type "set") [.ref l]) Q E s := by
  obtain ⟨c, tl, hmro⟩ := F.called_set.mro
  have hmade := F.called_set.made
  have hsub := F.called_set.sub
  refine wpAny_call (codeAny_of_tree ?_)
  show wpAny _ _ (callAny (.type "set") _) _ _ _
  refine wpAny_pure ⟨Code.quiet_builtin _ (by decide +kernel), codeAny_builtin F.entry_type_call ?_⟩
  rw [Around.under_plain (weight_type_call_type "set" [.ref l] []) rfl]
  have h1 := F.called_set.notType
  have h2 := F.called_set.canCreate
  have hct := F.typeCall_set_1 (.ref l)
  repeat (any_goals (first | assumption | wp_step))
  refine codeAny_mono (code_set_new_1 (.ref l) (E := E) (Q₁ := fun obj s₁ => ∃ led : Bool, obj = .ref s.heap.objs.size /\ s₁ = { s with heap := s.heap.push { cls := .type "set", dict := none, data := .set #[] 0 (.fresh 0 0 led) } }) fun led => ⟨led, rfl, rfl⟩) fun r s₁ hr => ?_
  cases r with
  | error e => exact hr
  | ok fl =>
    cases fl with
    | ret obj =>
      obtain ⟨led, rfl, rfl⟩ := hr
      have hS : (s.heap.push { cls := .type "set", dict := none, data := .set #[] 0 (.fresh 0 0 led) }).get? s.heap.objs.size = some { cls := .type "set", dict := none, data := .set #[] 0 (.fresh 0 0 led) } := Heap.get?_push_size _ rfl
      have hT : Shared.TypeIs { s with heap := s.heap.push { cls := .type "set", dict := none, data := .set #[] 0 (.fresh 0 0 led) } } (.ref s.heap.objs.size) "set" := ⟨_, hS, rfl⟩
      have hli := F.called_set.init.lookup
      have hbi := F.called_set.init.bind (.ref s.heap.objs.size)
      repeat (any_goals (first | assumption | wp_step))
      refine codeAny_mono (codeAny_call_builtin (R := wants (fun r s₂ => r = .none /\ ∃ h' tk o, s₂ = { s with heap := h', toks := tk } /\ h'.get? s.heap.objs.size = some o /\ J items.size o /\
          (∀ b o, b < s.heap.objs.size -> s.heap.get? b = some o -> h'.get? b = some o)) E) F.called_set.init.plain F.entry_set_init (check_set_init_1 hT ?_)) fun r₂ s₂ hr₂ => ?_
      · obtain ⟨ol, hol, hcl, nl, hdl⟩ := hl
        obtain ⟨ocls, odict, odata, oslots⟩ := ol
        simp only at hcl hdl
        subst hcl; subst hdl
        have hol' : (s.heap.push { cls := .type "set", dict := none, data := .set #[] 0 (.fresh 0 0 led) }).get? l = some { cls := .type "list", dict := odict, data := .seq items nl, slots := oslots } := Heap.get?_push_of_some _ hol
        have hsls := F.sub_list_set
        have hslf := F.sub_list_frozenset
        have hne : (Value.type "list" == Value.type "dict") = false := by decide
        have hl1 : (s.heap.push { cls := .type "set", dict := none, data := .set #[] 0 (.fresh 0 0 led) }).IsList l items := ⟨_, hol', rfl, nl, rfl⟩
        unfold Builtin.«set.__init__» noKeywords Builtin.Frozenset.updateFrom
        generalize hPI : pyIter = PI
        wp_walk
        subst hPI
        refine wpAny_pyIter_list hl1 ?_
        refine wpAny_bind (wpAny_runValue ?_)
        have hlS : l < s.heap.objs.size := Heap.lt_size hol
        have hh3 : A.in1.in1.in1.handled = none := by simp [hh]
        have hneI : l ≠ (s.heap.push { cls := .type "set", dict := none, data := .set #[] 0 (.fresh 0 0 led) }).objs.size := by
          rw [Heap.size_push]; exact Nat.ne_of_lt (Nat.lt_succ_of_lt hlS)
        have hSf : s.heap.objs.size ∉ [(s.heap.push { cls := .type "set", dict := none, data := .set #[] 0 (.fresh 0 0 led) }).objs.size, l] := by
          rw [Heap.size_push]; simp only [List.mem_cons, List.mem_singleton, List.not_mem_nil, or_false, not_or]
          exact ⟨Nat.ne_of_lt (Nat.lt_succ_self _), Nat.ne_of_gt hlS⟩
        have hget : ((s.heap.push { cls := .type "set", dict := none, data := .set #[] 0 (.fresh 0 0 led) }).push { cls := .type "list_iterator", data := .fields #[.ref l, .int 0 0] }).get? s.heap.objs.size
              = some { cls := .type "set", dict := none, data := .set #[] 0 (.fresh 0 0 led) } := Heap.get?_push_of_some _ hS
        refine zlJ ((Walks.list hh3 _ l hneI items).toS) s.heap.objs.size
          hSf (fun h => ∀ b o, b < s.heap.objs.size -> s.heap.get? b = some o -> h.get? b = some o) (fun h h' hB hk b o hb e => hk b o ?_ (hB b o hb e)) J (hadd _ (by show A.units + 3 <= _; omega)) (items.size - 0) 0 _ _ (by omega) (Nat.zero_le _)
          ⟨⟨_, Heap.get?_push_size _ rfl, rfl, rfl⟩, (hl1.push _)⟩ hget (hJ0 led) (fun b o hb e => Heap.get?_push_of_some _ (Heap.get?_push_of_some _ e)) ?hR
        · have hb1 : b ≠ s.heap.objs.size := Nat.ne_of_lt hb
          have hb2 : b ≠ (s.heap.push { cls := .type "set", dict := none, data := .set #[] 0 (.fresh 0 0 led) }).objs.size := by
            rw [Heap.size_push]; exact Nat.ne_of_lt (Nat.lt_succ_of_lt hb)
          simp only [List.mem_cons, List.mem_singleton, List.not_mem_nil, or_false, not_or]; exact ⟨hb1, hb2⟩
        case hR =>
          intro s' o' hm hS' hJ'
          obtain ⟨h', g', d', tk', os'⟩ := s'
          have eg : g' = s.gens := hm.gens
          have ed : d' = s.drawn := hm.drawn
          have eo : os' = s.os := hm.os
          subst eg; subst ed; subst eo
          show wpAny _ _ _ _ _ _
          refine wpAny_pure ?_
          show wpAny _ _ (ret Value.none) _ _ _
          refine wpAny_pure ⟨rfl, h', tk', o', rfl, hS', hJ', fun b o hb e => ?_⟩
          have hb1 : b ≠ s.heap.objs.size := Nat.ne_of_lt hb
          have hb2 : b ≠ (s.heap.push { cls := .type "set", dict := none, data := .set #[] 0 (.fresh 0 0 led) }).objs.size := by
            rw [Heap.size_push]; exact Nat.ne_of_lt (Nat.lt_succ_of_lt hb)
          exact hm.heap b o (by simp only [List.mem_cons, List.mem_singleton, List.not_mem_nil, or_false, not_or]; exact ⟨hb1, hb2⟩) (Heap.get?_push_of_some _ (Heap.get?_push_of_some _ e))
      · cases r₂ with
        | error e => exact hr₂
        | ok fl₂ =>
          cases fl₂ with
          | ret r =>
            obtain ⟨rfl, h', tk, o', rfl, hS', hJ', hk'⟩ := hr₂
            repeat (any_goals (first | assumption | wp_step))
            exact h _ _ _ hS' hJ' hk'
          | _ => exact hr₂.elim
    | _ => exact hr.elim
end
end ST
end
section
namespace ST
open PySem PySem.Spec PyProof.Rows
def dd {κ : Type} [DecidableEq κ] (l : List κ) : List κ := l.foldl (fun a k => if k ∈ a then a else a ++ [k]) []
theorem ziq {κ : Type} [DecidableEq κ] (l : List κ) (k : κ) : dd (l ++ [k]) = if k ∈ dd l then dd l else dd l ++ [k] := by
  unfold dd; rw [List.foldl_append]; rfl
theorem zhL {κ : Type} [DecidableEq κ] (l : List κ) : (dd l).length <= l.length := by
  have key : ∀ (l a : List κ), (l.foldl (fun a k => if k ∈ a then a else a ++ [k]) a).length <= a.length + l.length := by
    intro l
    induction l with
    | nil => intro a; exact Nat.le_refl _
    | cons k r ih =>
      intro a
      rw [List.foldl_cons]
      refine Nat.le_trans (ih _) ?_
      split
      · simp only [List.length_cons]; omega
      · simp only [List.length_append, List.length_cons, List.length_nil]; omega
  have := key l []
  simpa [dd] using this
section
variable {prog : Program} {w : World} {κ : Type} [DecidableEq κ] {knd : KeyKind prog w κ} {A : Around} {E : Value -> Shared -> Prop} {s : Shared}
theorem zeI {ks : List κ} {a : Addr} {Q : Bool -> Shared -> Prop} (hk : IsTupleKey knd s.heap ks a) (hsc : ∀ v k, knd.is k v = true -> v.scannable = true) (h : ∀ b, Q b s) : wpAny (model prog w) A (hashByValue 8 (.ref a)) Q E s := by
  have hT := hk.typeIs
  obtain ⟨o, items, n, ho, _, hd, hi⟩ := hk
  unfold hashByValue
  refine wpAny_bind (wpAny_specialOf hT F.slot_tuple_hash.lookup ?_)
  refine wpAny_bind (wpAny_seqItems ho hd ?_)
  refine wpAny_bind ?_
  show wpAny _ _ (forIn items _ _) _ _ s
  rw [← Array.forIn_toList]
  have hall : ∀ v ∈ items.toList, v.scannable = true := by
    have : ∀ {x : List κ} {vs : List Value}, ItemsAre knd x vs -> ∀ v ∈ vs, v.scannable = true := by
      intro x vs q
      induction q with
      | nil => intro v hv; cases hv
      | cons h1 _ ih =>
        intro v hv
        rcases List.mem_cons.mp hv with rfl | hv
        · exact hsc _ _ h1
        · exact ih v hv
    exact this hi
  refine wpAny_forIn_list _ (fun zbL r s' => s' = s /\ ∀ v ∈ zbL, v.scannable = true) _ ?_ ?_ _ _ ⟨rfl, hall⟩
  · rintro v zbL r s' ⟨rfl, hv⟩
    rw [hashByValue_scannable _ (hv v List.mem_cons_self)]
    refine wpAny_bind (wpAny_pure ?_)
    cases hp : plainKind v with
    | true =>
      simp only [Bool.not_true, Bool.false_eq_true, if_false]
      exact wpAny_pure ⟨rfl, fun u hu' => hv u (List.mem_cons_of_mem _ hu')⟩
    | false =>
      simp only [Bool.not_false, if_true]
      first | exact wpAny_pure (wpAny_pure (h _)) | exact wpAny_pure (h _) | exact wpAny_bind (wpAny_pure (wpAny_pure (wpAny_pure (h _))))
  · rintro ⟨r1, r2⟩ s' ⟨rfl, _⟩
    first | exact wpAny_pure (h _) | (cases r1 <;> exact wpAny_pure (h _))
theorem zeh {ks : List κ} {a : Addr} {Q : Bool -> Shared -> Prop} (hk : IsTupleKey knd s.heap ks a) (h : Q false s) : wpAny (model prog w) A (ofAClassStatement 8 (.ref a)) Q E s := by
  have hT := hk.typeIs
  obtain ⟨o, items, n, ho, _, hd, hi⟩ := hk
  unfold ofAClassStatement
  refine wpAny_bind (wpAny_typeOf hT ?_)
  dsimp only
  rw [if_pos (by decide)]
  refine wpAny_bind (wpAny_pure ?_)
  simp only [Bool.not_true, Bool.false_eq_true, if_false]
  refine wpAny_bind (wpAny_seqItems ho hd ?_)
  refine wpAny_bind ?_
  show wpAny _ _ (forIn items _ _) _ _ s
  rw [← Array.forIn_toList]
  refine wpAny_forIn_list _ (fun zbL r s' => r.1 = none /\ s' = s /\ ∀ v ∈ zbL, carriedByValue v = true) _ ?_ ?_ _ _ ⟨rfl, rfl, hi.byValue⟩
  · rintro v zbL r s' ⟨hr, rfl, hv⟩
    have e : ofAClassStatement 7 v = pure false := by
      have := hv v List.mem_cons_self
      cases v with
      | ref b => simp [carriedByValue] at this
      | _ => rfl
    rw [e]
    refine wpAny_bind (wpAny_pure ?_)
    simp only [Bool.false_eq_true, if_false]
    exact wpAny_pure ⟨rfl, rfl, fun u hu' => hv u (List.mem_cons_of_mem _ hu')⟩
  · rintro ⟨r1, r2⟩ s' ⟨hr, rfl, _⟩
    simp only at hr
    subst hr
    exact wpAny_pure h
theorem zop {ks : List κ} {a : Addr} {Q : Bool -> Shared -> Prop} (hk : IsTupleKey knd s.heap ks a) (st : List Value) (hst : ∀ y ∈ st, ∃ k b, y = .ref b /\ IsTupleKey knd s.heap k b) (h : Q false s) : wpAny (model prog w) A (searchCouldBeSeen (.ref a) st) Q E s := by
  unfold searchCouldBeSeen
  refine wpAny_bind ?_
  refine wpAny_forIn_list _ (fun zbL r s' => r.1 = none /\ s' = s /\ ∀ y ∈ zbL, ∃ k b, y = .ref b /\ IsTupleKey knd s.heap k b) _ ?_ ?_ _ _ ⟨rfl, rfl, hst⟩
  · rintro v zbL r s' ⟨hr, rfl, hv⟩
    obtain ⟨k, b, rfl, hb⟩ := hv v List.mem_cons_self
    dsimp only
    split
    · exact wpAny_pure ⟨rfl, rfl, fun u hu' => hv u (List.mem_cons_of_mem _ hu')⟩
    · refine wpAny_bind (wpAny_eqIsQuiet_tuple hk ?_)
      simp only [Bool.not_true, Bool.false_eq_true, if_false]
      refine wpAny_bind (wpAny_eqIsQuiet_tuple hb ?_)
      simp only [Bool.not_true, Bool.false_eq_true, if_false]
      refine wpAny_bind (zeh hk ?_)
      simp only [Bool.false_eq_true, if_false]
      refine wpAny_bind (zeh hb ?_)
      simp only [Bool.false_eq_true, if_false]
      exact wpAny_pure ⟨rfl, rfl, fun u hu' => hv u (List.mem_cons_of_mem _ hu')⟩
  · rintro ⟨r1, r2⟩ s' ⟨hr, rfl, _⟩
    simp only at hr
    subst hr
    exact wpAny_pure h
end
end ST
end
section
namespace ST
open PySem PySem.Spec PyProof.Rows
theorem zfq {t : SetTable} {es : Array (Int × Value)} (T : Tb t es) {hashAt : Nat -> Int} {h : Int} {p : SetTable.Probe} {r : Option SetTable.Met} {n n0 : Nat} (hp : t.probe hashAt h p = r) (hpp : p = zcg (it t.mask h n)) (hn : n <= n0) (hn0 : n0 < 10 * (t.mask + 15))
    (hf : J t.mask h n0 ∉ t.place.toList) (ho : ∀ m, m < n0 -> J t.mask h m ∈ t.place.toList) :
    (∃ n' i, n <= n' /\ n' < n0 /\ t.place[i]? = some (J t.mask h n') /\ hashAt i = h /\ (∀ m i, n <= m -> m < n' -> t.place[i]? = some (J t.mask h m) -> hashAt i ≠ h) /\ r = some (.candidate (J t.mask h n') i (zcg (it t.mask h (n' + 1))))) \/
    ((∀ m i, n <= m -> m < n0 -> t.place[i]? = some (J t.mask h m) -> hashAt i ≠ h) /\ r = some (.empty (J t.mask h n0) none)) := by
  subst hpp
  subst hp
  unfold SetTable.probe
  exact T.probe_go hashAt h hf ho (10 * SetTable.turns t.mask) n hn (by unfold SetTable.turns; omega)
theorem zid {t : SetTable} {es : Array (Int × Value)} (T : Tb t es) {hashAt : Nat -> Int} {h : Int} {p : SetTable.Probe} {n n0 : Nat} (hp : ∀ met, t.probe hashAt h p = some met -> False) (hpp : p = zcg (it t.mask h n)) (hn : n <= n0) (hn0 : n0 < 10 * (t.mask + 15))
    (hf : J t.mask h n0 ∉ t.place.toList) (ho : ∀ m, m < n0 -> J t.mask h m ∈ t.place.toList) : False := by
  rcases zfq T (r := t.probe hashAt h p) rfl hpp hn hn0 hf ho with ⟨n', i, _, _, _, _, _, g6⟩ | ⟨_, g2⟩
  · exact hp _ g6
  · exact hp _ g2
section
variable {prog : Program} {w : World} {κ : Type} [DecidableEq κ] {knd : KeyKind prog w κ} {A : Around} {E : Value -> Shared -> Prop} {s : Shared}
def zpU (knd : KeyKind prog w κ) (h : Heap) (es : Array (Int × Value)) : Prop := ∀ (i : Nat) e, es[i]? = some e -> ∃ k b, e = (tupleKeyHash knd k, .ref b) /\ IsTupleKey knd h k b
theorem Mk.odd {M : Nat} (h : Mk M) : (M % 2 == 0) = false := by
  rcases h with rfl | rfl | rfl | rfl <;> rfl
theorem zj9 {S a : Addr} {o : Obj} {es : Array (Int × Value)} {ep : Nat} {t : SetTable} {k : List κ} {n0 : Nat} {Q : SetFound -> Shared -> Prop} (hu : A.units < cLine) (ho : s.heap.get? S = some o) (hd : o.data = .set es ep t) (T : Tb t es) (hM : Mk t.mask)
    (hk : IsTupleKey knd s.heap k a) (he : zpU knd s.heap es) (hf : J t.mask (tupleKeyHash knd k) n0 ∉ t.place.toList) (hocc : ∀ m, m < n0 -> J t.mask (tupleKeyHash knd k) m ∈ t.place.toList) (hn0 : n0 < 10 * (t.mask + 15))
    (hyes : ∀ (i : Nat) (b : Addr), es[i]? = some (tupleKeyHash knd k, .ref b) -> IsTupleKey knd s.heap k b -> Q (.there none) s)
    (hno : (∀ (i : Nat) (b : Addr), es[i]? = some (tupleKeyHash knd k, .ref b) -> ¬ IsTupleKey knd s.heap k b) -> Q (.free (J t.mask (tupleKeyHash knd k) n0) false) s) :
    ∀ (fuel n : Nat) (stand : Option SetTable.Probe), n0 - n < fuel -> n <= n0 -> (stand.getD (t.probeStart (tupleKeyHash knd k)) = zcg (it t.mask (tupleKeyHash knd k) n)) ->
      (∀ (m i : Nat) (b : Addr), m < n -> t.place[i]? = some (J t.mask (tupleKeyHash knd k) m) -> es[i]? = some (tupleKeyHash knd k, .ref b) -> ¬ IsTupleKey knd s.heap k b) ->
      wpAny (model prog w) A (setSearchFrom S (.ref a) (tupleKeyHash knd k) true fuel stand) Q E s := by
  intro fuel
  induction fuel with
  | zero => intro n stand h1; omega
  | succ fuel ih =>
    intro n stand h1 h2 hs hw
    unfold setSearchFrom
    refine wpAny_bind (wpAny_setState_of ho hd T.fits ?_)
    dsimp only
    have hg : t.gaveWay = false := hM.odd
    rw [hg]
    simp only [Bool.false_eq_true, if_false]
    split
    · rename_i met hp
      rcases zfq T hp hs h2 hn0 hf hocc with ⟨n', i, g1, g2, g3, g4, g5, g6⟩ | ⟨g1, g2⟩
      · cases g6
        have hi : i < es.size := by
          have := (Array.getElem?_eq_some_iff.mp g3).1
          rw [T.sz] at this
          exact this
        have hei : es[i]? = some es[i] := by simp [hi]
        obtain ⟨k', b, e1, hb⟩ := he i _ hei
        rw [e1] at hei
        have hh : tupleKeyHash knd k' = tupleKeyHash knd k := by
          have g4' : ((es[i]?).map (·.1)).getD 0 = tupleKeyHash knd k := g4
          rw [hei] at g4'
          exact g4'
        rw [hh] at hei
        have zbL : wpAny (model prog w) A (do
            let some (_, y) := es[i]? | unsupported "internal:set-entry"
            let equal ← holding [y] (eqBool y (.ref a))
            let (es', _, t') ← setState S
            if true && equal then return .there none
            let some same := t'.sameMemory t.moves t.mask | unsupported "set.changed-during-lookup:is-the-new-block-at-the-old-address"
            let still ← match (if same then t'.slot (J t.mask (tupleKeyHash knd k) n') else .empty) with
              | .live i' => match es'[i']? with
                | some (_, y') => do pure (if ← isSame y' y then some i' else none)
                | none => pure none
              | _ => pure none
            match still with
            | none => rule "set.search.anew"; setSearchFrom S (.ref a) (tupleKeyHash knd k) true fuel none
            | some i' => if equal then return .there (some i') else setSearchFrom S (.ref a) (tupleKeyHash knd k) true fuel (some (zcg (it t.mask (tupleKeyHash knd k) (n' + 1))))) Q E s := by
          rw [hei]
          dsimp only
          refine wpAny_bind (wpAny_holding (wpAny_eqBool_tuple hu hb hk ?_))
          refine wpAny_bind (wpAny_setState_of ho hd T.fits ?_)
          dsimp only
          by_cases hkk : k' = k
          · subst hkk
            rw [decide_eq_true rfl]
            simp only [Bool.true_and, if_true]
            exact wpAny_pure (hyes i b hei hb)
          · rw [decide_eq_false hkk]
            simp only [Bool.true_and, Bool.false_eq_true, if_false]
            have hsm : t.sameMemory t.moves t.mask = some true := by unfold SetTable.sameMemory; simp
            rw [hsm]
            dsimp only
            simp only [if_true]
            rw [T.live g3]
            dsimp only
            rw [hei]
            dsimp only
            refine wpAny_bind (wpAny_isSame_ref_self ?_)
            simp only [if_true]
            refine wpAny_bind (wpAny_pure ?_)
            dsimp only
            refine ih (n' + 1) _ (by omega) (by omega) rfl ?_
            intro m i2 b2 hm hp2 he2
            by_cases h3 : m < n
            · exact hw m i2 b2 h3 hp2 he2
            · by_cases h4 : m = n'
              · subst h4
                have ei : i2 = i := by
                  have q1 := T.live hp2
                  have q2 := T.live g3
                  rw [q1] at q2
                  injection q2
                subst ei
                rw [hei] at he2
                cases he2
                exact fun z => hkk (hb.inj z)
              · exfalso
                refine g5 m i2 (by omega) (by omega) hp2 ?_
                show ((es[i2]?).map (·.1)).getD 0 = _
                rw [he2]
                rfl
        cases hled : t.led with
        | true =>
          simp only [Bool.not_true, Bool.false_eq_true, if_false]
          exact zbL
        | false =>
          simp only [Bool.not_false, if_true]
          refine wpAny_bind (zop hk _ (fun y hy => ?_) ?_)
          · obtain ⟨e, he1, rfl⟩ := List.mem_map.mp hy
            have he2 : e ∈ es.toList := by
              have := Array.mem_toList_iff.mp he1
              rw [Array.mem_filter] at this
              exact Array.mem_toList_iff.mpr this.1
            obtain ⟨j, hj, ej⟩ := List.mem_iff_getElem.mp he2
            obtain ⟨k2, b2, q1, q2⟩ := he j e (by rw [← Array.getElem?_toList, List.getElem?_eq_getElem hj, ej])
            exact ⟨k2, b2, by rw [q1], q2⟩
          · simp only [Bool.false_eq_true, if_false]
            exact zbL
      · cases g2
        dsimp only
        refine wpAny_pure (hno fun i b hei hb => ?_)
        have hi : i < es.size := (Array.getElem?_eq_some_iff.mp hei).1
        have hpi : t.place[i]? = some t.place[i]! := by
          have : i < t.place.size := by rw [T.sz]; exact hi
          simp [this]
        obtain ⟨m, q1, q2⟩ := T.rc i _ _ _ hpi hei
        have hmem : J t.mask (tupleKeyHash knd k) m ∈ t.place.toList := by
          rw [q1]
          rw [← Array.getElem?_toList] at hpi
          exact List.mem_of_getElem? hpi
        have hm : m < n0 := by
          rcases Nat.lt_trichotomy m n0 with z | z | z
          · exact z
          · subst z; exact absurd hmem hf
          · exact absurd (q2 n0 z) hf
        by_cases h3 : m < n
        · exact hw m i b h3 (by rw [q1]; exact hpi) hei hb
        · refine g1 m i (by omega) hm (by rw [q1]; exact hpi) ?_
          show ((es[i]?).map (·.1)).getD 0 = _
          rw [hei]
          rfl
    · rename_i hp
      exact (zid T hp hs h2 hn0 hf hocc).elim
structure TS (knd : KeyKind prog w κ) (h : Heap) (ks : List (List κ)) (o : Obj) : Prop where
  cls : o.ExactSet
  ex : ∃ es ep t, o.data = .set es ep t /\ Tb t es /\ Mk t.mask /\ zpU knd h es /\ es.size = (dd ks).length /\ (∀ k ∈ dd ks, ∃ (i : Nat) (b : Addr), es[i]? = some (tupleKeyHash knd k, .ref b) /\ IsTupleKey knd h k b) /\ ∀ (i : Nat) (k : List κ) (b : Addr), es[i]? = some (tupleKeyHash knd k, .ref b) -> IsTupleKey knd h k b -> k ∈ dd ks
theorem IsTupleKey.mono {h h' : Heap} {k : List κ} {a : Addr} (x : IsTupleKey knd h k a) (q : ∀ o, h.get? a = some o -> h'.get? a = some o) : IsTupleKey knd h' k a := by
  obtain ⟨o, items, n, h1, h2⟩ := x
  exact ⟨o, items, n, q o h1, h2⟩
theorem zdW {es : Array (Int × Value)} {e : Int × Value} : e ∈ es.toList ↔ ∃ i : Nat, es[i]? = some e := by
  constructor
  · intro h
    obtain ⟨i, hi, q⟩ := List.mem_iff_getElem.mp h
    exact ⟨i, by rw [← Array.getElem?_toList, List.getElem?_eq_getElem hi, q]⟩
  · rintro ⟨i, h⟩
    rw [← Array.getElem?_toList] at h
    exact List.mem_of_getElem? h
theorem znJ {h0 : Heap} {ks : List (List κ)} {k : List κ} {a : Addr} {es es' : Array (Int × Value)} (hk : IsTupleKey knd h0 k a) (hE : zpU knd h0 es) (hsz : es.size = (dd ks).length) (hin : ∀ k ∈ dd ks, ∃ (i : Nat) (b : Addr), es[i]? = some (tupleKeyHash knd k, .ref b) /\ IsTupleKey knd h0 k b)
    (hout : ∀ (i : Nat) (k : List κ) (b : Addr), es[i]? = some (tupleKeyHash knd k, .ref b) -> IsTupleKey knd h0 k b -> k ∈ dd ks) (hnew : k ∉ dd ks) (mem : ∀ e, e ∈ es'.toList ↔ e = (tupleKeyHash knd k, .ref a) \/ e ∈ es.toList) (size : es'.size = es.size + 1) :
    zpU knd h0 es' /\ es'.size = (dd (ks ++ [k])).length /\ (∀ k' ∈ dd (ks ++ [k]), ∃ (i : Nat) (b : Addr), es'[i]? = some (tupleKeyHash knd k', .ref b) /\ IsTupleKey knd h0 k' b) /\ ∀ (i : Nat) (k' : List κ) (b : Addr), es'[i]? = some (tupleKeyHash knd k', .ref b) -> IsTupleKey knd h0 k' b -> k' ∈ dd (ks ++ [k]) := by
  rw [ziq, if_neg hnew]
  refine ⟨fun i e he => ?_, by rw [size, hsz, List.length_append, List.length_singleton], fun k' hk' => ?_, fun i k' b he hb => ?_⟩
  · rcases (mem e).mp (zdW.mpr ⟨i, he⟩) with rfl | q
    · exact ⟨k, a, rfl, hk⟩
    · obtain ⟨j, q⟩ := zdW.mp q
      exact hE j e q
  · rcases List.mem_append.mp hk' with q | q
    · obtain ⟨i, b, q1, q2⟩ := hin k' q
      obtain ⟨j, q3⟩ := zdW.mp ((mem _).mpr (.inr (zdW.mpr ⟨i, q1⟩)))
      exact ⟨j, b, q3, q2⟩
    · rw [List.mem_singleton.mp q]
      obtain ⟨j, q3⟩ := zdW.mp ((mem _).mpr (.inl rfl))
      exact ⟨j, a, q3, hk⟩
  · rcases (mem _).mp (zdW.mpr ⟨i, he⟩) with q | q
    · have e : b = a := by have := (Prod.mk.inj q).2; injection this
      subst e
      exact List.mem_append.mpr (.inr (List.mem_singleton.mpr (hb.inj hk)))
    · obtain ⟨j, q⟩ := zdW.mp q
      exact List.mem_append.mpr (.inl (hout j k' b q hb))
theorem zf9 {h : Heap} {S : Addr} {o : Obj} {es es' : Array (Int × Value)} {ep : Nat} {t t' : SetTable} (ho : h.get? S = some o) (hd : o.data = .set es ep t) : (h.update S (Obj.putSet es' t')).get? S = some { o with data := .set es' (ep + 1) t' } := by
  have q := Heap.get?_update_self (Obj.putSet es' t') ho (by rw [putSet_of es' t' hd]; rfl)
  rwa [putSet_of es' t' hd] at q
set_option maxHeartbeats 1000000 in
theorem zlt {S a : Addr} {o : Obj} {h0 : Heap} {ks : List (List κ)} {k : List κ} {Q : Bool -> Shared -> Prop} (hsc : ∀ v k, knd.is k v = true -> v.scannable = true) (hu : A.units < cLine) (ho : s.heap.get? S = some o) (T : TS knd h0 ks o) (hk : IsTupleKey knd h0 k a)
    (hB : ∀ b o, h0.get? b = some o -> s.heap.get? b = some o) (hlen : ks.length <= 300)
    (h : ∀ b h' tk o', s.toks <= tk -> Heap.SameBut S s.heap h' -> h'.get? S = some o' -> TS knd h0 (ks ++ [k]) o' -> Q b { s with heap := h', toks := tk }) : wpAny (model prog w) A (setAdd S (.ref a)) Q E s := by
  obtain ⟨hc, es, ep, t, hd, TB, hM, hE, hsz, hin, hout⟩ := T
  have up : ∀ {k : List κ} {b : Addr}, IsTupleKey knd h0 k b -> IsTupleKey knd s.heap k b := fun q => IsTupleKey.mono q fun o e => hB _ _ e
  have down : ∀ {k k' : List κ} {b : Addr}, IsTupleKey knd h0 k' b -> IsTupleKey knd s.heap k b -> k = k' := fun q1 q2 => q2.inj (up q1)
  have hE' : zpU knd s.heap es := fun i e he => by
    obtain ⟨k, b, q1, q2⟩ := hE i e he
    exact ⟨k, b, q1, up q2⟩
  have hddl := zhL ks
  obtain ⟨n0, f1, f2, f3⟩ := TB.first (tupleKeyHash knd k)
  unfold setAdd
  refine wpAny_holding (wpAny_bind (wpAny_pyHash_tuple hu (up hk) ?_))
  unfold setAddHashed setAddHashedIn
  refine wpAny_holding (wpAny_bind (wpAny_setState_of (s := { s with toks := s.toks + (k.length + 1) }) ho hd TB.fits ?_))
  dsimp only
  rw [show byScan (.ref a) es = false from rfl]
  simp only [Bool.false_eq_true, if_false]
  unfold setSearch
  refine wpAny_bind (zj9 (s := { s with toks := s.toks + (k.length + 1) }) hu ho hd TB hM (up hk) hE' f2 f3 f1 (fun i b hei hb => ?_) (fun hall => ?_) 100000 0 none ?_ (Nat.zero_le _) rfl (fun m i b hm => by omega))
  ·
    dsimp only
    obtain ⟨k', b', q1, q2⟩ := hE i _ hei
    have : b' = b := by
      have := (Prod.mk.inj q1).2
      injection this with e
      exact e.symm
    subst this
    have ek := down q2 hb
    subst ek
    have hmem := hout i k _ hei q2
    refine wpAny_pure (h false s.heap _ o (by show s.toks <= s.toks + (k.length + 1); omega) (Heap.SameBut.refl S s.heap) ho ⟨hc, es, ep, t, hd, TB, hM, hE, ?_⟩)
    rw [ziq, if_pos hmem]
    exact ⟨hsz, hin, hout⟩
  ·
    dsimp only
    have hnew : k ∉ dd ks := fun hm => by
      obtain ⟨i, b, q1, q2⟩ := hin k hm
      exact hall i b q1 (up q2)
    have hpl : SetTable.below t.place (J t.mask (tupleKeyHash knd k) n0) <= es.size := by
      have := (zg4 t.place (J t.mask (tupleKeyHash knd k) n0) TB.ri).1
      rw [TB.sz] at this
      exact this
    have hmaskle : t.mask <= 511 := by rcases hM with e | e | e | e <;> omega
    have hmem : ∀ e, e ∈ (SetTable.insertAt es (SetTable.below t.place (J t.mask (tupleKeyHash knd k) n0)) (tupleKeyHash knd k, Value.ref a)).toList ↔ e = (tupleKeyHash knd k, Value.ref a) \/ e ∈ es.toList := fun e => by
      rw [zbY _ _ _ hpl]
      exact zeH _ _ _ _
    have hsize : (SetTable.insertAt es (SetTable.below t.place (J t.mask (tupleKeyHash knd k) n0)) (tupleKeyHash knd k, Value.ref a)).size = es.size + 1 := by
      have := congrArg List.length (zbY es _ (tupleKeyHash knd k, Value.ref a) hpl)
      simp only [Array.length_toList, List.length_append, List.length_cons, List.length_take, List.length_drop] at this
      omega
    have hpsz : (SetTable.insertAt t.place (SetTable.below t.place (J t.mask (tupleKeyHash knd k) n0)) (J t.mask (tupleKeyHash knd k) n0)).size = es.size + 1 := by
      have := congrArg List.length (zbY t.place _ (J t.mask (tupleKeyHash knd k) n0) (by rw [TB.sz]; exact hpl))
      have h3 := TB.sz
      simp only [Array.length_toList, List.length_append, List.length_cons, List.length_take, List.length_drop] at this
      omega
    refine wpAny_bind (wpAny_setState_of (s := { s with toks := s.toks + (k.length + 1) }) ho hd TB.fits ?_)
    dsimp only
    have fin : ∀ (es' : Array (Int × Value)) (t' : SetTable) (h' : Heap) (o' : Obj), Tb t' es' -> Mk t'.mask -> (∀ e, e ∈ es'.toList ↔ e = (tupleKeyHash knd k, Value.ref a) \/ e ∈ es.toList) -> es'.size = es.size + 1 -> Heap.SameBut S s.heap h' -> h'.get? S = some o' -> o'.ExactSet -> (∃ ep', o'.data = .set es' ep' t') -> Q true { s with heap := h', toks := s.toks + (k.length + 1) } := fun es' t' h' o' q1 q2 q3 q4 q5 q6 q7 q8 => by
      obtain ⟨ep', q8⟩ := q8
      obtain ⟨w1, w2, w3, w4⟩ := znJ hk hE hsz hin hout hnew q3 q4
      exact h true h' _ o' (by omega) q5 q6 ⟨q7, es', ep', t', q8, q1, q2, w1, w2, w3, w4⟩
    have zbL : ∀ pl : Bool, wpAny (model prog w) A (do
        storeSet S (SetTable.insertAt es (t.put (J t.mask (tupleKeyHash knd k) n0)).2 (tupleKeyHash knd k, Value.ref a)) { (t.put (J t.mask (tupleKeyHash knd k) n0)).1 with plain := pl }
        if (!false && SetTable.tooFull { (t.put (J t.mask (tupleKeyHash knd k) n0)).1 with plain := pl }) = true then do
          setRelay S (SetTable.grown (es.size + 1))
          pure true
        else pure true) Q E { s with toks := s.toks + (k.length + 1) } := fun pl => by
      refine wpAny_bind (wpAny_storeSet_of (s := { s with toks := s.toks + (k.length + 1) }) ho hd ?_ (by show (SetTable.insertAt es (SetTable.below t.place (J t.mask (tupleKeyHash knd k) n0)) (tupleKeyHash knd k, Value.ref a)).size <= sizeLine; rw [hsize, sizeLine_eq]; omega))
      have hg1 := zf9 (es' := SetTable.insertAt es (t.put (J t.mask (tupleKeyHash knd k) n0)).2 (tupleKeyHash knd k, Value.ref a)) (t' := { (t.put (J t.mask (tupleKeyHash knd k) n0)).1 with plain := pl }) ho hd
      have hsb1 := Heap.SameBut.update s.heap S (Obj.putSet (SetTable.insertAt es (t.put (J t.mask (tupleKeyHash knd k) n0)).2 (tupleKeyHash knd k, Value.ref a)) { (t.put (J t.mask (tupleKeyHash knd k) n0)).1 with plain := pl })
      have hdum : (t.put (J t.mask (tupleKeyHash knd k) n0)).1.dummies = #[] := by
        show (if SetTable.has t.dummies _ then _ else t.dummies) = #[]
        rw [TB.dm]
        rfl
      have hfill : SetTable.fill { (t.put (J t.mask (tupleKeyHash knd k) n0)).1 with plain := pl } = es.size + 1 := by
        show (SetTable.insertAt t.place _ _).size + (t.put (J t.mask (tupleKeyHash knd k) n0)).1.dummies.size = _
        rw [hdum]
        exact hpsz
      by_cases few : (es.size + 1) * 5 < t.mask * 3
      · have hfull : SetTable.tooFull { (t.put (J t.mask (tupleKeyHash knd k) n0)).1 with plain := pl } = false := by
          unfold SetTable.tooFull
          rw [hfill]
          exact decide_eq_false (by show ¬ ((es.size + 1) * 5 ≥ t.mask * 3); omega)
        rw [hfull]
        simp only [Bool.not_false, Bool.and_false, Bool.false_eq_true, if_false]
        refine wpAny_pure (fin _ _ _ _ (TB.put (x := .ref a) f2 f3 few pl) hM hmem hsize hsb1 hg1 hc ⟨_, rfl⟩)
      · have hfull : SetTable.tooFull { (t.put (J t.mask (tupleKeyHash knd k) n0)).1 with plain := pl } = true := by
          unfold SetTable.tooFull
          rw [hfill]
          exact decide_eq_true (by show ((es.size + 1) * 5 ≥ t.mask * 3); omega)
        rw [hfull]
        simp only [Bool.not_false, Bool.and_true, if_true]
        obtain ⟨m1, m2, m3⟩ := hM.grow TB.few few (by omega)
        have hes1 : (SetTable.insertAt es (t.put (J t.mask (tupleKeyHash knd k) n0)).2 (tupleKeyHash knd k, Value.ref a)).size = es.size + 1 := hsize
        obtain ⟨t', order, r1, r2, r3, r4, r5, r6⟩ := Full.relaid (t := { (t.put (J t.mask (tupleKeyHash knd k) n0)).1 with plain := pl }) (es := SetTable.insertAt es (t.put (J t.mask (tupleKeyHash knd k) n0)).2 (tupleKeyHash knd k, Value.ref a)) m1.full (by rw [hes1]; exact m2)
        unfold setRelay
        have hfits : SetTable.fits { (t.put (J t.mask (tupleKeyHash knd k) n0)).1 with plain := pl } (SetTable.insertAt es (t.put (J t.mask (tupleKeyHash knd k) n0)).2 (tupleKeyHash knd k, Value.ref a)).size = true := by
          unfold SetTable.fits
          rw [hfill, hes1, Bool.and_eq_true]
          have := TB.few
          exact ⟨by rw [beq_iff_eq]; exact hpsz, decide_eq_true (by show es.size + 1 <= t.mask; omega)⟩
        refine wpAny_bind ?_
        refine wpAny_bind (wpAny_setState_of (s := { s with heap := _, toks := s.toks + (k.length + 1) }) hg1 rfl hfits ?_)
        dsimp only
        rw [if_neg (by rw [sizeLine_eq]; omega), r1]
        refine wpAny_bind ?_
        show wpAny _ _ (if ((order.filterMap ((SetTable.insertAt es (t.put (J t.mask (tupleKeyHash knd k) n0)).2 (tupleKeyHash knd k, Value.ref a))[·]?)).size != (SetTable.insertAt es (t.put (J t.mask (tupleKeyHash knd k) n0)).2 (tupleKeyHash knd k, Value.ref a)).size) = true then _ else _) _ _ _
        rw [if_neg (by rw [r2]; simp)]
        refine wpAny_pure ?_
        dsimp only
        refine wpAny_storeSet_of (s := { s with heap := _, toks := s.toks + (k.length + 1) }) hg1 rfl ?_ (by rw [r2, hes1, sizeLine_eq]; omega)
        refine wpAny_pure (fin _ t' _ _ r3 (by rw [r5]; exact m1) (fun e => (r4 e).trans (hmem e)) (by rw [r2, hes1]) (hsb1.trans (Heap.SameBut.update _ S _)) (zf9 hg1 rfl) hc ⟨_, rfl⟩)
    split
    · refine wpAny_bind (zeI (s := { s with toks := s.toks + (k.length + 1) }) (up hk) hsc fun bv => ?_)
      cases bv
      · exact zbL false
      · exact zbL _
    · refine wpAny_bind (wpAny_pure ?_)
      exact zbL _
  · show n0 - 0 < 100000
    have : t.mask <= 511 := by rcases hM with e | e | e | e <;> omega
    omega
end
end ST
end
section
namespace L2
open PySem PySem.Spec PyProof.Rows ST
instance (priority := high) keyBEq : BEq Key := instBEqOfDecidableEq
instance (priority := high) keyLaw : LawfulBEq Key := inferInstanceAs (@LawfulBEq Key instBEqOfDecidableEq)
def zrn (n : Nat) (o : Obj) : Prop := o.ExactSet /\ ∃ es ep t, o.data = .set es ep t /\ t.fits es.size = true /\ es.size = n
def zm4 (p : Addr) (n : Nat) : HO := .ext fun h => ∃ o, h.get? p = some o /\ zrn n o
section
variable {X : Cx}
theorem ziS {P : Program} {w : World} (v : Value) (k : Key) (h : (zaZ P w).is k v = true) : v.scannable = true := by
  rcases zbh h with ⟨i, t, rfl, rfl⟩ | ⟨x, t, rfl, rfl⟩ <;> rfl
def zrH : List V -> Hp -> VK -> Prop := fun xs H Q => ∃ a vs, xs = [.ref a] /\ H a = some (.lst vs) /\ vs.length <= 300 /\
  ((∃ ks : List Key, vs = ks.map kV /\ ∀ p, H p = none -> Q (.ref p) (upd H p (zm4 p (dd ks).length))) \/
   (∃ ts : List (List Key), vs.length = ts.length /\ (∀ (i : Nat) t, ts[i]? = some t -> ∃ b, vs[i]? = some (.ref b) /\ H b = some (.tup (t.map kV))) /\ ∀ p, H p = none -> Q (.ref p) (upd H p (zm4 p (dd ts).length))))
theorem zmC (hc : X.calm = true) (hu : X.A.units + 66 < cLine) : zfb X (.type "set") zrH := by
  intro pins s σ H xs us Q I r h
  obtain ⟨a, vs, rfl, ha, hl, h⟩ := h
  obtain ⟨u, rfl, ru⟩ := zha r
  cases ru
  obtain ⟨its, rv, pl, hz⟩ := I.list (.inl (.inl ha))
  have hlen := rv.length
  have hsz : its.toArray.size = vs.length := by rw [List.size_toArray, hlen]
  have fin : ∀ (n : Nat) (h' : Heap) (tk : Nat) (o : Obj), h'.get? s.heap.objs.size = some o -> zrn n o -> (∀ b o, b < s.heap.objs.size -> s.heap.get? b = some o -> h'.get? b = some o) ->
      (∀ p, H p = none -> Q (.ref p) (upd H p (zm4 p n))) -> EP X pins σ Q (.ref s.heap.objs.size) { s with heap := h', toks := tk } := fun n h' tk o ho hn hk q => by
    refine ⟨.ref s.heap.objs.size, _, I.laid (a := s.heap.objs.size) (o := zm4 s.heap.objs.size n) (fun b u e => hk b u (Heap.lt_size e) e) (Nat.le_refl _) ?_, rfl, q _ I.fresh⟩
    refine ⟨⟨o, ho, hn⟩, ⟨o, ho⟩, fun h1 h2 hp hk2 => ?_⟩
    obtain ⟨o1, q1, q2⟩ := hp
    exact ⟨o1, hk2 o1 q1, q2⟩
  rcases h with ⟨ks, rfl, q⟩ | ⟨ts, ht, hts, q⟩
  ·
    have hkl : ks.length = its.length := by rw [← hlen, List.length_map]
    refine ze0 (I.ok.hd hc) pl.isList (fun i o => o.SetObjOf (zaZ X.prog X.w) (fun k => decide (k ∈ dd (ks.take i))) (dd (ks.take i)).length) (fun led => ?_) (fun A' hA' i v sh o Q' E' hi hv ho hJ hB hQ => ?_) fun h' tk o ho hJ hk => ?_
    · have := setObjOf_fresh (knd := zaZ X.prog X.w) led
      simpa [dd] using this
    · have hi' : i < ks.length := by rw [List.size_toArray] at hi; omega
      obtain ⟨u2, hu2, ru2⟩ := rv.get (i := i) (x := kV ks[i]) (by simp [hi'])
      have ev : v = u2 := by
        have hv' : its[i]? = some v := by simpa using hv
        rw [hu2] at hv'
        exact (Option.some.inj hv').symm
      subst ev
      have hkey := zma (P := X.prog) (w := X.w) ru2
      have hle : (dd (ks.take i)).length <= 300 := by
        have h1 := zhL (ks.take i)
        rw [List.length_take] at h1
        rw [List.length_map] at hl
        omega
      unfold setAdd
      refine wpAny_holding (wpAny_bind ((zaZ X.prog X.w).pyHash hkey ?_))
      refine wpAny_setAddHashed_of (knd := zaZ X.prog X.w) (s := { sh with toks := sh.toks + 1 }) hkey (ziS _ _ hkey) (hJ.setOf ho (by unfold scanBound; omega)) (by unfold scanBound; omega) fun h' hsb hS2 => ?_
      obtain ⟨o', ho', hso⟩ := hS2.objOf
      refine hQ _ h' _ o' (Nat.le_succ _) hsb ho' ?_
      have htk : ks.take (i + 1) = ks.take i ++ [ks[i]] := by rw [List.take_succ, List.getElem?_eq_getElem hi']; rfl
      show Obj.SetObjOf (zaZ X.prog X.w) o' (fun k => decide (k ∈ dd (List.take (i + 1) ks))) (dd (List.take (i + 1) ks)).length
      rw [htk, ziq]
      by_cases hm : ks[i] ∈ dd (ks.take i)
      · rw [if_pos hm]
        rw [if_pos (by simpa using hm)] at hso
        have e : (fun k' => decide (k' ∈ dd (ks.take i)) || decide (k' = ks[i])) = fun k' => decide (k' ∈ dd (ks.take i)) := by
          funext k'
          by_cases hk' : k' = ks[i]
          · subst hk'; simp [hm]
          · simp [hk']
        rw [e] at hso
        exact hso
      · rw [if_neg hm]
        rw [if_neg (by simpa using hm)] at hso
        have e : (fun k' => decide (k' ∈ dd (ks.take i)) || decide (k' = ks[i])) = fun k' => decide (k' ∈ dd (ks.take i) ++ [ks[i]]) := by
          funext k'
          rw [Bool.eq_iff_iff]
          simp
        rw [e] at hso
        simpa using hso
    · have e : ks.take its.toArray.size = ks := by rw [List.size_toArray, ← hkl]; exact List.take_length
      rw [e] at hJ
      have hS := hJ.setOf ho (by have := zhL ks; rw [List.length_map] at hl; unfold scanBound; omega)
      obtain ⟨o1, es, ep, t, v0, v1, v2, _, _, _, v3, v4⟩ := hS
      rw [ho] at v0
      cases v0
      exact fin _ h' tk o ho ⟨v1, es, ep, t, v2, v3, v4⟩ hk q
  ·
    have hkl : ts.length = its.length := by rw [← hlen, ht]
    refine ze0 (I.ok.hd hc) pl.isList (fun i o => ST.TS (zaZ X.prog X.w) s.heap (ts.take i) o) (fun led => ?_) (fun A' hA' i v sh o Q' E' hi hv ho hJ hB hQ => ?_) fun h' tk o ho hJ hk => ?_
    · refine ⟨⟨rfl, rfl, rfl⟩, #[], 0, SetTable.fresh 0 0 led, rfl, ?_, .inl rfl, fun i e he => by simp at he, rfl, fun k hk => by simp [dd] at hk, fun i k b he => by simp at he⟩
      exact ⟨zpz, rfl, rfl, by simp [SetTable.fresh], by simp [SetTable.fresh], by simp [SetTable.fresh], fun i j h x hp => by simp [SetTable.fresh] at hp⟩
    · have hi' : i < ts.length := by rw [List.size_toArray] at hi; omega
      obtain ⟨b, hb1, hb2⟩ := hts i ts[i] (by simp [hi'])
      obtain ⟨u2, hu2, ru2⟩ := rv.get hb1
      have ev : v = u2 := by
        have hv' : its[i]? = some v := by simpa using hv
        rw [hu2] at hv'
        exact (Option.some.inj hv').symm
      subst ev
      cases ru2
      have hkey := ziW I.hok hb2
      have htk : ts.take (i + 1) = ts.take i ++ [ts[i]] := by rw [List.take_succ, List.getElem?_eq_getElem hi']; rfl
      refine zlt (fun v k => ziS v k) (by omega) ho hJ hkey (fun b' o' e => hB b' o' (Heap.lt_size e) e) (by rw [List.length_take]; have := hl; omega) fun bb h' tk o' h1 h2 h3 h4 => hQ bb h' tk o' h1 h2 h3 (by show ST.TS _ _ (List.take (i + 1) ts) o'; rw [htk]; exact h4)
    · have e : ts.take its.toArray.size = ts := by rw [List.size_toArray, ← hkl]; exact List.take_length
      rw [e] at hJ
      obtain ⟨hc', es, ep, t, w1, w2, w3, w4, w5, w6, w7⟩ := hJ
      exact fin _ h' tk o ho ⟨hc', es, ep, t, w1, w2.fits, w5⟩ hk q
theorem zis : zfb X (.builtin "len") (fun xs H Q => ∃ p n, xs = [.ref p] /\ H p = some (zm4 p n) /\ n <= 300 /\ Q (.int n) H) := by
  intro pins s σ H xs us Q I r h
  obtain ⟨p, n, rfl, hp, hn, q⟩ := h
  obtain ⟨u, rfl, ru⟩ := zha r
  cases ru
  obtain ⟨⟨o, ho, hex, es, ep, t, w1, w2, w3⟩, _, _⟩ := I.hok p _ hp
  exact call_len_set ho hex w1 w2 (by omega) ⟨.int n, H, I.tok _, ⟨_, by rw [w3]⟩, q⟩
end
end L2
end
section
namespace L2
open PySem PySem.Spec PyProof.Rows ST
def zdO : List D -> Option (List (List Key))
  | [] => some []
  | .tup t :: r => (ze7 t).bind fun k => (zdO r).map (k :: ·)
  | _ :: _ => none
theorem zf8 {Γ : Cn} {K : PySem.W.Frag} {G H : Hp} (gh : zbw G H) : ∀ {vs : List V} {ds : List D} {ts : List (List Key)}, Reps Γ K G vs ds -> zdO ds = some ts -> vs.length = ts.length /\ ∀ (i : Nat) t, ts[i]? = some t -> ∃ b, vs[i]? = some (.ref b) /\ H b = some (.tup (t.map kV))
  | _, [], ts, r, h => by cases r; cases h; exact ⟨rfl, fun i t e => by simp at e⟩
  | _, d :: ds, ts, .cons h1 h2, h => by
    cases d with
    | tup t =>
      unfold zdO at h
      obtain ⟨k, hk, h⟩ := Option.bind_eq_some_iff.mp h
      obtain ⟨zs, hz, rfl⟩ := Option.map_eq_some_iff.mp h
      obtain ⟨a, us, rfl, ha, ra⟩ := h1.tup_inv
      have e := zej ra hk
      subst e
      obtain ⟨q1, q2⟩ := zf8 gh h2 hz
      refine ⟨by rw [List.length_cons, List.length_cons, q1], fun i t' e => ?_⟩
      cases i with
      | zero => cases e; exact ⟨a, rfl, gh _ _ ha⟩
      | succ i => exact q2 i t' e
    | _ => cases h
def zeF : D -> Option D
  | .lst l => if l.length <= 300 then match ze7 l with
    | some ks => some (.int (dd ks).length)
    | none => (zdO l).map fun ts => .int (dd ts).length
    else none
  | _ => none
section
variable {Γ : Cn} {X : Cx} {e : Expr} {f : FE} {pos p p2 pos2 : Pos}
theorem zlc (hc : X.calm = true) (hu : X.A.units + 66 < cLine) (hgl : Gl X "len") (hml : X.mg "len" = none) (hgs : Gl X "set") (hms : X.mg "set" = none) (h : DE Γ X e f)
    (h1 : starEach ([.Call (.Name "set" p2) [e] [] pos2] : List Expr) X.env = (false, eval (.Call (.Name "set" p2) [e] [] pos2) X.env) :: starEach [] X.env := by rfl) (h2 : (backTo pos (starEach [] X.env)).any (·.1) = false := by rfl)
    (h3 : starEach ([e] : List Expr) X.env = (false, eval e X.env) :: starEach [] X.env := by rfl) (h4 : (backTo pos2 (starEach [] X.env)).any (·.1) = false := by rfl) :
    DE Γ X (.Call (.Name "len" p) [.Call (.Name "set" p2) [e] [] pos2] [] pos) (b1 zeF f) := ⟨by
  refine (zeg zis hgl hml (by rfl) (zbq (zht (zmC hc hu) hgs hms (by rfl) (zbq h.1 zdK h3) (by decide) (by decide) h3 h4) zdK h1) (by decide) (by decide) h1 h2).imp fun σ H Q => ?_
  rintro ⟨G₀, H₀, G, ρ, d, A, hq, k⟩
  unfold b1 at hq
  obtain ⟨x, hx, hl⟩ := Option.bind_eq_some_iff.mp hq
  clear hq
  refine ⟨G₀, H₀, G, ρ, x, A, hx, fun v G1 H1 s1 r1 => ?_⟩
  unfold zeF at hl
  split at hl
  · rename_i l
    split at hl
    · rename_i hz
      obtain ⟨a, vs, rfl, ha, ra⟩ := r1.lst_inv
      have go : ∀ (n : Nat), n <= 300 -> d = .int n -> ∀ p, H1 p = none -> ∃ p' n', [V.ref p] = [V.ref p'] /\ (upd H1 p (zm4 p n)) p' = some (zm4 p' n') /\ n' <= 300 /\ Q (.int n') (upd H1 p (zm4 p n)) := fun n hn ed p hp => by
        subst ed
        refine ⟨p, n, rfl, zaw, hn, k _ G1 _ (s1.trans (Step.newOwn s1.gh hp)) (.int _)⟩
      refine ⟨a, vs, rfl, s1.gh _ _ ha, by rw [ra.length]; exact hz, ?_⟩
      split at hl
      · rename_i ks hk
        refine .inl ⟨ks, zej ra hk, go _ ?_ (Option.some.inj hl).symm⟩
        have h5 := zhL ks
        have h6 : ks.length = l.length := by
          have := zej ra hk
          rw [← ra.length, this, List.length_map]
        omega
      · obtain ⟨ts, ht, e1⟩ := Option.map_eq_some_iff.mp hl
        obtain ⟨q1, q2⟩ := zf8 s1.gh ra ht
        refine .inr ⟨ts, q1, q2, go _ ?_ e1.symm⟩
        have h5 := zhL ts
        have h6 := ra.length
        omega
    · cases hl
  · cases hl⟩
end
end L2
end
section
namespace DT
open PySem PySem.Spec PyProof.Rows
theorem znG : typeLookup (.type "list") "keys" = pure none := by rw [typeLookup_type, builtinLookup_eq_fast]; kernel_rfl
theorem znH : typeLookup (.type "list") "__getattr__" = pure none := by rw [typeLookup_type, builtinLookup_eq_fast]; kernel_rfl
theorem zkB {l : Addr} {u : Tok} {R : Result -> Shared -> Prop} {prog : Program} {w : World} {A : Around} {s : Shared} {xs : Array Value} {n : Nat} (hx : s.heap.get? l = some { cls := .type "list", data := .seq xs n }) (hA : A.handled = none)
    (h : ∀ h' tk e, Heap.NewAttrErr s.heap h' e (.ref l) "keys" -> R (.error (.ref e)) { s with heap := h', toks := tk }) :
    codeAny (model prog w) A (.call (.builtin "list.__getattribute__") ⟨[.ref l, .str "keys" u], []⟩) R s := by
  obtain ⟨hp, g, d, tk, os⟩ := s
  have hT : (⟨hp, g, d, tk, os⟩ : Shared).TypeIs (.ref l) "list" := ⟨_, hx, rfl⟩
  have f1 := znG
  refine codeAny_call_builtin F.slot_list_getattribute.plain F.entry_list_ga (F.slot_list_getattribute.check _ _ _ _ _ _ _ _ hT (F.args_list_getattribute_2 _ _) ?_)
  unfold Builtin.«object.__getattribute__»
  repeat (any_goals (first | assumption | wp_step))
  have hsz : (Str.ofString "keys").length + 100 <= sizeLine := by rw [PySem.ofString_length]; decide
  refine wpAny_raiseAttrError (A := A.in1) hA h ?_
  exact attrMsg_fits (by decide +kernel) hsz
set_option maxHeartbeats 4000000 in
theorem zkJ {l : Addr} {Q : Option Value -> Shared -> Prop} {prog : Program} {w : World} {A : Around} {E : Value -> Shared -> Prop} {s : Shared} {xs : Array Value} {n : Nat} (hx : s.heap.get? l = some { cls := .type "list", data := .seq xs n }) (hA : A.handled = none)
    (h : ∀ h' tk, (∀ b ob, s.heap.get? b = some ob -> h'.get? b = some ob) -> Q none { s with heap := h', toks := tk }) :
    wpAny (model prog w) A (getAttr? (.ref l) "keys") Q E s := by
  obtain ⟨hp, g, d, tk, os⟩ := s
  have hT : ∀ tk', (⟨hp, g, d, tk', os⟩ : Shared).TypeIs (.ref l) "list" := fun _ => ⟨_, hx, rfl⟩
  have f1 := sub_AttributeError
  have f2 := F.slot_list_getattribute.lookup
  have f3 := F.slot_list_getattribute.bind (.ref l)
  have f5 := znH
  unfold getAttr? getAttrBy?
  refine wpAny_bind (wpAny_mkText ?_)
  refine wpAny_bind (wpAny_attempt ?_)
  unfold getAttrBy
  refine wpAny_holding (wpAny_bind (wpAny_typeOf (hT _) (wpAny_bind (wpAny_of_eq f2 ?_))))
  show wpAny _ _ (getAttrByItsOwn _ _ _ _ _ _) _ _ _
  unfold getAttrByItsOwn
  refine wpAny_bind (m := hookBefore (Value.type "list")) (wpAny_pure ?_)
  refine wpAny_bind (wpAny_attempt (wpAny_holding ?_))
  show wpAny _ _ (boundAndCalled _ _ _) _ _ _
  unfold boundAndCalled
  refine wpAny_bind (wpAny_of_eq f3 ?_)
  refine wpAny_call (zkB (s := ⟨hp, g, d, tk + 1, os⟩) hx hA fun h' tk' e hn => ?_)
  obtain ⟨t', u', he⟩ := hn.there
  have hE : Shared.TypeIs ⟨h', g, d, tk', os⟩ (.ref e) "AttributeError" := ⟨_, he, rfl⟩
  show wpAny _ _ (getattributeRaised _ _ _ _ _ _ _) _ _ _
  unfold getattributeRaised
  refine wpAny_bind (wpAny_isInstance hE f1 ?_)
  simp only [if_true]
  refine wpAny_bind (m := hookBehind (Value.type "list") none) (wpAny_of_eq f5 ?_)
  unfold hookOrError attributeErrorLeaves
  simp only [Bool.not_false, if_true]
  refine wpAny_bind (wpAny_throw ?_)
  refine wpAny_bind (wpAny_isInstance hE f1 ?_)
  simp only [if_true]
  exact wpAny_pure (h h' tk' hn.keeps)
end DT
end
section
namespace DT
open PySem PySem.Spec PyProof.Rows
theorem zgo : entryFor table "dict.update.loop" = some Builtin.«dict.update.loop» := entryFor_of_tree (by kernel_rfl)
theorem zdA : plainId "dict.update.loop" = true := by decide +kernel
section
variable {prog : Program} {w : World} {A : Around} {R : Result -> Shared -> Prop} {I : Addr} {fp wr : List Addr} {G : Array GenState -> Array GenState -> Prop} {n : Nat} {P : Nat -> Value -> Prop} {St : Nat -> Shared -> Prop}
def zpW (prog : Program) (w : World) (A : Around) (S : Addr) (h0 : Heap) (P : Nat -> Value -> Prop) (n : Nat) (J : Nat -> Obj -> Prop) : Prop :=
  ∀ (i : Nat) (b : Addr) (kv vv : Value) (s : Shared) (o : Obj) (Q : Unit -> Shared -> Prop) (E : Value -> Shared -> Prop), i < n -> P i (.ref b) -> h0.IsTuple b #[kv, vv] -> s.heap.get? S = some o -> J i o -> (∀ b o, b < h0.objs.size -> h0.get? b = some o -> s.heap.get? b = some o) ->
    (∀ h' tk o', s.toks <= tk -> Heap.SameBut S s.heap h' -> h'.get? S = some o' -> J (i + 1) o' -> Q () { s with heap := h', toks := tk }) -> wpAny (model prog w) A (dictSet S kv vv) Q E s
theorem zk6 (W : WalksS prog w A.in1 I fp wr G n P St) (S : Addr) (hSf : S ∉ fp) (h0 : Heap) (hS0 : h0.objs.size <= S) (hw0 : ∀ b ∈ wr, h0.objs.size <= b) (J : Nat -> Obj -> Prop) (hadd : zpW prog w A.in1 S h0 P n J) (hP : ∀ i v, P i v -> ∃ b kv vv, v = .ref b /\ h0.IsTuple b #[kv, vv]) :
    ∀ (k i : Nat) (c : Int) (s : Shared) (o : Obj), n - i = k -> i <= n -> St i s -> s.heap.get? S = some o -> J i o -> (∀ b o, b < h0.objs.size -> h0.get? b = some o -> s.heap.get? b = some o) ->
      (∀ s' o', Moved (S :: wr) G s s' -> s'.heap.get? S = some o' -> J n o' -> R (.ok (.ret .none)) s') ->
      codeAny (model prog w) A (.builtin "dict.update.loop" ⟨[.ref S, .ref I, rawInt c, .none], []⟩) R s := by
  have hSw : S ∉ wr := fun h => hSf (W.sub _ h)
  have hsub : ∀ b ∈ wr, b ∈ S :: wr := fun b hb => List.mem_cons_of_mem _ hb
  have keep : ∀ {h h' : Heap}, (∀ b o, b < h0.objs.size -> h0.get? b = some o -> h.get? b = some o) -> (∀ b o, b ∉ S :: wr -> h.get? b = some o -> h'.get? b = some o) -> ∀ b o, b < h0.objs.size -> h0.get? b = some o -> h'.get? b = some o := fun q1 q2 b o hb e => q2 b o (fun z => by
    rcases List.mem_cons.mp z with z | z
    · rw [z] at hb; exact absurd hb (Nat.not_lt.mpr hS0)
    · exact absurd hb (Nat.not_lt.mpr (hw0 b z))) (q1 b o hb e)
  intro k
  induction k with
  | zero =>
    intro i c s o hk hi hst hS hJ hB hR
    have hin : i = n := by omega
    subst hin
    refine codeAny_builtin zgo ?_
    rw [Around.under_plainId zdA _]
    show wpAny _ A.in1 (pyNext (.ref I) >>= _) _ _ s
    refine wpAny_bind (W.done s _ _ hst fun s' hm => ?_)
    show wpAny _ A.in1 (Builtin.Dict.addKeywords S [] >>= _) _ _ s'
    exact wpAny_bind (wpAny_pure (wpAny_pure (hR s' o (hm.mono hsub) (hm.heap S _ hSw hS) hJ)))
  | succ k ih =>
    intro i c s o hk hi hst hS hJ hB hR
    have hlt : i < n := by omega
    refine codeAny_builtin zgo ?_
    rw [Around.under_plainId zdA _]
    show wpAny _ A.in1 (pyNext (.ref I) >>= _) _ _ s
    refine wpAny_bind (W.item i s _ _ hlt hst fun v s' hPv hst' hm => ?_)
    obtain ⟨b, kv, vv, rfl, hb⟩ := hP i v hPv
    have hB' := keep hB fun b o hb e => hm.heap b o (fun z => hb (hsub b z)) e
    obtain ⟨ob, hob, hoc, nn, hod⟩ := hb
    have hob' : s'.heap.get? b = some ob := hB' b ob (Heap.lt_size hob) hob
    have hTb : s'.TypeIs (.ref b) "tuple" := ⟨_, hob', hoc⟩
    show wpAny _ A.in1 (holding [Value.ref b] _ >>= _) _ _ s'
    refine wpAny_bind (wpAny_holding ?_)
    refine wpAny_bind ?_
    refine wpAny_tryCatch ?_
    unfold Builtin.Dict.pairItems
    refine wpAny_bind (wpAny_typeOf hTb ?_)
    rw [if_pos (by decide)]
    refine wpAny_bind (wpAny_seqItems hob' hod (wpAny_pure ?_))
    show wpAny _ A.in1 (holding [kv, vv] (dictSet S kv vv)) _ _ s'
    refine wpAny_holding (hadd i b kv vv s' o _ _ hlt hPv ⟨ob, hob, hoc, nn, hod⟩ (hm.heap S _ hSw hS) hJ hB' fun h' tk o' htk hsb hS' hJ' => ?_)
    refine wpAny_pure ⟨plainId_quiet zdA _, ih (i + 1) (c + 1) _ o' (by omega) hlt (W.frame _ s' _ _ hst' htk fun b hb o e => ?_) hS' hJ' ?_ fun s'' o'' hm'' hS'' hJ'' => ?_⟩
    · rw [hsb.2 b (fun h : b = S => hSf (by rw [← h]; exact hb))]; exact e
    · refine keep hB' fun b o hb e => ?_
      show h'.get? b = some o
      rw [hsb.2 b (fun h : b = S => hb (by rw [h]; exact List.mem_cons_self))]; exact e
    · refine hR s'' o'' (Moved.trans W.gtrans ((hm.mono hsub).then_heap htk fun b o hb e => ?_) hm'') hS'' hJ''
      rw [hsb.2 b (fun h : b = S => hb (by rw [h]; exact List.mem_cons_self))]; exact e
end
section
variable {prog : Program} {w : World} {A : Around} {E : Value -> Shared -> Prop} {s : Shared}
theorem call_dict_gen {l : Addr} {items : Array Value} {c : Nat} {Q : Value -> Shared -> Prop} (hh : A.handled = none) (hl : s.heap.get? l = some { cls := .type "list", data := .seq items c }) (J : Nat -> Obj -> Prop)
    (hJ0 : J 0 { cls := .type "dict", data := .dict #[] })
    (hadd : ∀ A' : Around, A'.units <= A.units + 16 -> zpW prog w A' s.heap.objs.size s.heap (fun i v => items[i]? = some v) items.size J)
    (hP : ∀ (i : Nat) (v : Value), items[i]? = some v -> ∃ b kv vv, v = .ref b /\ s.heap.IsTuple b #[kv, vv])
    (h : ∀ (h' : Heap) (tk : Nat) (o : Obj), h'.get? s.heap.objs.size = some o -> J items.size o ->
      (∀ b o, b < s.heap.objs.size -> s.heap.get? b = some o -> h'.get? b = some o) -> Q (.ref s.heap.objs.size) { s with heap := h', toks := tk }) :
    wpAny (model prog w) A (call (.type "dict") [.ref l]) Q E s := by
  refine callType_codes (Q₁ := fun obj s₁ => obj = .ref s.heap.objs.size /\ s₁ = { s with heap := s.heap.push { cls := .type "dict", data := .dict #[] } }) F.kt_called_dict (F.kt_typeCall_dict_1 _) F.entry_dict_init (kt_code_dict_new _ ⟨rfl, rfl⟩) ?_
  rintro obj s₁ ⟨rfl, rfl⟩
  have hnew : (s.heap.push { cls := .type "dict", data := .dict #[] }).get? s.heap.objs.size = some { cls := .type "dict", data := .dict #[] } := Heap.get?_push_size _ rfl
  have hl1 : (s.heap.push { cls := .type "dict", data := .dict #[] }).get? l = some { cls := .type "list", data := .seq items c } := Heap.get?_push_of_some _ hl
  have hT : Shared.TypeIs { s with heap := s.heap.push { cls := .type "dict", data := .dict #[] } } (.ref s.heap.objs.size) "dict" := ⟨_, hnew, rfl⟩
  have hTl : Shared.TypeIs { s with heap := s.heap.push { cls := .type "dict", data := .dict #[] } } (.ref l) "list" := ⟨_, hl1, rfl⟩
  refine ⟨hT, F.args_dict_init_2 _ _, ?_⟩
  unfold Builtin.«dict.__init__»
  refine wpAny_bind ?_
  unfold Builtin.Dict.selfAndRest
  refine wpAny_bind (wpAny_notOrdered_dict hT ?_)
  show wpAny _ _ (pure (s.heap.objs.size, [Value.ref l])) _ _ _
  refine wpAny_pure ?_
  show wpAny _ _ (Builtin.Dict.updateFrom "dict.__init__" s.heap.objs.size (.ref l) [] .none) _ _ _
  unfold Builtin.Dict.updateFrom
  refine wpAny_bind (wpAny_typeOf hTl ?_)
  rw [if_pos (by decide)]
  refine wpAny_bind (zkJ (s := { s with heap := s.heap.push { cls := .type "dict", data := .dict #[] } }) (A := A.in1.in1) hl1 hh fun h1 tk1 hk1 => ?_)
  simp only [Option.isNone_none, if_true]
  refine wpAny_bind (wpAny_rule ?_)
  have hl2 : h1.IsList l items := ⟨_, hk1 _ _ hl1, rfl, _, rfl⟩
  refine wpAny_bind (wpAny_pyIter_list (s := { s with heap := h1, toks := tk1 }) hl2 ?_)
  refine wpAny_pure ⟨plainId_quiet zdA _, ?_⟩
  have hlS : l < s.heap.objs.size := Heap.lt_size hl
  have hsz1 : s.heap.objs.size < h1.objs.size := Heap.lt_size (hk1 _ _ hnew)
  have hneI : l ≠ h1.objs.size := Nat.ne_of_lt (Nat.lt_trans hlS hsz1)
  have hSf : s.heap.objs.size ∉ [h1.objs.size, l] := by
    simp only [List.mem_cons, List.mem_singleton, List.not_mem_nil, or_false, not_or]
    exact ⟨Nat.ne_of_lt hsz1, Nat.ne_of_gt hlS⟩
  have old : ∀ b o, b < s.heap.objs.size -> s.heap.get? b = some o -> h1.get? b = some o := fun b o _ e => hk1 _ _ (Heap.get?_push_of_some _ e)
  refine zk6 ((Walks.list (A := A.in1.in1) (by simpa using hh) _ l hneI items).toS) s.heap.objs.size hSf s.heap (Nat.le_refl _) (fun b hb => ?_) J (hadd _ (by show A.units + 2 <= _; omega)) hP (items.size - 0) 0 0 _ _ (by omega) (Nat.zero_le _)
    ⟨⟨_, Heap.get?_push_size _ rfl, rfl, rfl⟩, hl2.push _⟩ (Heap.get?_push_of_some _ (hk1 _ _ hnew)) hJ0 (fun b o hb e => Heap.get?_push_of_some _ (old b o hb e)) fun s' o' hm hS' hJ' => ?_
  · have : b = h1.objs.size := by simpa using hb
    rw [this]; exact Nat.le_of_lt hsz1
  · obtain ⟨h', g', d', tk', os'⟩ := s'
    have eg : g' = s.gens := hm.gens
    have ed : d' = s.drawn := hm.drawn
    have eo : os' = s.os := hm.os
    subst eg; subst ed; subst eo
    refine ⟨rfl, h h' tk' o' hS' hJ' fun b o hb e => hm.heap b o ?_ (Heap.get?_push_of_some _ (old b o hb e))⟩
    simp only [List.mem_cons, List.mem_singleton, List.not_mem_nil, or_false, not_or]
    exact ⟨Nat.ne_of_lt hb, Nat.ne_of_lt (Nat.lt_trans hb hsz1)⟩
end
end DT
end
section
namespace L2
open PySem PySem.Spec PyProof.Rows
section
variable {κ : Type} [DecidableEq κ]
def mrg (kvs ps : List (κ × V)) : List (κ × V) := ps.foldl (fun acc kv => zgd acc kv.1 kv.2) kvs
theorem ziR (kvs ps : List (κ × V)) (p : κ × V) : mrg kvs (ps ++ [p]) = zgd (mrg kvs ps) p.1 p.2 := by unfold mrg; rw [List.foldl_append]; rfl
theorem zlO (kvs : List (κ × V)) (k : κ) (v : V) : (zgd kvs k v).length <= kvs.length + 1 := by
  unfold zgd
  split
  · rw [List.length_map]; omega
  · rw [List.length_append, List.length_singleton]; omega
theorem zfs : ∀ (ps kvs : List (κ × V)), (mrg kvs ps).length <= kvs.length + ps.length
  | [], kvs => Nat.le_refl _
  | p :: ps, kvs => by
    have h1 := zfs ps (zgd kvs p.1 p.2)
    have h2 := zlO kvs p.1 p.2
    show (mrg (zgd kvs p.1 p.2) ps).length <= _
    rw [List.length_cons]
    omega
end
section
variable {X : Cx}
def zoH : List V -> Hp -> VK -> Prop := fun xs H Q => ∃ (a : Addr) (vs : List V) (ps : List (Key × V)), xs = [.ref a] /\ H a = some (.lst vs) /\ vs.length = ps.length /\ ps.length <= 1000 /\ (∀ (i : Nat) p, ps[i]? = some p -> ∃ b, vs[i]? = some (.ref b) /\ H b = some (.tup [kV p.1, p.2])) /\
  ∀ q, H q = none -> Q (.ref q) (upd H q (.dK (mrg [] ps)))
theorem zkp {pins : List (Addr × Obj)} {σ : St} {H : Hp} {s : Shared} {b : Addr} {x y : V} (I : Inv X pins σ H s) (hb : H b = some (.tup [x, y])) : ∃ u v, zbJ x u /\ zbJ y v /\ s.heap.IsTuple b #[u, v] := by
  obtain ⟨its, r, p, _⟩ := I.tuple (.inl (.inl hb))
  cases r with
  | cons r1 r2 =>
    cases r2 with
    | cons r2 r3 =>
      cases r3
      exact ⟨_, _, r1, r2, p⟩
theorem tuple_inj {h : Heap} {b : Addr} {x y : Array Value} (p : h.IsTuple b x) (q : h.IsTuple b y) : x = y := by
  obtain ⟨o, h1, _, n, h2⟩ := p
  obtain ⟨o', g1, _, m, g2⟩ := q
  rw [h1] at g1
  cases g1
  rw [h2] at g2
  cases g2
  rfl
theorem zjM (hc : X.calm = true) (hu : X.A.units + 66 < cLine) : zfb X (.type "dict") zoH := by
  intro pins s σ H xs us Q I r h
  obtain ⟨a, vs, ps, rfl, ha, hl, hz, hp, q⟩ := h
  obtain ⟨u, rfl, ru⟩ := zha r
  cases ru
  obtain ⟨z, its, n, rv, hlen, e⟩ := I.lstM ha
  have hsz : its.toArray.size = ps.length := by rw [List.size_toArray, ← hlen, hl]
  have hit : ∀ (i : Nat) (v : Value), its.toArray[i]? = some v -> ∃ p b u w, ps[i]? = some p /\ v = .ref b /\ zbJ (kV p.1) u /\ zbJ p.2 w /\ s.heap.IsTuple b #[u, w] := fun i v hv => by
    have hi : i < ps.length := by rw [← hsz]; exact (Array.getElem?_eq_some_iff.mp hv).1
    obtain ⟨b, hb1, hb2⟩ := hp i ps[i] (by simp [hi])
    obtain ⟨u2, hu2, ru2⟩ := rv.get hb1
    have hv' : its[i]? = some v := by simpa using hv
    rw [hu2] at hv'
    cases hv'
    cases ru2
    obtain ⟨u, w, r1, r2, r3⟩ := zkp I hb2
    exact ⟨ps[i], b, u, w, by simp [hi], rfl, r1, r2, r3⟩
  refine DT.call_dict_gen (I.ok.hd hc) e (fun i o => ∃ vs', KV (mrg [] (ps.take i)) vs' /\ o.IsDictOf (zaZ X.prog X.w) vs') ?_ (fun A' hA' i b kv vv sh o Q' E' hi hv hb ho hJ hB hQ => ?_) (fun i v hv => ?_) fun h' tk o ho hJ hk => ?_
  · obtain ⟨o, ho, hd⟩ := Heap.dictOf_iff.mp (Heap.DictOf.new (knd := zaZ X.prog X.w) s.heap)
    have : o = { cls := .type "dict", data := .dict #[] } := by
      have := Heap.get?_push_size s.heap (o := { cls := .type "dict", data := .dict #[] }) rfl
      rw [this] at ho
      exact (Option.some.inj ho).symm
    subst this
    exact ⟨[], .nil, hd⟩
  · obtain ⟨p, b', u, w, h1, h2, h3, h4, h5⟩ := hit i _ hv
    cases h2
    have e2 := tuple_inj hb h5
    have e3 : kv = u /\ vv = w := by simpa using e2
    obtain ⟨rfl, rfl⟩ := e3
    obtain ⟨vs', k1, k2⟩ := hJ
    have hle : vs'.length <= 1000 := by
      have q1 := k1.length
      have q2 := zfs (ps.take i) ([] : List (Key × V))
      rw [List.length_take, List.length_nil] at q2
      omega
    refine wpAny_dictSet_pairs (zma h3) (Heap.dictOf_iff.mpr ⟨o, ho, k2⟩) (fun h' hd' hsb => ?_) (by rw [sizeLine_eq]; omega)
    obtain ⟨o', ho', hd''⟩ := Heap.dictOf_iff.mp hd'
    refine hQ h' _ o' (Nat.le_succ _) hsb ho' ⟨_, ?_, hd''⟩
    have htk : ps.take (i + 1) = ps.take i ++ [p] := by rw [List.take_succ, h1]; rfl
    rw [htk, ziR]
    exact k1.put p.1 h4
  · obtain ⟨p, b, u, w, h1, h2, h3, h4, h5⟩ := hit i v hv
    exact ⟨b, u, w, h2, h5⟩
  · obtain ⟨vs', k1, k2⟩ := hJ
    rw [hsz, List.take_length] at k1
    refine ⟨.ref s.heap.objs.size, _, I.laid (a := s.heap.objs.size) (o := .dK (mrg [] ps)) (fun b u e => hk b u (Heap.lt_size e) e) (Nat.le_refl _) ⟨?_, ?_, vs', k1, Heap.dictOf_iff.mpr ⟨o, ho, k2⟩⟩, rfl, q _ I.fresh⟩
    · have := zfs ps ([] : List (Key × V))
      rw [List.length_nil] at this
      rw [sizeLine_eq]
      omega
    · exact beq_eq_false_iff_ne.mpr (Ne.symm (Nat.ne_of_lt I.big))
def zoG : List V -> Hp -> VK -> Prop := fun xs H Q => ∃ (a : Addr) (vs : List V) (ps : List (List Key × V)), xs = [.ref a] /\ H a = some (.lst vs) /\ vs.length = ps.length /\ ps.length <= 1000 /\ (∀ (i : Nat) p, ps[i]? = some p -> ∃ b kb, vs[i]? = some (.ref b) /\ H b = some (.tup [.ref kb, p.2]) /\ H kb = some (.tup (p.1.map kV))) /\
  ∀ q, H q = none -> Q (.ref q) (upd H q (.dT (mrg [] ps)))
theorem zpe {H : Hp} {P : List Key -> Addr -> Prop} (hP : ∀ k b, H b = some (.tup (k.map kV)) -> P k b) : ∀ {kvs : List (List Key × V)} {xs : List (List Key × Addr × Value)}, KT H kvs xs -> ∀ x ∈ xs, P x.1 x.2.1 := by
  intro kvs xs q
  induction q with
  | nil => intro x hx; cases hx
  | @cons p y ps ys hq t ih =>
    intro x hx
    rcases List.mem_cons.mp hx with rfl | hx
    · exact hP _ _ (by rw [← hq.1]; exact hq.2.1)
    · exact ih x hx
theorem zjL (hc : X.calm = true) (hu : X.A.units + 66 < cLine) : zfb X (.type "dict") zoG := by
  intro pins s σ H xs us Q I r h
  obtain ⟨a, vs, ps, rfl, ha, hl, hz, hp, q⟩ := h
  obtain ⟨u, rfl, ru⟩ := zha r
  cases ru
  obtain ⟨z, its, n, rv, hlen, e⟩ := I.lstM ha
  have hsz : its.toArray.size = ps.length := by rw [List.size_toArray, ← hlen, hl]
  have hit : ∀ (i : Nat) (v : Value), its.toArray[i]? = some v -> ∃ p b kb w, ps[i]? = some p /\ v = .ref b /\ H kb = some (.tup (p.1.map kV)) /\ zbJ p.2 w /\ s.heap.IsTuple b #[.ref kb, w] := fun i v hv => by
    have hi : i < ps.length := by rw [← hsz]; exact (Array.getElem?_eq_some_iff.mp hv).1
    obtain ⟨b, kb, hb1, hb2, hb3⟩ := hp i ps[i] (by simp [hi])
    obtain ⟨u2, hu2, ru2⟩ := rv.get hb1
    have hv' : its[i]? = some v := by simpa using hv
    rw [hu2] at hv'
    cases hv'
    cases ru2
    obtain ⟨u, w, r1, r2, r3⟩ := zkp I hb2
    cases r1
    exact ⟨ps[i], b, kb, w, by simp [hi], rfl, hb3, r2, r3⟩
  have isk : ∀ {h' : Heap}, (∀ b o, b < s.heap.objs.size -> s.heap.get? b = some o -> h'.get? b = some o) -> ∀ k b, H b = some (.tup (k.map kV)) -> (tupleKind (zaZ X.prog X.w)).is h' k b := fun hB k b hb => ST.IsTupleKey.mono (ziW I.hok hb) fun o e => hB _ _ (Heap.lt_size e) e
  refine DT.call_dict_gen (I.ok.hd hc) e (fun i o => ∃ xs', KT H (mrg [] (ps.take i)) xs' /\ ∃ es ep, o.ExactDict /\ o.data = .dict es ep /\ es.toList = xs'.map (entryOfKey (tupleKind (zaZ X.prog X.w))) /\ (xs'.map (·.1)).Nodup) ?_ (fun A' hA' i b kv vv sh o Q' E' hi hv hb ho hJ hB hQ => ?_) (fun i v hv => ?_) fun h' tk o ho hJ hk => ?_
  · exact ⟨[], .nil, #[], 0, ⟨rfl, rfl, rfl⟩, rfl, rfl, List.nodup_nil⟩
  · obtain ⟨p, b', kb, w, h1, h2, h3, h4, h5⟩ := hit i _ hv
    cases h2
    have e2 := tuple_inj hb h5
    have e3 : kv = .ref kb /\ vv = w := by simpa using e2
    obtain ⟨rfl, rfl⟩ := e3
    obtain ⟨xs', k1, es, ep, k2, k3, k4, k5⟩ := hJ
    have hle : xs'.length <= 1000 := by
      have q1 := Paired.length k1
      have q2 := zfs (ps.take i) ([] : List (List Key × V))
      rw [List.length_take, List.length_nil] at q2
      omega
    refine wpAny_dictSet_heap (knd := tupleKind (zaZ X.prog X.w)) (show A'.units < cLine by omega) (isk hB _ _ h3) ⟨o, es, ep, ho, k2, k3, k4, zpe (isk hB) k1, k5⟩ (fun h' hd' hsb => ?_) (by rw [sizeLine_eq]; omega)
    obtain ⟨o', es', ep', ho', w2, w3, w4, _, w5⟩ := hd'
    refine hQ h' _ o' (Nat.le_add_right _ _) hsb ho' ⟨_, ?_, es', ep', w2, w3, w4, w5⟩
    have htk : ps.take (i + 1) = ps.take i ++ [p] := by rw [List.take_succ, h1]; rfl
    rw [htk, ziR]
    exact k1.put p.1 h3 h4
  · obtain ⟨p, b, kb, w, h1, h2, h3, h4, h5⟩ := hit i v hv
    exact ⟨b, _, w, h2, h5⟩
  · obtain ⟨xs', k1, es, ep, k2, k3, k4, k5⟩ := hJ
    rw [hsz, List.take_length] at k1
    refine ⟨.ref s.heap.objs.size, _, I.laid (a := s.heap.objs.size) (o := .dT (mrg [] ps)) (fun b u e => hk b u (Heap.lt_size e) e) (Nat.le_refl _) ⟨?_, ?_, xs', k1.keeps fun b ys e => ?_, o, es, ep, ho, k2, k3, k4, k5⟩, rfl, q _ I.fresh⟩
    · have := zfs ps ([] : List (List Key × V))
      rw [List.length_nil] at this
      rw [sizeLine_eq]
      omega
    · exact beq_eq_false_iff_ne.mpr (Ne.symm (Nat.ne_of_lt I.big))
    · rw [zas (zav e I.fresh)]; exact e
end
section
variable {Γ : Cn} {X : Cx}
def zgg : List D -> Option (List (Key × D))
  | [] => some []
  | .tup [k, v] :: r => (zmt k).bind fun kk => (zgg r).map ((kk, v) :: ·)
  | _ :: _ => none
def zfr : List D -> Option (List (List Key × D))
  | [] => some []
  | .tup [.tup t, v] :: r => (ze7 t).bind fun kk => (zfr r).map ((kk, v) :: ·)
  | _ :: _ => none
def zp3 {κ : Type} [DecidableEq κ] (ps : List (κ × D)) : List (κ × D) := ps.foldl (fun acc kv => zjs acc kv.1 kv.2) []
def zhJ : List D -> Option D
  | [.lst l] => if l.length <= 1000 then (zgg l).map fun ps => .dk (zp3 ps) else none
  | _ => none
def zi6 : List D -> Option D
  | [.lst l] => if l.length <= 1000 then (zfr l).map fun ps => .dt (zp3 ps) else none
  | _ => none
theorem zkI {κ : Type} [DecidableEq κ] {K : PySem.W.Frag} {G : Hp} : ∀ {us : List (κ × V)} {kvs : List (κ × D)} {acc : List (κ × V)} {acd : List (κ × D)}, us.map (·.1) = kvs.map (·.1) -> Reps Γ K G (us.map (·.2)) (kvs.map (·.2)) -> acc.map (·.1) = acd.map (·.1) -> Reps Γ K G (acc.map (·.2)) (acd.map (·.2)) ->
    (mrg acc us).map (·.1) = (kvs.foldl (fun acc kv => zjs acc kv.1 kv.2) acd).map (·.1) /\ Reps Γ K G ((mrg acc us).map (·.2)) ((kvs.foldl (fun acc kv => zjs acc kv.1 kv.2) acd).map (·.2))
  | [], [], _, _, _, _, e, r => ⟨e, r⟩
  | [], _ :: _, _, _, e, _, _, _ => by cases e
  | _ :: _, [], _, _, e, _, _, _ => by cases e
  | (k1, v) :: us, (k2, d) :: kvs, acc, acd, e, r, e0, r0 => by
    have e1 : k1 = k2 := (List.cons.inj e).1
    subst e1
    have r : Reps Γ K G (v :: us.map (·.2)) (d :: kvs.map (·.2)) := r
    cases r with
    | cons r1 r2 =>
      obtain ⟨w1, w2⟩ := zmQ (k := k1) r1 e0 r0
      exact zkI (us := us) (kvs := kvs) (List.cons.inj e).2 r2 w1 w2
theorem zhv {K : PySem.W.Frag} {G H : Hp} (gh : zbw G H) : ∀ {vs : List V} {ds : List D} {ps : List (Key × D)}, Reps Γ K G vs ds -> zgg ds = some ps ->
    ∃ us : List (Key × V), vs.length = us.length /\ us.map (·.1) = ps.map (·.1) /\ Reps Γ K G (us.map (·.2)) (ps.map (·.2)) /\ ∀ (i : Nat) p, us[i]? = some p -> ∃ b, vs[i]? = some (.ref b) /\ H b = some (.tup [kV p.1, p.2])
  | _, [], ps, r, h => by cases r; cases h; exact ⟨[], rfl, rfl, .nil, fun i p e => by simp at e⟩
  | _, d :: ds, ps, .cons h1 h2, h => by
    unfold zgg at h
    split at h
    · rename_i heq; cases heq
    · rename_i heq
      cases heq
      obtain ⟨kk, hk, h⟩ := Option.bind_eq_some_iff.mp h
      obtain ⟨zs, hz, rfl⟩ := Option.map_eq_some_iff.mp h
      obtain ⟨us, q1, q2, q3, q4⟩ := zhv gh h2 hz
      obtain ⟨a, ws, rfl, ha, ra⟩ := h1.tup_inv
      obtain ⟨x, y, rfl, rx, ry⟩ := ra.two
      have ex := zio rx hk
      subst ex
      refine ⟨(kk, y) :: us, by rw [List.length_cons, List.length_cons, q1], by simp [q2], .cons ry q3, fun i p e => ?_⟩
      cases i with
      | zero => cases e; exact ⟨a, rfl, gh _ _ ha⟩
      | succ i => exact q4 i p e
    · cases h
theorem zhu {K : PySem.W.Frag} {G H : Hp} (gh : zbw G H) : ∀ {vs : List V} {ds : List D} {ps : List (List Key × D)}, Reps Γ K G vs ds -> zfr ds = some ps ->
    ∃ us : List (List Key × V), vs.length = us.length /\ us.map (·.1) = ps.map (·.1) /\ Reps Γ K G (us.map (·.2)) (ps.map (·.2)) /\ ∀ (i : Nat) p, us[i]? = some p -> ∃ b kb, vs[i]? = some (.ref b) /\ H b = some (.tup [.ref kb, p.2]) /\ H kb = some (.tup (p.1.map kV))
  | _, [], ps, r, h => by cases r; cases h; exact ⟨[], rfl, rfl, .nil, fun i p e => by simp at e⟩
  | _, d :: ds, ps, .cons h1 h2, h => by
    unfold zfr at h
    split at h
    · rename_i heq; cases heq
    · rename_i heq
      cases heq
      obtain ⟨kk, hk, h⟩ := Option.bind_eq_some_iff.mp h
      obtain ⟨zs, hz, rfl⟩ := Option.map_eq_some_iff.mp h
      obtain ⟨us, q1, q2, q3, q4⟩ := zhu gh h2 hz
      obtain ⟨a, ws, rfl, ha, ra⟩ := h1.tup_inv
      obtain ⟨x, y, rfl, rx, ry⟩ := ra.two
      obtain ⟨kb, ks, rfl, hkb, rk⟩ := rx.tup_inv
      have ex := zej rk hk
      subst ex
      refine ⟨(kk, y) :: us, by rw [List.length_cons, List.length_cons, q1], by simp [q2], .cons ry q3, fun i p e => ?_⟩
      cases i with
      | zero => cases e; exact ⟨a, kb, rfl, gh _ _ ha, gh _ _ hkb⟩
      | succ i => exact q4 i p e
    · cases h
theorem ziE (hc : X.calm = true) (hu : X.A.units + 66 < cLine) : TyD Γ X "dict" zhJ := ⟨_, zjM hc hu, fun {G H vs ds z} gh r h Q k => by
  unfold zhJ at h
  split at h
  · split at h
    · rename_i hz
      obtain ⟨ps, hp, rfl⟩ := Option.map_eq_some_iff.mp h
      obtain ⟨v, rfl, r1⟩ := r.one
      obtain ⟨a, ws, rfl, ha, ra⟩ := r1.lst_inv
      obtain ⟨us, q1, q2, q3, q4⟩ := zhv gh ra hp
      refine ⟨a, ws, us, rfl, gh _ _ ha, q1, by rw [← q1, ra.length]; exact hz, q4, fun p hp => ?_⟩
      have s := Step.new (o := .dK (mrg [] us)) gh hp
      obtain ⟨w1, w2⟩ := zkI (acc := []) (acd := []) q2 q3 rfl .nil
      exact k _ _ _ s (.dk zaw w1 (w2.mono s.gg))
    · cases h
  · cases h⟩
theorem zlF (hc : X.calm = true) (hu : X.A.units + 66 < cLine) : TyD Γ X "dict" zi6 := ⟨_, zjL hc hu, fun {G H vs ds z} gh r h Q k => by
  unfold zi6 at h
  split at h
  · split at h
    · rename_i hz
      obtain ⟨ps, hp, rfl⟩ := Option.map_eq_some_iff.mp h
      obtain ⟨v, rfl, r1⟩ := r.one
      obtain ⟨a, ws, rfl, ha, ra⟩ := r1.lst_inv
      obtain ⟨us, q1, q2, q3, q4⟩ := zhu gh ra hp
      refine ⟨a, ws, us, rfl, gh _ _ ha, q1, by rw [← q1, ra.length]; exact hz, q4, fun p hp => ?_⟩
      have s := Step.new (o := .dT (mrg [] us)) gh hp
      obtain ⟨w1, w2⟩ := zkI (acc := []) (acd := []) q2 q3 rfl .nil
      exact k _ _ _ s (.dt zaw w1 (w2.mono s.gg))
    · cases h
  · cases h⟩
end
end L2
end
section
namespace L2
open PySem PySem.Spec PyProof.Rows
section
variable {Γ : Cn} {X : Cx} {e : Expr} {es : List Expr} {fr : FA} {pos p2 : Pos} {x : Str}
def spO (Γ : Cn) (K : PySem.W.Frag) (n : Nat) (F : List D -> Option (List D)) : Sp := fun vs H Q _ => ∃ G ds rs, zbw G H /\ Reps Γ K G vs ds /\ ds.length = n /\ F ds = some rs /\ ∀ p us G' H', Step G H G' H' -> H' p = none -> Reps Γ K G' us rs -> Q (.ref p) (upd H' p (.lst us))
end
structure CalO (Γ : Cn) (P : Program) (w : World) (K : PySem.W.Frag) (mg : Str -> Option Value) (base : Heap) (x : Str) (n k : Nat) (F : List D -> Option (List D)) : Prop where
  ex : ∃ f fd ps, FnOk P w K mg base CX0 k f fd ps (spO Γ K n F) /\ mg x = some (.ref f) /\ PySem.W.keepIn K (.ref f) = true /\ zcZ K fd ps []
section
variable {Γ : Cn} {X : Cx} {e : Expr} {es : List Expr} {fr : FA} {pos p : Pos}
theorem Dfn.none {P : Program} {w : World} {K : PySem.W.Frag} {mg : Str -> Option Value} {base : Heap} {x : Str} {st : Stmt} {ps : List Str} {k : Nat} (F : Dfn K mg x st)
    (hb : ∀ (kV doc pm : Value) (an : Option Addr) (cdv ct : Value) (us : List Value), us.length = ps.length -> bindArgs (PySem.W.fnOf x x (zcC st) (zbz st) (zan st) .none kV doc pm an cdv ct) ⟨us, []⟩ = pure (ps.zip us))
    : Cal Γ P w K mg base x ps.length k (fun _ => Option.none) := by
  obtain ⟨f, fd, h1, h2⟩ := F.ex
  refine ⟨f, fd, ps, ⟨fun vs H Q E h => ?_, fun A outer s H args us vs Q E hr I b v h => ?_⟩, h2, h1.kp, h1.binds hb⟩
  · obtain ⟨_, _, _, _, _, _, z, _⟩ := h
    cases z
  · obtain ⟨_, _, _, _, _, _, z, _⟩ := h
    cases z
end
end L2
end
section
namespace L2
open PySem PySem.Spec PyProof.Rows
def orG (g g' : D -> D -> Option D) (x y : D) : Option D := match g x y with
  | some z => some z
  | none => g' x y
section
variable {Γ : Cn} {X : Cx} {a b c e : Expr} {fa fb : FE} {op : CmpOp} {g g' : D -> D -> Option D}
theorem zo2 {x y z : D} (h : orG g g' x y = some z) : g x y = some z \/ g' x y = some z := by
  unfold orG at h
  split at h
  · rename_i q; cases h; exact .inl q
  · exact .inr h
theorem CmpD.or (h : CmpD Γ X op g) (h' : CmpD Γ X op g') : CmpD Γ X op (orG g g') := by
  obtain ⟨r, o, d⟩ := h.ex
  obtain ⟨r', o', d'⟩ := h'.ex
  refine ⟨_, o.or o', fun {G H v u x y z} gh r1 r2 q Q k => ?_⟩
  rcases zo2 q with q | q
  · exact .inl (d gh r1 r2 q Q k)
  · exact .inr (d' gh r1 r2 q Q k)
def neA := orG neD zqB
theorem zlh (hu : X.A.units + 64 < cLine) : CmpD Γ X .NotEq neA := zqW.or (zpQ hu)
theorem DfnM.mk' {K : PySem.W.Frag} {C f : Addr} {c m qual : Str} {st : Stmt} {oc : Value} {od an : Option Addr} {osl : Array (Option Value)} {kV doc pm cdv ct : Value} (a : PySem.W.findIn K (.ref C) m = some (some (.ref f))) (i : PySem.W.isFn K (.ref f) = true)
    (l : K.lookup f = some ⟨oc, od, .func (PySem.W.fnOf m qual (zcC st) (zbz st) (zan st) .none kV doc pm an cdv ct), osl⟩) (cd : PySem.W.codeIn K cdv qual = true) (k : PySem.W.keepIn K (.ref f) = true) : DfnM K C c m qual st := ⟨f, _, zkX l cd k, a, i⟩
end
section
variable {ρ : zbx} {f1 f2 f3 f4 f5 f6 f7 : FE}
theorem ln1 : ∀ ρ ds, zab f1 zag ρ = some ds -> ds.length = 1 := zcE fun _ _ h => zmG h
theorem ln2 : ∀ ρ ds, zab f1 (zab f2 zag) ρ = some ds -> ds.length = 2 := zcE ln1
theorem ln3 : ∀ ρ ds, zab f1 (zab f2 (zab f3 zag)) ρ = some ds -> ds.length = 3 := zcE ln2
theorem ln4 : ∀ ρ ds, zab f1 (zab f2 (zab f3 (zab f4 zag))) ρ = some ds -> ds.length = 4 := zcE ln3
theorem ln5 : ∀ ρ ds, zab f1 (zab f2 (zab f3 (zab f4 (zab f5 zag)))) ρ = some ds -> ds.length = 5 := zcE ln4
theorem ln6 : ∀ ρ ds, zab f1 (zab f2 (zab f3 (zab f4 (zab f5 (zab f6 zag))))) ρ = some ds -> ds.length = 6 := zcE ln5
theorem ln7 : ∀ ρ ds, zab f1 (zab f2 (zab f3 (zab f4 (zab f5 (zab f6 (zab f7 zag)))))) ρ = some ds -> ds.length = 7 := zcE ln6
end
end L2
end
section
namespace L2
open PySem PySem.Spec PyProof.Rows
section
variable {Γ : Cn} {K : PySem.W.Frag} {G₀ H₀ G H : Hp} {ρ : zbx} {σ : St}
end
section
variable {Γ : Cn} {X : Cx} {a b c e value : Expr} {es : List Expr} {f fk fv : FE} {fr : FA} {pos pos' p dp : Pos} {g : FS} {x : Str} {sts : List Stmt}
end
end L2
end
section
namespace L2
open PySem PySem.Spec PyProof.Rows
section
variable {Γ : Cn} {X : Cx} {e c : Expr} {es : List Expr} {fr : FA} {pos p2 p pos' : Pos} {x : Str} {ft : FT}
def zrD (Γ : Cn) (K : PySem.W.Frag) (n : Nat) (F : List D -> Option (List (Key × D))) : Sp := fun vs H Q _ => ∃ G ds rs, zbw G H /\ Reps Γ K G vs ds /\ ds.length = n /\ F ds = some rs /\ ∀ p us G' H', Step G H G' H' -> H' p = none -> us.map (·.1) = rs.map (·.1) -> Reps Γ K G' (us.map (·.2)) (rs.map (·.2)) -> Q (.ref p) (upd H' p (.dK us))
structure CalD (Γ : Cn) (P : Program) (w : World) (K : PySem.W.Frag) (mg : Str -> Option Value) (base : Heap) (x : Str) (n k : Nat) (F : List D -> Option (List (Key × D))) : Prop where
  ex : ∃ f fd ps, FnOk P w K mg base CX0 k f fd ps (zrD Γ K n F) /\ mg x = some (.ref f) /\ PySem.W.keepIn K (.ref f) = true /\ zcZ K fd ps []
end
end L2
end
section
namespace L2
open PySem PySem.Spec PyProof.Rows
section
variable {X : Cx} {pins : List (Addr × Obj)} {σ : St} {H H' : Hp} {s : Shared} {h' : Heap}
end
section
variable {Γ : Cn} {X : Cx} {e c o tg : Expr} {es : List Expr} {fr : FA} {pos p2 p pos' apos cpos : Pos} {x : Str} {ft : FT}
mutual
theorem Rep.drop {K : PySem.W.Frag} {G G' : Hp} {a : Addr} {ob : Obj} {u : List (Key × V)} (ha : G a = some (.frz ob (.dK u))) (hG : ∀ b, b ≠ a -> G' b = G b) : ∀ {v : V} {d : D}, Rep Γ K G v d -> Rep Γ K G' v d
  | _, _, .non => .non
  | _, _, .bl b => .bl b
  | _, _, .int i => .int i
  | _, _, .str x => .str x
  | _, _, .ty x => .ty x
  | _, _, .tup h r => .tup ((hG _ (zf0 h ha (by intro z; cases z))).trans h) (Reps.drop' ha hG r)
  | _, _, .lst h r => .lst ((hG _ (zf0 h ha (by intro z; cases z))).trans h) (Reps.drop' ha hG r)
  | _, _, .scr h => .scr (by
      rcases h with (h | ⟨ob', h⟩) | h
      · exact .inl (.inl ((hG _ (zf0 h ha (by intro z; cases z))).trans h))
      · exact .inl (.inr ⟨ob', (hG _ (zf0 h ha (by intro z; cases z))).trans h⟩)
      · exact .inr h)
  | _, _, .dk h e r => .dk ((hG _ (zf0 h ha (by intro z; cases z))).trans h) e (Reps.drop' ha hG r)
  | _, _, .dt h e r => .dt ((hG _ (zf0 h ha (by intro z; cases z))).trans h) e (Reps.drop' ha hG r)
  | _, _, .ins h c e r => .ins ((hG _ (zf0 h ha (by intro z; cases z))).trans h) c e (Reps.drop' ha hG r)
theorem Reps.drop' {K : PySem.W.Frag} {G G' : Hp} {a : Addr} {ob : Obj} {u : List (Key × V)} (ha : G a = some (.frz ob (.dK u))) (hG : ∀ b, b ≠ a -> G' b = G b) : ∀ {vs : List V} {ds : List D}, Reps Γ K G vs ds -> Reps Γ K G' vs ds
  | _, _, .nil => .nil
  | _, _, .cons h r => .cons (Rep.drop ha hG h) (Reps.drop' ha hG r)
end
open Classical in
end
end L2
end
section
namespace L2
open PySem PySem.Spec PyProof.Rows PyProof
section
variable {prog : Program} {w : World} {A : Around} {R : Result -> Shared -> Prop} {I : Addr} {fp wr : List Addr} {n : Nat} {P : Nat -> Value -> Prop} {St : Nat -> Heap -> Prop}
end
section
variable {prog : Program} {w : World} {A : Around} {E : Value -> Shared -> Prop} {s : Shared}
end
section
variable {Γ : Cn} {X : Cx} {e : Expr} {f : FE} {pos p : Pos}
end
end L2
end
section
namespace L2
open PySem PySem.Spec PyProof.Rows
def TDn (Γ : Cn) (K : PySem.W.Frag) (f : FE) : TE := fun σ H Q => ∃ G₀ H₀ G ρ d, At Γ K G₀ H₀ G H ρ σ /\ f ρ = some d /\ ∀ v G' H', Step G H G' H' -> Rep Γ K G' v d -> NewL H G' v d -> Q v H'
structure DN (Γ : Cn) (X : Cx) (e : Expr) (f : FE) : Prop where
  out : PE X e (TDn Γ X.K f)
section
variable {Γ : Cn} {X : Cx} {a b c e tg iter : Expr} {es : List Expr} {fa fb fc f fe : FE} {fr fi : FA} {pos p p2 pos' : Pos} {ft : FT} {g : FG} {x : Str}
variable {scope : Scope} {N' : List Str} {fv : List (Option Nat)} {ifs : List Expr} {elt : Expr}
structure DBn (Γ : Cn) (X : Cx) (N' : List Str) (scope : Scope) (tg : Expr) (ifs : List Expr) (elt : Expr) (g : FG) (ft : FT) (fe : FE) : Prop where
  out : ∀ (cl : List (Str × Addr)) (C : Addr) (s₀ : Shared) (H₀ : Hp) (fp : List Addr), DG Γ (zcK X N' scope cl C s₀ H₀ fp) tg g /\ DTs Γ (zcK X N' scope cl C s₀ H₀ fp) ifs ft /\ DN Γ (zcK X N' scope cl C s₀ H₀ fp) elt fe
end
def spN (Γ : Cn) (K : PySem.W.Frag) (n : Nat) (F : List D -> Option D) : Sp := fun vs H Q _ => ∃ G ds d, zbw G H /\ Reps Γ K G vs ds /\ ds.length = n /\ F ds = some d /\ ∀ v G' H', Step G H G' H' -> Rep Γ K G' v d -> NewL H G' v d -> Q v H'
section
variable {Γ : Cn} {P : Program} {w : World} {K : PySem.W.Frag} {mg : Str -> Option Value} {base : Heap}
structure CalN (Γ : Cn) (P : Program) (w : World) (K : PySem.W.Frag) (mg : Str -> Option Value) (base : Heap) (x : Str) (n k : Nat) (F : List D -> Option D) : Prop where
  ex : ∃ f fd ps, FnOk P w K mg base CX0 k f fd ps (spN Γ K n F) /\ mg x = some (.ref f) /\ PySem.W.keepIn K (.ref f) = true /\ zcZ K fd ps []
structure CalMN (Γ : Cn) (P : Program) (w : World) (K : PySem.W.Frag) (mg : Str -> Option Value) (base : Heap) (c m : Str) (n k : Nat) (F : List D -> Option D) : Prop where
  ex : ∃ C f fd ps, Γ.cls c = some C /\ Cls K C /\ Meth K C m f /\ FnOk P w K mg base CX0 k f fd ps (spN Γ K n F) /\ zcZ K fd ps []
structure CalMO (Γ : Cn) (P : Program) (w : World) (K : PySem.W.Frag) (mg : Str -> Option Value) (base : Heap) (c m : Str) (n k : Nat) (F : List D -> Option (List D)) : Prop where
  ex : ∃ C f fd ps, Γ.cls c = some C /\ Cls K C /\ Meth K C m f /\ FnOk P w K mg base CX0 k f fd ps (spO Γ K n F) /\ zcZ K fd ps []
end
section
variable {Γ : Cn} {X : Cx} {e o : Expr} {es : List Expr} {fo f : FE} {fr : FA} {pos p apos pos' : Pos} {c m x : Str}
end
end L2
end
section
namespace Law
open PySem L2
end Law
end
section
namespace L2
open PySem PySem.Spec PyProof.Rows
structure Fly (P : Program) (w : World) (base : Heap) (outer : List Env) (H H' : Hp) (s : Shared) (B : Heap) (e : Addr) (cls a0 : Value) (h : Heap) : Prop where
  bst : base.StaysIn B
  keep : ∀ b o, s.heap.get? b = some o -> H b = none -> b ∉ frs outer -> B.get? b = some o
  slot : ∀ b o, s.heap.get? b = some o -> H b = none -> b ∈ frs outer -> ∃ sl, h.get? b = some { o with slots := sl }
  nofl : ∀ b o, s.heap.get? b = some o -> b ∈ frs outer -> ∀ vs, o.data ≠ .fields vs
  free : ∀ b o, s.heap.get? b = some o -> H b = none -> H' b = none
  there : ∀ b o, s.heap.get? b = some o -> b ∉ frs outer -> ∃ o', B.get? b = some o'
  frf : ∀ b ∈ frs outer, H b = none
  tups : ∀ b xs, H b = some (.tup xs) -> H' b = some (.tup xs)
  frzs : ∀ b o u, H b = some (.frz o u) -> H' b = some (.frz o u)
  tbls : ∀ b ps, H b = some (.tbl ps) -> ∃ more, H' b = some (.tbl (ps ++ more))
  hok : HOk P w H' B
  fly : Heap.FlyingW B outer e cls a0 h
  new : H' e = none
section
variable {P : Program} {w : World} {base B : Heap} {outer : List Env} {H H' : Hp} {s : Shared} {e : Addr} {cls a0 : Value} {h h' : Heap}
theorem Fly.on (F : Fly P w base outer H H' s B e cls a0 h) (k : h.UpToSlots h') (f : Heap.FlyingW B outer e cls a0 h') : Fly P w base outer H H' s B e cls a0 h' :=
  ⟨F.bst, F.keep, fun b o q n hb => by
    obtain ⟨sl, e1⟩ := F.slot b o q n hb
    obtain ⟨sl', e2⟩ := k b _ e1 (F.nofl b o q hb)
    exact ⟨sl', e2⟩, F.nofl, F.free, F.there, F.frf, F.tups, F.frzs, F.tbls, F.hok, f, F.new⟩
theorem Fly.un (F : Fly P w base outer H H' s B e cls a0 h) : Un (frs outer) [] H H' s.heap h where
  keep := fun b o q n hb _ => F.fly.1 b o (F.keep b o q n hb)
  slot := fun b o q n hb _ => F.slot b o q n hb
  free := fun b o q n _ => F.free b o q n
  there := fun b o q _ => by
    by_cases hb : b ∈ frs outer
    · obtain ⟨sl, e1⟩ := F.slot b o q (F.frf b hb) hb
      exact ⟨_, e1⟩
    · obtain ⟨o', e1⟩ := F.there b o q hb
      exact ⟨o', F.fly.1 b o' e1⟩
  tups := F.tups
  frzs := F.frzs
  tbls := F.tbls
theorem Fly.hk (F : Fly P w base outer H H' s B e cls a0 h) : HOk P w H' h := F.hok.kept F.fly.1
end
def CXO (P : Program) (w : World) (base : Heap) : CXT := fun outer H s E e s' =>
  ∃ a cls a0 B H', e = .ref a /\ s'.os = s.os /\ AllBare s'.gens /\ Fly P w base outer H H' s B a cls a0 s'.heap /\ E cls none H'
section
variable {P : Program} {w : World} {K : PySem.W.Frag} {mg : Str -> Option Value} {base : Heap} {N : List Str} {qual : Str} {scope : Scope} {f : Addr} {cd : Value} {A : Around} {outer : List Env} {s₀ : Shared} {H₀ : Hp} {E : XK}
  {pins : List (Addr × Obj)} {σ : St} {H : Hp} {s : Shared} {h1 : Heap} {e : Addr} {cls : Value} {vs : List Value}
end
end L2
end
section
namespace L2
open PySem PySem.Spec PyProof.Rows
def zq5 (Γ : Cn) (K : PySem.W.Frag) (n : String) (R : Hp -> Prop) (E : Ends) (H₀ G' H' : Hp) (σ' : St) (fl : Fl) : Prop := (fl = .rt (.ty n) -> R H') /\ (fl ≠ .rt (.ty n) -> zq6 Γ K E H₀ G' H' σ' fl)
def TDx (Γ : Cn) (K : PySem.W.Frag) (n : String) (R : Hp -> Prop) (g : FS) : TS := fun E σ H => ∃ G₀ H₀ G ρ fl ρ', At Γ K G₀ H₀ G H ρ σ /\ g ρ = some (fl, ρ') /\ ∀ σ' G' H', zbw G G' -> At Γ K G₀ H₀ G' H' ρ' σ' -> zq5 Γ K n R E H₀ G' H' σ' fl
structure DX (Γ : Cn) (X : Cx) (n : String) (R : Hp -> Prop) (st : Stmt) (g : FS) : Prop where
  out : PS X st (TDx Γ X.K n R g)
structure DXs (Γ : Cn) (X : Cx) (n : String) (R : Hp -> Prop) (st : List Stmt) (g : FS) : Prop where
  out : PSs X st (TDx Γ X.K n R g)
section
variable {Γ : Cn} {X : Cx} {n : String} {R : Hp -> Prop} {c tg iter : Expr} {fi : FA} {pos : Pos} {g g' : FS} {st : Stmt} {sts : List Stmt} {ft : FT} {gg : FG}
end
section
variable {Γ : Cn} {P : Program} {w : World} {K : PySem.W.Frag} {mg : Str -> Option Value} {base : Heap} {N : List Str} {qual : Str} {scope : Scope} {f C : Addr} {cd : Value} {A : Around} {outer : List Env} {s₀ : Shared} {H₀ : Hp} {E : XK}
  {R : Hp -> Prop} {n : String} {x : Str} {np cpos pos : Pos} {e₀ : Expr} {zbL : List Expr} {fr : FA} {Bn newId initId : String} {bmB : List Value}
end
def spX (Γ : Cn) (K : PySem.W.Frag) (m : Nat) (F : List D -> Option D) (n : String) (C : Addr) : Sp := fun vs H Q E => ∃ G ds d, zbw G H /\ Reps Γ K G vs ds /\ ds.length = m /\ F ds = some d /\
  (d = .ty n -> ∀ G' H', Step G H G' H' -> E (.ref C) none H') /\ (d ≠ .ty n -> ∀ v G' H', Step G H G' H' -> Rep Γ K G' v d -> Q v H')
section
variable {Γ : Cn} {P : Program} {w : World} {K : PySem.W.Frag} {mg : Str -> Option Value} {base : Heap}
structure CalX (Γ : Cn) (P : Program) (w : World) (K : PySem.W.Frag) (mg : Str -> Option Value) (base : Heap) (x : Str) (m k : Nat) (F : List D -> Option D) (n : String) (C : Addr) : Prop where
  ex : ∃ f fd ps, FnOk P w K mg base (CXO P w base) k f fd ps (spX Γ K m F n C) /\ mg x = some (.ref f) /\ PySem.W.keepIn K (.ref f) = true /\ zcZ K fd ps []
end
end L2
end
section
namespace L2
open PySem PySem.Spec PyProof.Rows
def zfT (a : Addr) (cls : Value) (h : Heap) : Prop := ∃ o vs, h.get? a = some o /\ o.cls = cls /\ o.data = .fields vs
section
variable {P : Program} {w : World} {base B : Heap} {outer : List Env} {H H' : Hp} {s : Shared} {e : Addr} {cls a0 : Value} {h h' : Heap}
theorem Fly.exc (F : Fly P w base outer H H' s B e cls a0 h) : zfT e cls h := by
  obtain ⟨oe, vs, h1, h2, h3, h4⟩ := F.fly.first
  exact ⟨oe, vs, h1, h2, h3⟩
theorem Fly.fresh (F : Fly P w base outer H H' s B e cls a0 h) : s.heap.get? e = none := by
  cases q : s.heap.get? e with
  | none => rfl
  | some o =>
    exfalso
    have nf : e ∉ frs outer := fun hb => by
      obtain ⟨_, o', h1, h2⟩ := F.fly.2.2.1.mem hb
      obtain ⟨oe, vs, k1, k2, k3⟩ := F.exc
      rw [h1] at k1
      cases k1
      exact h2 vs k3
    obtain ⟨o', z⟩ := F.there e o q nf
    rw [F.fly.2.1] at z
    cases z
end
abbrev Cx.marked (X : Cx) (v : Value) : Cx := { X with A := X.A.mark (some v), calm := false, xe := fun _ _ => False }
section
variable {X : Cx} {pins : List (Addr × Obj)} {σ : St} {H : Hp} {s : Shared} {v : Value}
theorem Inv.marked (I : Inv X pins σ H s) (v : Value) : Inv (X.marked v) pins σ H s :=
  ⟨⟨I.ok.mod, I.ok.kind, I.ok.glob, I.ok.blt, I.ok.above, I.ok.inj, I.ok.has, I.ok.cab, (fun z => nomatch z), I.ok.frames, I.ok.stk, I.ok.exf, I.ok.bs, I.ok.bsz, I.ok.noex, I.ok.exfs, I.ok.funs, I.ok.frf⟩, I.os, I.bare, I.base, I.loc, I.cell, I.free, I.freeC, I.pin, I.hok, I.len⟩
theorem Inv.unmarked (ok : X.Ok) (I : Inv (X.marked v) pins σ H s) : Inv X pins σ H s := ⟨ok, I.os, I.bare, I.base, I.loc, I.cell, I.free, I.freeC, I.pin, I.hok, I.len⟩
theorem zjY {M : Model} {A : Around} {E : Value -> Shared -> Prop} {j : Nat} {n : Str} {pos : Pos} {Q : Unit -> Shared -> Prop} (I : Inv X pins σ H s) (hN : X.N.Nodup) (hj : X.N[j]? = some n) (hk : X.env.kindOf n = some .local)
    (h : ∀ s', Inv X pins (σ.set j none) H s' -> Q () s') : wpAny M A (do bindName X.env n .none; unbindBehindTheSuite X.env n pos) Q E s := by
  obtain ⟨m, hn, hl⟩ := id I.loc
  have hcls : (X.env.scope.kind == .class || (X.env.scope.kind == .module && X.env.locals != X.env.globals)) = false := by rw [I.ok.kind]; rfl
  have hjσ : j < σ.length := by rw [I.len]; exact (List.getElem?_eq_some_iff.mp hj).1
  have cne := I.cne
  refine wpAny_nameGoes_keeps hk hn hcls fun h' v hn' hs => ?_
  obtain ⟨oL, _, _, hoL, _⟩ := id hn
  have tracked : HOk X.prog X.w H h' := fun b ob e => by
    refine (I.hok b ob e).stay (fun c w' hc q => (hs.2 c ?_).trans q) (fun _ q => q) fun _ _ q => q
    rintro rfl
    rcases hc with rfl | hc
    · rw [I.free] at e; cases e
    · rw [I.free] at hc; cases hc
  refine h _ ⟨I.ok, I.os, I.bare, ⟨fun b o e n hb hx => ?_, fun b o e n hb hx => ?_, I.base.free, fun b o e hx => ?_, I.base.tups, I.base.frzs, I.base.tbls⟩, ⟨_, hn', fun i y v' e1 e2 e3 => ?_⟩, fun y c e => ?_, I.free, I.freeC, fun p hp => ?_, tracked, by simpa using I.len⟩
  · exact (hs.2 b (Nat.ne_of_lt (Nat.lt_of_lt_of_le (Heap.lt_size e) I.ok.above))).trans (I.base.keep b o e n hb hx)
  · obtain ⟨sl, e1⟩ := I.base.slot b o e n hb hx
    exact ⟨sl, (hs.2 b (Nat.ne_of_lt (Nat.lt_of_lt_of_le (Heap.lt_size e) I.ok.above))).trans e1⟩
  · obtain ⟨o', e1⟩ := I.base.there b o e hx
    exact ⟨o', (hs.2 b (Nat.ne_of_lt (Nat.lt_of_lt_of_le (Heap.lt_size e) I.ok.above))).trans e1⟩
  · by_cases hi : i = j
    · subst hi
      rw [List.getElem?_set_self hjσ] at e2
      cases e2
    · rw [List.getElem?_set_ne (Ne.symm hi)] at e2
      obtain ⟨u', r', q⟩ := hl i y v' e1 e2 e3
      refine ⟨u', r', ?_⟩
      rcases q with ⟨k, e⟩ | ⟨k, c, e, z⟩
      · refine .inl ⟨k, ?_⟩
        have : y ≠ n := fun e => hi (zgL hN e1 (e ▸ hj))
        simp [this, e]
      · exact .inr ⟨k, c, e, z.sameBut hs (cne y c e)⟩
  · obtain ⟨w', z⟩ := I.cell y c e
    exact ⟨w', z.sameBut hs (cne y c e)⟩
  · obtain ⟨e, n, ne, nf, d⟩ := I.pin p hp
    exact ⟨(hs.2 p.1 ne).trans e, n, ne, nf, d⟩
end
section
variable {X : Cx} {k : Nat} {f : Addr} {fd : FuncData} {ps : List Str} {sp : Sp} {fx cx n y : Str} {p p2 p3 cp py np ap hp pos : Pos} {e : Expr} {es : List Expr} {t : TA} {cv : Value} {i j : Nat}
end
end L2
end
section
namespace L2
open PySem PySem.Spec PyProof.Rows PySem.W Builtin Builtin.ObjectAttr Builtin.Getset_descriptor
structure ExcK (K : PySem.W.Frag) (C : Addr) : Prop where
  cls : ∃ cd, clsIn K C = some cd
  ga : findIn K (.ref C) "__getattribute__" = some (some (.builtin "BaseException.__getattribute__"))
  noga : findIn K (.ref C) "__getattr__" = some none
  lk : findIn K (.ref C) "__class__" = some (some (.builtin "object.__class__"))
  gs : specialIn K (.builtin "object.__class__") "__get__" = some (some (.builtin "getset_descriptor.__get__"))
  takes : takesIn K (.builtin "object.__class__") = some true
  mro : mroIn K C (.type "object") = some true
  base : subIn K (.ref C) (.type "BaseException") = some true
section
variable {prog : Program} {w : World} {A : Around} {E : Value -> Shared -> Prop} {s : Shared} {K : PySem.W.Frag} {x C : Addr} {M : Model} {h : Heap}
theorem zdD (p : zfT x (.ref C) h) : Looks M h (typeOf (.ref x)) (.ref C) := by
  obtain ⟨o, vs, h1, h2, _⟩ := p
  exact h2 ▸ (Looks.ld h1).andThen .now
theorem zml (Z : ExcK K C) (X : K.In h) : Looks M h (Builtin.ObjectAttr.find (.ref x) (.ref C) "__class__") (.bind (.builtin "getset_descriptor.__get__") (.builtin "object.__class__")) := by
  have L1 := looks_findIn (M := M) X Z.lk
  have L2 : Looks M h (Builtin.ObjectAttr.getOf (some (.builtin "object.__class__"))) (some (.builtin "getset_descriptor.__get__")) := looks_specialIn X Z.gs
  have L3 := looks_takesIn (M := M) X Z.takes
  exact L1.andThen (L2.andThen ((show Looks M h (Builtin.ObjectAttr.dataDescriptor? (some (.builtin "object.__class__")) (some (.builtin "getset_descriptor.__get__"))) (some (.builtin "getset_descriptor.__get__", .builtin "object.__class__")) from L3.andThen .now).andThen (Looks.tag .now)))
theorem znV {tp : Value} {R : Result -> Shared -> Prop} (Z : ExcK K C) (X : K.In s.heap) (p : zfT x (.ref C) s.heap)
    (h : R (.ok (.ret (.ref C))) s) : codeAny (model prog w) A (.call (.builtin "getset_descriptor.__get__") ⟨[.builtin "object.__class__", .ref x, tp], []⟩) R s := by
  obtain ⟨hh, g, dr, t, os⟩ := s
  have L0 := zdD (M := model prog w) p
  have L1 := looks_mroIn (M := model prog w) X Z.mro
  refine codeAny_call_builtin KF.slot_gs.plain KF.entry_gs (KF.slot_gs.check _ _ _ _ _ _ _ _ KF.type_class (KF.args_gs _ _ _) ?_)
  unfold Builtin.«getset_descriptor.__get__» descrGet
  rw [dga_obj]
  refine wpAny_bind (wpAny_pure ?_)
  unfold descrGetter descrCheckInstance descrNameAndClass isInstance
  simp only [KF.owner_class]
  repeat lk
  refine ⟨Code.quiet_builtin _ (by decide +kernel), codeAny_builtin KF.entry_class ?_⟩
  unfold Builtin.«object.__class__» shownTypeOf
  repeat lk
  exact h
theorem zk0 {tk : Tok} {Q : Fin -> Shared -> Prop} (Z : ExcK K C) (X : K.In s.heap) (p : zfT x (.ref C) s.heap) (h : Q (.done (.ret (.ref C))) s) :
    wpAny (model prog w) A (Builtin.«object.__getattribute__» ⟨[.ref x, .str "__class__" tk], []⟩) Q E s := by
  obtain ⟨hh, g, dr, t, os⟩ := s
  have L0 := zdD (M := model prog w) p
  have L1 := zml (M := model prog w) (x := x) Z X
  unfold Builtin.«object.__getattribute__»
  refine wpAny_bind (wpAny_pure ?_)
  refine wpAny_bind (wpAny_pure ?_)
  refine wpAny_bind (L0.at (wpAny_bind (L1.at ?_)))
  show wpAny _ _ (bindTo (.builtin "getset_descriptor.__get__") (.builtin "object.__class__") (.ref x) (.ref C)) _ _ _
  unfold bindTo
  exact wpAny_bind (wpAny_holding (wpAny_call (znV Z X p (wpAny_pure h))))
theorem zhF {nameV : Value} {Q : Unit -> Shared -> Prop} (Z : ExcK K C) (X : K.In s.heap) (p : zfT x (.ref C) s.heap) (hq : Q () s) : wpAny M A (checkBuiltinCall "BaseException.__getattribute__" ⟨[.ref x, nameV], []⟩) Q E s := by
  obtain ⟨hh, g, dr, t, os⟩ := s
  have hk : builtinKind "BaseException.__getattribute__" = some .slot := by decide +kernel
  have hsplit : splitId "BaseException.__getattribute__" = some ("BaseException", "__getattribute__") := by decide +kernel
  have L0 := zdD (M := M) p
  have L1 : Looks M hh (isSubtype (.ref C) (.type "BaseException")) true := looks_subIn X Z.base
  have L2 : Looks M hh (isInstance (.ref x) (.type "BaseException")) true := L0.andThen L1
  have ha := F.args_bexc_ga (.ref x) nameV
  simp only [checkBuiltinCall, hk, hsplit]
  refine wpAny_bind (L2.at ?_)
  repeat (first | exact hq | wp_step)
theorem zmm {tk : Tok} {R : Result -> Shared -> Prop} (Z : ExcK K C) (X : K.In s.heap) (p : zfT x (.ref C) s.heap) (h : R (.ok (.ret (.ref C))) s) :
    codeAny (model prog w) A (.call (.builtin "BaseException.__getattribute__") ⟨[.ref x, .str "__class__" tk], []⟩) R s :=
  codeAny_call_builtin F.attr_ValueError.ga.plain F.entry_bexc_ga (zhF Z X p (zk0 Z X p h))
theorem zk1 {Q : Option Value -> Shared -> Prop} (Z : ExcK K C) (X : K.In s.heap) (p : zfT x (.ref C) s.heap) (h : Q (some (.ref C)) { s with toks := s.toks + 1 }) : wpAny (model prog w) A (getAttr? (.ref x) "__class__") Q E s := by
  obtain ⟨hh, g, d, t, os⟩ := s
  have L0 := zdD (M := model prog w) p
  have L1 := looks_findIn (M := model prog w) X Z.ga
  have L2 := looks_findIn (M := model prog w) X Z.noga
  have hb := F.attr_ValueError.ga.bind (.ref x)
  unfold getAttr? getAttrBy? getAttrBy
  refine wpAny_bind (wpAny_mkText (wpAny_bind (wpAny_attempt (wpAny_holding (wpAny_bind (L0.at (wpAny_bind (L1.at ?_))))))))
  show wpAny _ _ (getAttrByItsOwn _ _ _ _ _ _) _ _ _
  unfold getAttrByItsOwn hookBefore
  refine wpAny_bind (L2.at ?_)
  refine wpAny_bind (wpAny_attempt (wpAny_holding ?_))
  show wpAny _ _ (boundAndCalled _ _ _) _ _ _
  unfold boundAndCalled
  rw [hb]
  refine wpAny_bind (wpAny_pure ?_)
  refine wpAny_call (zmm Z X p ?_)
  exact handed_on rfl (wpAny_pure h)
theorem ziV (Z : ExcK K C) : KitX K (.ref x) (.ref C) (zfT x (.ref C)) where
  ty := fun _ _ _ p => zdD p
  it := fun _ _ X _ => by
    obtain ⟨cdD, hcD⟩ := Z.cls
    unfold clsIn at hcD
    split at hcD
    · rename_i c' d' cd' sl' ho
      intro A' Q' E' s' k q
      unfold isType loadHead
      exact wpAny_bind (wpAny_loadPart (k _ _ (X _ _ ho)) (wpAny_pure q))
    · cases hcD
  ne := fun h tp dd its n sl X htp => by
    obtain ⟨cdD, hcD⟩ := Z.cls
    refine Bool.eq_false_iff.mpr fun q => ?_
    have e : C = tp := Value.ref.inj (beq_iff_eq.mp q)
    subst e
    unfold clsIn at hcD
    split at hcD
    · rename_i c' d' cd' sl' ho
      have z := (X _ _ ho).symm.trans htp
      cases z
    · cases hcD
  ca := fun X p k => zk1 Z X p k
end
end L2
end
section
namespace L2
open PySem PySem.Spec PyProof.Rows
section
variable {Γ : Cn} {X : Cx} {a b c e o i : Expr} {es : List Expr} {fa fb fc f fo fk fx : FE} {fr fi : FA} {pos p apos cpos : Pos}
end
end L2
end
section
namespace L2
open PySem PySem.Spec PyProof.Rows
section
variable {Γ : Cn} {X : Cx} {a : Expr} {fa : FE} {pos : Pos}
theorem zn4 (h : DE Γ X a fa) : DE Γ X (.UnaryOp .USub a pos) (b1 zqA fa) := ⟨fun pins s σ H Q I => by
  rintro ⟨G₀, H₀, G, ρ, d, A, hq, k⟩
  unfold b1 at hq
  obtain ⟨x, hx, hq⟩ := Option.bind_eq_some_iff.mp hq
  refine UnaryOp_ (thn (h.1 pins s σ H (fun v H' => ∃ G', Step G H G' H' /\ Rep Γ X.K G' v x) I ⟨G₀, H₀, G, ρ, x, A, hx, fun v G' H' st r => ⟨G', st, r⟩⟩) fun v s1 ⟨v', H1, I1, r1, G1, st, rp⟩ => ?_)
  unfold zqA at hq
  split at hq
  · cases hq
    cases rp.int_inv
    obtain ⟨t, rfl⟩ := r1
    exact PyProof.Rows.neg_int ⟨.int _, H1, I1.tok _, ⟨_, rfl⟩, k _ G1 H1 st (.int _)⟩
  · cases hq⟩
end
def zpY : V -> Option Value
  | .ref a => some (.ref a)
  | .ty n => some (.type n)
  | _ => none
theorem ziC {c : V} {u cv : Value} (r : zbJ c u) (h : zpY c = some cv) : u = cv := by
  cases c <;> cases h
  · exact r
  · exact r
theorem zhb : ∀ {xs : List V} {us its : List Value}, zbC xs us -> xs.mapM zpY = some its -> us = its
  | [], _, _, .nil, h => by cases h; rfl
  | x :: xs, u :: us, its, .cons r t, h => by
    rw [List.mapM_cons] at h
    obtain ⟨a, ha, h⟩ := Option.bind_eq_some_iff.mp h
    obtain ⟨b, hb, h⟩ := Option.bind_eq_some_iff.mp h
    cases h
    rw [ziC r ha, zhb t hb]
inductive TyX (K : PySem.W.Frag) (H : Hp) : V -> Value -> Prop where
  | non : TyX K H .non (.type "NoneType")
  | exc {a C : Addr} : H a = some (.ext (zfT a (.ref C))) -> ExcK K C -> TyX K H (.ref a) (.ref C)
inductive IsiC (K : PySem.W.Frag) (H : Hp) (t : Value) : V -> Bool -> Prop where
  | one {c : V} {cv : Value} {b : Bool} : zpY c = some cv -> PySem.W.kitOne K t cv = some b -> IsiC K H t c b
  | tup {tp : Addr} {xs : List V} {its : List Value} {b : Bool} : H tp = some (.tup xs) -> xs.mapM zpY = some its -> PySem.W.kitAny K t its = some b -> IsiC K H t (.ref tp) b
section
variable {X : Cx}
end
structure RefK (K : PySem.W.Frag) (mg : Str -> Option Value) (CP CS CR CY CH CT : Addr) : Prop where
  mP : mg "NoPlan" = some (.ref CP)
  mS : mg "ShopError" = some (.ref CS)
  mR : mg "NoRow" = some (.ref CR)
  mY : mg "NoSay" = some (.ref CY)
  mH : mg "NoShop" = some (.ref CH)
  mT : mg "NoTree" = some (.ref CT)
  exm : PySem.W.exmOne K (.ref CP) (.ref CS) = some true
  k0 : PySem.W.kitOne K (.type "NoneType") (.ref CP) = some false
  k2 : PySem.W.kitOne K (.ref CP) (.type "ValueError") = some true
  k3 : PySem.W.kitAny K (.ref CP) [.ref CR, .ref CY, .ref CH, .ref CT] = some false
  exk : ExcK K CP
end L2
end
section
namespace L2
open PySem PySem.Spec PyProof.Rows
end L2
end
section
namespace L2
open PySem PySem.Spec PyProof.Rows
def Dk (h h' : Heap) : Prop := ∀ (b : Nat) (o : Obj), h.objs[b]? = some o -> ∃ o', h'.objs[b]? = some o' /\ o'.dict = o.dict
theorem Dk.refl (h : Heap) : Dk h h := fun _ o e => ⟨o, e, rfl⟩
theorem Dk.trans {a b c : Heap} (x : Dk a b) (y : Dk b c) : Dk a c := fun i o e => by
  obtain ⟨o1, e1, d1⟩ := x i o e
  obtain ⟨o2, e2, d2⟩ := y i o1 e1
  exact ⟨o2, e2, d2.trans d1⟩
theorem Dk.at {h h' : Heap} (x : Dk h h') {b : Addr} {o o' : Obj} (e : h.get? b = some o) (e' : h'.get? b = some o') : o'.dict = o.dict := by
  obtain ⟨o1, e1, d1⟩ := x b o (Heap.get?_some_iff.mp e).1
  have := (Heap.get?_some_iff.mp e').1
  rw [e1] at this
  cases this
  exact d1
theorem Dk.push (h : Heap) (o : Obj) : Dk h (h.push o) := fun b u e => ⟨u, by
  have hb := (Array.getElem?_eq_some_iff.mp e).1
  show (h.objs.push o)[b]? = some u
  rw [Array.getElem?_push_lt hb, ← e, Array.getElem?_eq_getElem hb], rfl⟩
theorem Dk.upd (h : Heap) (a : Addr) {f : Obj -> Obj} (hf : ∀ o, (f o).dict = o.dict) : Dk h (h.update a f) := fun b u e => by
  show ∃ o', (h.objs.modify a f)[b]? = some o' /\ o'.dict = u.dict
  rw [Array.getElem?_modify, e]
  by_cases q : a = b
  · rw [if_pos q]; exact ⟨f u, rfl, hf u⟩
  · rw [if_neg q]; exact ⟨u, rfl, rfl⟩
def KD {α : Type} (t : Sem α) : Prop := ∀ (M : Model) (Γ : PySem.Ctx) (Q : α -> Pos -> Shared -> Prop) (E : Value -> Pos -> Shared -> Prop) (p : Pos) (s : Shared), Sem.wp M Γ t Q E p s -> Sem.wp M Γ t (fun a p' s' => Q a p' s' /\ Dk s.heap s'.heap) E p s
section
variable {α β : Type} {t : Sem α} {f : α -> Sem β}
theorem zbr (a : α) : KD (pure a : Sem α) := fun _ _ _ _ _ s h => by rw [Sem.wp_pure'] at h ⊢; exact ⟨h, .refl _⟩
theorem zf1 (x : String) : KD (unsupported x : Sem α) := fun M Γ Q E p s h => by
  have z : Sem.wp M Γ (Sem.unsupported x : Sem α) Q E p s := h
  rw [Sem.wp_unsupported] at z
  exact z.elim
theorem za3 (h1 : KD t) (h2 : ∀ a, KD (f a)) : KD (t >>= f) := fun M Γ Q E p s h => by
  rw [Sem.wp_bind'] at h ⊢
  refine Sem.wp_mono M Γ t (fun a p1 s1 ⟨k, d⟩ => ?_) (fun _ _ _ z => z) p s (h1 M Γ _ _ p s h)
  exact Sem.wp_mono M Γ (f a) (fun b p2 s2 ⟨q, d2⟩ => ⟨q, d.trans d2⟩) (fun _ _ _ z => z) p1 s1 (h2 a M Γ _ _ p1 s1 k)
theorem zpk {c : Prop} [Decidable c] {u v : Sem α} (h1 : KD u) (h2 : KD v) : KD (if c then u else v) := by split <;> assumption
theorem zii (a : Addr) : KD (load a) := fun M Γ Q E p s h => by
  obtain ⟨o, ho, q⟩ := h
  exact ⟨o, ho, q, .refl _⟩
theorem zhA (a : Addr) (g : Obj -> Obj) (hg : ∀ o, (g o).dict = o.dict) : KD (update a g) := fun M Γ Q E p s h => by
  obtain ⟨o, q⟩ := h
  exact ⟨o, q, .upd _ a hg⟩
theorem zl9 (o : Obj) : KD (alloc o) := fun M Γ Q E p s h => ⟨h, .push _ o⟩
theorem zgO : KD stack := fun M Γ Q E p s h => ⟨h, .refl _⟩
theorem zl3 (g : Array Value -> Array Value) (o : Obj) : (Obj.mapFields g o).dict = o.dict := by
  unfold Obj.mapFields; split <;> rfl
theorem zfd (v : Value) (i : Nat) : KD (field v i) := by
  unfold field fieldsOf
  refine za3 ?_ fun a => ?_
  · split
    · exact za3 (zii _) fun o => by split <;> first | exact zbr _ | exact zf1 _
    · exact zf1 _
  · split <;> first | exact zbr _ | exact zf1 _
theorem zdX (v : Value) (i : Nat) (x : Value) : KD (setField v i x) := by
  unfold setField updateField
  split
  · refine za3 (zii _) fun o => ?_
    split
    · split
      · exact zhA _ _ (zl3 _)
      · exact zf1 _
    · exact zf1 _
  · exact zf1 _
theorem zdv (e : Value) (f : Option Addr) : KD (setFlight e f) := by
  unfold setFlight
  refine za3 (zfd _ _) fun a => ?_
  split
  · exact zdX _ _ _
  · exact zbr _
theorem ziX : ∀ (l : List Env), KD (readyFrames l)
  | [] => zbr _
  | env :: outer => by
    unfold readyFrames
    split
    · refine za3 (zii _) fun o => ?_
      split
      · exact zbr _
      · refine za3 ?_ fun b => za3 ?_ fun v => za3 (zhA _ _ fun _ => rfl) fun _ => ziX outer
        · unfold behindIsImport
          split
          · exact zbr _
          · split
            · exact zbr _
            · exact za3 (zfd _ _) fun _ => zbr _
        · unfold keptBack
          split
          · split
            · exact zbr _
            · unfold underTheClaimsCaller
              exact za3 (za3 zgO fun _ => zbr _) fun _ => zbr _
          · exact zbr _
    · exact zf1 _
theorem zjC (env : Env) : KD (PySem.frameOf env) := by
  unfold PySem.frameOf frameEnvs
  refine za3 (za3 zgO fun _ => zbr _) fun l => za3 ?_ fun r => ?_
  · unfold frameObject
    split
    · exact zbr _
    · exact za3 (ziX _) fun _ => zbr _
  · split <;> first | exact zbr _ | exact zf1 _
theorem zeX (e : Value) (env : Env) : KD (noteFrame e env) := by
  unfold noteFrame
  split
  · refine za3 (zfd _ _) fun head => ?_
    have fin : ∀ (f : Addr), KD (do setField e 1 (← EntryCells.newEntry head (← PySem.frameOf env) .none (rawInt f) .none (← entryPlaceOf f (head != .none)))) := fun f => by
      refine za3 (zjC _) fun a => za3 ?_ fun pl => za3 ?_ fun b => zdX _ _ _
      · unfold entryPlaceOf
        exact za3 zgO fun _ => by split <;> exact zbr _
      · unfold EntryCells.newEntry newFields newObj
        have z : ∀ d, KD (newObjAsIs (.type "traceback") d) := fun d => by
          unfold newObjAsIs
          exact za3 (zl9 _) fun _ => zbr _
        exact zpk (za3 (zf1 _) fun _ => z _) (z _)
    split
    · refine za3 (zfd _ _) fun x => ?_
      split
      · exact zbr _
      · exact za3 (zdX _ _ _) fun _ => fin _
    · exact fin _
  · exact zf1 _
theorem zjB (env : Env) (e : Value) : KD (leaving env e) := za3 (zeX _ _) fun _ => zdv _ _
theorem KD.any {M : Model} {A : Around} {Q : α -> Shared -> Prop} {E : Value -> Shared -> Prop} {s : Shared} (k : KD t) (h : wpAny M A t Q E s) : wpAny M A t (fun a s' => Q a s' /\ Dk s.heap s'.heap) E s :=
  fun Γ p hΓ => k M Γ _ _ p s (h Γ p hΓ)
end
end L2
end
section
namespace L2
open PySem PySem.Spec PyProof.Rows PySem.W Builtin Builtin.ObjectAttr
def zlw : List Value := [.type "ValueError", .type "Exception", .type "BaseException", .type "object"]
structure ExC (h : Heap) (C : Addr) : Prop where
  ex : ∃ nm q N bs bm sn sub ab col dd k0 k1 k2 k3 k5, h.get? C = some (excClassObj nm q C N bs bm true sn sub ab col dd k0 k1 k2 k3 k5 "ValueError.__new__") /\ OwnTail h zlw bm
theorem ExC.keeps {h h' : Heap} {C : Addr} (x : ExC h C) (k : ∀ b o, h.get? b = some o -> h'.get? b = some o) : ExC h' C := by
  obtain ⟨nm, q, N, bs, bm, sn, sub, ab, col, dd, k0, k1, k2, k3, k5, e, T⟩ := x.ex
  exact ⟨nm, q, N, bs, bm, sn, sub, ab, col, dd, k0, k1, k2, k3, k5, k _ _ e, T.keeps k⟩
def zfU (C t : Addr) (od : Option Addr) : Obj := { cls := .ref C, dict := od, data := .fields #[.ref t, .none, .none, .none, .bool false, .none] }
section
variable {prog : Program} {w : World} {A : Around} {E : Value -> Shared -> Prop} {s : Shared} {K : PySem.W.Frag} {C fI e t : Addr}
theorem zlX {zbL : List Value} {Q : Fin -> Shared -> Prop} (X : K.In s.heap) (c : ExC s.heap C) (hi : findIn K (.ref C) "__init__" = some (some (.ref fI))) (hf : typeIn K (.ref fI) = some (.type "function"))
    (hq : ∀ h' e, Heap.MadeExcOf s.heap h' e (.ref C) zbL -> codeAny (model prog w) A (.call (.ref fI) ⟨.ref e :: zbL, []⟩) (fun r s' => r = .ok (.ret .none) /\ Q (.done (.ret (.ref e))) s') { s with heap := h' }) (hrest : zbL.length <= sizeLine) :
    wpAny (model prog w) A (Builtin.«type.__call__» ⟨.ref C :: zbL, []⟩) Q E s := by
  have FB := PySem.F.excBase_ValueError
  obtain ⟨nm, q, N, bs, bm, sn, sub, ab, col, dd, k0, k1, k2, k3, k5, hC, T⟩ := c.ex
  obtain ⟨h, g, d, tk, os⟩ := s
  dsimp only at hC T X hq
  repeat (first | with_reducible refine wpAny_loadPart_at hC ?_ | with_reducible refine wpAny_madeBy_exc hC ?_ | wp_step)
  refine codeAny_call_builtin_code (Code.quiet_builtin _ FB.quiet) (wpAny_check_new_subT FB T hC ?_)
  refine codeAny_exc_new_subT FB T hC ?_ hrest
  show wpAny _ _ _ _ _ _
  have up : ∀ b o, h.get? b = some o -> ((h.push { cls := .type "tuple", data := .seq zbL.toArray }).push (zfU C h.objs.size none)).get? b = some o := fun b o z => Heap.get?_push_of_some _ (Heap.get?_push_of_some _ z)
  have hC1 := up _ _ hC
  have X1 : K.In ((h.push { cls := .type "tuple", data := .seq zbL.toArray }).push (zfU C h.objs.size none)) := X.keeps up
  have hE : ((h.push { cls := .type "tuple", data := .seq zbL.toArray }).push (zfU C h.objs.size none)).get? (h.objs.size + 1) = some (zfU C h.objs.size none) := Heap.get?_push_at (by simp only [Heap.size_push]) rfl
  have hcC : (Value.ref C :: bm).contains (.ref C) = true := by simp
  unfold isInstance
  unfold zfU at hE hC1 X1 up
  repeat (first | with_reducible refine wpAny_loadPart_at hE ?_ | (with_reducible refine wpAny_isSubtype_exc hC1 ?_; rw [hcC]) | wp_step)
  show wpAny _ _ (typeLookup (.ref C) _) _ _ _
  refine (looks_findIn (M := model prog w) X1 hi).at ?_
  refine wpAny_holding (wpAny_bind ((bind_fn (M := model prog w) X1 (.ref (h.objs.size + 1)) hf).at ?_))
  refine wpAny_bind (wpAny_call (codeAny_mono (hq _ (h.objs.size + 1) ⟨up, Heap.get?_none_of_le (Nat.le_succ _), h.objs.size, hE, Heap.get?_none_of_le (Nat.le_refl _), ?_⟩) fun r s' z => ?_))
  · exact Heap.get?_push_of_some _ (Heap.get?_push_at rfl rfl)
  · obtain ⟨rfl, z⟩ := z
    show wpAny _ _ _ _ _ _
    wp_walk
    exact z
theorem zlY {zbL : List Value} {Q : Value -> Shared -> Prop} (X : K.In s.heap) (c : ExC s.heap C) (hi : findIn K (.ref C) "__init__" = some (some (.ref fI))) (hf : typeIn K (.ref fI) = some (.type "function"))
    (hq : ∀ h' e, Heap.MadeExcOf s.heap h' e (.ref C) zbL -> codeAny (model prog w) (A.under (.builtin "type.__call__" ⟨.ref C :: zbL, []⟩)) (.call (.ref fI) ⟨.ref e :: zbL, []⟩) (fun r s' => r = .ok (.ret .none) /\ Q (.ref e) s') { s with heap := h' }) (hrest : zbL.length <= sizeLine) :
    wpAny (model prog w) A (call (.ref C) zbL) Q E s := by
  obtain ⟨nm, q, N, bs, bm, sn, sub, ab, col, dd, k0, k1, k2, k3, k5, hC, T⟩ := id c.ex
  obtain ⟨h, g, d, tk, os⟩ := s
  have f1 := tc_lookup
  have f2 := tc_bind (.ref C)
  have hT : (⟨h, g, d, tk, os⟩ : Shared).TypeIs (.ref C) "type" := ⟨_, hC, rfl⟩
  refine wpAny_call (codeAny_of_tree ?_)
  show wpAny _ _ (callAny (.ref C) _) _ _ _
  repeat (any_goals (first | assumption | with_reducible refine wpAny_loadPart_at hC ?_ | wp_step))
  refine ⟨rfl, codeAny_call_builtin_at (Code.quiet_builtin _ (by decide +kernel)) entry_typeCall (wpAny_check_type_call_sub hC (zlX X c hi hf (fun h' e hm => ?_) hrest))⟩
  exact hq h' e hm
end
end L2
end
section
namespace L2
open PySem PySem.Spec PyProof.Rows PySem.W Builtin Builtin.ObjectAttr
section
variable {prog : Program} {w : World} {A : Around} {E : Value -> Shared -> Prop} {s : Shared} {K : PySem.W.Frag} {C fI e t : Addr} {name : Str} {v : Value}
theorem zln {Q : Value -> Shared -> Prop} (c : ExC s.heap C) (he : s.heap.get? e = some (zfU C t none))
    (hq : ∀ h' t', (∀ b o, b ≠ e -> s.heap.get? b = some o -> h'.get? b = some o) -> h'.get? e = some (zfU C t' none) -> Q .none { s with heap := h' }) :
    wpAny (model prog w) A (call (.builtin "ValueError.__init__") [.ref e, v]) Q E s := by
  have FB := PySem.F.excBase_ValueError
  obtain ⟨nm, q, N, bs, bm, sn, sub, ab, col, dd, k0, k1, k2, k3, k5, hC, T⟩ := c.ex
  obtain ⟨h, g, d, tk, os⟩ := s
  dsimp only at hC T he hq
  have hE := he
  unfold zfU at hE
  refine wpAny_call (codeAny_call_builtin FB.init.plain FB.initEntry (wpAny_check_init_subT FB T hC hE rfl ?_))
  wp_walk
  refine hq _ h.objs.size (fun b o hb z => ?_) ?_
  · rw [Heap.get?_update_other _ _ (Ne.symm hb)]
    exact Heap.get?_push_of_some _ z
  · rw [Heap.get?_update_self _ (Heap.get?_push_of_some _ hE) rfl]
    rfl
theorem znU {Q : Unit -> Shared -> Prop} {cd : ClassData} {bm : List Value} (X : K.In s.heap) (he : s.heap.get? e = some (zfU C t none)) (hs : findIn K (.ref C) "__setattr__" = some (some (.builtin "object.__setattr__")))
    (hc : clsIn K C = some cd) (hm : cd.mro = .ref C :: bm) (hb : ∀ self, refuseLoop self "__setattr__" bm = pure ()) (ho : mroIn K C (.type "object") = some true) (hdct : cd.hasDict = true) (hn : findIn K (.ref C) name = some none)
    (hq : ∀ h' dx tk, s.heap.objs.size <= dx -> (∀ b o, b ≠ e -> s.heap.get? b = some o -> h'.get? b = some o) -> h'.get? e = some (zfU C t (some dx)) -> h'.Ns1 dx (fun y => if y = name then some v else none) -> Q () { s with heap := h', toks := tk }) :
    wpAny (model prog w) A (setAttr (.ref e) name v) Q E s := by
  have SF := PySem.F.store_ValueError
  have I : InstAt s.heap e (zfU C t none) C none := ⟨he, rfl, rfl, True.intro⟩
  refine set_plain X I hs ?_
  have he' : ({ s with toks := s.toks + 1 } : Shared).heap.get? e = some (zfU C t none) := he
  generalize hs' : ({ s with toks := s.toks + 1 } : Shared) = s1
  have e1 : s1.heap = s.heap := by rw [← hs']
  have X1 : K.In s1.heap := by rw [e1]; exact X
  have I1 : InstAt s1.heap e (zfU C t none) C none := by rw [e1]; exact I
  have hq1 : ∀ h' dx tk, s1.heap.objs.size <= dx -> (∀ b o, b ≠ e -> s1.heap.get? b = some o -> h'.get? b = some o) -> h'.get? e = some (zfU C t (some dx)) -> h'.Ns1 dx (fun y => if y = name then some v else none) -> Q () { s1 with heap := h', toks := tk } := by
    subst hs'; exact hq
  clear hq he' hs' e1 X I he
  have sub : Looks (model prog w) s1.heap (isInstance (.ref e) (.type "object")) true := I1.type.andThen (looks_mroIn X1 ho)
  refine codeAny_call_builtin SF.slot.plain SF.entry (@check_slot (model prog w) _ _ s1 "object.__setattr__" "object" "__setattr__" (.ref e) [.str name s.toks, v] [] _ SF.kind SF.split sub (SF.args (.ref e) (.str name s.toks) v) ?_)
  have L : Looks (model prog w) s1.heap (mroOf (.ref C)) cd.mro := (looks_clsIn X1 hc).andThen .now
  rw [osa_eq, refuse_eq]
  refine wpAny_bind (wpAny_bind (I1.type.here (wpAny_bind (L.here ?_))))
  rw [hm, refuseLoop_ref, hb]
  refine wpAny_pure (wpAny_bind (I1.type.here (wpAny_bind ((looks_findIn X1 hn).here (wpAny_bind (wpAny_pure ?_))))))
  have hx := I1.at_
  unfold zfU at hx
  obtain ⟨h, g, d, tk, os⟩ := s1
  dsimp only at hx hq1 X1
  show wpAny _ _ (storeInOwnDict (.ref e) (.ref C) _ name v _) _ _ _
  unfold storeInOwnDict ownStreamTells ownDictForStores instanceDict
  refine wpAny_bind (wpAny_pure (wpAny_bind (wpAny_bind (wpAny_loadPart hx (wpAny_bind (Looks.here (s := ⟨h, g, d, tk, os⟩) (looks_clsIn X1 hc) ?_))))))
  rw [hdct]
  have hx1 : (h.push { cls := .type "dict", data := .dict #[] }).get? e = some _ := Heap.get?_push_of_some _ hx
  have hxs : e ≠ h.objs.size := Nat.ne_of_lt (Heap.lt_size hx)
  rw [if_neg (by simp)]
  refine wpAny_bind (wpAny_alloc' ?_)
  refine wpAny_bind (wpAny_update' hx1 ?_)
  refine wpAny_pure ?_
  have hgd : ((h.push { cls := .type "dict", data := .dict #[] }).update e fun o => { o with dict := some h.objs.size }).get? h.objs.size = some { cls := .type "dict", data := .dict #[] } :=
    (Heap.get?_update_ne _ _ _ _ hxs.symm).trans (Heap.get?_push_at rfl rfl)
  have hnd : ((h.push { cls := .type "dict", data := .dict #[] }).update e fun o => { o with dict := some h.objs.size }).Ns h.objs.size (fun _ => none) := ⟨_, #[], _, hgd, rfl, fun e he => absurd he (by simp), fun _ => rfl⟩
  show wpAny _ _ (storeInDict h.objs.size _ name v) _ _ _
  unfold storeInDict newKeyGuard
  refine wpAny_bind (wpAny_pure (wpAny_bind (wpAny_nsSet1 (Heap.Ns1.of_empty hnd) fun h' hn' hs => ?_)))
  obtain ⟨oD, esD, epD, hoD, hdD, hcD⟩ := hn'.count (Within.cons name v Within.nil)
  refine wpAny_bind (wpAny_lookBehind hoD (by rw [hdD]; exact pastItsLine_dict (Nat.le_trans hcD (by rw [List.length_cons, List.length_nil, sizeLine_eq]; omega))) ?_)
  refine wpAny_pure (hq1 h' h.objs.size _ (Nat.le_refl _) (fun b ob hbx z => ?_) ?_ hn')
  · exact (hs.2 b (Nat.ne_of_lt (Heap.lt_size z))).trans ((Heap.get?_update_ne _ _ _ _ hbx).trans (Heap.get?_push_of_some _ z))
  · exact (hs.2 e hxs).trans (Heap.get?_update_self _ hx1 rfl)
end
end L2
end
section
namespace L2
open PySem PySem.Spec PyProof.Rows PySem.W Builtin Builtin.ObjectAttr Builtin.Getset_descriptor
def ze5 (a C dx : Addr) (h : Heap) : Prop := ∃ o vs, h.get? a = some o /\ o.cls = .ref C /\ o.data = .fields vs /\ o.dict = some dx
theorem ze5.exc {a C dx : Addr} {h : Heap} (x : ze5 a C dx h) : zfT a (.ref C) h := by
  obtain ⟨o, vs, e, c, d, _⟩ := x
  exact ⟨o, vs, e, c, d⟩
theorem ze5.stay {a C dx : Addr} {h1 h2 : Heap} (x : ze5 a C dx h1) (k : ∀ o, h1.get? a = some o -> h2.get? a = some o) : ze5 a C dx h2 := by
  obtain ⟨o, vs, e, c⟩ := x
  exact ⟨o, vs, k _ e, c⟩
section
variable {prog : Program} {w : World} {A : Around} {E : Value -> Shared -> Prop} {s : Shared} {K : PySem.W.Frag} {x C dx : Addr} {name : Str} {v : Value} {mA : Str -> Option Value}
theorem zmn {expr : Bool} {Q : Value -> Shared -> Prop} (Z : ExcK K C) (X : K.In s.heap) (p : ze5 x C dx s.heap) (hn : s.heap.Ns1 dx mA) (hv : mA name = some v) (hh : hasDictIn K C = true) (hf : findIn K (.ref C) name = some none) (hv' : handedIn v = true)
    (h : Q v { s with toks := s.toks + 1 }) : wpAny (model prog w) A (getAttr (.ref x) name expr) Q E s := by
  obtain ⟨od, hod, hlk⟩ := zhy hn
  have p1 := p.exc
  obtain ⟨ox, vs, ho, hc, hdt, hdx⟩ := p
  have I : InstAt s.heap x ox C (some od) := ⟨ho, hc, by unfold notCls; rw [hdt], by rw [hdx]; exact hod⟩
  have L2 := looks_findIn (M := model prog w) X Z.noga
  have hb := F.attr_ValueError.ga.bind (.ref x)
  have hfo : findObj K C (some od) name = some (.value v) := findObj_own hh hf rfl (by rw [hlk, hv])
  obtain ⟨hp, g, d, t, os⟩ := s
  dsimp only at X I p1 h hn
  have L0 := zdD (M := model prog w) p1
  have L1 := looks_findIn (M := model prog w) X Z.ga
  have LF := looks_find (M := model prog w) X I hfo
  unfold getAttr getAttrBy
  refine wpAny_bind (wpAny_mkText (wpAny_holding (wpAny_bind (L0.at (wpAny_bind (L1.at ?_))))))
  show wpAny _ _ (getAttrByItsOwn _ _ _ _ _ _) _ _ _
  unfold getAttrByItsOwn hookBefore
  refine wpAny_bind (L2.at ?_)
  refine wpAny_bind (wpAny_attempt (wpAny_holding ?_))
  unfold callGetattribute
  rw [show (expr && onTheHeap (Value.builtin "BaseException.__getattribute__")) = false from Bool.and_false _, if_neg (by decide)]
  unfold boundAndCalled
  rw [hb]
  refine wpAny_bind (wpAny_pure ?_)
  refine wpAny_call (codeAny_call_builtin F.attr_ValueError.ga.plain F.entry_bexc_ga (zhF Z X p1 ?_))
  unfold Builtin.«object.__getattribute__»
  refine wpAny_bind (wpAny_pure ?_)
  refine wpAny_bind (wpAny_pure ?_)
  refine wpAny_bind (L0.at (wpAny_bind (LF.at ?_)))
  exact wpAny_pure (handed_on hv' h)
end
end L2
end
section
namespace L2
open PySem PySem.Spec PyProof.Rows
def ExN (a C : Addr) (h : Heap) : Prop := ∃ t, h.get? a = some (zfU C t none)
def ExM (a C dx : Addr) (h : Heap) : Prop := ∃ t, h.get? a = some (zfU C t (some dx))
theorem ExN.stay {a C : Addr} {h1 h2 : Heap} (x : ExN a C h1) (k : ∀ o, h1.get? a = some o -> h2.get? a = some o) : ExN a C h2 := let ⟨t, e⟩ := x; ⟨t, k _ e⟩
theorem ExM.stay {a C dx : Addr} {h1 h2 : Heap} (x : ExM a C dx h1) (k : ∀ o, h1.get? a = some o -> h2.get? a = some o) : ExM a C dx h2 := let ⟨t, e⟩ := x; ⟨t, k _ e⟩
structure XCls (K : PySem.W.Frag) (base : Heap) (C CS fI : Addr) (f : Str) : Prop where
  cls : ExC base C
  sa : PySem.W.findIn K (.ref C) "__setattr__" = some (some (.builtin "object.__setattr__"))
  cd : ∃ cd, PySem.W.clsIn K C = some cd /\ cd.mro = .ref C :: .ref CS :: zlw /\ cd.hasDict = true
  ob : PySem.W.mroIn K C (.type "object") = some true
  no : PySem.W.findIn K (.ref C) f = some none
  init : PySem.W.findIn K (.ref C) "__init__" = some (some (.ref fI))
  fn : PySem.W.isFn K (.ref fI) = true
  kp : PySem.W.keepIn K (.ref C) = true
section
variable {X : Cx} {pins : List (Addr × Obj)} {σ : St} {H : Hp} {s : Shared} {a C CS fI dx : Addr} {f : Str} {h' : Heap}
theorem Inv.untracked (I : Inv X pins σ H s) (hn : s.heap.get? a = none) : H a = none := by
  cases q : H a with
  | none => rfl
  | some u =>
    exfalso
    obtain ⟨ob, hob⟩ : ∃ ob, s.heap.get? a = some ob := by
      have z := I.hok a u q
      cases u with
      | lst xs => obtain ⟨_, _, _, _, e⟩ := z; exact ⟨_, e⟩
      | tup xs => obtain ⟨_, _, _, ⟨o, e, _⟩⟩ := z; exact ⟨_, e⟩
      | dK kvs => obtain ⟨_, _, _, _, o, _, _, e, _⟩ := z; exact ⟨_, e⟩
      | dT kvs => obtain ⟨_, _, _, _, o, _, _, e, _⟩ := z; exact ⟨_, e⟩
      | set S n => obtain ⟨o, _, _, _, e, _⟩ := z; exact ⟨_, e⟩
      | ins C dx fs => obtain ⟨_, _, _, e, _⟩ := z; exact ⟨_, e⟩
      | own y => obtain ⟨_, e⟩ := z; exact ⟨_, e⟩
      | xd fs => obtain ⟨_, ⟨_, _, _, e, _⟩, _⟩ := z; exact ⟨_, e⟩
      | rng lo hi => obtain ⟨_, _, _, e⟩ := z; exact ⟨_, e⟩
      | frz ob u => obtain ⟨e, _⟩ := z; exact ⟨_, e⟩
      | tbl ps => exact ⟨_, z⟩
      | met f y => exact ⟨_, z⟩
      | ext φ => obtain ⟨_, ⟨_, e⟩, _⟩ := z; exact ⟨_, e⟩
    rw [hn] at hob
    cases hob
theorem Inv.new1 {o : HO} {t' : Nat} (I : Inv X pins σ H s) (k : ∀ b u, s.heap.get? b = some u -> h'.get? b = some u) (hn : s.heap.get? a = none) (new : zbB X.prog X.w (upd H a o) h' a o) : Inv X pins σ (upd H a o) { s with heap := h', toks := t' } := by
  have ha := I.untracked hn
  have ne : ∀ b u, H b = some u -> b ≠ a := fun b u q => zav q ha
  refine I.un ⟨fun b u q _ _ _ => k b u q, fun b u q _ _ _ => ⟨u.slots, k b u q⟩, fun b u q n _ => ?_, fun b u q _ => ⟨u, k b u q⟩, fun b xs q => ?_, fun b u v q => ?_, fun b ps q => ?_⟩ fun b u q => ?_
  · rw [zas (fun z => by subst z; rw [hn] at q; cases q)]; exact n
  · rw [zas (ne b _ q)]; exact q
  · rw [zas (ne b _ q)]; exact q
  · exact ⟨#[], by rw [zas (ne b _ q), Array.append_empty]; exact q⟩
  · by_cases e : b = a
    · subst e; rw [zaw] at q; cases q; exact new
    · rw [zas e] at q
      exact (I.hok b u q).stay (fun c v _ r => k c v r) (fun c z => by rw [zas (ne c _ z)]; exact z) fun c xs z => by rw [zas (ne c _ z)]; exact z
theorem Inv.forget {φ : Heap -> Prop} (I : Inv X pins σ (upd H a (.ext φ)) s) (hn : H a = none) : Inv X pins σ H s := by
  have sub : ∀ b, upd H a (.ext φ) b = none -> H b = none := fun b q => by
    by_cases e : b = a
    · subst e; exact hn
    · rw [zas e] at q; exact q
  have bk : ∀ b u, (∀ ψ, u ≠ .ext ψ) -> upd H a (.ext φ) b = some u -> H b = some u := fun b u nu q => by
    by_cases e : b = a
    · subst e; rw [zaw] at q; cases q; exact absurd rfl (nu φ)
    · rw [zas e] at q; exact q
  have up : ∀ b u, H b = some u -> upd H a (.ext φ) b = some u := fun b u q => by rw [zas (zav q hn)]; exact q
  refine ⟨I.ok, I.os, I.bare, ⟨I.base.keep, I.base.slot, fun b o q n x => sub b (I.base.free b o q n x), I.base.there, fun b xs q => bk b _ (fun _ z => nomatch z) (I.base.tups b xs q), fun b o u q => bk b _ (fun _ z => nomatch z) (I.base.frzs b o u q), fun b ps q => ?_⟩, I.loc, I.cell, sub _ I.free, fun x c q => sub _ (I.freeC x c q), fun p hp => ?_, fun b u q => ?_, I.len⟩
  · obtain ⟨m, z⟩ := I.base.tbls b ps q
    exact ⟨m, bk b _ (fun _ z => nomatch z) z⟩
  · obtain ⟨h1, h2, h3⟩ := I.pin p hp
    exact ⟨h1, sub _ h2, h3⟩
  · exact (I.hok b u (up b u q)).stay (fun c v _ r => r) (fun c z => bk c _ (fun _ z => nomatch z) z) fun c xs z => bk c _ (fun _ z => nomatch z) z
variable {o e ea value : Expr} {es : List Expr} {ta tv : TE} {t : TA} {pos pos' p apos np cpos : Pos} {cx x : Str}
def zqf (base : Heap) (t : TA) : TE := fun σ H Q => t σ H fun vs H1 => ∃ a y C, vs = [.ref a, y] /\ H1 a = some (.ext (ExN a C)) /\ ExC base C /\ Q .non (upd H1 a (.ext (ExN a C)))
theorem znA {pl : Sem Bool} (hg : Gl X cx) (hm : X.mg cx = some (.ref CS)) (hsp : PySem.W.specialIn X.K (.ref CS) "__getattribute__" = some (some (.builtin "type.__getattribute__"))) (hr : PySem.W.readsIn X.K CS (.type "type") = true)
    (hfc : PySem.W.findCls X.K (.ref CS) (.type "type") "__init__" = some (.val (.builtin "ValueError.__init__"))) (ha : PA X (e :: es) t)
    (hdb : (cx == ("__debug__" : Str)) = false := by decide) (he : starEach (e :: es) X.env = (false, eval e X.env) :: starEach es X.env := by rfl) (hpl : (backTo pos (starEach (e :: es) X.env)).any (·.1) = false := by rfl)
    (ht : eval (.Call (.Attribute (.Name cx p) "__init__" apos) (e :: es) [] pos) X.env = (do
      let ov ← eval (.Name cx p) X.env
      standAt apos.atName
      let (f, first) ← holding [ov] (getMethod ov "__init__" pl)
      callWith pos f first (backTo pos (starEach (e :: es) X.env)) (backToKw pos (keywordEach [] X.env))) := by rfl) :
    PE X (.Call (.Attribute (.Name cx p) "__init__" apos) (e :: es) [] pos) (zqf X.base t) := by
  intro pins s σ H Q I h
  refine PySem.W.methodCall_KW (pl := pl) (zeG I hg hm ?_ hdb) ht
  refine PySem.W.method_cls I.kIn hsp (PySem.W.cls_value I.kIn hr hfc rfl ?_)
  refine Calls.callWith_builtin hpl ?_
  rw [he]
  refine Calls.evalArgs_plain ?_
  have key := ha pos pins { s with toks := s.toks + 1 } σ H _ (I.tok _) h
  rw [he] at key
  refine thn key fun us s1 ⟨vs, H1, I1, r, a, y, C, ev, hH, c, q⟩ => ?_
  subst ev
  obtain ⟨u, w', rfl, r1, r2⟩ := zm7 r
  obtain rfl : u = Value.ref a := r1
  obtain ⟨⟨t0, he0⟩, _⟩ := (show zbB X.prog X.w H1 s1.heap a (.ext (ExN a C)) from I1.hok a _ hH)
  refine zln (c.keeps I1.bk) he0 fun h' t' kp he' => ⟨.non, _, ?_, rfl, q⟩
  exact I1.write (x := a) (e := a) (t' := s1.toks) (by rw [hH]; exact True.intro) (.inl rfl) kp ⟨_, he'⟩ ⟨⟨t', he'⟩, ⟨_, he'⟩, fun h1 h2 z k => z.stay k⟩
def sXs (K : PySem.W.Frag) (base : Heap) (CS fI : Addr) (ta tv : TE) (f : Str) : TS := fun D σ H => tv σ H fun y H1 => ta σ H1 fun x H2 => ∃ a C, x = .ref a /\ H2 a = some (.ext (ExN a C)) /\ XCls K base C CS fI f /\
  ∀ dx, H2 dx = none -> dx ≠ a -> D.nx σ (upd (upd H2 dx (.xd [(f, y)])) a (.ext (ExM a C dx)))
theorem zjr (self : Value) : refuseLoop self "__setattr__" (.ref CS :: zlw) = pure () := by rw [refuseLoop_ref]; exact PySem.F.store_ValueError.passes self
theorem znp (ha : PE X o ta) (hv : PE X value tv) (hs : swapsWith value (some (.Attribute o f pos')) pos.line X.env = pure false := by rfl) : PS X (.Assign [.Attribute o f pos'] value pos) (sXs X.K X.base CS fI ta tv f) := by
  intro pins s σ H D I h
  refine plainObj_wpAny_Assign_Attribute (thn (hv pins s σ H _ I h) fun u s1 ⟨y, H1, I1, ry, q⟩ => thn (ha pins s1 σ H1 _ I1 q) fun ov s2 ⟨x, H2, I2, rx, a, C, ex, hH, Z, q2⟩ => ?_) hs
  subst ex
  obtain rfl : ov = Value.ref a := rx
  obtain ⟨⟨t0, he0⟩, _⟩ := (show zbB X.prog X.w H2 s2.heap a (.ext (ExN a C)) from I2.hok a _ hH)
  obtain ⟨cd, c1, c2, c3⟩ := Z.cd
  refine znU I2.kIn he0 Z.sa c1 c2 (fun self => zjr self) Z.ob c3 Z.no fun h' dx tk hsz kp he' hns => ?_
  have hdn : H2 dx = none := I2.hok.fresh hsz
  have hda : dx ≠ a := fun z => by rw [← z, hdn] at hH; cases hH
  refine ⟨σ, _, ?_, q2 dx hdn hda⟩
  have nea : ∀ b, H2 b = none -> b ≠ a := fun b q z => by rw [z, hH] at q; cases q
  have bk : ∀ b u, (∀ φ, u ≠ .ext φ) -> H2 b = some u -> upd (upd H2 dx (.xd [(f, y)])) a (.ext (ExM a C dx)) b = some u := fun b u nu q => by
    have h1 : b ≠ a := fun z => by rw [z, hH] at q; cases q; exact nu _ rfl
    rw [zas h1, zas (zav q hdn)]; exact q
  refine I2.un (t' := tk) ⟨fun b u q n _ _ => kp b u (nea b n) q, fun b u q n _ _ => ⟨u.slots, kp b u (nea b n) q⟩, fun b u q n _ => ?_, fun b u q _ => ?_, fun b xs q => bk b _ (fun _ z => nomatch z) q, fun b u v q => bk b _ (fun _ z => nomatch z) q, fun b ps q => ⟨#[], by rw [Array.append_empty]; exact bk b _ (fun _ z => nomatch z) q⟩⟩ fun b u q => ?_
  · rw [zas (nea b n), zas (fun z => absurd (Heap.lt_size q) (by rw [z]; exact Nat.not_lt.mpr hsz))]; exact n
  · by_cases z : b = a
    · subst z; exact ⟨_, he'⟩
    · exact ⟨u, kp b u z q⟩
  · by_cases e1 : b = a
    · subst e1; rw [zaw] at q; cases q
      exact ⟨⟨t0, he'⟩, ⟨_, he'⟩, fun h1 h2 z k => z.stay k⟩
    · rw [zas e1] at q
      by_cases e2 : b = dx
      · subst e2; rw [zaw] at q; cases q
        refine ⟨_, hns, fun g => ?_⟩
        by_cases hgf : g = f
        · subst hgf; simpa [List.lookup, zjQ] using ry
        · have hb : (g == f) = false := by simpa using hgf
          simp [List.lookup, hb, hgf, zjQ]
      · rw [zas e2] at q
        refine (I2.hok b u q).stay (fun c v hc r => kp c v ?_ r) (fun c z => bk c _ (fun _ z => nomatch z) z) fun c xs z => bk c _ (fun _ z => nomatch z) z
        rcases hc with rfl | hc
        · exact e1
        · exact fun z => by rw [z, hH] at hc; cases hc
end
end L2
end
section
namespace L2
open PySem PySem.Spec PyProof.Rows
def zoh (C : Addr) (f : Str) : Sp := fun vs H Q _ => ∃ a p, vs = [.ref a, .str p] /\ p.length <= 1000 /\ H a = some (.ext (ExN a C)) /\ ∀ H' dx, zbw H H' -> H' dx = none -> dx ≠ a -> Q .non (upd (upd H' dx (.xd [(f, .str p)])) a (.ext (ExM a C dx)))
def del (G : Hp) (a : Addr) : Hp := fun b => if b = a then none else G b
theorem zeY {G : Hp} {a b : Addr} (h : b ≠ a) : del G a b = G b := by unfold del; rw [if_neg h]
theorem zgT {G : Hp} {a : Addr} : del G a a = none := by unfold del; rw [if_pos rfl]
theorem zm8 {H : Hp} {a b : Addr} {u v : HO} : upd (upd H b u) a v = upd (upd (del H a) b u) a v := by
  funext c
  by_cases h : c = a
  · rw [h, zaw, zaw]
  · rw [zas h, zas h]
    by_cases h2 : c = b
    · rw [h2, zaw, zaw]
    · rw [zas h2, zas h2, zeY h]
theorem zrq {H : Hp} {a b : Addr} {o u v : HO} : upd (upd (upd H a o) b u) a v = upd (upd H b u) a v := by
  funext c
  by_cases h : c = a
  · rw [h, zaw, zaw]
  · rw [zas h, zas h]
    by_cases h2 : c = b
    · rw [h2, zaw, zaw]
    · rw [zas h2, zas h2, zas h]
section
variable {X : Cx} {k : Nat} {C CS fI : Addr} {fd : FuncData} {ps : List Str} {f x : Str} {p pos : Pos} {e : Expr} {es : List Expr} {t : TA}
theorem zl1 {pins : List (Addr × Obj)} {σ : St} {H : Hp} {s : Shared} {Q : Str -> Hp -> Prop} (F : FnOk X.prog X.w X.K X.mg X.base CX0 k fI fd ps (zoh C f)) (Z : XCls X.K X.base C CS fI f) (hr : Room (k + 1) X.A) (hg : Gl X x) (hm : X.mg x = some (.ref C)) (hb : zcZ X.K fd ps [])
    (ha : PA X (e :: es) t) (I : Inv X pins σ H s) (h : t σ H fun vs H1 => ∃ y, vs = [.str y] /\ y.length <= 1000 /\ ∀ H2, zbw H1 H2 -> Q y H2)
    (hex : X.ex = []) (hdb : (x == ("__debug__" : Str)) = false := by decide) (he : starEach (e :: es) X.env = (false, eval e X.env) :: starEach es X.env := by rfl) (hpl : (backTo pos (starEach es X.env)).any (·.1) = false := by rfl) :
    wpAny (model X.prog X.w) X.A (eval (.Call (.Name x p) (e :: es) [] pos) X.env) (fun u s' => ∃ a dx H1 y, u = .ref a /\ X.s₀.heap.get? a = none /\ H1 a = none /\ H1 dx = none /\ dx ≠ a /\ Inv X pins σ (upd (upd H1 dx (.xd [(f, .str y)])) a (.ext (ExM a C dx))) s' /\ Q y H1) X.xe s := by
  refine wpAny_Call_Name_kw (zeG I hg hm ?_ hdb)
  refine PySem.W.callWith_K (h₀ := X.base) I.ok.mod.kin Z.kp (thn (ha pos pins s σ H _ I h) fun us s1 ⟨vs, H1, I1, r, y, ev, hy, q⟩ => ⟨I1.kIn, ?_⟩) he hpl
  subst ev
  obtain ⟨u, rfl, ru⟩ : ∃ u, us = [u] /\ zbJ (.str y) u := by
    cases r with
    | cons r1 r2 => cases r2; exact ⟨_, rfl, r1⟩
  refine zlY (K := X.K) I1.kIn (Z.cls.keeps I1.bk) Z.init (beq_iff_eq.mp Z.fn) (fun h' a hmd => ?_) (by show 1 <= sizeLine; decide)
  obtain ⟨t0, he0, htn, _⟩ := hmd.there
  have I2 : Inv X pins σ (upd H1 a (.ext (ExN a C))) { s1 with heap := h' } := I1.new1 (t' := s1.toks) hmd.keeps hmd.new ⟨⟨t0, he0⟩, ⟨_, he0⟩, fun h1 h2 z k => z.stay k⟩
  have hna : H1 a = none := I1.untracked hmd.new
  have hs0 : X.s₀.heap.get? a = none := by
    cases z : X.s₀.heap.get? a with
    | none => rfl
    | some o =>
      obtain ⟨o', z'⟩ := I1.base.there a o z (by rw [hex]; simp)
      rw [hmd.new] at z'
      cases z'
  have r2 : zbC [V.ref a, V.str y] [Value.ref a, u] := .cons rfl (.cons ru .nil)
  have hsp : zoh C f [.ref a, .str y] (upd H1 a (.ext (ExN a C))) (fun v H2 => v = .non /\ ∃ H3 dx, zbw H1 H3 /\ H3 a = none /\ H3 dx = none /\ dx ≠ a /\ H2 = upd (upd H3 dx (.xd [(f, .str y)])) a (.ext (ExM a C dx))) E0 := ⟨a, y, rfl, hy, zaw, fun H' dx sm hdx hne => ⟨rfl, del H' a, dx, fun b o q => by
    have nb : b ≠ a := zav q hna
    rw [zeY nb]
    exact sm b o (by rw [zas nb]; exact q), zgT, by rw [zeY hne]; exact hdx, hne, zm8⟩⟩
  have hl : ([Value.ref a, u] ++ []).length = ps.length := by
    have := F.len _ _ _ _ hsp
    exact this
  refine codeAny_mono (F.run _ X.stack { s1 with heap := h' } _ ⟨[.ref a, u], []⟩ [.ref a, u] _ _ E0 (hr.make C [u] []) (I2.env0.make C [u] []) (by have := hb { s1 with heap := h' } [.ref a, u] I2.kIn hl; rwa [List.append_nil] at this) r2 hsp) fun r s' hq => ?_
  cases r with
  | error z => exact False.elim hq
  | ok fl =>
    cases fl with
    | ret u' =>
      obtain ⟨v, H', I3, rv, ev, H3, dx, sm, q0, q1, q2, q3⟩ := I2.after hq
      subst ev q3
      obtain rfl : u' = Value.none := rv
      exact ⟨rfl, a, dx, H3, y, rfl, hs0, q0, q1, q2, I3, q H3 sm⟩
    | next => exact False.elim hq
    | brk => exact False.elim hq
    | cont => exact False.elim hq
end
section
variable {M : Model} {A : Around} {E : Value -> Shared -> Prop} {s : Shared} {env : Env}
theorem zkh {x : Sem Value} {Q : Flow -> Shared -> Prop} (hh : A.handled = none)
    (h : wpAny M A x (fun v s₁ => ∃ e t od C, v = .ref e /\ ExC s₁.heap C /\ s₁.heap.get? e = some (zfU C t od) /\ E (.ref e) s₁) E s) : wpAny M A (raiseStmt env (some x) none) Q E s := by
  unfold raiseStmt
  refine wpAny_bind (wpAny_mono h (fun v s₁ h₁ => ?_) fun _ _ x => x)
  obtain ⟨e, t, od, C, rfl, c, he, hE⟩ := h₁
  obtain ⟨nm, q, N, bs, bm, sn, sub, ab, col, dd, k0, k1, k2, k3, k5, hC, T⟩ := c.ex
  have hcB : (Value.ref C :: bm).contains (.type "BaseException") = true := by
    rw [List.contains_cons, T.hasType PySem.F.excBase_ValueError.hasBase, Bool.or_true]
  obtain ⟨hp, g, d, tk, os⟩ := s₁
  dsimp only at hC he
  unfold zfU at he
  repeat (first | with_reducible refine wpAny_loadPart_at he ?_ | with_reducible refine wpAny_loadPart_at hC ?_ | (with_reducible refine wpAny_isSubtype_exc hC ?_; rw [hcB]) | wp_step)
  exact wpAny_raiseNew_none hh hE
end
section
variable {prog : Program} {w : World} {A : Around} {E : Value -> Shared -> Prop} {s : Shared} {env : Env}
theorem zjI {e : Expr} {pos : Pos} {Q : Flow -> Shared -> Prop} (hh : A.handled = none)
    (h : wpAny (model prog w) A (eval e env) (fun v s₁ => ∃ a t od C, v = .ref a /\ ExC s₁.heap C /\ s₁.heap.get? a = some (zfU C t od) /\ E (.ref a) s₁) E s) :
    wpAny (model prog w) A (exec (.Raise (some e) none pos) env) Q E s := by
  rw [arm_exec_Raise]
  refine wpAny_bind (wpAny_standAt (zkh hh (wpAny_bind (wpAny_mono h (fun v s₃ h₃ => wpAny_bind (wpAny_standAt (wpAny_pure h₃))) fun _ _ x => x))))
end
end L2
end
section
namespace L2
open PySem PySem.Spec PyProof.Rows
def CXD (P : Program) (w : World) (base : Heap) : CXT := fun outer H s E e s' =>
  ∃ a C a0 B H' dx, e = .ref a /\ s'.os = s.os /\ AllBare s'.gens /\ Fly P w base outer H H' s B a (.ref C) a0 s'.heap /\ ze5 a C dx s'.heap /\ E (.ref C) (some dx) H'
section
variable {P : Program} {w : World} {K : PySem.W.Frag} {mg : Str -> Option Value} {base : Heap} {N : List Str} {qual : Str} {scope : Scope} {f : Addr} {cd : Value} {A : Around} {outer : List Env} {s₀ : Shared} {H₀ : Hp} {E : XK}
  {pins : List (Addr × Obj)} {σ : St} {H : Hp} {s : Shared} {e C t dx : Addr}
theorem zjH (I : Inv (zgW (CXD P w base) P w K mg base N qual scope f cd A outer s₀ H₀ E) pins σ H s) (he : s.heap.get? e = some (zfU C t (some dx))) (h0 : s₀.heap.get? e = none) (hn : H e = none) (hE : E (.ref C) (some dx) H) :
    (zgW (CXD P w base) P w K mg base N qual scope f cd A outer s₀ H₀ E).xe (.ref e) s := by
  have hst := I.stack
  have hin : ∀ env ∈ (envOfC qual scope s₀.heap.objs.size f cd :: outer), ∀ b, env.frame = some b -> b ∈ e :: (envOfC qual scope s₀.heap.objs.size f cd :: outer).filterMap (·.frame) := fun env he b hb => List.mem_cons_of_mem _ (List.mem_filterMap.mpr ⟨env, he, hb⟩)
  have hfs : ∀ b, b ∈ frs outer -> b ∈ frs (envOfC qual scope s₀.heap.objs.size f cd :: outer) := fun b hb => by
    obtain ⟨env, he, hf⟩ := List.mem_filterMap.mp hb
    exact List.mem_filterMap.mpr ⟨env, List.mem_cons_of_mem _ he, hf⟩
  have hmem : ∀ b, b ∈ frs (envOfC qual scope s₀.heap.objs.size f cd :: outer) -> b = s₀.heap.objs.size \/ b ∈ frs outer := fun b hb => List.mem_cons.mp (I.stkSub b hb)
  have old : ∀ b o, s₀.heap.get? b = some o -> b ∉ frs outer -> b ∉ e :: frs (envOfC qual scope s₀.heap.objs.size f cd :: outer) := fun b o q nb hb => by
    rcases List.mem_cons.mp hb with z | hb
    · rw [z, h0] at q; cases q
    · rcases hmem b hb with z | z
      · exact absurd (Heap.lt_size q) (by rw [z]; exact Nat.lt_irrefl _)
      · exact nb z
  have trk : ∀ b u, H b = some u -> b ∉ e :: frs (envOfC qual scope s₀.heap.objs.size f cd :: outer) := fun b u q hb => by
    rcases List.mem_cons.mp hb with z | hb
    · rw [z, hn] at q; cases q
    · rw [I.stkFree b hb] at q; cases q
  have noex : ∀ b : Addr, b ∉ (zgW (CXD P w base) P w K mg base N qual scope f cd A outer s₀ H₀ E).ex := fun b z => absurd (show b ∈ ([] : List Addr) from z) (by simp)
  have hen := PySem.W.hideAll_none (h := s.heap) (b := e) (e :: frs (envOfC qual scope s₀.heap.objs.size f cd :: outer)) List.mem_cons_self
  have bmm : ∀ b o, base.get? b = some o -> b ∉ e :: frs (envOfC qual scope s₀.heap.objs.size f cd :: outer) := fun b o q hm => by
    rcases List.mem_cons.mp hm with z | hm
    · have z2 : s₀.heap.get? b = some o := (I.ok.bs b o q).1
      rw [z, h0] at z2; cases z2
    · have z : base.get? b = none := (hst.mem hm).1
      rw [z] at q; cases q
  have he' := he
  unfold zfU at he'
  have go := wpAny_leaving_firstW (M := model P w) (A := A.deeper (envOfC qual scope s₀.heap.objs.size f cd)) (E := fun e' s'' => CXD P w base outer H₀ s₀ E e' s'') (base := PySem.W.hideAll s.heap (e :: frs (envOfC qual scope s₀.heap.objs.size f cd :: outer))) (a0 := .ref t) (outer := outer) (e := e)
    I.ok.frames (PySem.W.funFrames_hide hst hin) rfl he' (fun b o q => PySem.W.of_hideAll _ q) hen rfl rfl rfl
    (Q := fun _ s'' => Heap.LeftW (PySem.W.hideAll s.heap (e :: frs (envOfC qual scope s₀.heap.objs.size f cd :: outer))) (envOfC qual scope s₀.heap.objs.size f cd :: outer) e (.ref C) (.ref t) s.heap s''.heap /\ s''.os = s.os /\ s''.gens = s.gens) fun h' hL => ⟨hL, rfl, rfl⟩
  refine wpAny_mono ((zjB _ _).any go) (fun _ s2 z => ?_) fun _ _ z => z
  obtain ⟨⟨⟨k1, ⟨_, _, k2⟩, k3, k4⟩, zo, zg⟩, dk⟩ := z
  have fly : Heap.FlyingW (PySem.W.hideAll s.heap (e :: frs (envOfC qual scope s₀.heap.objs.size f cd :: outer))) outer e (.ref C) (.ref t) s2.heap := ⟨k1, hen, k2, k3⟩
  obtain ⟨oe, vs, g1, g2, g3, g4⟩ := fly.first
  refine ⟨e, C, .ref t, _, H, dx, rfl, zo.trans I.os, by rw [zg]; exact I.bare, ⟨fun b o q => ?_, fun b o q n hb => ?_, fun b o q n hb => ?_, fun b o q hb => ?_, fun b o q n => I.base.free b o q n (noex b), fun b o q hb => ?_, fun b hb => I.ok.frf b hb, I.base.tups, I.base.frzs, I.base.tbls, ?_, fly, hn⟩, ⟨oe, vs, g1, g2, g3, (dk.at he g1).trans rfl⟩, hE⟩
  · exact PySem.W.hideAll_get _ (I.bk b o q) (bmm b o q)
  · exact PySem.W.hideAll_get _ (I.base.keep b o q n hb (noex b)) (old b o q hb)
  · obtain ⟨sl, e1⟩ := I.base.slot b o q n hb (noex b)
    obtain ⟨_, o2, e2, hnf⟩ := hst.mem (hfs b hb)
    rw [e1] at e2
    cases e2
    obtain ⟨sl', e3⟩ := k4 b _ e1 hnf
    exact ⟨sl', e3⟩
  · obtain ⟨_, o2, e2, hnf⟩ := I.ok.funs.mem hb
    have z : s₀.heap.get? b = some o2 := e2
    rw [q] at z
    cases z
    exact hnf
  · obtain ⟨o', e1⟩ := I.base.there b o q (noex b)
    exact ⟨o', PySem.W.hideAll_get _ e1 (old b o q hb)⟩
  · intro b u q
    refine (I.hok b u q).stay (fun c v hc r => PySem.W.hideAll_get _ r ?_) (fun _ z => z) fun _ _ z => z
    rcases hc with rfl | hc
    · exact trk c u q
    · exact trk c _ hc
end
end L2
end
section
namespace L2
open PySem PySem.Spec PyProof.Rows
def xm (p : Str) : D := .tup [.ty "raise", .str p]
def zpt : D -> Bool
  | .tup [.ty _, .str _] => true
  | _ => false
def zq4 (Γ : Cn) (K : PySem.W.Frag) (R : Str -> Hp -> Prop) (E : Ends) (H₀ G' H' : Hp) (σ' : St) (fl : Fl) : Prop := (∀ p, fl = .rt (xm p) -> R p H') /\ ((∀ p, fl ≠ .rt (xm p)) -> zq6 Γ K E H₀ G' H' σ' fl)
def TDy (Γ : Cn) (K : PySem.W.Frag) (R : Str -> Hp -> Prop) (g : FS) : TS := fun E σ H => ∃ G₀ H₀ G ρ fl ρ', At Γ K G₀ H₀ G H ρ σ /\ g ρ = some (fl, ρ') /\ ∀ σ' G' H', zbw G G' -> At Γ K G₀ H₀ G' H' ρ' σ' -> zq4 Γ K R E H₀ G' H' σ' fl
structure DY (Γ : Cn) (X : Cx) (R : Str -> Hp -> Prop) (st : Stmt) (g : FS) : Prop where
  out : PS X st (TDy Γ X.K R g)
structure DYs (Γ : Cn) (X : Cx) (R : Str -> Hp -> Prop) (st : List Stmt) (g : FS) : Prop where
  out : PSs X st (TDy Γ X.K R g)
def noXm (g : FS) : FS := fun ρ => match g ρ with
  | some (.rt d, ρ') => if zpt d = true then none else some (.rt d, ρ')
  | r => r
section
variable {Γ : Cn} {X : Cx} {R : Str -> Hp -> Prop} {c : Expr} {pos : Pos} {g g' : FS} {st : Stmt} {sts : List Stmt} {ft : FT}
theorem TDy.noXm : ∀ E σ H, TDy Γ X.K R (noXm g) E σ H -> TDs Γ X.K g E σ H := by
  rintro E σ H ⟨G₀, H₀, G, ρ, fl, ρ', A, h, k⟩
  unfold L2.noXm at h
  split at h
  · rename_i d ρ1 hg
    split at h
    · cases h
    · rename_i hx
      cases h
      refine ⟨G₀, H₀, G, ρ, _, _, A, hg, fun σ' G' H' sm A' => (k σ' G' H' sm A').2 fun p z => ?_⟩
      cases z
      exact hx rfl
  · rename_i hne
    refine ⟨G₀, H₀, G, ρ, fl, ρ', A, h, fun σ' G' H' sm A' => (k σ' G' H' sm A').2 fun p z => ?_⟩
    subst z
    exact hne _ _ h
theorem zpE (h : DSs Γ X.nox sts g) : DYs Γ X R sts (noXm g) := ⟨h.1.nox.imp TDy.noXm⟩
theorem zqI (h : DS Γ X st g) : DY Γ X R st (noXm g) := ⟨h.1.imp TDy.noXm⟩
theorem znX : DYs Γ X R [] zcx := ⟨zfp.imp fun E σ H => by
  rintro ⟨G₀, H₀, G, ρ, fl, ρ', A, h, k⟩
  cases h
  exact (k σ G H (.refl _) A).2 (fun _ z => nomatch z)⟩
theorem znW (h : DY Γ X R st g) : DYs Γ X R [st] g := ⟨zdr h.1⟩
theorem zi3 (h1 : DY Γ X R st g) (h2 : DYs Γ X R sts g') : DYs Γ X R (st :: sts) (zaS g g') := ⟨(zcG h1.1 h2.1).imp fun E σ H => by
  rintro ⟨G₀, H₀, G, ρ, fl, ρ', A, h, k⟩
  unfold zaS at h
  obtain ⟨⟨fl1, ρ1⟩, h1, h⟩ := Option.bind_eq_some_iff.mp h
  refine ⟨G₀, H₀, G, ρ, fl1, ρ1, A, h1, fun σ1 G1 H1 sm A1 => ?_⟩
  cases fl1 with
  | nx => exact ⟨(fun _ z => nomatch z), fun _ => ⟨G₀, H₀, G1, ρ1, fl, ρ', A1, h, fun σ' G' H' sm' A' => k σ' G' H' (sm.trans sm') A'⟩⟩
  | bk => cases h; exact k σ1 G1 H1 sm A1
  | ct => cases h; exact k σ1 G1 H1 sm A1
  | rt d => cases h; exact k σ1 G1 H1 sm A1
  | ow d => cases h; exact k σ1 G1 H1 sm A1
  | nw d => cases h; exact k σ1 G1 H1 sm A1
  | od d => cases h; exact k σ1 G1 H1 sm A1⟩
theorem zqJ {sa sb : List Stmt} (hc : DT Γ X c ft) (ha : DYs Γ X R sa g) (hb : DYs Γ X R sb g') : DY Γ X R (.If c sa sb pos) (sIf ft g g') := ⟨(zkj hc.1 ha.1 hb.1).imp fun E σ H => by
  rintro ⟨G₀, H₀, G, ρ, fl, ρ', A, h, k⟩
  unfold sIf at h
  obtain ⟨x, hx, h⟩ := Option.bind_eq_some_iff.mp h
  refine ⟨G₀, H₀, G, ρ, x, A, hx, fun G1 H1 s1 => ?_⟩
  cases x with
  | true => exact zmT ⟨G₀, H₀, G1, ρ, fl, ρ', A.step s1, by simpa using h, fun σ2 G2 H2 sm2 A2 => k σ2 G2 H2 (s1.gg.trans sm2) A2⟩
  | false => exact zmU ⟨G₀, H₀, G1, ρ, fl, ρ', A.step s1, by simpa using h, fun σ2 G2 H2 sm2 A2 => k σ2 G2 H2 (s1.gg.trans sm2) A2⟩⟩
end
def zdV (fr : FA) : FS := fun ρ => (fr ρ).bind fun ds => match ds with
  | [.str p] => if p.length <= 1000 then some (.rt (xm p), ρ) else none
  | _ => none
section
variable {Γ : Cn} {P : Program} {w : World} {K : PySem.W.Frag} {mg : Str -> Option Value} {base : Heap} {N ps : List Str} {qual : Str} {scope : Scope} {f C CS fI : Addr} {fd : FuncData} {cd : Value} {A : Around} {outer : List Env} {s₀ : Shared} {H₀ : Hp} {E : XK}
  {R : Str -> Hp -> Prop} {x fl : Str} {np cpos pos : Pos} {e₀ : Expr} {fr : FA} {k j : Nat}
theorem zmp (hE : ∀ p H', R p H' -> ∀ dx, H' dx = none -> E (.ref C) (some dx) (upd H' dx (.xd [(fl, .str p)]))) (FN : FnOk P w K mg base CX0 k fI fd ps (zoh C fl)) (Z : XCls K base C CS fI fl) (hb : zcZ K fd ps [])
    (hr : Room j (zgW (CXD P w base) P w K mg base N qual scope f cd A outer s₀ H₀ E).A) (hk : k + 1 <= j) (hg : Gl (zgW (CXD P w base) P w K mg base N qual scope f cd A outer s₀ H₀ E) x) (hm : mg x = some (.ref C))
    (ha : DA Γ (zgW (CXD P w base) P w K mg base N qual scope f cd A outer s₀ H₀ E) [e₀] fr)
    (he : starEach [e₀] (envOfC qual scope s₀.heap.objs.size f cd) = (false, eval e₀ (envOfC qual scope s₀.heap.objs.size f cd)) :: starEach [] (envOfC qual scope s₀.heap.objs.size f cd) := by rfl)
    (hdb : (x == ("__debug__" : Str)) = false := by decide) :
    DY Γ (zgW (CXD P w base) P w K mg base N qual scope f cd A outer s₀ H₀ E) R (.Raise (some (.Call (.Name x np) [e₀] [] cpos)) none pos) (zdV fr) := ⟨by
  intro pins s σ H D I hq
  obtain ⟨G₀, H₀', G, ρ, flw, ρ', At0, h, k⟩ := hq
  unfold zdV at h
  obtain ⟨ds, hd, h⟩ := Option.bind_eq_some_iff.mp h
  split at h
  · rename_i y
    split at h
    · rename_i hy
      cases h
      refine zjI (I.ok.hd rfl) ?_
      refine wpAny_mono (zl1 (X := zgW (CXD P w base) P w K mg base N qual scope f cd A outer s₀ H₀ E) (Q := R) FN Z (hr.mono hk) hg hm hb ha.out I ⟨G₀, H₀', G, ρ, _, At0, hd, fun vs G' H' st r => ?_⟩ rfl hdb he) (fun u s1 z => ?_) fun _ _ z => z
      · have hv : vs = [.str y] := by
          cases r with
          | cons r1 r2 => cases r2; rw [r1.str_inv]
        subst hv
        exact ⟨y, rfl, hy, fun H2 sm2 => (k σ G' H2 st.gg ((At0.step st).step ⟨sm2, .refl _, st.gh.trans sm2, fun _ _ _ => rfl⟩)).1 y rfl⟩
      · obtain ⟨a, dx, H1, y', rfl, g1, g2, g3, g4, I2, q⟩ := z
        have hH : (upd (upd H1 dx (.xd [(fl, .str y')])) a (.ext (ExM a C dx))) a = some (.ext (ExM a C dx)) := zaw
        obtain ⟨⟨t0, he0⟩, _⟩ := (show zbB P w (upd (upd H1 dx (.xd [(fl, .str y')])) a (.ext (ExM a C dx))) s1.heap a (.ext (ExM a C dx)) from I2.hok a _ hH)
        have hna : (upd H1 dx (.xd [(fl, .str y')])) a = none := by rw [zas (Ne.symm g4)]; exact g2
        exact ⟨a, t0, some dx, C, rfl, Z.cls.keeps I2.bk, he0, zjH (I2.forget hna) he0 g1 hna (hE y' H1 q dx g3)⟩
    · cases h
  · cases h⟩
end
end L2
end
section
namespace L2
open PySem PySem.Spec PyProof.Rows
def zqh (Γ : Cn) (K : PySem.W.Frag) (C CN : Addr) (f : Str) (n : Nat) (F : List D -> Option D) : Sp := fun vs H Q E => ∃ x dx H1 G ds d us, vs = .ref x :: us /\ H = upd (upd H1 dx (.own x)) x (.ins C dx []) /\ H1 x = none /\ H1 dx = none /\ dx ≠ x /\ zbw G H1 /\ Reps Γ K G us ds /\ ds.length = n /\ F ds = some d /\
  (∀ p, d = xm p -> ∀ G' H' dz, Step G H1 G' H' -> H' dz = none -> E (.ref CN) (some dz) (upd H' dz (.xd [(f, .str p)]))) /\ ((∀ p, d ≠ xm p) -> ∀ G' H', Step G H1 G' H' -> Rep Γ K G' (.ref x) d -> Q .non H')
def zho (n : Nat) (c : Str) (g : FS) : List D -> Option D := fun ds => (g (some (.obj c []) :: ds.map (fun d => some (Slot.sh d)) ++ List.replicate n none)).bind fun r => match r.1 with
  | .nx => match r.2[0]? with
    | some (some s) => zgz s
    | _ => none
  | .rt d => if zpt d = true then some d else none
  | _ => none
theorem zjf {s : Slot} {p : Str} : zgz s ≠ some (xm p) := by
  intro z
  unfold zgz at z
  split at z <;> first | cases z | skip
section
variable {Γ : Cn} {P : Program} {w : World} {K : PySem.W.Frag} {mg : Str -> Option Value} {base : Heap} {c : Str} {attrs : List Str}
theorem Fun.okIY {x qual fl : Str} {st : Stmt} {f C CN : Addr} {fd : FuncData} {N ps : List Str} {s0 : Str} {k : Nat} {g : FS} (F : Fun K x qual st f fd) (S : FnScope N (s0 :: ps) (zan st)) (hC : Γ.cls c = some C)
    (hr0 : ∀ ρ d ρ', g ρ = some (.rt d, ρ') -> zpt d = true -> ∃ p, d = xm p)
    (hbody : ∀ (y : Addr) (cdv : Value) (A : Around) (outer : List Env) (s : Shared) (H : Hp) (E : XK), Room k (A.deeper (envOfC qual (zan st) s.heap.objs.size f cdv)) ->
      DYs (Γ.mk1 y) (zgW (CXD P w base) P w K mg base N qual (zan st) f cdv A outer s H E) (fun p H' => ∀ dz, H' dz = none -> E (.ref CN) (some dz) (upd H' dz (.xd [(fl, .str p)]))) (zbz st) g) :
    FnOk P w K mg base (CXD P w base) (k + 1) f fd (s0 :: ps) (zqh Γ K C CN fl ps.length (zho (N.length - (ps.length + 1)) c g)) := by
  obtain ⟨oc, od, kV, doc, pm, an, cdv, ct, osl, rfl, lk, hcd⟩ := F.ex
  refine zpC lk hcd S (fun vs H Q E h => ?_) fun A outer s H vs Q E hr h => ?_
  · obtain ⟨y, dx, H1, G, ds, d, us, rfl, _, _, _, _, _, r, hl, _⟩ := h
    rw [List.length_cons, r.length, hl, List.length_cons]
  · obtain ⟨y, dx, H1, G, ds, d, us, rfl, rfl, hx, hdx, hne, gh, r, hl, hd, kx, kn⟩ := h
    refine ⟨_, (hbody y cdv A outer s _ E hr).1, ?_⟩
    unfold zho at hd
    obtain ⟨⟨flw, ρ'⟩, hg, hd⟩ := Option.bind_eq_some_iff.mp hd
    have s1 := Step.newOwn (o := .own y) gh hdx
    have hx1 : (upd H1 dx (.own y)) y = none := by rw [zas (Ne.symm hne)]; exact hx
    have s2 := s1.trans (Step.newOwn (o := .ins C dx []) s1.gh hx1)
    have hlen : us.length = ds.length := r.length
    have A0 : At (Γ.mk1 y) K G H1 G (upd (upd H1 dx (.own y)) y (.ins C dx [])) (some (.obj c []) :: ds.map (fun d => some (Slot.sh d)) ++ List.replicate (N.length - (ps.length + 1)) none) (zeb N (.ref y :: us)) := by
      refine ⟨s2, by simp [zeb, hlen, hl], fun i => if i = 0 then [y] else [], fun i t e => ?_, fun i j t u hij e1 e2 b hb => ?_⟩
      · cases i with
        | zero =>
          cases e
          exact ⟨.ref y, rfl, .obj (vs := []) (fs := []) hC hx (gh.free hx) zaw rfl .nil rfl⟩
        | succ i =>
          have e : (ds.map (fun d => some (Slot.sh d)) ++ List.replicate (N.length - (ps.length + 1)) none)[i]? = some (some t) := e
          by_cases hi : i < ds.length
          · rw [List.getElem?_append_left (by simpa using hi), List.getElem?_map] at e
            obtain ⟨d', hd', e⟩ := Option.map_eq_some_iff.mp e
            cases e
            obtain ⟨v, hv, rv⟩ := r.get hd'
            refine ⟨v, ?_, .sh (rv.to1 y)⟩
            unfold zeb
            show ((us.map some) ++ _)[i]? = some (some v)
            rw [List.getElem?_append_left (by rw [List.length_map, hlen]; exact hi), List.getElem?_map, hv]
            rfl
          · rw [List.getElem?_append_right (by simpa using hi), List.getElem?_replicate] at e
            split at e <;> cases e
      · have hb : b ∈ (if i = 0 then [y] else []) := hb
        show b ∉ (if j = 0 then [y] else [])
        by_cases hi : i = 0
        · subst hi
          rw [if_neg (Ne.symm hij)]
          exact fun z => by cases z
        · rw [if_neg hi] at hb; cases hb
    refine ⟨G, H1, G, _, flw, ρ', A0, hg, fun σ' G' H' sm A' => ?_⟩
    cases flw with
    | nx =>
      refine ⟨fun _ z => (nomatch z), fun _ => ?_⟩
      simp only at hd
      split at hd
      · rename_i sl hs
        obtain ⟨a, G2, e1, st2, rp⟩ := A'.done hs hd
        cases e1
        exact kn (fun p z => zjf (by rw [← z]; exact hd)) G2 H' st2 rp.of1
      · cases hd
    | rt d' =>
      simp only at hd
      split at hd
      · rename_i hx
        cases hd
        obtain ⟨p, rfl⟩ := hr0 _ _ _ hg hx
        exact ⟨fun p' z => by cases z; exact fun dz hdz => kx _ rfl G' H' dz A'.st hdz, fun z => absurd rfl (z p)⟩
      · cases hd
    | ow d' => cases hd
    | nw d' => cases hd
    | od d' => cases hd
    | bk => cases hd
    | ct => cases hd
structure CalIY (Γ : Cn) (P : Program) (w : World) (K : PySem.W.Frag) (mg : Str -> Option Value) (base : Heap) (c : Str) (CN : Addr) (fl : Str) (n k : Nat) (F : List D -> Option D) : Prop where
  ex : ∃ C f fd ps, Γ.cls c = some C /\ Mk K C f /\ mg c = some (.ref C) /\ FnOk P w K mg base (CXD P w base) k f fd ps (zqh Γ K C CN fl n F) /\ zcZ K fd ps []
theorem DfnM.calIY {qual fl : Str} {C CN : Addr} {st : Stmt} {N ps : List Str} {s0 : Str} {k : Nat} {g : FS} (O : ClsOk Γ K mg c C) (F : DfnM K C c "__init__" qual st) (S : FnScope N (s0 :: ps) (zan st))
    (hb : ∀ (kV doc pm : Value) (an : Option Addr) (cdv ct : Value) (us : List Value), us.length = (s0 :: ps).length -> bindArgs (PySem.W.fnOf "__init__" qual (zcC st) (zbz st) (zan st) .none kV doc pm an cdv ct) ⟨us, []⟩ = pure ((s0 :: ps).zip us))
    (hr0 : ∀ ρ d ρ', g ρ = some (.rt d, ρ') -> zpt d = true -> ∃ p, d = xm p)
    (hbody : ∀ (f y : Addr) (cdv : Value) (A : Around) (outer : List Env) (s : Shared) (H : Hp) (E : XK), Room k (A.deeper (envOfC qual (zan st) s.heap.objs.size f cdv)) ->
      DYs (Γ.mk1 y) (zgW (CXD P w base) P w K mg base N qual (zan st) f cdv A outer s H E) (fun p H' => ∀ dz, H' dz = none -> E (.ref CN) (some dz) (upd H' dz (.xd [(fl, .str p)]))) (zbz st) g) :
    CalIY Γ P w K mg base c CN fl ps.length (k + 1) (zho (N.length - (ps.length + 1)) c g) := by
  obtain ⟨f, fd, h1, h2, h3⟩ := F.ex
  exact ⟨C, f, fd, s0 :: ps, O.cn, ⟨O.makes, h2, h3, O.kp⟩, O.mgC, h1.okIY S O.cn hr0 (hbody f), h1.binds hb⟩
end
section
variable {P : Program} {w : World} {base B : Heap} {outer : List Env} {H H' : Hp} {s : Shared} {e C dx : Addr} {cls a0 : Value} {h : Heap}
theorem Fly.unD (F : Fly P w base outer H H' s B e cls a0 h) : Un (frs outer) [] H (upd H' e (.ext (ze5 e C dx))) s.heap h := by
  have u := F.un
  have ne : ∀ b u, H' b = some u -> b ≠ e := fun b u q z => by subst z; rw [F.new] at q; cases q
  refine ⟨u.keep, u.slot, fun b o q n hx => ?_, u.there, fun b xs q => ?_, fun b o xs q => ?_, fun b ps q => ?_⟩
  · rw [zas (fun z => by subst z; rw [F.fresh] at q; cases q)]; exact u.free b o q n hx
  · have z := u.tups b xs q; rw [zas (ne b _ z)]; exact z
  · have z := u.frzs b o xs q; rw [zas (ne b _ z)]; exact z
  · obtain ⟨m, z⟩ := u.tbls b ps q; exact ⟨m, by rw [zas (ne b _ z)]; exact z⟩
theorem Fly.hkD (F : Fly P w base outer H H' s B e cls a0 h) (x : ze5 e C dx h) : HOk P w (upd H' e (.ext (ze5 e C dx))) h := by
  have ne : ∀ b u, H' b = some u -> b ≠ e := fun b u q z => by subst z; rw [F.new] at q; cases q
  intro b u q
  by_cases hb : b = e
  · subst hb
    rw [zaw] at q
    cases q
    obtain ⟨o, vs, k1, _⟩ := id x
    exact ⟨x, ⟨o, k1⟩, fun h1 h2 p k => p.stay k⟩
  · rw [zas hb] at q
    exact (F.hk b u q).stay (fun c v _ r => r) (fun c z => by rw [zas (ne c _ z)]; exact z) fun c xs z => by rw [zas (ne c _ z)]; exact z
theorem ze5.dk {a : Addr} {h h' : Heap} (x : ze5 a C dx h) (y : zfT a (.ref C) h') (k : Dk h h') : ze5 a C dx h' := by
  obtain ⟨o, vs, e1, e2, e3, e4⟩ := x
  obtain ⟨o', vs', g1, g2, g3⟩ := y
  exact ⟨o', vs', g1, g2, g3, (k.at e1 g1).trans e4⟩
end
def zos (K : PySem.W.Frag) (sp : Sp) (C : Addr) (cv : Value) (i j : Nat) (t : TA) : TS := fun D σ H => t σ H fun vs H1 => ∀ x dx, H1 x = none -> H1 dx = none -> dx ≠ x -> ∃ (Q : VK) (E : XK), sp (.ref x :: vs) (upd (upd H1 dx (.own x)) x (.ins C dx [])) Q E /\ (∀ v H2, Q v H2 -> v = .non /\ D.nx σ H2) /\
  ∀ CN dz H2, E (.ref CN) (some dz) H2 -> PySem.W.exmOne K (.ref CN) cv = some true /\ ∀ a, H2 a = none -> D.nx (((σ.set j (some (.ref a))).set i (some (.ref a))).set j none) (upd H2 a (.ext (ze5 a CN dz)))
section
variable {X : Cx} {k : Nat} {f C : Addr} {fd : FuncData} {ps : List Str} {sp : Sp} {fx cx n y : Str} {p p2 p3 cp py np ap hp pos : Pos} {e : Expr} {es : List Expr} {t : TA} {cv : Value} {i j : Nat}
theorem znq (M : Mk X.K C f) (F : FnOk X.prog X.w X.K X.mg X.base (CXD X.prog X.w X.base) k f fd ps sp) (hr : Room (k + 1) X.A) (hx0 : ∀ e s, ¬ X.xe e s) (hst : X.stack = X.env :: X.outer) (hfr : X.env.frame = some X.env.locals)
    (hg : Gl X fx) (hm : X.mg fx = some (.ref C)) (hb : zcZ X.K fd ps []) (ha : PA X (e :: es) t) (hgc : Gl X cx) (hmc : X.mg cx = some cv)
    (hN : X.N.Nodup) (hi : X.N[i]? = some y) (hy : X.env.kindOf y = some .local) (hj : X.N[j]? = some n) (hn : X.env.kindOf n = some .local) (hij : i ≠ j)
    (hdb : (fx == ("__debug__" : Str)) = false := by decide) (hdc : (cx == ("__debug__" : Str)) = false := by decide) (hdn : (n == ("__debug__" : Str)) = false := by decide) (hdd : (n == ("__classdict__" : Str)) = false := by decide)
    (he : starEach (e :: es) X.env = (false, eval e X.env) :: starEach es X.env := by rfl) (hpl : (backTo p2 (starEach es X.env)).any (·.1) = false := by rfl)
    (hs1 : swapsWith (.Call (.Name fx p) (e :: es) [] p2) none p3.line X.env = pure false := by rfl) (hs2 : swapsWith (.Name n np) (some (.Name y py)) ap.line X.env = pure false := by rfl) :
    PS X (.Try [.Expr (.Call (.Name fx p) (e :: es) [] p2) p3] [.ExceptHandler (some (.Name cx cp)) (some n) [.Assign [.Name y py] (.Name n np) ap] hp] [] [] pos) (zos X.K sp C cv i j t) := by
  intro pins s σ H D I h
  refine wpAny_Try_except ?_
  refine wpAny_execs_cons (wpAny_Expr_any ?_ I.quiet hs1)
  refine wpAny_Call_Name_kw (zeG I hg hm ?_ hdb)
  refine PySem.W.callWith_K (h₀ := X.base) I.ok.mod.kin M.kp (wpAny_mono (ha p2 pins s σ H _ I h) (fun us s1 q => ?_) fun x s1 z => (hx0 x s1 z).elim) he hpl
  obtain ⟨vs, H1, I1, r1, q⟩ := q
  refine ⟨I1.kIn, ?_⟩
  obtain ⟨Q, E, hsp, hnx, hex⟩ := q (s1.heap.objs.size + 1) s1.heap.objs.size (I1.hok.fresh (Nat.le_succ _)) (I1.hok.fresh (Nat.le_refl _)) (Nat.ne_of_lt (Nat.lt_succ_self _))
  have I2 := Inv.made (C := C) I1
  have r2 : zbC (V.ref (s1.heap.objs.size + 1) :: vs) (Value.ref (s1.heap.objs.size + 1) :: us) := .cons rfl r1
  have hl : (Value.ref (s1.heap.objs.size + 1) :: us ++ []).length = ps.length := by
    rw [List.append_nil]
    have e := r2.length
    rw [F.len _ _ _ _ hsp] at e
    exact e.symm
  refine wpAny_call (zl4 (f := f) I1.kIn M.makes M.init (beq_iff_eq.mp M.fn) (codeAny_mono (F.run _ X.stack _ _ ⟨Value.ref (s1.heap.objs.size + 1) :: us, []⟩ (Value.ref (s1.heap.objs.size + 1) :: us) _ Q E (hr.make C us [])
    (I2.env0.make C us []) (by have := hb _ (Value.ref (s1.heap.objs.size + 1) :: us) I2.kIn hl; rwa [List.append_nil] at this) r2 hsp) fun r s' hq => ?_))
  cases r with
  | ok fl =>
    cases fl with
    | ret u =>
      obtain ⟨v, H', I', rv, q⟩ := I2.after hq
      obtain ⟨rfl, q2⟩ := hnx v H' q
      exact ⟨rv, wpAny_execs_nil (wpAny_execs_nil ⟨σ, H', I', q2⟩)⟩
    | next => exact False.elim hq
    | brk => exact False.elim hq
    | cont => exact False.elim hq
  | error x =>
    obtain ⟨a, CN, a0, B, H2, dz, rfl, hos, hgens, F1, xD, hE⟩ := hq
    obtain ⟨hxm, hnx2⟩ := hex CN dz H2 hE
    have invOf : ∀ {h' : Heap} {tk : Nat}, Fly X.prog X.w X.base X.stack _ H2 _ B a (.ref CN) a0 h' -> Inv X pins σ H2 { s' with heap := h', toks := tk } := fun {h' tk} F' => I2.call' hos F'.un F'.hk hgens (fun b z => absurd z (by simp))
    have invE : ∀ {h' : Heap} {tk : Nat}, Fly X.prog X.w X.base X.stack _ H2 _ B a (.ref CN) a0 h' -> ze5 a CN dz h' -> Inv X pins σ (upd H2 a (.ext (ze5 a CN dz))) { s' with heap := h', toks := tk } := fun {h' tk} F' x' => I2.call' hos F'.unD (F'.hkD x') hgens (fun b z => absurd z (by simp))
    have F1s := F1.fly
    rw [hst] at F1s
    refine wpAny_mono ((zeX _ _).any (wpAny_looks_onW (Q := fun _ s2 => ∃ h4, Heap.HeldW B (X.env :: X.outer) a (.ref CN) a0 X.env.locals h4 /\ s'.heap.UpToSlots h4 /\ s2 = { s' with heap := h4 }) (by rw [I.ok.frames, hst]) hfr F1s fun h4 a1 a2 => ⟨h4, a1, a2, rfl⟩)) (fun _ s2 z => ?_) fun _ _ z => z
    obtain ⟨⟨h₄, hheld₄, hsm₄, rfl⟩, dk4⟩ := z
    refine wpAny_mono ((zdv _ _).any (wpAny_landsW (Q := fun _ s2 => ∃ h5, Heap.FlyingW B (X.env :: X.outer) a (.ref CN) a0 h5 /\ h₄.UpToSlots h5 /\ s2 = { s' with heap := h5 }) hheld₄ fun h5 a1 a2 => ⟨h5, a1, a2, rfl⟩)) (fun _ s2 z => ?_) fun _ _ z => z
    obtain ⟨⟨h₅, hfl₅, hsm₅', rfl⟩, dk5⟩ := z
    have F5 : Fly X.prog X.w X.base X.stack _ H2 _ B a (.ref CN) a0 h₅ := F1.on (hsm₄.trans hsm₅') (by rw [hst]; exact hfl₅)
    have x5 : ze5 a CN dz h₅ := xD.dk F5.exc (dk4.trans dk5)
    have I5 := (invOf (tk := s'.toks) F5).marked (.ref a)
    refine wpAny_handleBy_cons (codeAny_handlers_test (zeG I5 hgc hmc ?_ hdc)) (by intro q; cases q)
    obtain ⟨oe, ws, hoe, hoec, hoed⟩ := F5.exc
    have LT : PySem.W.Looks (model X.prog X.w) h₅ (typeOf (.ref a)) (.ref CN) := hoec ▸ (PySem.W.Looks.ld hoe).andThen .now
    refine (PySem.W.exm_one (M := model X.prog X.w) I5.kIn LT hxm).here ?_
    refine codeAny_handlers_suite_as ?_
    refine wpAny_mono ((zdv _ _).any (lands_againW (Q := fun _ s2 => ∃ h6, Heap.FlyingW B (X.env :: X.outer) a (.ref CN) a0 h6 /\ h₅.UpToSlots h6 /\ s2 = { s' with heap := h6 }) hfl₅ fun h6 a1 a2 => ⟨h6, a1, a2, rfl⟩)) (fun _ s2 z => ?_) fun _ _ z => z
    obtain ⟨⟨h₆, hfl₆, hsm₆, rfl⟩, dk6⟩ := z
    have F6 : Fly X.prog X.w X.base X.stack _ H2 _ B a (.ref CN) a0 h₆ := F5.on hsm₆ (by rw [hst]; exact hfl₆)
    have I6 := invE (tk := s'.toks) F6 (x5.dk F6.exc dk6)
    refine zgy I6 hN hj (.inl hn) (show zbJ (.ref a) (.ref a) from rfl) (fun s7 I7 => ?_) (.inr hn)
    have I7m := I7.marked (.ref a)
    have asg : PSs (X.marked (.ref a)) [.Assign [.Name y py] (.Name n np) ap] (zog (zra j) (zjG i)) := zdr (ziL (X := X.marked (.ref a)) hN hi (.inl hy) (zci (X := X.marked (.ref a)) hj (.inl hn) hdn hdd) hs2 (.inr hy))
    have jl : j < σ.length := by rw [I1.len]; exact (List.getElem?_eq_some_iff.mp hj).1
    refine wpAny_mono (asg pins s7 _ _ { nx := fun σ' H' => σ' = (σ.set j (some (.ref a))).set i (some (.ref a)) /\ H' = upd H2 a (.ext (ze5 a CN dz)), rt := fun _ _ => False } I7m ⟨.ref a, by rw [List.getElem?_set_self jl], rfl, rfl⟩) (fun fl s8 q => ?_) fun _ _ z => z.elim
    cases fl with
    | next =>
      obtain ⟨σ', H', I8, rfl, rfl⟩ := q
      refine zjY (I8.unmarked I.ok) hN hj hn fun s9 I9 => ?_
      exact ⟨_, _, I9, hnx2 a F1.new⟩
    | brk => obtain ⟨_, _, _, z⟩ := q; exact z.elim
    | cont => obtain ⟨_, _, _, z⟩ := q; exact z.elim
    | ret u => obtain ⟨_, _, _, _, _, z⟩ := q; exact z.elim
def tXf (K : PySem.W.Frag) (ta : TE) (g : Str) : TE := fun σ H Q => ta σ H fun x H1 => ∃ a C dz fs v, x = .ref a /\ H1 a = some (.ext (ze5 a C dz)) /\ H1 dz = some (.xd fs) /\ ExcK K C /\ PySem.W.hasDictIn K C = true /\ zdM K C g /\ fs.lookup g = some v /\ Q v H1
theorem zqo {ta : TE} {g : Str} (ho : PE X e ta) (hbs : attributeBase e g X.env (eval e X.env) = eval e X.env := by rfl) : PE X (.Attribute e g pos) (tXf X.K ta g) := by
  intro pins s σ H Q I h
  refine zlo hbs (thn (ho pins s σ H _ I h) fun u s1 ⟨x, H1, I1, rx, a, C, dz, fs, v, ex, ha, hz, Z, hd, na, l, q⟩ => ?_)
  subst ex
  obtain rfl : u = Value.ref a := rx
  obtain ⟨p, _⟩ := (show zbB X.prog X.w H1 s1.heap a (.ext (ze5 a C dz)) from I1.hok a _ ha)
  obtain ⟨mA, hns, hm⟩ := (show zbB X.prog X.w H1 s1.heap dz (.xd fs) from I1.hok dz _ hz)
  obtain ⟨u, hu, ru⟩ := zjQ.some_of (v := v) (o := mA g) (by rw [← l]; exact hm g)
  exact zmn Z I1.kIn p hns hu hd na (zhD ru) ⟨v, H1, I1.tok _, ru, q⟩
end
end L2
end
section
namespace L2
open PySem PySem.Spec PyProof.Rows
def zrM (K : PySem.W.Frag) : List V -> Hp -> VK -> Prop := fun vs H Q => ∃ a C dz c b, vs = [.ref a, c] /\ H a = some (.ext (ze5 a C dz)) /\ ExcK K C /\ IsiC K H (.ref C) c b /\ Q (.bl b) H
section
variable {X : Cx}
theorem zfI : zfb X (.builtin "isinstance") (zrM X.K) := by
  intro pins s σ H xs us Q I r h
  obtain ⟨a, C, dz, c, b, rfl, ha, Z, ic, q⟩ := h
  obtain ⟨u, w', rfl, r1, r2⟩ := zm7 r
  have fin : ∀ tk, EP X pins σ Q (.bool b) { s with toks := tk } := fun tk => ⟨.bl b, H, I.tok tk, rfl, q⟩
  obtain ⟨p, _⟩ := (show zbB X.prog X.w H s.heap a (.ext (ze5 a C dz)) from I.hok a _ ha)
  obtain rfl : u = Value.ref a := r1
  cases ic with
  | one hv hk =>
    have e := ziC r2 hv
    subst e
    exact PySem.W.kia_one (ziV Z) I.kIn p.exc hk (fun z => nomatch z) fin
  | @tup tp ys its _ htp hm hk =>
    cases (show w' = Value.ref tp from r2)
    obtain ⟨hz, its', rv, o, ho, hoc, n, hod⟩ := (show zbB X.prog X.w H s.heap tp (.tup ys) from I.hok tp _ htp)
    have e := zhb rv hm
    subst e
    obtain ⟨oc, odi, oda, osl⟩ := o
    simp only at hoc hod
    subst hoc hod
    exact PySem.W.kia_tup (ziV Z) I.kIn p.exc ho hk (fun z => nomatch z) fin
end
mutual
def zfZ (n : Nat) : D -> Bool
  | .lst l => (l.length != n) && zhw n l
  | .tup l => zhw n l
  | .non => true
  | .bl _ => true
  | .int _ => true
  | .str _ => true
  | _ => false
def zhw (n : Nat) : List D -> Bool
  | [] => true
  | d :: r => zfZ n d && zhw n r
end
section
variable {Γ : Cn} {K : PySem.W.Frag} {G : Hp} {a : Addr} {ws : List V}
mutual
theorem Rep.del (ha : G a = some (.lst ws)) : ∀ {v : V} {d : D}, Rep Γ K G v d -> zfZ ws.length d = true -> Rep Γ K (del G a) v d
  | _, _, .non, _ => .non
  | _, _, .bl b, _ => .bl b
  | _, _, .int i, _ => .int i
  | _, _, .str x, _ => .str x
  | _, _, .ty x, h => by simp [zfZ] at h
  | _, _, .tup g r, h => .tup (by rw [zeY (fun z => by rw [z, ha] at g; cases g)]; exact g) (Reps.del ha r (by unfold zfZ at h; exact h))
  | _, _, .lst g r, h => by
    unfold zfZ at h
    rw [Bool.and_eq_true] at h
    exact .lst (by
      rw [zeY (fun z => by
        rw [z, ha] at g
        cases g
        rw [r.length] at h
        simp at h)]
      exact g) (Reps.del ha r h.2)
  | _, _, .scr g, h => by simp [zfZ] at h
  | _, _, .dk g e r, h => by simp [zfZ] at h
  | _, _, .dt g e r, h => by simp [zfZ] at h
  | _, _, .ins g c e r, h => by simp [zfZ] at h
theorem Reps.del (ha : G a = some (.lst ws)) : ∀ {vs : List V} {ds : List D}, Reps Γ K G vs ds -> zhw ws.length ds = true -> Reps Γ K (del G a) vs ds
  | _, _, .nil, _ => .nil
  | _, _, .cons g r, h => by
    unfold zhw at h
    rw [Bool.and_eq_true] at h
    exact .cons (Rep.del ha g h.1) (Reps.del ha r h.2)
end
theorem Reps.set {vs : List V} {ds : List D} (r : Reps Γ K G vs ds) {v : V} {d : D} (h : Rep Γ K G v d) : ∀ j : Nat, Reps Γ K G (vs.set j v) (ds.set j d) := by
  induction vs generalizing ds with
  | nil => cases r; intro j; exact .nil
  | cons x xs ih =>
    cases r with
    | cons r1 r2 =>
      intro j
      cases j with
      | zero => exact .cons h r2
      | succ j => exact .cons r1 (ih r2 j)
theorem At.freezeE {H₀ G₀ H : Hp} {ρ : zbx} {σ : St} (A : At Γ K G₀ H₀ G H ρ σ) {i : Nat} {ds : List D} (hi : ρ[i]? = some (some (.own ds))) (h1 : σ[i]? = some (some (.ref a))) (q1 : H₀ a = none) (q2 : G a = none) (q3 : H a = some (.lst ws)) (q4 : Reps Γ K G ws ds) :
    At Γ K G₀ H₀ (upd G a (.lst ws)) H (ρ.set i (some (.sh (.lst ds)))) σ := by
  have sm : zbw G (upd G a (.lst ws)) := fun b o e => by rw [zas (zav e q2)]; exact e
  refine A.ch hi h1 (.own q1 q2 q3 q4) (fun b o e hb => e) (.sh (.lst zaw (q4.mono sm))) (fun b hb => by cases hb) sm (fun b o e => ?_) (fun b o e hb => ?_)
  · by_cases hb : b = a
    · subst hb; rw [zaw] at e; cases e; exact q3
    · rw [zas hb] at e; exact A.gh b o e
  · rw [zas (fun z => hb (List.mem_singleton.mpr z))]
end
def zkd (i j : Nat) (f : FE) : FS := fun ρ => match ρ[i]? with
  | some (some (.own ds)) => (f (ρ.set i (some (.sh (.lst ds))))).bind fun d => if zfZ ds.length d = true /\ j < ds.length then some (.nx, ρ.set i (some (.own (ds.set j d)))) else none
  | _ => none
section
variable {Γ : Cn} {X : Cx} {e : Expr} {f : FE} {pos p2 pc : Pos}
theorem zin (i j : Nat) {x : Str} {vp : Pos} {kk} (h : DE Γ X e f) (hN : X.N[i]? = some x := by rfl) (hv : Vis X.env.scope x := by first | exact Or.inl rfl | exact Or.inr (Or.inl rfl) | exact Or.inr (Or.inr rfl)) (hd : (x == ("__debug__" : Str)) = false := by decide)
    (hcd : (x == ("__classdict__" : Str)) = false := by decide)
    (hs : swapsWithSole [.Subscript (.Name x vp) (.Constant (.int (j : Int)) kk pc) p2] e pos.line X.env = pure false := by rfl) (hw : swappedStores [.Subscript (.Name x vp) (.Constant (.int (j : Int)) kk pc) p2] e X.env = pure none := by rfl) :
    DS Γ X (.Assign [.Subscript (.Name x vp) (.Constant (.int (j : Int)) kk pc) p2] e pos) (zkd i j f) := ⟨(zoO h.1 (zoU (zci hN hv hd hcd) zmN zlK) hs hw).imp fun E σ H => by
    rintro ⟨G₀, H₀, G, ρ, fl, ρ', A, h, k⟩
    unfold zkd at h
    split at h
    · rename_i ds hi
      obtain ⟨d, hd, h⟩ := Option.bind_eq_some_iff.mp h
      split at h
      · rename_i hz
        cases h
        obtain ⟨v, fp, h1, h2⟩ := A.get hi
        cases h2 with
        | own q1 q2 q3 q4 =>
          rename_i a vs
          have A1 := A.freezeE hi h1 q1 q2 q3 q4
          have sm : zbw G (upd G a (.lst vs)) := fun b o e => by rw [zas (zav e q2)]; exact e
          refine ⟨G₀, H₀, _, _, d, A1, hd, fun u G2 H2 s2 r2 => ?_⟩
          have hG2 : G2 a = some (.lst vs) := s2.gg _ _ zaw
          have hlen : vs.length = ds.length := q4.length
          have r3 : Rep Γ X.K (del G2 a) u d := Rep.del hG2 r2 (by rw [hlen]; exact hz.1)
          have gg : zbw G (del G2 a) := fun b o q => by
            have : b ≠ a := fun z => by rw [z, q2] at q; cases q
            rw [zeY this]
            exact s2.gg _ _ (sm _ _ q)
          have st : Step G H (del G2 a) H2 := ⟨s2.hh, gg, fun b o q => by
            by_cases z : b = a
            · rw [z, zgT] at q; cases q
            · rw [zeY z] at q; exact s2.gh _ _ q, fun b o q => by
            by_cases z : b = a
            · rw [z, zgT, q2]
            · rw [zeY z, s2.out b o q, zas z]⟩
          have A2 := A.step st
          refine ⟨.ref a, h1, a, vs, j, j, rfl, rfl, s2.hh _ _ q3, ?_, ?_⟩
          · unfold ixN
            rw [if_pos (Int.natCast_nonneg j), if_pos (by rw [hlen]; exact_mod_cast hz.2)]
            rfl
          · exact k σ _ _ gg (A2.chOwn hi h1 ((q4.mono gg).set r3 j))
      · cases h
    · cases h⟩
end
end L2
end
section
namespace L2
open PySem PySem.Spec PyProof.Rows
def zf7 (g : FS) : Prop := ∀ ρ d ρ', g ρ = some (.rt d, ρ') -> zpt d = true -> ∃ p, d = xm p
section
variable {g g' : FS} {ft : FT} {fr : FA}
theorem zf7.nil : zf7 zcx := fun _ _ _ h => by cases h
theorem zf7.none : zf7 (noXm g) := fun ρ d ρ' h hx => by
  unfold noXm at h
  split at h
  · split at h
    · cases h
    · rename_i hn; cases h; exact absurd hx hn
  · rename_i hne
    exact absurd h (hne d ρ')
theorem zf7.seq (a : zf7 g) (b : zf7 g') : zf7 (zaS g g') := fun ρ d ρ' h hx => by
  unfold zaS at h
  obtain ⟨⟨fl, ρ1⟩, h1, h2⟩ := Option.bind_eq_some_iff.mp h
  cases fl with
  | nx => exact b _ _ _ h2 hx
  | rt d' => cases h2; exact a _ _ _ h1 hx
  | bk => cases h2
  | ct => cases h2
  | ow d' => cases h2
  | nw d' => cases h2
  | od d' => cases h2
theorem zf7.iff (a : zf7 g) (b : zf7 g') : zf7 (sIf ft g g') := fun ρ d ρ' h hx => by
  unfold sIf at h
  obtain ⟨x, h1, h2⟩ := Option.bind_eq_some_iff.mp h
  cases x with
  | true => exact a _ _ _ (by simpa using h2) hx
  | false => exact b _ _ _ (by simpa using h2) hx
theorem zf7.raise : zf7 (zdV fr) := fun ρ d ρ' h hx => by
  unfold zdV at h
  obtain ⟨ds, _, h⟩ := Option.bind_eq_some_iff.mp h
  split at h
  · split at h
    · cases h; exact ⟨_, rfl⟩
    · cases h
  · cases h
end
def zp0 : D -> Option D
  | .tup [.ty n, .str p] => if n = "raise" then some (.str p) else none
  | .ins _ _ => some (.str "none")
  | _ => none
def zrb (F : List D -> Option D) (fa : FA) : List D -> Option D := fun ds => match ds with
  | [a, b] => (fa [some (.sh a), some (.sh b), none, none]).bind fun xs => (F xs).bind zp0
  | _ => none
structure RefYK (K : PySem.W.Frag) (mg : Str -> Option Value) (CN CS CG CM CP CR CY CT : Addr) : Prop where
  mN : mg "NoShop" = some (.ref CN)
  mS : mg "ShopError" = some (.ref CS)
  mG : mg "Gone" = some (.ref CG)
  mM : mg "NoName" = some (.ref CM)
  mP : mg "NoPlan" = some (.ref CP)
  mR : mg "NoRow" = some (.ref CR)
  mY : mg "NoSay" = some (.ref CY)
  mT : mg "NoTree" = some (.ref CT)
  exm : PySem.W.exmOne K (.ref CN) (.ref CS) = some true
  k2 : PySem.W.kitOne K (.ref CN) (.type "ValueError") = some true
  k3 : PySem.W.kitAny K (.ref CN) [.ref CG, .ref CM, .ref CP, .ref CR, .ref CY, .ref CT] = some false
  exk : ExcK K CN
  hd : PySem.W.hasDictIn K CN = true
  no : zdM K CN "part"
end L2
end
section
namespace L2
open PySem PySem.Spec PyProof.Rows
theorem zpD {K : PySem.W.Frag} {base : Heap} {C CS : Addr} {dd : Option Addr} {cd : ClassData} {k0 k1 k2 k3 k5 : Option Value} (X : K.In base) (lk : K.lookup C = some ⟨.type "type", dd, .cls cd, #[k0, k1, k2, k3, some (.builtin "ValueError.__new__"), k5]⟩)
    (hm : cd.mro = .ref C :: .ref CS :: zlw) (hd : cd.hasDel = false) (hh : cd.hasDict = true) (q : PySem.W.excIn K CS zlw "ValueError.__new__" = true) : ExC base C := by
  have T : OwnTail base zlw (.ref CS :: zlw) := by
    unfold PySem.W.excIn at q
    split at q
    · rename_i dd0 cd0 sl0 look
      split at q
      · simp only [Bool.not_eq_true', Bool.and_eq_true, beq_iff_eq] at q
        obtain ⟨⟨⟨⟨⟨rfl, rfl⟩, nodel⟩, tl⟩, nsok⟩, noin⟩ := q
        exact .own (X _ _ look) (.of_isNs (PySem.W.isNs_of_in X nsok)) (PySem.W.nsMap_none_of_in X nsok noin) .base
      · cases q
    · cases q
  obtain ⟨y1, y2, y3, y4, y5, y6, y7, y8, y9, y10, y11⟩ := cd
  dsimp only at hm hd hh
  subst hm hd hh
  exact ⟨_, _, _, _, _, _, _, _, _, _, _, _, _, _, _, X _ _ lk, T⟩
theorem zm5 {K : PySem.W.Frag} {base : Heap} {C CS fI : Addr} {f : Str} {dd : Option Addr} {cd : ClassData} {k0 k1 k2 k3 k5 : Option Value} (X : K.In base) (lk : K.lookup C = some ⟨.type "type", dd, .cls cd, #[k0, k1, k2, k3, some (.builtin "ValueError.__new__"), k5]⟩)
    (hm : cd.mro = .ref C :: .ref CS :: zlw) (hd : cd.hasDel = false) (hh : cd.hasDict = true) (q : PySem.W.excIn K CS zlw "ValueError.__new__" = true)
    (sa : PySem.W.findIn K (.ref C) "__setattr__" = some (some (.builtin "object.__setattr__"))) (ob : PySem.W.mroIn K C (.type "object") = some true) (no : PySem.W.findIn K (.ref C) f = some none)
    (init : PySem.W.findIn K (.ref C) "__init__" = some (some (.ref fI))) (fn : PySem.W.isFn K (.ref fI) = true) (kp : PySem.W.keepIn K (.ref C) = true) : XCls K base C CS fI f :=
  ⟨zpD X lk hm hd hh q, sa, ⟨cd, by unfold PySem.W.clsIn; rw [lk], hm, hh⟩, ob, no, init, fn, kp⟩
end L2
end
section
namespace Law
open PySem L2 PySem.Spec PyProof.Rows
def top (i : Nat) : Stmt := PySem.Challenge.pw_shopbound_k05_no_shop_by_counts.main.body.getD i (.Pass ⟨0, 0, 0, 0⟩)
abbrev zcd : Stmt := zkS (top 3) 0
abbrev zda : Stmt := top 54
abbrev zcP : Stmt := top 56
abbrev zeE : Stmt := top 55
abbrev zcc : Stmt := top 58
abbrev zcb : Stmt := top 63
abbrev zcz : Stmt := top 62
abbrev zco : Stmt := top 57
abbrev zcm : Stmt := top 61
abbrev zbW : Stmt := top 60
abbrev zca : Stmt := top 65
abbrev zcn : Stmt := top 64
abbrev zc9 : Stmt := top 67
abbrev zew : Stmt := top 12
abbrev zdQ : Stmt := top 15
abbrev zex : Stmt := top 17
abbrev zeA : Stmt := top 31
abbrev zfn : Stmt := top 16
abbrev zdq : Stmt := top 32
abbrev zfm : Stmt := top 13
abbrev zeB : Stmt := top 33
abbrev zdn : Stmt := top 19
abbrev zc7 : Stmt := top 34
abbrev zdR : Stmt := top 18
abbrev zgF : Stmt := top 35
abbrev zeC : Stmt := top 36
abbrev zfl : Stmt := top 37
abbrev zdT : Stmt := top 38
abbrev zgG : Stmt := top 39
abbrev zeD : Stmt := top 40
abbrev zez : Stmt := top 41
abbrev zdp : Stmt := top 42
abbrev zfo : Stmt := top 43
abbrev zdU : Stmt := top 44
abbrev zdS : Stmt := top 45
abbrev zc8 : Stmt := top 46
abbrev zey : Stmt := top 47
abbrev zdo : Stmt := top 48
abbrev zcl : Stmt := top 49
abbrev zib : Stmt := top 51
abbrev zcA : Stmt := zkS (top 52) 0
abbrev zcO : Stmt := top 66
abbrev zcp : Stmt := top 59
abbrev zcQ : Stmt := top 68
abbrev zfk : Stmt := top 69
def zdJ (mg : Str -> Option Value) : Tok := match mg "LONGEST_NAME" with | some (.int _ t) => t | _ => 0
def zea (mg : Str -> Option Value) : Tok := match mg "MOST_AMOUNT" with | some (.int _ t) => t | _ => 0
def zdI (mg : Str -> Option Value) : Tok := match mg "MOST_BENCHES" with | some (.int _ t) => t | _ => 0
def zd9 (mg : Str -> Option Value) : Tok := match mg "MOST_BREAKS" with | some (.int _ t) => t | _ => 0
def zdH (mg : Str -> Option Value) : Tok := match mg "MOST_HORIZON" with | some (.int _ t) => t | _ => 0
def zfg (mg : Str -> Option Value) : Tok := match mg "MOST_JOBS" with | some (.int _ t) => t | _ => 0
def zeW (mg : Str -> Option Value) : Tok := match mg "MOST_LINKS" with | some (.int _ t) => t | _ => 0
def zd8 (mg : Str -> Option Value) : Tok := match mg "MOST_SETUPS" with | some (.int _ t) => t | _ => 0
def zeV (mg : Str -> Option Value) : Tok := match mg "MOST_STEPS" with | some (.int _ t) => t | _ => 0
def zd7 (mg : Str -> Option Value) : Tok := match mg "MOST_STOCKS" with | some (.int _ t) => t | _ => 0
def zff (mg : Str -> Option Value) : Tok := match mg "MOST_WAYS" with | some (.int _ t) => t | _ => 0
structure Bn (mg : Str -> Option Value) : Prop where
  z_ValueError : mg "ValueError" = none
  z_all : mg "all" = none
  z_bool : mg "bool" = none
  z_dict : mg "dict" = none
  z_int : mg "int" = none
  z_isinstance : mg "isinstance" = none
  z_len : mg "len" = none
  z_list : mg "list" = none
  z_range : mg "range" = none
  z_set : mg "set" = none
  z_str : mg "str" = none
  z_tuple : mg "tuple" = none
  c_LONGEST_NAME : mg "LONGEST_NAME" = some (.int 8 (zdJ mg))
  c_MOST_AMOUNT : mg "MOST_AMOUNT" = some (.int 1000000 (zea mg))
  c_MOST_BENCHES : mg "MOST_BENCHES" = some (.int 8 (zdI mg))
  c_MOST_BREAKS : mg "MOST_BREAKS" = some (.int 10 (zd9 mg))
  c_MOST_HORIZON : mg "MOST_HORIZON" = some (.int 1000000 (zdH mg))
  c_MOST_JOBS : mg "MOST_JOBS" = some (.int 40 (zfg mg))
  c_MOST_LINKS : mg "MOST_LINKS" = some (.int 100 (zeW mg))
  c_MOST_SETUPS : mg "MOST_SETUPS" = some (.int 100 (zd8 mg))
  c_MOST_STEPS : mg "MOST_STEPS" = some (.int 40 (zeV mg))
  c_MOST_STOCKS : mg "MOST_STOCKS" = some (.int 6 (zd7 mg))
  c_MOST_WAYS : mg "MOST_WAYS" = some (.int 4 (zff mg))
def zlp : List Str := ["benches", "steps", "jobs", "setups", "links", "stocks", "horizon", "bench_by_name", "step_by_name", "setup_by_names", "job_by_step"]
end Law
end
section
set_option maxHeartbeats 4000000
namespace Law
open PySem L2 PySem.Spec PyProof.Rows
variable {Γ : Cn} {P : Program} {w : World} {K : PySem.W.Frag} {mg : Str -> Option Value} {base : Heap}
theorem zjZ {x : Str} (h : x.length <= sizeLine) : zor (.str x) = some x := if_pos h
theorem zed : FnScope ["self", "part"] ["self", "part"] (zan zcd) := ⟨rfl, rfl, rfl, by decide +kernel, rfl, by decide +kernel, by decide +kernel⟩
theorem zd1 {fI CN CS : Addr} {fd : FuncData} (F : Fun K "__init__" "NoShop.__init__" zcd fI fd) (Z : XCls K base CN CS fI "part") (mS : mg "ShopError" = some (.ref CS))
    (hsp : PySem.W.specialIn K (.ref CS) "__getattribute__" = some (some (.builtin "type.__getattribute__"))) (hrd : PySem.W.readsIn K CS (.type "type") = true) (hfc : PySem.W.findCls K (.ref CS) (.type "type") "__init__" = some (.val (.builtin "ValueError.__init__"))) :
    FnOk P w K mg base CX0 1 fI fd ["self", "part"] (zoh CN "part") := by
  refine Fun.ok (k := 0) F zed (fun vs H Q E h => ?_) fun cdv A outer s H vs Q E hr h => ?_
  · obtain ⟨a, p, rfl, _⟩ := h; rfl
  · obtain ⟨a, p, rfl, hp, hH, k⟩ := h
    refine ⟨_, zcG (zic (znA rfl mS hsp hrd hfc (zbq (zci (i := 0) rfl (.inl rfl)) (zbq (DE.out (Γ := ⟨fun _ => none, none⟩) (zqO (zmv (zpJ (zad 1) zpK)))) zdK))))
      (zdr (znp (CS := CS) (fI := fI) (zci (i := 0) rfl (.inl rfl)) (zci (i := 1) rfl (.inl rfl)))), ?_⟩
    have A0 : At ⟨fun _ => none, none⟩ K (fun _ => none) H (fun _ => none) H [none, some (.sh (.str p))] [some (.ref a), some (.str p)] := ⟨.refl (fun _ _ z => nomatch z), .ofSh rfl (fun i s e => by
      match i, e with
      | 1, e => cases e; exact ⟨_, rfl⟩) (fun i d e => by
      match i, e with
      | 1, e => cases e; exact ⟨_, rfl, .str p⟩)⟩
    have hl : ∃ z, fsF (zab (vC (.str "no shop, for its ")) (zab (vSh 1) zag)) [none, some (.sh (.str p))] = some (.str z) := by
      have e1 : ("no shop, for its " : Str).length = 17 := by decide +kernel
      have hs := sizeLine_eq
      refine ⟨(Str.empty ++ "no shop, for its ") ++ p, ?_⟩
      show (zjU Str.empty [.str "no shop, for its ", .str p]).map D.str = _
      have q0 : (Str.empty : Str).length = 0 := rfl
      have q1 : (Str.empty ++ ("no shop, for its " : Str)).length <= sizeLine := by rw [Str.length_append, e1, q0]; omega
      have q2 : ((Str.empty ++ ("no shop, for its " : Str)) ++ p).length <= sizeLine := by rw [Str.length_append, Str.length_append, e1, q0]; omega
      have c1 : zjU Str.empty [.str "no shop, for its ", .str p] = zjU (Str.empty ++ "no shop, for its ") [.str p] := by
        show (zor (.str "no shop, for its ")).bind (fun y => if (Str.empty ++ y).length <= sizeLine then zjU (Str.empty ++ y) [.str p] else none) = _
        rw [zjZ (x := "no shop, for its ") (by rw [e1]; omega), Option.bind_some, if_pos q1]
      rw [c1, zjU, zjZ (x := p) (by omega), Option.bind_some, if_pos q2, zjU, if_pos q2]
      rfl
    obtain ⟨z, hz⟩ := hl
    refine ⟨.ref a, rfl, _, H, _, _, _, A0, hz, fun v G' H' st r => ?_⟩
    refine ⟨a, v, CN, rfl, st.hh _ _ hH, Z.cls, .str p, rfl, .ref a, rfl, a, CN, rfl, zaw, Z, fun dx hdx hne => ?_⟩
    show Q .non _
    rw [zrq]
    exact k H' dx st.hh (by rw [zas hne] at hdx; exact hdx) hne
noncomputable def zet : List D -> Option D := zbP 0
    (zbc (b2 ixD (vC (.str "abcdefghijklmnopqrstuvwxyz")) (b2 zft (vSh 0) (vC (.int 26)))))
theorem zfX : FnScope ["_law_k"] ["_law_k"] (zan zda) := ⟨rfl, rfl, rfl, by decide +kernel, rfl, by decide +kernel, by decide +kernel⟩
theorem zfM (F : Dfn K mg "_law_letter" zda) (B : Bn mg)  : Cal Γ P w K mg base "_law_letter" 1 1 (zet) :=
  F.cal (k := 0) zfX (fun _ _ _ _ _ _ us hl => match us, hl with | [_], _ => rfl) fun f cdv A outer s H E hr =>
    (zar (zaz (zaH zaj (zcq (zad 0) zae))))
noncomputable def zdN (zal : List D -> Option D) : List D -> Option D := zbP 0
    (zbc (zaC (za1 (itR zkg (zab (vSh 0) zag)) (zbK 0) tT (zaX (szF (zab (b2 zcr (vC (.str "b")) (cF zal (zab (vSh 0) zag))) (zab (zaC (szF zag)) zag)))) [none])))
theorem zfj : FnScope ["_law_many"] ["_law_many"] (zan zcP) := ⟨rfl, rfl, rfl, by decide +kernel, rfl, by decide +kernel, by decide +kernel⟩
theorem ze9 {zal : List D -> Option D} (F : Dfn K mg "_law_benches" zcP) (B : Bn mg) (c__law_letter : Cal Γ P w K mg base "_law_letter" 1 1 zal) : Cal Γ P w K mg base "_law_benches" 1 2 (zdN zal) :=
  F.cal (k := 1) zfj (fun _ _ _ _ _ _ us hl => match us, hl with | [_], _ => rfl) fun f cdv A outer s H E hr =>
    (zar (zaz (DO.de (zbT rfl (CompScope.of rfl rfl) (FvOk.of (N' := ["_law_k"]) (fv := [none]) rfl) (zb0 rfl B.z_range (zaa (zad 0) zac)) ⟨fun _ _ _ _ _ => ⟨(zaE 0 (show (["_law_k"] : List Str).Nodup by decide +kernel)), zaG, (zat (zaa (zaT zaj (zap c__law_letter hr (by decide) rfl (zaa (zad 0) zac) ln1)) (zaa (DO.de (zao zac)) zac)))⟩⟩))))
noncomputable def zgv : List D -> Option D := zbP 1
    (zaS (zcw 1 (zaC (szF (zab (vC .non) (zab (vC (.int 5)) (zab (vC (.bl true)) (zab (zaC (szF (zab (vC (.str "sa")) zag))) (zab (zaX (szF (zab (vC (.str "s")) zag))) (zab (vC (.dk [])) (zab (vC (.str "")) (zab (vC (.str "sA")) (zab (vC (.str "s1")) (zab (vC (.str "abcdefghi")) (zab (vC (.str "s ")) (zab (zaX (szF (zab (vC (.str "sa")) (zab (vC (.str "sb")) zag)))) zag))))))))))))))) (zbc (b2 ixD (vSh 1) (b2 zft (vSh 0) (vC (.int 12))))))
theorem zfi : FnScope ["_law_cell", "_law_some"] ["_law_cell"] (zan zeE) := ⟨rfl, rfl, rfl, by decide +kernel, rfl, by decide +kernel, by decide +kernel⟩
theorem zhW (F : Dfn K mg "_law_odd" zeE) (B : Bn mg)  : Cal Γ P w K mg base "_law_odd" 1 1 (zgv) :=
  F.cal (k := 0) zfi (fun _ _ _ _ _ _ us hl => match us, hl with | [_], _ => rfl) fun f cdv A outer s H E hr =>
    (zak (zbd 1 zfi.nd (DO.de (zao (zaa zi7 (zaa zae (zaa zce (zaa (DO.de (zao (zaa zaj zac))) (zaa (zat (zaa zaj zac)) (zaa zmx (zaa zaj (zaa zaj (zaa zaj (zaa zaj (zaa zaj (zaa (zat (zaa zaj (zaa zaj zac))) zac))))))))))))))) (zar (zaz (zaH (zad 1) (zcq (zad 0) zae)))))
noncomputable def zc5 (zal : List D -> Option D) : List D -> Option D := zbP 0
    (zbc (zaC (za1 (itR zkg (zab (vSh 0) zag)) (zbK 0) tT (zaX (szF (zab (vC (.str "ba")) (zab (cF zal (zab (b2 zft (vSh 0) (vC (.int 11))) zag)) (zab (cF zal (zab (b2 zgR (vSh 0) (vC (.int 11))) zag)) (zab (b2 zcr (vC (.int 1)) (b2 zft (vSh 0) (vC (.int 3)))) zag)))))) [none])))
theorem zec : FnScope ["_law_many"] ["_law_many"] (zan zcc) := ⟨rfl, rfl, rfl, by decide +kernel, rfl, by decide +kernel, by decide +kernel⟩
theorem zd0 {zal : List D -> Option D} (F : Dfn K mg "_law_all_setups" zcc) (B : Bn mg) (c__law_letter : Cal Γ P w K mg base "_law_letter" 1 1 zal) : Cal Γ P w K mg base "_law_all_setups" 1 2 (zc5 zal) :=
  F.cal (k := 1) zec (fun _ _ _ _ _ _ us hl => match us, hl with | [_], _ => rfl) fun f cdv A outer s H E hr =>
    (zar (zaz (DO.de (zbT rfl (CompScope.of rfl rfl) (FvOk.of (N' := ["_law_k"]) (fv := [none]) rfl) (zb0 rfl B.z_range (zaa (zad 0) zac)) ⟨fun _ _ _ _ _ => ⟨(zaE 0 (show (["_law_k"] : List Str).Nodup by decide +kernel)), zaG, (zat (zaa zaj (zaa (zap c__law_letter hr (by decide) rfl (zaa (zcq (zad 0) zae) zac) ln1) (zaa (zap c__law_letter hr (by decide) rfl (zaa (zeK (zad 0) zae) zac) ln1) (zaa (zaT zae (zcq (zad 0) zae)) zac)))))⟩⟩))))
noncomputable def zc4 (zaB : List D -> Option D) : List D -> Option D := zbP 2
    (zaS (zcw 2 (zaX (szF (zab (vC (.str "ba")) (zab (vC (.str "p")) (zab (vC (.str "q")) (zab (vC (.int 1)) zag))))))) (zaS (zcw 3 (zaC (szF (zab (cF zaB (zab (vC (.int 101)) zag)) (zab (zaC (szF (zab (vSh 2) (zab (zaX (szF (zab (vC (.str "ba")) (zab (vC (.str "p")) (zab (vC (.str "q")) (zab (vC (.int 2)) zag)))))) zag)))) (zab (zaC (szF (zab (vSh 2) (zab (zaX (szF (zab (vSh 0) (zab (vC (.str "p")) (zab (vC (.str "q")) (zab (vC (.int 1)) zag)))))) zag)))) zag)))))) (zaS (zcw 3 (b2 zcr (vSh 3) (zaC (szF (zab (zaC (szF (zab (vSh 2) (zab (zaX (szF (zab (vC (.str "ba")) (zab (vSh 0) (zab (vC (.str "q")) (zab (vC (.int 1)) zag)))))) zag)))) (zab (zaC (szF (zab (vSh 2) (zab (zaX (szF (zab (vC (.str "ba")) (zab (vC (.str "p")) (zab (vSh 0) (zab (vC (.int 1)) zag)))))) zag)))) zag)))))) (zbc (b2 ixD (b2 zcr (vSh 3) (zaC (szF (zab (zaC (szF (zab (cF zkF (zab (vSh 2) zag)) zag))) (zab (zaX (szF (zab (vSh 2) zag))) zag))))) (b2 zft (vSh 1) (vC (.int 7))))))))
theorem zbv : FnScope ["_law_odd_here", "_law_cell", "_law_first", "_law_some"] ["_law_odd_here", "_law_cell"] (zan zcb) := ⟨rfl, rfl, rfl, by decide +kernel, rfl, by decide +kernel, by decide +kernel⟩
theorem zdZ {zaB : List D -> Option D} (F : Dfn K mg "_law_bad_setups" zcb) (B : Bn mg) (c__law_all_setups : Cal Γ P w K mg base "_law_all_setups" 1 2 zaB) : Cal Γ P w K mg base "_law_bad_setups" 2 3 (zc4 zaB) :=
  F.cal (k := 2) zbv (fun _ _ _ _ _ _ us hl => match us, hl with | [_, _], _ => rfl) fun f cdv A outer s H E hr =>
    (zak (zbd 2 zbv.nd (zat (zaa zaj (zaa zaj (zaa zaj (zaa zae zac)))))) (zak (zbd 3 zbv.nd (DO.de (zao (zaa (zap c__law_all_setups hr (by decide) rfl (zaa zae zac) ln1) (zaa (DO.de (zao (zaa (zad 2) (zaa (zat (zaa zaj (zaa zaj (zaa zaj (zaa zae zac))))) zac)))) (zaa (DO.de (zao (zaa (zad 2) (zaa (zat (zaa (zad 0) (zaa zaj (zaa zaj (zaa zae zac))))) zac)))) zac)))))) (zak (zbd 3 zbv.nd (zaT (zad 3) (DO.de (zao (zaa (DO.de (zao (zaa (zad 2) (zaa (zat (zaa zaj (zaa (zad 0) (zaa zaj (zaa zae zac))))) zac)))) (zaa (DO.de (zao (zaa (zad 2) (zaa (zat (zaa zaj (zaa zaj (zaa (zad 0) (zaa zae zac))))) zac)))) zac)))))) (zar (zaz (zaH (zaT (zad 3) (DO.de (zao (zaa (DO.de (zao (zaa (zcD zh3 rfl B.z_list (by rfl) (zaa (zad 2) zac)) zac))) (zaa (zat (zaa (zad 2) zac)) zac))))) (zcq (zad 1) zae)))))))
noncomputable def zdy : List D -> Option D := zbP 2
    (zaS (zcw 2 (zaX (szF (zab (vC (.str "ja")) (zab (vC (.int 0)) (zab (vC (.int 9)) (zab (vC (.bl true)) (zab (zaC (szF (zab (vC (.str "sa")) zag))) zag)))))))) (zaS (zcw 3 (zaC (szF (zab (zaC (szF (zab (vSh 2) (zab (zaX (szF (zab (vC (.str "ja")) (zab (vC (.int 1)) (zab (vC (.int 9)) (zab (vC (.bl false)) (zab (zaC (szF (zab (vC (.str "sb")) zag))) zag))))))) zag)))) (zab (zaC (szF (zab (vSh 2) (zab (zaX (szF (zab (vSh 0) (zab (vC (.int 1)) (zab (vC (.int 9)) (zab (vC (.bl false)) (zab (zaC (szF (zab (vC (.str "sb")) zag))) zag))))))) zag)))) zag))))) (zaS (zcw 3 (b2 zcr (vSh 3) (zaC (szF (zab (zaC (szF (zab (vSh 2) (zab (zaX (szF (zab (vC (.str "jb")) (zab (vC (.int 0)) (zab (vC (.int 9)) (zab (vC (.bl false)) (zab (zaC (szF (zab (vC (.str "sb")) (zab (vC (.str "sa")) zag)))) zag))))))) zag)))) (zab (zaC (szF (zab (zaX (szF (zab (vC (.str "ja")) (zab (vC (.int 0)) (zab (vC (.int 9)) (zab (vC (.bl true)) (zab (zaC (szF (zab (vC (.str "sb")) (zab (vSh 0) zag)))) zag))))))) zag))) zag)))))) (zbc (b2 ixD (b2 zcr (vSh 3) (zaC (szF (zab (zaC (szF (zab (cF zkF (zab (vSh 2) zag)) zag))) (zab (zaX (szF (zab (vSh 2) zag))) zag))))) (b2 zft (vSh 1) (vC (.int 6))))))))
theorem zbN : FnScope ["_law_odd_here", "_law_cell", "_law_first", "_law_some"] ["_law_odd_here", "_law_cell"] (zan zcz) := ⟨rfl, rfl, rfl, by decide +kernel, rfl, by decide +kernel, by decide +kernel⟩
theorem zeL (F : Dfn K mg "_law_bad_jobs" zcz) (B : Bn mg)  : Cal Γ P w K mg base "_law_bad_jobs" 2 1 (zdy) :=
  F.cal (k := 0) zbN (fun _ _ _ _ _ _ us hl => match us, hl with | [_, _], _ => rfl) fun f cdv A outer s H E hr =>
    (zak (zbd 2 zbN.nd (zat (zaa zaj (zaa zae (zaa zae (zaa zce (zaa (DO.de (zao (zaa zaj zac))) zac))))))) (zak (zbd 3 zbN.nd (DO.de (zao (zaa (DO.de (zao (zaa (zad 2) (zaa (zat (zaa zaj (zaa zae (zaa zae (zaa zce (zaa (DO.de (zao (zaa zaj zac))) zac)))))) zac)))) (zaa (DO.de (zao (zaa (zad 2) (zaa (zat (zaa (zad 0) (zaa zae (zaa zae (zaa zce (zaa (DO.de (zao (zaa zaj zac))) zac)))))) zac)))) zac))))) (zak (zbd 3 zbN.nd (zaT (zad 3) (DO.de (zao (zaa (DO.de (zao (zaa (zad 2) (zaa (zat (zaa zaj (zaa zae (zaa zae (zaa zce (zaa (DO.de (zao (zaa zaj (zaa zaj zac)))) zac)))))) zac)))) (zaa (DO.de (zao (zaa (zat (zaa zaj (zaa zae (zaa zae (zaa zce (zaa (DO.de (zao (zaa zaj (zaa (zad 0) zac)))) zac)))))) zac))) zac)))))) (zar (zaz (zaH (zaT (zad 3) (DO.de (zao (zaa (DO.de (zao (zaa (zcD zh3 rfl B.z_list (by rfl) (zaa (zad 2) zac)) zac))) (zaa (zat (zaa (zad 2) zac)) zac))))) (zcq (zad 1) zae)))))))
noncomputable def zdk (zal : List D -> Option D) : List D -> Option D := zbP 0
    (zbc (zaC (za1 (itR zkg (zab (vSh 0) zag)) (zbK 0) tT (zaX (szF (zab (b2 zcr (b2 zcr (vC (.str "s")) (cF zal (zab (vSh 0) zag))) (b2 zlz (vC (.str "x")) (b2 zgR (vSh 0) (vC (.int 26))))) (zab (vC (.str "p")) (zab (zaC (szF (zab (zaX (szF (zab (vC (.str "ba")) (zab (vC (.int 1)) zag)))) zag))) zag))))) [none])))
theorem zev : FnScope ["_law_many"] ["_law_many"] (zan zco) := ⟨rfl, rfl, rfl, by decide +kernel, rfl, by decide +kernel, by decide +kernel⟩
theorem zeo {zal : List D -> Option D} (F : Dfn K mg "_law_all_steps" zco) (B : Bn mg) (c__law_letter : Cal Γ P w K mg base "_law_letter" 1 1 zal) : Cal Γ P w K mg base "_law_all_steps" 1 2 (zdk zal) :=
  F.cal (k := 1) zev (fun _ _ _ _ _ _ us hl => match us, hl with | [_], _ => rfl) fun f cdv A outer s H E hr =>
    (zar (zaz (DO.de (zbT rfl (CompScope.of rfl rfl) (FvOk.of (N' := ["_law_k"]) (fv := [none]) rfl) (zb0 rfl B.z_range (zaa (zad 0) zac)) ⟨fun _ _ _ _ _ => ⟨(zaE 0 (show (["_law_k"] : List Str).Nodup by decide +kernel)), zaG, (zat (zaa (zaT (zaT zaj (zap c__law_letter hr (by decide) rfl (zaa (zad 0) zac) ln1)) (zfE zaj (zeK (zad 0) zae))) (zaa zaj (zaa (DO.de (zao (zaa (zat (zaa zaj (zaa zae zac))) zac))) zac))))⟩⟩))))
noncomputable def zdi (zaq : List D -> Option D) (zaD : List D -> Option D) : List D -> Option D := zbP 2
    (zaS (zcw 2 (zaX (szF (zab (vC (.str "sa")) (zab (vC (.str "p")) (zab (zaC (szF (zab (zaX (szF (zab (vC (.str "ba")) (zab (vC (.int 1)) zag)))) zag))) zag)))))) (zaS (zcw 3 (zaC (szF (zab (cF zaD (zab (vC (.int 41)) zag)) (zab (zaC (szF (zab (vSh 2) (zab (zaX (szF (zab (vC (.str "sb")) (zab (vC (.str "q")) (zab (zaC (za1 (itF (cF zaq (zab (vC (.int 5)) zag))) (zbK 0) tT (zaX (szF (zab (b2 ixD (vSh 0) (vC (.int 0))) (zab (vC (.int 1)) zag)))) [none])) zag))))) zag)))) zag))))) (zaS (zcw 3 (b2 zcr (vSh 3) (zaC (szF (zab (zaC (szF (zab (vSh 2) (zab (zaX (szF (zab (vC (.str "sa")) (zab (vC (.str "q")) (zab (zaC (szF (zab (zaX (szF (zab (vC (.str "bb")) (zab (vC (.int 2)) zag)))) zag))) zag))))) zag)))) (zab (zaC (szF (zab (vSh 2) (zab (zaX (szF (zab (vC (.str "sb")) (zab (vC (.str "q")) (zab (zaC (szF (zab (zaX (szF (zab (vC (.str "bb")) (zab (vC (.int 1)) zag)))) (zab (zaX (szF (zab (vC (.str "bb")) (zab (vC (.int 2)) zag)))) zag)))) zag))))) zag)))) zag)))))) (zaS (zcw 3 (b2 zcr (vSh 3) (zaC (szF (zab (zaC (szF (zab (vSh 2) (zab (zaX (szF (zab (vSh 0) (zab (vC (.str "q")) (zab (zaC (szF (zab (zaX (szF (zab (vC (.str "bb")) (zab (vC (.int 1)) zag)))) zag))) zag))))) zag)))) (zab (zaC (szF (zab (vSh 2) (zab (zaX (szF (zab (vC (.str "sb")) (zab (vSh 0) (zab (zaC (szF (zab (zaX (szF (zab (vC (.str "bb")) (zab (vC (.int 1)) zag)))) zag))) zag))))) zag)))) zag)))))) (zbc (b2 ixD (b2 zcr (vSh 3) (zaC (szF (zab (zaC (szF (zab (vSh 2) (zab (zaX (szF (zab (vC (.str "sb")) (zab (vC (.str "q")) (zab (zaC (szF (zab (zaX (szF (zab (vC (.str "bb")) (zab (vC (.int 1)) zag)))) (zab (zaX (szF (zab (vSh 0) (zab (vC (.int 2)) zag)))) zag)))) zag))))) zag)))) zag)))) (b2 zft (vSh 1) (vC (.int 7)))))))))
theorem zbk : FnScope ["_law_odd_here", "_law_cell", "_law_first", "_law_some"] ["_law_odd_here", "_law_cell"] (zan zcm) := ⟨rfl, rfl, rfl, by decide +kernel, rfl, by decide +kernel, by decide +kernel⟩
theorem zem {zaq : List D -> Option D} {zaD : List D -> Option D} (F : Dfn K mg "_law_bad_steps" zcm) (B : Bn mg) (c__law_benches : Cal Γ P w K mg base "_law_benches" 1 2 zaq) (c__law_all_steps : Cal Γ P w K mg base "_law_all_steps" 1 2 zaD) : Cal Γ P w K mg base "_law_bad_steps" 2 3 (zdi zaq zaD) :=
  F.cal (k := 2) zbk (fun _ _ _ _ _ _ us hl => match us, hl with | [_, _], _ => rfl) fun f cdv A outer s H E hr =>
    (zak (zbd 2 zbk.nd (zat (zaa zaj (zaa zaj (zaa (DO.de (zao (zaa (zat (zaa zaj (zaa zae zac))) zac))) zac))))) (zak (zbd 3 zbk.nd (DO.de (zao (zaa (zap c__law_all_steps hr (by decide) rfl (zaa zae zac) ln1) (zaa (DO.de (zao (zaa (zad 2) (zaa (zat (zaa zaj (zaa zaj (zaa (DO.de (zbT rfl (CompScope.of rfl rfl) (FvOk.of (N' := ["_law_row"]) (fv := [none]) rfl) (za9 (zap c__law_benches hr (by decide) rfl (zaa zae zac) ln1)) ⟨fun _ _ _ _ _ => ⟨(zaE 0 (show (["_law_row"] : List Str).Nodup by decide +kernel)), zaG, (zat (zaa (zaH (zad 0) zae) (zaa zae zac)))⟩⟩)) zac)))) zac)))) zac))))) (zak (zbd 3 zbk.nd (zaT (zad 3) (DO.de (zao (zaa (DO.de (zao (zaa (zad 2) (zaa (zat (zaa zaj (zaa zaj (zaa (DO.de (zao (zaa (zat (zaa zaj (zaa zae zac))) zac))) zac)))) zac)))) (zaa (DO.de (zao (zaa (zad 2) (zaa (zat (zaa zaj (zaa zaj (zaa (DO.de (zao (zaa (zat (zaa zaj (zaa zae zac))) (zaa (zat (zaa zaj (zaa zae zac))) zac)))) zac)))) zac)))) zac)))))) (zak (zbd 3 zbk.nd (zaT (zad 3) (DO.de (zao (zaa (DO.de (zao (zaa (zad 2) (zaa (zat (zaa (zad 0) (zaa zaj (zaa (DO.de (zao (zaa (zat (zaa zaj (zaa zae zac))) zac))) zac)))) zac)))) (zaa (DO.de (zao (zaa (zad 2) (zaa (zat (zaa zaj (zaa (zad 0) (zaa (DO.de (zao (zaa (zat (zaa zaj (zaa zae zac))) zac))) zac)))) zac)))) zac)))))) (zar (zaz (zaH (zaT (zad 3) (DO.de (zao (zaa (DO.de (zao (zaa (zad 2) (zaa (zat (zaa zaj (zaa zaj (zaa (DO.de (zao (zaa (zat (zaa zaj (zaa zae zac))) (zaa (zat (zaa (zad 0) (zaa zae zac))) zac)))) zac)))) zac)))) zac)))) (zcq (zad 1) zae))))))))
noncomputable def zcL (zaq : List D -> Option D) : List D -> Option D := zbP 2
    (zaS (zcw 2 (zaC (za1 (itR zkg (zab (vC (.int 11)) zag)) (zbK 0) tT (zaX (szF (zab (b2 zlz (vC (.int 2)) (vSh 0)) (zab (b2 zcr (b2 zlz (vC (.int 2)) (vSh 0)) (vC (.int 1))) zag)))) [none]))) (zaS (zcw 3 (zaC (szF (zab (cF zaq (zab (vC (.int 9)) zag)) (zab (b2 zcr (zaC (szF (zab (zaX (szF (zab (vC (.str "ba")) (zab (vSh 2) zag)))) zag))) (slF (cF zaq (zab (vC (.int 5)) zag)) (pS (vC (.int 1))) pN)) (zab (b2 zcr (cF zaq (zab (vC (.int 5)) zag)) (zaC (szF (zab (zaX (szF (zab (vC (.str "ba")) (zab (zaC (szF (zab (zaX (szF (zab (vC (.int 3)) (zab (vC (.int 4)) zag)))) zag))) zag)))) zag)))) zag)))))) (zaS (zcw 3 (b2 zcr (vSh 3) (zaC (szF (zab (b2 zcr (cF zaq (zab (vC (.int 4)) zag)) (zaC (szF (zab (zaX (szF (zab (vSh 0) (zab (zaC (szF zag)) zag)))) zag)))) (zab (b2 zcr (zaC (szF (zab (zaX (szF (zab (vSh 0) (zab (zaC (szF (zab (zaX (szF (zab (vC (.int 0)) (zab (vC (.int 1)) zag)))) zag))) zag)))) zag))) (cF zaq (zab (vC (.int 5)) zag))) zag)))))) (zbc (b2 ixD (b2 zcr (vSh 3) (zaC (szF (zab (b2 zcr (cF zaq (zab (vC (.int 4)) zag)) (zaC (szF (zab (zaX (szF (zab (vC (.str "be")) (zab (zaC (szF (zab (zaC (szF (zab (vC (.int 0)) (zab (vC (.int 1)) zag)))) zag))) zag)))) zag)))) zag)))) (b2 zft (vSh 1) (vC (.int 6))))))))
theorem zbp : FnScope ["_law_odd_here", "_law_cell", "_law_spans", "_law_some"] ["_law_odd_here", "_law_cell"] (zan zbW) := ⟨rfl, rfl, rfl, by decide +kernel, rfl, by decide +kernel, by decide +kernel⟩
theorem zdG {zaq : List D -> Option D} (F : Dfn K mg "_law_bad_benches" zbW) (B : Bn mg) (c__law_benches : Cal Γ P w K mg base "_law_benches" 1 2 zaq) : Cal Γ P w K mg base "_law_bad_benches" 2 3 (zcL zaq) :=
  F.cal (k := 2) zbp (fun _ _ _ _ _ _ us hl => match us, hl with | [_, _], _ => rfl) fun f cdv A outer s H E hr =>
    (zak (zjJ 2 zbp.nd rfl (CompScope.of rfl rfl) (FvOk.of (N' := ["_law_k"]) (fv := [none]) rfl) (zb0 rfl B.z_range (zaa zae zac)) ⟨fun _ _ _ _ _ => ⟨(zaE 0 (show (["_law_k"] : List Str).Nodup by decide +kernel)), zaG, (zat (zaa (zfE zae (zad 0)) (zaa (zaT (zfE zae (zad 0)) zae) zac)))⟩⟩) (zak (zbd 3 zbp.nd (DO.de (zao (zaa (zap c__law_benches hr (by decide) rfl (zaa zae zac) ln1) (zaa (zaT (DO.de (zao (zaa (zat (zaa zaj (zaa (zad 2) zac))) zac))) (zct (zap c__law_benches hr (by decide) rfl (zaa zae zac) ln1) (zdc zae) zdd)) (zaa (zaT (zap c__law_benches hr (by decide) rfl (zaa zae zac) ln1) (DO.de (zao (zaa (zat (zaa zaj (zaa (DO.de (zao (zaa (zat (zaa zae (zaa zae zac))) zac))) zac))) zac)))) zac)))))) (zak (zbd 3 zbp.nd (zaT (zad 3) (DO.de (zao (zaa (zaT (zap c__law_benches hr (by decide) rfl (zaa zae zac) ln1) (DO.de (zao (zaa (zat (zaa (zad 0) (zaa (DO.de (zao zac)) zac))) zac)))) (zaa (zaT (DO.de (zao (zaa (zat (zaa (zad 0) (zaa (DO.de (zao (zaa (zat (zaa zae (zaa zae zac))) zac))) zac))) zac))) (zap c__law_benches hr (by decide) rfl (zaa zae zac) ln1)) zac)))))) (zar (zaz (zaH (zaT (zad 3) (DO.de (zao (zaa (zaT (zap c__law_benches hr (by decide) rfl (zaa zae zac) ln1) (DO.de (zao (zaa (zat (zaa zaj (zaa (DO.de (zao (zaa (DO.de (zao (zaa zae (zaa zae zac)))) zac))) zac))) zac)))) zac)))) (zcq (zad 1) zae)))))))
noncomputable def zc3 (zal : List D -> Option D) : List D -> Option D := zbP 2
    (zaS (zcw 2 (zaX (szF (zab (vC (.str "ta")) (zab (vC (.int 1)) (zab (vC (.int 2)) (zab (zaC (szF (zab (zaX (szF (zab (vC (.str "sa")) (zab (vC (.int 1)) zag)))) zag))) (zab (zaC (szF zag)) zag)))))))) (zaS (zcw 3 (zaC (szF (zab (zaC (za1 (itR zkg (zab (vC (.int 7)) zag)) (zbK 0) tT (zaX (szF (zab (b2 zcr (vC (.str "t")) (cF zal (zab (vSh 0) zag))) (zab (vC (.int 0)) (zab (vC (.int 1)) (zab (zaC (szF zag)) (zab (zaC (szF zag)) zag))))))) [none])) (zab (zaC (szF (zab (vSh 2) (zab (zaX (szF (zab (vC (.str "ta")) (zab (vC (.int 0)) (zab (vC (.int 2)) (zab (zaC (szF zag)) (zab (zaC (szF (zab (zaX (szF (zab (vC (.str "sb")) (zab (vC (.int 1)) zag)))) zag))) zag))))))) zag)))) zag))))) (zaS (zcw 3 (b2 zcr (vSh 3) (zaC (szF (zab (zaC (szF (zab (zaX (szF (zab (vC (.str "ta")) (zab (vC (.int 1)) (zab (vC (.int 2)) (zab (zaC (szF (zab (zaX (szF (zab (vC (.str "sa")) (zab (vC (.int 1)) zag)))) (zab (zaX (szF (zab (vC (.str "sa")) (zab (vC (.int 2)) zag)))) zag)))) (zab (zaC (szF zag)) zag))))))) zag))) (zab (zaC (szF (zab (zaX (szF (zab (vC (.str "ta")) (zab (vC (.int 1)) (zab (vC (.int 2)) (zab (zaC (szF zag)) (zab (zaC (szF (zab (zaX (szF (zab (vC (.str "sb")) (zab (vC (.int 2)) zag)))) (zab (zaX (szF (zab (vC (.str "sb")) (zab (vC (.int 1)) zag)))) zag)))) zag))))))) zag))) zag)))))) (zaS (zcw 3 (b2 zcr (vSh 3) (zaC (szF (zab (zaC (szF (zab (vSh 2) (zab (zaX (szF (zab (vSh 0) (zab (vC (.int 0)) (zab (vC (.int 1)) (zab (zaC (szF zag)) (zab (zaC (szF zag)) zag))))))) zag)))) (zab (zaC (szF (zab (zaX (szF (zab (vC (.str "ta")) (zab (vC (.int 1)) (zab (vC (.int 2)) (zab (zaC (szF (zab (zaX (szF (zab (vC (.str "sa")) (zab (vC (.int 1)) zag)))) (zab (zaX (szF (zab (vSh 0) (zab (vC (.int 1)) zag)))) zag)))) (zab (zaC (szF zag)) zag))))))) zag))) zag)))))) (zbc (b2 ixD (b2 zcr (vSh 3) (zaC (szF (zab (zaC (szF (zab (cF zkF (zab (vSh 2) zag)) zag))) (zab (zaC (szF (zab (zaX (szF (zab (vC (.str "ta")) (zab (vC (.int 1)) (zab (vC (.int 2)) (zab (zaC (szF (zab (zaC (szF (zab (vC (.str "sa")) (zab (vC (.int 1)) zag)))) zag))) (zab (zaC (szF zag)) zag))))))) zag))) zag))))) (b2 zft (vSh 1) (vC (.int 8)))))))))
theorem zbf : FnScope ["_law_odd_here", "_law_cell", "_law_first", "_law_some"] ["_law_odd_here", "_law_cell"] (zan zca) := ⟨rfl, rfl, rfl, by decide +kernel, rfl, by decide +kernel, by decide +kernel⟩
theorem zdY {zal : List D -> Option D} (F : Dfn K mg "_law_bad_stocks" zca) (B : Bn mg) (c__law_letter : Cal Γ P w K mg base "_law_letter" 1 1 zal) : Cal Γ P w K mg base "_law_bad_stocks" 2 2 (zc3 zal) :=
  F.cal (k := 1) zbf (fun _ _ _ _ _ _ us hl => match us, hl with | [_, _], _ => rfl) fun f cdv A outer s H E hr =>
    (zak (zbd 2 zbf.nd (zat (zaa zaj (zaa zae (zaa zae (zaa (DO.de (zao (zaa (zat (zaa zaj (zaa zae zac))) zac))) (zaa (DO.de (zao zac)) zac))))))) (zak (zbd 3 zbf.nd (DO.de (zao (zaa (DO.de (zbT rfl (CompScope.of rfl rfl) (FvOk.of (N' := ["_law_k"]) (fv := [none]) rfl) (zb0 rfl B.z_range (zaa zae zac)) ⟨fun _ _ _ _ _ => ⟨(zaE 0 (show (["_law_k"] : List Str).Nodup by decide +kernel)), zaG, (zat (zaa (zaT zaj (zap c__law_letter hr (by decide) rfl (zaa (zad 0) zac) ln1)) (zaa zae (zaa zae (zaa (DO.de (zao zac)) (zaa (DO.de (zao zac)) zac))))))⟩⟩)) (zaa (DO.de (zao (zaa (zad 2) (zaa (zat (zaa zaj (zaa zae (zaa zae (zaa (DO.de (zao zac)) (zaa (DO.de (zao (zaa (zat (zaa zaj (zaa zae zac))) zac))) zac)))))) zac)))) zac))))) (zak (zbd 3 zbf.nd (zaT (zad 3) (DO.de (zao (zaa (DO.de (zao (zaa (zat (zaa zaj (zaa zae (zaa zae (zaa (DO.de (zao (zaa (zat (zaa zaj (zaa zae zac))) (zaa (zat (zaa zaj (zaa zae zac))) zac)))) (zaa (DO.de (zao zac)) zac)))))) zac))) (zaa (DO.de (zao (zaa (zat (zaa zaj (zaa zae (zaa zae (zaa (DO.de (zao zac)) (zaa (DO.de (zao (zaa (zat (zaa zaj (zaa zae zac))) (zaa (zat (zaa zaj (zaa zae zac))) zac)))) zac)))))) zac))) zac)))))) (zak (zbd 3 zbf.nd (zaT (zad 3) (DO.de (zao (zaa (DO.de (zao (zaa (zad 2) (zaa (zat (zaa (zad 0) (zaa zae (zaa zae (zaa (DO.de (zao zac)) (zaa (DO.de (zao zac)) zac)))))) zac)))) (zaa (DO.de (zao (zaa (zat (zaa zaj (zaa zae (zaa zae (zaa (DO.de (zao (zaa (zat (zaa zaj (zaa zae zac))) (zaa (zat (zaa (zad 0) (zaa zae zac))) zac)))) (zaa (DO.de (zao zac)) zac)))))) zac))) zac)))))) (zar (zaz (zaH (zaT (zad 3) (DO.de (zao (zaa (DO.de (zao (zaa (zcD zh3 rfl B.z_list (by rfl) (zaa (zad 2) zac)) zac))) (zaa (DO.de (zao (zaa (zat (zaa zaj (zaa zae (zaa zae (zaa (DO.de (zao (zaa (DO.de (zao (zaa zaj (zaa zae zac)))) zac))) (zaa (DO.de (zao zac)) zac)))))) zac))) zac))))) (zcq (zad 1) zae))))))))
noncomputable def zdj : List D -> Option D := zbP 1
    (zaS (zcw 3 (zaC (szF (zab (zaC (szF (zab (zaX (szF (zab (vC (.str "sa")) (zab (vC (.str "sb")) (zab (vSh 1) zag))))) zag))) (zab (zaC (szF (zab (zaX (szF (zab (vC (.str "sa")) (zab (vC (.str "sb")) (zab (b1 zqA (vC (.int 1))) zag))))) zag))) (zab (zaC (szF (zab (zaX (szF (zab (vC (.str "sa")) (zab (vC (.str "sb")) (zab (vC (.bl true)) zag))))) zag))) (zab (zaC (szF (zab (zaX (szF (zab (vC (.str "sa")) (zab (vC (.str "sb")) (zab (vC .non) zag))))) zag))) (zab (zaC (szF (zab (zaX (szF (zab (vC (.str "sa")) (zab (vC (.str "sb")) (zab (vC (.str "0")) zag))))) zag))) zag)))))))) (zaS (zcw 3 (b2 zcr (vSh 3) (zaC (szF (zab (b2 zlz (zaC (szF (zab (zaX (szF (zab (vC (.str "sa")) (zab (vC (.str "sb")) (zab (vC (.int 1)) zag))))) zag))) (vC (.int 2))) (zab (zaC (szF (zab (zaX (szF (zab (vC (.str "sa")) (zab (vC (.str "sb")) (zab (vC (.int 1)) zag))))) (zab (zaX (szF (zab (vC (.str "sa")) (zab (vC (.str "sb")) (zab (vC (.int 2)) zag))))) zag)))) (zab (zaC (szF (zab (zaX (szF (zab (vC (.str "sa")) (zab (vSh 0) (zab (vC (.int 1)) zag))))) zag))) (zab (zaC (szF (zab (zaX (szF (zab (vSh 0) (zab (vC (.str "sa")) (zab (vC (.int 1)) zag))))) zag))) zag)))))))) (zbc (b2 ixD (b2 zcr (vSh 3) (zaC (szF (zab (zaC (szF (zab (zaC (szF (zab (vC (.str "sa")) (zab (vC (.str "sb")) (zab (vC (.int 1)) zag))))) zag))) (zab (zaX (szF (zab (zaX (szF (zab (vC (.str "sa")) (zab (vC (.str "sb")) (zab (vC (.int 1)) zag))))) zag))) zag))))) (b2 zft (vSh 2) (vC (.int 11)))))))
theorem zb9 : FnScope ["_law_odd_here", "_law_far", "_law_cell", "_law_some"] ["_law_odd_here", "_law_far", "_law_cell"] (zan zcn) := ⟨rfl, rfl, rfl, by decide +kernel, rfl, by decide +kernel, by decide +kernel⟩
theorem zen (F : Dfn K mg "_law_bad_links" zcn) (B : Bn mg)  : Cal Γ P w K mg base "_law_bad_links" 3 1 (zdj) :=
  F.cal (k := 0) zb9 (fun _ _ _ _ _ _ us hl => match us, hl with | [_, _, _], _ => rfl) fun f cdv A outer s H E hr =>
    (zak (zbd 3 zb9.nd (DO.de (zao (zaa (DO.de (zao (zaa (zat (zaa zaj (zaa zaj (zaa (zad 1) zac)))) zac))) (zaa (DO.de (zao (zaa (zat (zaa zaj (zaa zaj (zaa (zn4 zae) zac)))) zac))) (zaa (DO.de (zao (zaa (zat (zaa zaj (zaa zaj (zaa zce zac)))) zac))) (zaa (DO.de (zao (zaa (zat (zaa zaj (zaa zaj (zaa zi7 zac)))) zac))) (zaa (DO.de (zao (zaa (zat (zaa zaj (zaa zaj (zaa zaj zac)))) zac))) zac)))))))) (zak (zbd 3 zb9.nd (zaT (zad 3) (DO.de (zao (zaa (zfE (DO.de (zao (zaa (zat (zaa zaj (zaa zaj (zaa zae zac)))) zac))) zae) (zaa (DO.de (zao (zaa (zat (zaa zaj (zaa zaj (zaa zae zac)))) (zaa (zat (zaa zaj (zaa zaj (zaa zae zac)))) zac)))) (zaa (DO.de (zao (zaa (zat (zaa zaj (zaa (zad 0) (zaa zae zac)))) zac))) (zaa (DO.de (zao (zaa (zat (zaa (zad 0) (zaa zaj (zaa zae zac)))) zac))) zac)))))))) (zar (zaz (zaH (zaT (zad 3) (DO.de (zao (zaa (DO.de (zao (zaa (DO.de (zao (zaa zaj (zaa zaj (zaa zae zac))))) zac))) (zaa (zat (zaa (zat (zaa zaj (zaa zaj (zaa zae zac)))) zac)) zac))))) (zcq (zad 2) zae))))))
noncomputable def zde (zbI : List D -> Option D) (zaN : List D -> Option D) (zaW : List D -> Option D) (zaP : List D -> Option D) (zaJ : List D -> Option D) (zaM : List D -> Option D) (zaQ : List D -> Option D) : List D -> Option D := zbP 4
    (zaS (zcw 3 (cF zbI (zab (b2 zgR (vSh 2) (vC (.int 6))) zag))) (zaS (zcw 4 (b2 zgR (vSh 2) (vC (.int 72)))) (zaS (zcw 5 (b2 zft (vSh 2) (vC (.int 6)))) (zaS (zcw 6 (zaC (szF (zab (cF zaJ (zab (vSh 3) (zab (vSh 4) zag))) (zab (cF zaP (zab (vSh 3) (zab (vSh 4) zag))) (zab (cF zaW (zab (vSh 3) (zab (vSh 4) zag))) (zab (cF zaN (zab (vSh 3) (zab (vSh 4) zag))) zag))))))) (zaS (zcw 6 (b2 zcr (vSh 6) (zaC (szF (zab (cF zaQ (zab (vSh 3) (zab (b2 zcr (vSh 1) (vC (.int 1))) (zab (vSh 4) zag)))) (zab (cF zaM (zab (vSh 3) (zab (vSh 4) zag))) zag)))))) (zbc (b2 zcr (b2 zcr (slF (vSh 0) pN (pS (vSh 5))) (zaC (szF (zab (b2 ixD (vSh 6) (vSh 5)) zag)))) (slF (vSh 0) (pS (b2 zcr (vSh 5) (vC (.int 1)))) pN))))))))
theorem zbu : FnScope ["_law_good", "_law_horizon", "_law_cell", "_law_odd_here", "_law_more", "_law_part", "_law_bad"] ["_law_good", "_law_horizon", "_law_cell"] (zan zc9) := ⟨rfl, rfl, rfl, by decide +kernel, rfl, by decide +kernel, by decide +kernel⟩
theorem zfL {zbI : List D -> Option D} {zaN : List D -> Option D} {zaW : List D -> Option D} {zaP : List D -> Option D} {zaJ : List D -> Option D} {zaM : List D -> Option D} {zaQ : List D -> Option D} (F : Dfn K mg "_law_spoilt" zc9) (B : Bn mg) (c__law_odd : Cal Γ P w K mg base "_law_odd" 1 1 zbI) (c__law_bad_setups : Cal Γ P w K mg base "_law_bad_setups" 2 3 zaN) (c__law_bad_jobs : Cal Γ P w K mg base "_law_bad_jobs" 2 1 zaW) (c__law_bad_steps : Cal Γ P w K mg base "_law_bad_steps" 2 3 zaP) (c__law_bad_benches : Cal Γ P w K mg base "_law_bad_benches" 2 3 zaJ) (c__law_bad_stocks : Cal Γ P w K mg base "_law_bad_stocks" 2 2 zaM) (c__law_bad_links : Cal Γ P w K mg base "_law_bad_links" 3 1 zaQ) : Cal Γ P w K mg base "_law_spoilt" 3 4 (zde zbI zaN zaW zaP zaJ zaM zaQ) :=
  F.cal (k := 3) zbu (fun _ _ _ _ _ _ us hl => match us, hl with | [_, _, _], _ => rfl) fun f cdv A outer s H E hr =>
    (zak (zbd 3 zbu.nd (zap c__law_odd hr (by decide) rfl (zaa (zeK (zad 2) zae) zac) ln1)) (zak (zbd 4 zbu.nd (zeK (zad 2) zae)) (zak (zbd 5 zbu.nd (zcq (zad 2) zae)) (zak (zbd 6 zbu.nd (DO.de (zao (zaa (zap c__law_bad_benches hr (by decide) rfl (zaa (zad 3) (zaa (zad 4) zac)) ln2) (zaa (zap c__law_bad_steps hr (by decide) rfl (zaa (zad 3) (zaa (zad 4) zac)) ln2) (zaa (zap c__law_bad_jobs hr (by decide) rfl (zaa (zad 3) (zaa (zad 4) zac)) ln2) (zaa (zap c__law_bad_setups hr (by decide) rfl (zaa (zad 3) (zaa (zad 4) zac)) ln2) zac))))))) (zak (zbd 6 zbu.nd (zaT (zad 6) (DO.de (zao (zaa (zap c__law_bad_links hr (by decide) rfl (zaa (zad 3) (zaa (zaT (zad 1) zae) (zaa (zad 4) zac))) ln3) (zaa (zap c__law_bad_stocks hr (by decide) rfl (zaa (zad 3) (zaa (zad 4) zac)) ln2) zac)))))) (zar (zaz (zaT (zaT (zct (zad 0) zdd (zdc (zad 5))) (DO.de (zao (zaa (zaH (zad 6) (zad 5)) zac)))) (zct (zad 0) (zdc (zaT (zad 5) zae)) zdd)))))))))
noncomputable def zeO : List D -> Option D := zbP 0
    (zbc (zdx (cF zf2 (zab (vSh 0) (zab (vC (.ty "int")) zag))) (zp2 (cF zf2 (zab (vSh 0) (zab (vC (.ty "bool")) zag))))))
theorem zh4 : FnScope ["thing"] ["thing"] (zan zew) := ⟨rfl, rfl, rfl, by decide +kernel, rfl, by decide +kernel, by decide +kernel⟩
theorem zhO (F : Dfn K mg "is_whole" zew) (B : Bn mg)  : Cal Γ P w K mg base "is_whole" 1 1 (zeO) :=
  F.cal (k := 0) zh4 (fun _ _ _ _ _ _ us hl => match us, hl with | [_], _ => rfl) fun f cdv A outer s H E hr =>
    (zar (zaz (zb7 (zaI ze1 rfl B.z_isinstance (by rfl) (zaa (zad 0) (zaa (zhK rfl B.z_int (by rfl)) zac))) (zcJ (zpN (zaI ze1 rfl B.z_isinstance (by rfl) (zaa (zad 0) (zaa (zhK rfl B.z_bool (by rfl)) zac))))))))
noncomputable def zd3 (zbD : List D -> Option D) : List D -> Option D := zbP 0
    (zbc (zdx (cF zbD (zab (vSh 0) zag)) (chD leD leD (vSh 1) (vSh 0) (vSh 2))))
theorem zhj : FnScope ["thing", "least", "most"] ["thing", "least", "most"] (zan zdQ) := ⟨rfl, rfl, rfl, by decide +kernel, rfl, by decide +kernel, by decide +kernel⟩
theorem zgZ {zbD : List D -> Option D} (F : Dfn K mg "is_within" zdQ) (B : Bn mg) (c_is_whole : Cal Γ P w K mg base "is_whole" 1 1 zbD) : Cal Γ P w K mg base "is_within" 3 2 (zd3 zbD) :=
  F.cal (k := 1) zhj (fun _ _ _ _ _ _ us hl => match us, hl with | [_, _, _], _ => rfl) fun f cdv A outer s H E hr =>
    (zar (zaz (zb7 (zap c_is_whole hr (by decide) rfl (zaa (zad 0) zac) ln1) (zcJ (zgV zhM zhM (zad 1) (zad 0) (zad 2))))))
noncomputable def zeP : List D -> Option D := zbP 0
    (zbc (zdx (cF zf2 (zab (vSh 0) (zab (vC (.ty "tuple")) zag))) (b2 eqD (cF zfy (zab (vSh 0) zag)) (vSh 1))))
theorem zh5 : FnScope ["thing", "many"] ["thing", "many"] (zan zex) := ⟨rfl, rfl, rfl, by decide +kernel, rfl, by decide +kernel, by decide +kernel⟩
theorem zhP (F : Dfn K mg "is_tuple" zex) (B : Bn mg)  : Cal Γ P w K mg base "is_tuple" 2 1 (zeP) :=
  F.cal (k := 0) zh5 (fun _ _ _ _ _ _ us hl => match us, hl with | [_, _], _ => rfl) fun f cdv A outer s H E hr =>
    (zar (zaz (zb7 (zaI ze1 rfl B.z_isinstance (by rfl) (zaa (zad 0) (zaa (zhK rfl B.z_tuple (by rfl)) zac))) (zcJ (zek zli (zaI zeq rfl B.z_len (by rfl) (zaa (zad 0) zac)) (zad 1) (zdf _))))))
noncomputable def zeS (zah : List D -> Option D) (zai : List D -> Option D) : List D -> Option D := zbP 0
    (zaS (sIf (orT (zbM (toB (cF zai (zab (vSh 0) (zab (vC (.int 2)) zag))))) (orT (zbM (toB (cF zah (zab (b2 ixD (vSh 0) (vC (.int 0))) (zab (vC (.int 0)) (zab (vSh 1) zag)))))) (zbM (toB (cF zah (zab (b2 ixD (vSh 0) (vC (.int 1))) (zab (vC (.int 0)) (zab (vSh 1) zag)))))))) (zbc (vC (.bl false))) zcx) (zbc (b2 ltD (b2 ixD (vSh 0) (vC (.int 0))) (b2 ixD (vSh 0) (vC (.int 1))))))
theorem zh8 : FnScope ["row", "horizon"] ["row", "horizon"] (zan zeA) := ⟨rfl, rfl, rfl, by decide +kernel, rfl, by decide +kernel, by decide +kernel⟩
theorem zhS {zah : List D -> Option D} {zai : List D -> Option D} (F : Dfn K mg "is_break" zeA) (B : Bn mg) (c_is_within : Cal Γ P w K mg base "is_within" 3 2 zah) (c_is_tuple : Cal Γ P w K mg base "is_tuple" 2 1 zai) : Cal Γ P w K mg base "is_break" 2 3 (zeS zah zai) :=
  F.cal (k := 2) zh8 (fun _ _ _ _ _ _ us hl => match us, hl with | [_, _], _ => rfl) fun f cdv A outer s H E hr =>
    (zak (zbZ (DW.dt (zcF (zaL (zaK (zap c_is_tuple hr (by decide) rfl (zaa (zad 0) (zaa zae zac)) ln2))) (zcF (zaL (zaK (zap c_is_within hr (by decide) rfl (zaa (zaH (zad 0) zae) (zaa zae (zaa (zad 1) zac))) ln3))) (zb6 (zaL (zaK (zap c_is_within hr (by decide) rfl (zaa (zaH (zad 0) zae) (zaa zae (zaa (zad 1) zac))) ln3))))))) (zar (zaz zce)) zaU) (zar (zaz (zek zn9 (zaH (zad 0) zae) (zaH (zad 0) zae) (zdf _)))))
noncomputable def zfP : List D -> Option D := zbP 0
    (zbc (zdx (cF zf2 (zab (vSh 0) (zab (vC (.ty "list")) zag))) (chD leD leD (vSh 1) (cF zfy (zab (vSh 0) zag)) (vSh 2))))
theorem zjo : FnScope ["thing", "least", "most"] ["thing", "least", "most"] (zan zfn) := ⟨rfl, rfl, rfl, by decide +kernel, rfl, by decide +kernel, by decide +kernel⟩
theorem ziv (F : Dfn K mg "is_list" zfn) (B : Bn mg)  : Cal Γ P w K mg base "is_list" 3 1 (zfP) :=
  F.cal (k := 0) zjo (fun _ _ _ _ _ _ us hl => match us, hl with | [_, _, _], _ => rfl) fun f cdv A outer s H E hr =>
    (zar (zaz (zb7 (zaI ze1 rfl B.z_isinstance (by rfl) (zaa (zad 0) (zaa (zhK rfl B.z_list (by rfl)) zac))) (zcJ (zgV zhM zhM (zad 1) (zaI zeq rfl B.z_len (by rfl) (zaa (zad 0) zac)) (zad 2))))))
noncomputable def ze4 (zbG : List D -> Option D) (zam : List D -> Option D) : List D -> Option D := zbP 0
    (zaS (sIf (orT (zbM (toB (cF zam (zab (vSh 0) (zab (vC (.int 0)) (zab (vC (.int 10)) zag)))))) (zbM (toB (cF zh1 (zab (zaC (za1 (itF (vSh 0)) (zbK 0) tT (cF zbG (zab (vSh 0) (zab (vSh 1) zag))) [none, some 1])) zag))))) (zbc (vC (.bl false))) zcx) (zbc (cF zh1 (zab (zaC (za1 (itR zni (zab (vC (.int 1)) (zab (cF zfy (zab (vSh 0) zag)) zag))) (zbK 0) tT (b2 ltD (b2 ixD (b2 ixD (vSh 1) (b2 zov (vSh 0) (vC (.int 1)))) (vC (.int 1))) (b2 ixD (b2 ixD (vSh 1) (vSh 0)) (vC (.int 0)))) [none, some 0])) zag))))
theorem zgE : FnScope ["breaks", "horizon"] ["breaks", "horizon"] (zan zdq) := ⟨rfl, rfl, rfl, by decide +kernel, rfl, by decide +kernel, by decide +kernel⟩
theorem zf6 {zbG : List D -> Option D} {zam : List D -> Option D} (F : Dfn K mg "are_breaks" zdq) (B : Bn mg) (c_is_break : Cal Γ P w K mg base "is_break" 2 3 zbG) (c_is_list : Cal Γ P w K mg base "is_list" 3 1 zam) : Cal Γ P w K mg base "are_breaks" 2 4 (ze4 zbG zam) :=
  F.cal (k := 3) zgE (fun _ _ _ _ _ _ us hl => match us, hl with | [_, _], _ => rfl) fun f cdv A outer s H E hr =>
    (zak (zbZ (DW.dt (zcF (zaL (zaK (zap c_is_list hr (by decide) rfl (zaa (zad 0) (zaa zae (zaa (zbQ rfl B.c_MOST_BREAKS) zac))) ln3))) (zb6 (zaL (zaK (zaI (zdg rfl) rfl B.z_all (by rfl) (zaa (DO.de (zbT rfl (CompScope.of rfl rfl) (FvOk.of (N' := ["row", "horizon"]) (fv := [none, some 1]) rfl) (za9 (zad 0)) ⟨fun _ _ _ _ _ => ⟨(zaE 0 (show (["row", "horizon"] : List Str).Nodup by decide +kernel)), zaG, (zap c_is_break hr (by decide) rfl (zaa (zad 0) (zaa (zad 1) zac)) ln2)⟩⟩)) zac))))))) (zar (zaz zce)) zaU) (zar (zaz (zaI (zdg rfl) rfl B.z_all (by rfl) (zaa (DO.de (zbT rfl (CompScope.of rfl rfl) (FvOk.of (N' := ["place", "breaks"]) (fv := [none, some 0]) rfl) (zk7 rfl B.z_range (zaa zae (zaa (zaI zeq rfl B.z_len (by rfl) (zaa (zad 0) zac)) zac))) ⟨fun _ _ _ _ _ => ⟨(zaE 0 (show (["place", "breaks"] : List Str).Nodup by decide +kernel)), zaG, (zek zn9 (zaH (zaH (zad 1) (zpM (zad 0) zae)) zae) (zaH (zaH (zad 1) (zad 0)) zae) (zdf _))⟩⟩)) zac)))))
noncomputable def zh2 : List D -> Option D := zbP 0
    (zaS (sIf (orT (zbM (toB (cF zf2 (zab (vSh 0) (zab (vC (.ty "str")) zag))))) (zbM (toB (chD leD leD (vC (.int 1)) (cF zfy (zab (vSh 0) zag)) (vC (.int 8)))))) (zbc (vC (.bl false))) zcx) (zbc (cF zh1 (zab (zaC (za1 (itS (vSh 0)) (zbK 0) tT (chD leD leD (vC (.str "a")) (vSh 0) (vC (.str "z"))) [none])) zag))))
theorem zjn : FnScope ["thing"] ["thing"] (zan zfm) := ⟨rfl, rfl, rfl, by decide +kernel, rfl, by decide +kernel, by decide +kernel⟩
theorem ziu (F : Dfn K mg "is_name" zfm) (B : Bn mg)  : Cal Γ P w K mg base "is_name" 1 1 (zh2) :=
  F.cal (k := 0) zjn (fun _ _ _ _ _ _ us hl => match us, hl with | [_], _ => rfl) fun f cdv A outer s H E hr =>
    (zak (zbZ (DW.dt (zcF (zaL (zaK (zaI ze1 rfl B.z_isinstance (by rfl) (zaa (zad 0) (zaa (zhK rfl B.z_str (by rfl)) zac))))) (zb6 (zaL (zmq zhM zhM zae (zaI zeq rfl B.z_len (by rfl) (zaa (zad 0) zac)) (zbQ rfl B.c_LONGEST_NAME)))))) (zar (zaz zce)) zaU) (zar (zaz (zaI (zdg rfl) rfl B.z_all (by rfl) (zaa (DO.de (zbT rfl (CompScope.of rfl rfl) (FvOk.of (N' := ["sign"]) (fv := [none]) rfl) (zpL (zad 0)) ⟨fun _ _ _ _ _ => ⟨(zaE 0 (show (["sign"] : List Str).Nodup by decide +kernel)), zaG, (zgV zhM zhM zaj (zad 0) zaj)⟩⟩)) zac)))))
noncomputable def zeT (zbo : List D -> Option D) (zay : List D -> Option D) (zai : List D -> Option D) : List D -> Option D := zbP 0
    (zbc (zdx (cF zai (zab (vSh 0) (zab (vC (.int 2)) zag))) (zdx (cF zay (zab (b2 ixD (vSh 0) (vC (.int 0))) zag)) (cF zbo (zab (b2 ixD (vSh 0) (vC (.int 1))) (zab (vSh 1) zag))))))
theorem zh9 : FnScope ["row", "horizon"] ["row", "horizon"] (zan zeB) := ⟨rfl, rfl, rfl, by decide +kernel, rfl, by decide +kernel, by decide +kernel⟩
theorem zhT {zbo : List D -> Option D} {zay : List D -> Option D} {zai : List D -> Option D} (F : Dfn K mg "is_bench" zeB) (B : Bn mg) (c_are_breaks : Cal Γ P w K mg base "are_breaks" 2 4 zbo) (c_is_name : Cal Γ P w K mg base "is_name" 1 1 zay) (c_is_tuple : Cal Γ P w K mg base "is_tuple" 2 1 zai) : Cal Γ P w K mg base "is_bench" 2 5 (zeT zbo zay zai) :=
  F.cal (k := 4) zh9 (fun _ _ _ _ _ _ us hl => match us, hl with | [_, _], _ => rfl) fun f cdv A outer s H E hr =>
    (zar (zaz (zb7 (zap c_is_tuple hr (by decide) rfl (zaa (zad 0) (zaa zae zac)) ln2) (zb7 (zap c_is_name hr (by decide) rfl (zaa (zaH (zad 0) zae) zac) ln1) (zcJ (zap c_are_breaks hr (by decide) rfl (zaa (zaH (zad 0) zae) (zaa (zad 1) zac)) ln2))))))
noncomputable def zck : List D -> Option D := zbP 0
    (zbc (b2 eqD (b1 zeF (vSh 0)) (cF zfy (zab (vSh 0) zag))))
theorem zgB : FnScope ["things"] ["things"] (zan zdn) := ⟨rfl, rfl, rfl, by decide +kernel, rfl, by decide +kernel, by decide +kernel⟩
theorem zf3 (F : Dfn K mg "are_unlike" zdn) (B : Bn mg)  : Cal Γ P w K mg base "are_unlike" 1 1 (zck) :=
  F.cal (k := 0) zgB (fun _ _ _ _ _ _ us hl => match us, hl with | [_], _ => rfl) fun f cdv A outer s H E hr =>
    (zar (zaz (zek zli (zlc rfl (zok hr) rfl B.z_len rfl B.z_set (zad 0)) (zaI zeq rfl B.z_len (by rfl) (zaa (zad 0) zac)) (zdf _))))
noncomputable def zer (zbH : List D -> Option D) (zam : List D -> Option D) (zaf : List D -> Option D) : List D -> Option D := zbP 0
    (zaS (sIf (orT (zbM (toB (cF zam (zab (vSh 0) (zab (vC (.int 1)) (zab (vC (.int 8)) zag)))))) (zbM (toB (cF zh1 (zab (zaC (za1 (itF (vSh 0)) (zbK 0) tT (cF zbH (zab (vSh 0) (zab (vSh 1) zag))) [none, some 1])) zag))))) (zbc (vC (.bl false))) zcx) (zbc (cF zaf (zab (zaC (za1 (itF (vSh 0)) (zbK 0) tT (b2 ixD (vSh 0) (vC (.int 0))) [none])) zag))))
theorem zfV : FnScope ["benches", "horizon"] ["benches", "horizon"] (zan zc7) := ⟨rfl, rfl, rfl, by decide +kernel, rfl, by decide +kernel, by decide +kernel⟩
theorem zfJ {zbH : List D -> Option D} {zam : List D -> Option D} {zaf : List D -> Option D} (F : Dfn K mg "are_benches" zc7) (B : Bn mg) (c_is_bench : Cal Γ P w K mg base "is_bench" 2 5 zbH) (c_is_list : Cal Γ P w K mg base "is_list" 3 1 zam) (c_are_unlike : Cal Γ P w K mg base "are_unlike" 1 1 zaf) : Cal Γ P w K mg base "are_benches" 2 6 (zer zbH zam zaf) :=
  F.cal (k := 5) zfV (fun _ _ _ _ _ _ us hl => match us, hl with | [_, _], _ => rfl) fun f cdv A outer s H E hr =>
    (zak (zbZ (DW.dt (zcF (zaL (zaK (zap c_is_list hr (by decide) rfl (zaa (zad 0) (zaa zae (zaa (zbQ rfl B.c_MOST_BENCHES) zac))) ln3))) (zb6 (zaL (zaK (zaI (zdg rfl) rfl B.z_all (by rfl) (zaa (DO.de (zbT rfl (CompScope.of rfl rfl) (FvOk.of (N' := ["row", "horizon"]) (fv := [none, some 1]) rfl) (za9 (zad 0)) ⟨fun _ _ _ _ _ => ⟨(zaE 0 (show (["row", "horizon"] : List Str).Nodup by decide +kernel)), zaG, (zap c_is_bench hr (by decide) rfl (zaa (zad 0) (zaa (zad 1) zac)) ln2)⟩⟩)) zac))))))) (zar (zaz zce)) zaU) (zar (zaz (zap c_are_unlike hr (by decide) rfl (zaa (DO.de (zbT rfl (CompScope.of rfl rfl) (FvOk.of (N' := ["row"]) (fv := [none]) rfl) (za9 (zad 0)) ⟨fun _ _ _ _ _ => ⟨(zaE 0 (show (["row"] : List Str).Nodup by decide +kernel)), zaG, (zaH (zad 0) zae)⟩⟩)) zac) ln1))))
noncomputable def zd4 (zay : List D -> Option D) : List D -> Option D := zbP 0
    (zbc (zdx (cF zay (zab (vSh 0) zag)) (b2 zpu (vSh 0) (vSh 1))))
theorem zhk : FnScope ["thing", "names"] ["thing", "names"] (zan zdR) := ⟨rfl, rfl, rfl, by decide +kernel, rfl, by decide +kernel, by decide +kernel⟩
theorem zg0 {zay : List D -> Option D} (F : Dfn K mg "is_one_of" zdR) (B : Bn mg) (c_is_name : Cal Γ P w K mg base "is_name" 1 1 zay) : Cal Γ P w K mg base "is_one_of" 2 2 (zd4 zay) :=
  F.cal (k := 1) zhk (fun _ _ _ _ _ _ us hl => match us, hl with | [_, _], _ => rfl) fun f cdv A outer s H E hr =>
    (zar (zaz (zb7 (zap c_is_name hr (by decide) rfl (zaa (zad 0) zac) ln1) (zcJ (zek (zpR (zok hr)) (zad 0) (zad 1) (by rfl))))))
noncomputable def zg6 (zah : List D -> Option D) (zau : List D -> Option D) (zai : List D -> Option D) : List D -> Option D := zbP 0
    (zbc (zdx (cF zai (zab (vSh 0) (zab (vC (.int 2)) zag))) (zdx (cF zau (zab (b2 ixD (vSh 0) (vC (.int 0))) (zab (vSh 1) zag))) (cF zah (zab (b2 ixD (vSh 0) (vC (.int 1))) (zab (vC (.int 1)) (zab (vSh 2) zag)))))))
theorem zka : FnScope ["row", "bench_names", "horizon"] ["row", "bench_names", "horizon"] (zan zgF) := ⟨rfl, rfl, rfl, by decide +kernel, rfl, by decide +kernel, by decide +kernel⟩
theorem zjN {zah : List D -> Option D} {zau : List D -> Option D} {zai : List D -> Option D} (F : Dfn K mg "is_way" zgF) (B : Bn mg) (c_is_within : Cal Γ P w K mg base "is_within" 3 2 zah) (c_is_one_of : Cal Γ P w K mg base "is_one_of" 2 2 zau) (c_is_tuple : Cal Γ P w K mg base "is_tuple" 2 1 zai) : Cal Γ P w K mg base "is_way" 3 3 (zg6 zah zau zai) :=
  F.cal (k := 2) zka (fun _ _ _ _ _ _ us hl => match us, hl with | [_, _, _], _ => rfl) fun f cdv A outer s H E hr =>
    (zar (zaz (zb7 (zap c_is_tuple hr (by decide) rfl (zaa (zad 0) (zaa zae zac)) ln2) (zb7 (zap c_is_one_of hr (by decide) rfl (zaa (zaH (zad 0) zae) (zaa (zad 1) zac)) ln2) (zcJ (zap c_is_within hr (by decide) rfl (zaa (zaH (zad 0) zae) (zaa zae (zaa (zad 2) zac))) ln3))))))
noncomputable def zgt (zcu : List D -> Option D) (zam : List D -> Option D) (zaf : List D -> Option D) : List D -> Option D := zbP 0
    (zaS (sIf (orT (zbM (toB (cF zam (zab (vSh 0) (zab (vC (.int 1)) (zab (vC (.int 4)) zag)))))) (zbM (toB (cF zh1 (zab (zaC (za1 (itF (vSh 0)) (zbK 0) tT (cF zcu (zab (vSh 0) (zab (vSh 1) (zab (vSh 2) zag)))) [none, some 1, some 2])) zag))))) (zbc (vC (.bl false))) zcx) (zbc (cF zaf (zab (zaC (za1 (itF (vSh 0)) (zbK 0) tT (b2 ixD (vSh 0) (vC (.int 0))) [none])) zag))))
theorem zia : FnScope ["ways", "bench_names", "horizon"] ["ways", "bench_names", "horizon"] (zan zeC) := ⟨rfl, rfl, rfl, by decide +kernel, rfl, by decide +kernel, by decide +kernel⟩
theorem zhU {zcu : List D -> Option D} {zam : List D -> Option D} {zaf : List D -> Option D} (F : Dfn K mg "are_ways" zeC) (B : Bn mg) (c_is_way : Cal Γ P w K mg base "is_way" 3 3 zcu) (c_is_list : Cal Γ P w K mg base "is_list" 3 1 zam) (c_are_unlike : Cal Γ P w K mg base "are_unlike" 1 1 zaf) : Cal Γ P w K mg base "are_ways" 3 4 (zgt zcu zam zaf) :=
  F.cal (k := 3) zia (fun _ _ _ _ _ _ us hl => match us, hl with | [_, _, _], _ => rfl) fun f cdv A outer s H E hr =>
    (zak (zbZ (DW.dt (zcF (zaL (zaK (zap c_is_list hr (by decide) rfl (zaa (zad 0) (zaa zae (zaa (zbQ rfl B.c_MOST_WAYS) zac))) ln3))) (zb6 (zaL (zaK (zaI (zdg rfl) rfl B.z_all (by rfl) (zaa (DO.de (zbT rfl (CompScope.of rfl rfl) (FvOk.of (N' := ["row", "bench_names", "horizon"]) (fv := [none, some 1, some 2]) rfl) (za9 (zad 0)) ⟨fun _ _ _ _ _ => ⟨(zaE 0 (show (["row", "bench_names", "horizon"] : List Str).Nodup by decide +kernel)), zaG, (zap c_is_way hr (by decide) rfl (zaa (zad 0) (zaa (zad 1) (zaa (zad 2) zac))) ln3)⟩⟩)) zac))))))) (zar (zaz zce)) zaU) (zar (zaz (zap c_are_unlike hr (by decide) rfl (zaa (DO.de (zbT rfl (CompScope.of rfl rfl) (FvOk.of (N' := ["row"]) (fv := [none]) rfl) (za9 (zad 0)) ⟨fun _ _ _ _ _ => ⟨(zaE 0 (show (["row"] : List Str).Nodup by decide +kernel)), zaG, (zaH (zad 0) zae)⟩⟩)) zac) ln1))))
noncomputable def zfO (zay : List D -> Option D) (zai : List D -> Option D) (zbV : List D -> Option D) : List D -> Option D := zbP 0
    (zaS (sIf (orT (zbM (toB (cF zai (zab (vSh 0) (zab (vC (.int 3)) zag))))) (orT (zbM (toB (cF zay (zab (b2 ixD (vSh 0) (vC (.int 0))) zag)))) (zbM (toB (cF zay (zab (b2 ixD (vSh 0) (vC (.int 1))) zag)))))) (zbc (vC (.bl false))) zcx) (zbc (cF zbV (zab (b2 ixD (vSh 0) (vC (.int 2))) (zab (vSh 1) (zab (vSh 2) zag))))))
theorem zjm : FnScope ["row", "bench_names", "horizon"] ["row", "bench_names", "horizon"] (zan zfl) := ⟨rfl, rfl, rfl, by decide +kernel, rfl, by decide +kernel, by decide +kernel⟩
theorem zit {zay : List D -> Option D} {zai : List D -> Option D} {zbV : List D -> Option D} (F : Dfn K mg "is_step" zfl) (B : Bn mg) (c_is_name : Cal Γ P w K mg base "is_name" 1 1 zay) (c_is_tuple : Cal Γ P w K mg base "is_tuple" 2 1 zai) (c_are_ways : Cal Γ P w K mg base "are_ways" 3 4 zbV) : Cal Γ P w K mg base "is_step" 3 5 (zfO zay zai zbV) :=
  F.cal (k := 4) zjm (fun _ _ _ _ _ _ us hl => match us, hl with | [_, _, _], _ => rfl) fun f cdv A outer s H E hr =>
    (zak (zbZ (DW.dt (zcF (zaL (zaK (zap c_is_tuple hr (by decide) rfl (zaa (zad 0) (zaa zae zac)) ln2))) (zcF (zaL (zaK (zap c_is_name hr (by decide) rfl (zaa (zaH (zad 0) zae) zac) ln1))) (zb6 (zaL (zaK (zap c_is_name hr (by decide) rfl (zaa (zaH (zad 0) zae) zac) ln1))))))) (zar (zaz zce)) zaU) (zar (zaz (zap c_are_ways hr (by decide) rfl (zaa (zaH (zad 0) zae) (zaa (zad 1) (zaa (zad 2) zac))) ln3))))
noncomputable def zfR (zb3 : List D -> Option D) (zam : List D -> Option D) (zaf : List D -> Option D) : List D -> Option D := zbP 0
    (zaS (sIf (orT (zbM (toB (cF zam (zab (vSh 0) (zab (vC (.int 1)) (zab (vC (.int 40)) zag)))))) (zbM (toB (cF zh1 (zab (zaC (za1 (itF (vSh 0)) (zbK 0) tT (cF zb3 (zab (vSh 0) (zab (vSh 1) (zab (vSh 2) zag)))) [none, some 1, some 2])) zag))))) (zbc (vC (.bl false))) zcx) (zbc (cF zaf (zab (zaC (za1 (itF (vSh 0)) (zbK 0) tT (b2 ixD (vSh 0) (vC (.int 0))) [none])) zag))))
theorem zhm : FnScope ["steps", "bench_names", "horizon"] ["steps", "bench_names", "horizon"] (zan zdT) := ⟨rfl, rfl, rfl, by decide +kernel, rfl, by decide +kernel, by decide +kernel⟩
theorem zg2 {zb3 : List D -> Option D} {zam : List D -> Option D} {zaf : List D -> Option D} (F : Dfn K mg "are_steps" zdT) (B : Bn mg) (c_is_step : Cal Γ P w K mg base "is_step" 3 5 zb3) (c_is_list : Cal Γ P w K mg base "is_list" 3 1 zam) (c_are_unlike : Cal Γ P w K mg base "are_unlike" 1 1 zaf) : Cal Γ P w K mg base "are_steps" 3 6 (zfR zb3 zam zaf) :=
  F.cal (k := 5) zhm (fun _ _ _ _ _ _ us hl => match us, hl with | [_, _, _], _ => rfl) fun f cdv A outer s H E hr =>
    (zak (zbZ (DW.dt (zcF (zaL (zaK (zap c_is_list hr (by decide) rfl (zaa (zad 0) (zaa zae (zaa (zbQ rfl B.c_MOST_STEPS) zac))) ln3))) (zb6 (zaL (zaK (zaI (zdg rfl) rfl B.z_all (by rfl) (zaa (DO.de (zbT rfl (CompScope.of rfl rfl) (FvOk.of (N' := ["row", "bench_names", "horizon"]) (fv := [none, some 1, some 2]) rfl) (za9 (zad 0)) ⟨fun _ _ _ _ _ => ⟨(zaE 0 (show (["row", "bench_names", "horizon"] : List Str).Nodup by decide +kernel)), zaG, (zap c_is_step hr (by decide) rfl (zaa (zad 0) (zaa (zad 1) (zaa (zad 2) zac))) ln3)⟩⟩)) zac))))))) (zar (zaz zce)) zaU) (zar (zaz (zap c_are_unlike hr (by decide) rfl (zaa (DO.de (zbT rfl (CompScope.of rfl rfl) (FvOk.of (N' := ["row"]) (fv := [none]) rfl) (za9 (zad 0)) ⟨fun _ _ _ _ _ => ⟨(zaE 0 (show (["row"] : List Str).Nodup by decide +kernel)), zaG, (zaH (zad 0) zae)⟩⟩)) zac) ln1))))
noncomputable def zjd (zay : List D -> Option D) (zai : List D -> Option D) (zah : List D -> Option D) (zau : List D -> Option D) (zam : List D -> Option D) : List D -> Option D := zbP 0
    (zaS (sIf (orT (zbM (toB (cF zai (zab (vSh 0) (zab (vC (.int 5)) zag))))) (orT (zbM (toB (cF zay (zab (b2 ixD (vSh 0) (vC (.int 0))) zag)))) (zbM (toB (cF zf2 (zab (b2 ixD (vSh 0) (vC (.int 3))) (zab (vC (.ty "bool")) zag))))))) (zbc (vC (.bl false))) zcx) (zaS (sIf (orT (zbM (toB (cF zah (zab (b2 ixD (vSh 0) (vC (.int 1))) (zab (vC (.int 0)) (zab (vSh 2) zag)))))) (zbM (toB (cF zah (zab (b2 ixD (vSh 0) (vC (.int 2))) (zab (vC (.int 0)) (zab (vSh 2) zag))))))) (zbc (vC (.bl false))) zcx) (zbc (zdx (cF zam (zab (b2 ixD (vSh 0) (vC (.int 4))) (zab (vC (.int 1)) (zab (cF zfy (zab (vSh 1) zag)) zag)))) (cF zh1 (zab (zaC (za1 (itF (b2 ixD (vSh 0) (vC (.int 4)))) (zbK 0) tT (cF zau (zab (vSh 0) (zab (vSh 1) zag))) [none, some 1])) zag))))))
theorem zkb : FnScope ["row", "step_names", "horizon"] ["row", "step_names", "horizon"] (zan zgG) := ⟨rfl, rfl, rfl, by decide +kernel, rfl, by decide +kernel, by decide +kernel⟩
theorem zjO {zay : List D -> Option D} {zai : List D -> Option D} {zah : List D -> Option D} {zau : List D -> Option D} {zam : List D -> Option D} (F : Dfn K mg "is_job" zgG) (B : Bn mg) (c_is_name : Cal Γ P w K mg base "is_name" 1 1 zay) (c_is_tuple : Cal Γ P w K mg base "is_tuple" 2 1 zai) (c_is_within : Cal Γ P w K mg base "is_within" 3 2 zah) (c_is_one_of : Cal Γ P w K mg base "is_one_of" 2 2 zau) (c_is_list : Cal Γ P w K mg base "is_list" 3 1 zam) : Cal Γ P w K mg base "is_job" 3 3 (zjd zay zai zah zau zam) :=
  F.cal (k := 2) zkb (fun _ _ _ _ _ _ us hl => match us, hl with | [_, _, _], _ => rfl) fun f cdv A outer s H E hr =>
    (zak (zbZ (DW.dt (zcF (zaL (zaK (zap c_is_tuple hr (by decide) rfl (zaa (zad 0) (zaa zae zac)) ln2))) (zcF (zaL (zaK (zap c_is_name hr (by decide) rfl (zaa (zaH (zad 0) zae) zac) ln1))) (zb6 (zaL (zaK (zaI ze1 rfl B.z_isinstance (by rfl) (zaa (zaH (zad 0) zae) (zaa (zhK rfl B.z_bool (by rfl)) zac))))))))) (zar (zaz zce)) zaU) (zak (zbZ (DW.dt (zcF (zaL (zaK (zap c_is_within hr (by decide) rfl (zaa (zaH (zad 0) zae) (zaa zae (zaa (zad 2) zac))) ln3))) (zb6 (zaL (zaK (zap c_is_within hr (by decide) rfl (zaa (zaH (zad 0) zae) (zaa zae (zaa (zad 2) zac))) ln3)))))) (zar (zaz zce)) zaU) (zar (zaz (zb7 (zap c_is_list hr (by decide) rfl (zaa (zaH (zad 0) zae) (zaa zae (zaa (zaI zeq rfl B.z_len (by rfl) (zaa (zad 1) zac)) zac))) ln3) (zcJ (zaI (zdg rfl) rfl B.z_all (by rfl) (zaa (DO.de (zbT rfl (CompScope.of rfl rfl) (FvOk.of (N' := ["name", "step_names"]) (fv := [none, some 1]) rfl) (za9 (zaH (zad 0) zae)) ⟨fun _ _ _ _ _ => ⟨(zaE 0 (show (["name", "step_names"] : List Str).Nodup by decide +kernel)), zaG, (zap c_is_one_of hr (by decide) rfl (zaa (zad 0) (zaa (zad 1) zac)) ln2)⟩⟩)) zac))))))))
noncomputable def zgu (zcM : List D -> Option D) (zam : List D -> Option D) (zaf : List D -> Option D) : List D -> Option D := zbP 2
    (zaS (sIf (orT (zbM (toB (cF zam (zab (vSh 0) (zab (vC (.int 0)) (zab (vC (.int 40)) zag)))))) (zbM (toB (cF zh1 (zab (zaC (za1 (itF (vSh 0)) (zbK 0) tT (cF zcM (zab (vSh 0) (zab (vSh 1) (zab (vSh 2) zag)))) [none, some 1, some 2])) zag))))) (zbc (vC (.bl false))) zcx) (zaS (zkc 3 (szF zag)) (zaS (zgH (itF (vSh 0)) (zbK 4) (zoj 3 (b2 ixD (vSh 4) (vC (.int 4))))) (zke 3 (zbc (zdx (cF zaf (zab (zaC (za1 (itF (vSh 0)) (zbK 0) tT (b2 ixD (vSh 0) (vC (.int 0))) [none])) zag)) (cF zaf (zab (vSh 3) zag))))))))
theorem zdP : FnScope ["jobs", "step_names", "horizon", "members", "row"] ["jobs", "step_names", "horizon"] (zan zeD) := ⟨rfl, rfl, rfl, by decide +kernel, rfl, by decide +kernel, by decide +kernel⟩
theorem zhV {zcM : List D -> Option D} {zam : List D -> Option D} {zaf : List D -> Option D} (F : Dfn K mg "are_jobs" zeD) (B : Bn mg) (c_is_job : Cal Γ P w K mg base "is_job" 3 3 zcM) (c_is_list : Cal Γ P w K mg base "is_list" 3 1 zam) (c_are_unlike : Cal Γ P w K mg base "are_unlike" 1 1 zaf) : Cal Γ P w K mg base "are_jobs" 3 4 (zgu zcM zam zaf) :=
  F.cal (k := 3) zdP (fun _ _ _ _ _ _ us hl => match us, hl with | [_, _, _], _ => rfl) fun f cdv A outer s H E hr =>
    (zak (zbZ (DW.dt (zcF (zaL (zaK (zap c_is_list hr (by decide) rfl (zaa (zad 0) (zaa zae (zaa (zbQ rfl B.c_MOST_JOBS) zac))) ln3))) (zb6 (zaL (zaK (zaI (zdg rfl) rfl B.z_all (by rfl) (zaa (DO.de (zbT rfl (CompScope.of rfl rfl) (FvOk.of (N' := ["row", "step_names", "horizon"]) (fv := [none, some 1, some 2]) rfl) (za9 (zad 0)) ⟨fun _ _ _ _ _ => ⟨(zaE 0 (show (["row", "step_names", "horizon"] : List Str).Nodup by decide +kernel)), zaG, (zap c_is_job hr (by decide) rfl (zaa (zad 0) (zaa (zad 1) (zaa (zad 2) zac))) ln3)⟩⟩)) zac))))))) (zar (zaz zce)) zaU) (zak (zi5 3 zdP.nd (zao zac)) (zak (zhG PassesOwn.never rfl (za9 (zad 0)) (zaE 4 zdP.nd) (zar (zk3 3 (zaH (zad 4) zae)))) (zgS 3 (zar (zaz (zb7 (zap c_are_unlike hr (by decide) rfl (zaa (DO.de (zbT rfl (CompScope.of rfl rfl) (FvOk.of (N' := ["row"]) (fv := [none]) rfl) (za9 (zad 0)) ⟨fun _ _ _ _ _ => ⟨(zaE 0 (show (["row"] : List Str).Nodup by decide +kernel)), zaG, (zaH (zad 0) zae)⟩⟩)) zac) ln1) (zcJ (zap c_are_unlike hr (by decide) rfl (zaa (zad 3) zac) ln1)))))))))
noncomputable def zeR (zau : List D -> Option D) (zai : List D -> Option D) (zah : List D -> Option D) (zay : List D -> Option D) : List D -> Option D := zbP 0
    (zaS (sIf (orT (zbM (toB (cF zai (zab (vSh 0) (zab (vC (.int 4)) zag))))) (zbM (toB (cF zau (zab (b2 ixD (vSh 0) (vC (.int 0))) (zab (vSh 1) zag)))))) (zbc (vC (.bl false))) zcx) (zbc (zdx (cF zay (zab (b2 ixD (vSh 0) (vC (.int 1))) zag)) (zdx (cF zay (zab (b2 ixD (vSh 0) (vC (.int 2))) zag)) (cF zah (zab (b2 ixD (vSh 0) (vC (.int 3))) (zab (vC (.int 1)) (zab (vSh 2) zag))))))))
theorem zh7 : FnScope ["row", "bench_names", "horizon"] ["row", "bench_names", "horizon"] (zan zez) := ⟨rfl, rfl, rfl, by decide +kernel, rfl, by decide +kernel, by decide +kernel⟩
theorem zhR {zau : List D -> Option D} {zai : List D -> Option D} {zah : List D -> Option D} {zay : List D -> Option D} (F : Dfn K mg "is_setup" zez) (B : Bn mg) (c_is_one_of : Cal Γ P w K mg base "is_one_of" 2 2 zau) (c_is_tuple : Cal Γ P w K mg base "is_tuple" 2 1 zai) (c_is_within : Cal Γ P w K mg base "is_within" 3 2 zah) (c_is_name : Cal Γ P w K mg base "is_name" 1 1 zay) : Cal Γ P w K mg base "is_setup" 3 3 (zeR zau zai zah zay) :=
  F.cal (k := 2) zh7 (fun _ _ _ _ _ _ us hl => match us, hl with | [_, _, _], _ => rfl) fun f cdv A outer s H E hr =>
    (zak (zbZ (DW.dt (zcF (zaL (zaK (zap c_is_tuple hr (by decide) rfl (zaa (zad 0) (zaa zae zac)) ln2))) (zb6 (zaL (zaK (zap c_is_one_of hr (by decide) rfl (zaa (zaH (zad 0) zae) (zaa (zad 1) zac)) ln2)))))) (zar (zaz zce)) zaU) (zar (zaz (zb7 (zap c_is_name hr (by decide) rfl (zaa (zaH (zad 0) zae) zac) ln1) (zb7 (zap c_is_name hr (by decide) rfl (zaa (zaH (zad 0) zae) zac) ln1) (zcJ (zap c_is_within hr (by decide) rfl (zaa (zaH (zad 0) zae) (zaa zae (zaa (zad 2) zac))) ln3)))))))
noncomputable def ze3 (zbF : List D -> Option D) (zam : List D -> Option D) (zaf : List D -> Option D) : List D -> Option D := zbP 0
    (zaS (sIf (orT (zbM (toB (cF zam (zab (vSh 0) (zab (vC (.int 0)) (zab (vC (.int 100)) zag)))))) (zbM (toB (cF zh1 (zab (zaC (za1 (itF (vSh 0)) (zbK 0) tT (cF zbF (zab (vSh 0) (zab (vSh 1) (zab (vSh 2) zag)))) [none, some 1, some 2])) zag))))) (zbc (vC (.bl false))) zcx) (zbc (cF zaf (zab (zaC (za1 (itF (vSh 0)) (zbK 0) tT (slF (vSh 0) pN (pS (vC (.int 3)))) [none])) zag))))
theorem zgD : FnScope ["setups", "bench_names", "horizon"] ["setups", "bench_names", "horizon"] (zan zdp) := ⟨rfl, rfl, rfl, by decide +kernel, rfl, by decide +kernel, by decide +kernel⟩
theorem zf5 {zbF : List D -> Option D} {zam : List D -> Option D} {zaf : List D -> Option D} (F : Dfn K mg "are_setups" zdp) (B : Bn mg) (c_is_setup : Cal Γ P w K mg base "is_setup" 3 3 zbF) (c_is_list : Cal Γ P w K mg base "is_list" 3 1 zam) (c_are_unlike : Cal Γ P w K mg base "are_unlike" 1 1 zaf) : Cal Γ P w K mg base "are_setups" 3 4 (ze3 zbF zam zaf) :=
  F.cal (k := 3) zgD (fun _ _ _ _ _ _ us hl => match us, hl with | [_, _, _], _ => rfl) fun f cdv A outer s H E hr =>
    (zak (zbZ (DW.dt (zcF (zaL (zaK (zap c_is_list hr (by decide) rfl (zaa (zad 0) (zaa zae (zaa (zbQ rfl B.c_MOST_SETUPS) zac))) ln3))) (zb6 (zaL (zaK (zaI (zdg rfl) rfl B.z_all (by rfl) (zaa (DO.de (zbT rfl (CompScope.of rfl rfl) (FvOk.of (N' := ["row", "bench_names", "horizon"]) (fv := [none, some 1, some 2]) rfl) (za9 (zad 0)) ⟨fun _ _ _ _ _ => ⟨(zaE 0 (show (["row", "bench_names", "horizon"] : List Str).Nodup by decide +kernel)), zaG, (zap c_is_setup hr (by decide) rfl (zaa (zad 0) (zaa (zad 1) (zaa (zad 2) zac))) ln3)⟩⟩)) zac))))))) (zar (zaz zce)) zaU) (zar (zaz (zap c_are_unlike hr (by decide) rfl (zaa (DO.de (zbT rfl (CompScope.of rfl rfl) (FvOk.of (N' := ["row"]) (fv := [none]) rfl) (za9 (zad 0)) ⟨fun _ _ _ _ _ => ⟨(zaE 0 (show (["row"] : List Str).Nodup by decide +kernel)), zaG, (zct (zad 0) zdd (zdc zae))⟩⟩)) zac) ln1))))
noncomputable def zfQ (zau : List D -> Option D) (zai : List D -> Option D) (zah : List D -> Option D) : List D -> Option D := zbP 0
    (zaS (sIf (orT (zbM (toB (cF zai (zab (vSh 0) (zab (vC (.int 3)) zag))))) (orT (zbM (toB (cF zau (zab (b2 ixD (vSh 0) (vC (.int 0))) (zab (vSh 1) zag))))) (zbM (toB (cF zau (zab (b2 ixD (vSh 0) (vC (.int 1))) (zab (vSh 1) zag))))))) (zbc (vC (.bl false))) zcx) (zbc (zdx (b2 neA (b2 ixD (vSh 0) (vC (.int 0))) (b2 ixD (vSh 0) (vC (.int 1)))) (cF zah (zab (b2 ixD (vSh 0) (vC (.int 2))) (zab (vC (.int 0)) (zab (vSh 2) zag)))))))
theorem zjp : FnScope ["row", "step_names", "horizon"] ["row", "step_names", "horizon"] (zan zfo) := ⟨rfl, rfl, rfl, by decide +kernel, rfl, by decide +kernel, by decide +kernel⟩
theorem ziw {zau : List D -> Option D} {zai : List D -> Option D} {zah : List D -> Option D} (F : Dfn K mg "is_link" zfo) (B : Bn mg) (c_is_one_of : Cal Γ P w K mg base "is_one_of" 2 2 zau) (c_is_tuple : Cal Γ P w K mg base "is_tuple" 2 1 zai) (c_is_within : Cal Γ P w K mg base "is_within" 3 2 zah) : Cal Γ P w K mg base "is_link" 3 3 (zfQ zau zai zah) :=
  F.cal (k := 2) zjp (fun _ _ _ _ _ _ us hl => match us, hl with | [_, _, _], _ => rfl) fun f cdv A outer s H E hr =>
    (zak (zbZ (DW.dt (zcF (zaL (zaK (zap c_is_tuple hr (by decide) rfl (zaa (zad 0) (zaa zae zac)) ln2))) (zcF (zaL (zaK (zap c_is_one_of hr (by decide) rfl (zaa (zaH (zad 0) zae) (zaa (zad 1) zac)) ln2))) (zb6 (zaL (zaK (zap c_is_one_of hr (by decide) rfl (zaa (zaH (zad 0) zae) (zaa (zad 1) zac)) ln2))))))) (zar (zaz zce)) zaU) (zar (zaz (zb7 (zek (zlh (zqG hr)) (zaH (zad 0) zae) (zaH (zad 0) zae) (zdf _)) (zcJ (zap c_is_within hr (by decide) rfl (zaa (zaH (zad 0) zae) (zaa zae (zaa (zad 2) zac))) ln3))))))
noncomputable def zfS (zb4 : List D -> Option D) (zam : List D -> Option D) (zaf : List D -> Option D) : List D -> Option D := zbP 0
    (zaS (sIf (orT (zbM (toB (cF zam (zab (vSh 0) (zab (vC (.int 0)) (zab (vC (.int 100)) zag)))))) (zbM (toB (cF zh1 (zab (zaC (za1 (itF (vSh 0)) (zbK 0) tT (cF zb4 (zab (vSh 0) (zab (vSh 1) (zab (vSh 2) zag)))) [none, some 1, some 2])) zag))))) (zbc (vC (.bl false))) zcx) (zbc (cF zaf (zab (zaC (za1 (itF (vSh 0)) (zbK 0) tT (slF (vSh 0) pN (pS (vC (.int 2)))) [none])) zag))))
theorem zhn : FnScope ["links", "step_names", "horizon"] ["links", "step_names", "horizon"] (zan zdU) := ⟨rfl, rfl, rfl, by decide +kernel, rfl, by decide +kernel, by decide +kernel⟩
theorem zg3 {zb4 : List D -> Option D} {zam : List D -> Option D} {zaf : List D -> Option D} (F : Dfn K mg "are_links" zdU) (B : Bn mg) (c_is_link : Cal Γ P w K mg base "is_link" 3 3 zb4) (c_is_list : Cal Γ P w K mg base "is_list" 3 1 zam) (c_are_unlike : Cal Γ P w K mg base "are_unlike" 1 1 zaf) : Cal Γ P w K mg base "are_links" 3 4 (zfS zb4 zam zaf) :=
  F.cal (k := 3) zhn (fun _ _ _ _ _ _ us hl => match us, hl with | [_, _, _], _ => rfl) fun f cdv A outer s H E hr =>
    (zak (zbZ (DW.dt (zcF (zaL (zaK (zap c_is_list hr (by decide) rfl (zaa (zad 0) (zaa zae (zaa (zbQ rfl B.c_MOST_LINKS) zac))) ln3))) (zb6 (zaL (zaK (zaI (zdg rfl) rfl B.z_all (by rfl) (zaa (DO.de (zbT rfl (CompScope.of rfl rfl) (FvOk.of (N' := ["row", "step_names", "horizon"]) (fv := [none, some 1, some 2]) rfl) (za9 (zad 0)) ⟨fun _ _ _ _ _ => ⟨(zaE 0 (show (["row", "step_names", "horizon"] : List Str).Nodup by decide +kernel)), zaG, (zap c_is_link hr (by decide) rfl (zaa (zad 0) (zaa (zad 1) (zaa (zad 2) zac))) ln3)⟩⟩)) zac))))))) (zar (zaz zce)) zaU) (zar (zaz (zap c_are_unlike hr (by decide) rfl (zaa (DO.de (zbT rfl (CompScope.of rfl rfl) (FvOk.of (N' := ["row"]) (fv := [none]) rfl) (za9 (zad 0)) ⟨fun _ _ _ _ _ => ⟨(zaE 0 (show (["row"] : List Str).Nodup by decide +kernel)), zaG, (zct (zad 0) zdd (zdc zae))⟩⟩)) zac) ln1))))
noncomputable def zd5 (zah : List D -> Option D) (zau : List D -> Option D) (zai : List D -> Option D) : List D -> Option D := zbP 0
    (zbc (zdx (cF zai (zab (vSh 0) (zab (vC (.int 2)) zag))) (zdx (cF zau (zab (b2 ixD (vSh 0) (vC (.int 0))) (zab (vSh 1) zag))) (cF zah (zab (b2 ixD (vSh 0) (vC (.int 1))) (zab (vC (.int 1)) (zab (vC (.int 1000000)) zag)))))))
theorem zhl : FnScope ["row", "step_names"] ["row", "step_names"] (zan zdS) := ⟨rfl, rfl, rfl, by decide +kernel, rfl, by decide +kernel, by decide +kernel⟩
theorem zg1 {zah : List D -> Option D} {zau : List D -> Option D} {zai : List D -> Option D} (F : Dfn K mg "is_amount" zdS) (B : Bn mg) (c_is_within : Cal Γ P w K mg base "is_within" 3 2 zah) (c_is_one_of : Cal Γ P w K mg base "is_one_of" 2 2 zau) (c_is_tuple : Cal Γ P w K mg base "is_tuple" 2 1 zai) : Cal Γ P w K mg base "is_amount" 2 3 (zd5 zah zau zai) :=
  F.cal (k := 2) zhl (fun _ _ _ _ _ _ us hl => match us, hl with | [_, _], _ => rfl) fun f cdv A outer s H E hr =>
    (zar (zaz (zb7 (zap c_is_tuple hr (by decide) rfl (zaa (zad 0) (zaa zae zac)) ln2) (zb7 (zap c_is_one_of hr (by decide) rfl (zaa (zaH (zad 0) zae) (zaa (zad 1) zac)) ln2) (zcJ (zap c_is_within hr (by decide) rfl (zaa (zaH (zad 0) zae) (zaa zae (zaa (zbQ rfl B.c_MOST_AMOUNT) zac))) ln3))))))
noncomputable def zes (zbs : List D -> Option D) (zam : List D -> Option D) (zaf : List D -> Option D) : List D -> Option D := zbP 0
    (zaS (sIf (orT (zbM (toB (cF zam (zab (vSh 0) (zab (vC (.int 0)) (zab (cF zfy (zab (vSh 1) zag)) zag)))))) (zbM (toB (cF zh1 (zab (zaC (za1 (itF (vSh 0)) (zbK 0) tT (cF zbs (zab (vSh 0) (zab (vSh 1) zag))) [none, some 1])) zag))))) (zbc (vC (.bl false))) zcx) (zbc (cF zaf (zab (zaC (za1 (itF (vSh 0)) (zbK 0) tT (b2 ixD (vSh 0) (vC (.int 0))) [none])) zag))))
theorem zfW : FnScope ["rows", "step_names"] ["rows", "step_names"] (zan zc8) := ⟨rfl, rfl, rfl, by decide +kernel, rfl, by decide +kernel, by decide +kernel⟩
theorem zfK {zbs : List D -> Option D} {zam : List D -> Option D} {zaf : List D -> Option D} (F : Dfn K mg "are_amounts" zc8) (B : Bn mg) (c_is_amount : Cal Γ P w K mg base "is_amount" 2 3 zbs) (c_is_list : Cal Γ P w K mg base "is_list" 3 1 zam) (c_are_unlike : Cal Γ P w K mg base "are_unlike" 1 1 zaf) : Cal Γ P w K mg base "are_amounts" 2 4 (zes zbs zam zaf) :=
  F.cal (k := 3) zfW (fun _ _ _ _ _ _ us hl => match us, hl with | [_, _], _ => rfl) fun f cdv A outer s H E hr =>
    (zak (zbZ (DW.dt (zcF (zaL (zaK (zap c_is_list hr (by decide) rfl (zaa (zad 0) (zaa zae (zaa (zaI zeq rfl B.z_len (by rfl) (zaa (zad 1) zac)) zac))) ln3))) (zb6 (zaL (zaK (zaI (zdg rfl) rfl B.z_all (by rfl) (zaa (DO.de (zbT rfl (CompScope.of rfl rfl) (FvOk.of (N' := ["row", "step_names"]) (fv := [none, some 1]) rfl) (za9 (zad 0)) ⟨fun _ _ _ _ _ => ⟨(zaE 0 (show (["row", "step_names"] : List Str).Nodup by decide +kernel)), zaG, (zap c_is_amount hr (by decide) rfl (zaa (zad 0) (zaa (zad 1) zac)) ln2)⟩⟩)) zac))))))) (zar (zaz zce)) zaU) (zar (zaz (zap c_are_unlike hr (by decide) rfl (zaa (DO.de (zbT rfl (CompScope.of rfl rfl) (FvOk.of (N' := ["row"]) (fv := [none]) rfl) (za9 (zad 0)) ⟨fun _ _ _ _ _ => ⟨(zaE 0 (show (["row"] : List Str).Nodup by decide +kernel)), zaG, (zaH (zad 0) zae)⟩⟩)) zac) ln1))))
noncomputable def zeQ (zay : List D -> Option D) (zai : List D -> Option D) (zah : List D -> Option D) (za7 : List D -> Option D) : List D -> Option D := zbP 0
    (zaS (sIf (orT (zbM (toB (cF zai (zab (vSh 0) (zab (vC (.int 5)) zag))))) (zbM (toB (cF zay (zab (b2 ixD (vSh 0) (vC (.int 0))) zag))))) (zbc (vC (.bl false))) zcx) (zaS (sIf (orT (zbM (toB (cF zah (zab (b2 ixD (vSh 0) (vC (.int 2))) (zab (vC (.int 0)) (zab (vC (.int 1000000)) zag)))))) (zbM (toB (cF zah (zab (b2 ixD (vSh 0) (vC (.int 1))) (zab (vC (.int 0)) (zab (b2 ixD (vSh 0) (vC (.int 2))) zag))))))) (zbc (vC (.bl false))) zcx) (zbc (zdx (cF za7 (zab (b2 ixD (vSh 0) (vC (.int 3))) (zab (vSh 1) zag))) (cF za7 (zab (b2 ixD (vSh 0) (vC (.int 4))) (zab (vSh 1) zag)))))))
theorem zh6 : FnScope ["row", "step_names"] ["row", "step_names"] (zan zey) := ⟨rfl, rfl, rfl, by decide +kernel, rfl, by decide +kernel, by decide +kernel⟩
theorem zhQ {zay : List D -> Option D} {zai : List D -> Option D} {zah : List D -> Option D} {za7 : List D -> Option D} (F : Dfn K mg "is_stock" zey) (B : Bn mg) (c_is_name : Cal Γ P w K mg base "is_name" 1 1 zay) (c_is_tuple : Cal Γ P w K mg base "is_tuple" 2 1 zai) (c_is_within : Cal Γ P w K mg base "is_within" 3 2 zah) (c_are_amounts : Cal Γ P w K mg base "are_amounts" 2 4 za7) : Cal Γ P w K mg base "is_stock" 2 5 (zeQ zay zai zah za7) :=
  F.cal (k := 4) zh6 (fun _ _ _ _ _ _ us hl => match us, hl with | [_, _], _ => rfl) fun f cdv A outer s H E hr =>
    (zak (zbZ (DW.dt (zcF (zaL (zaK (zap c_is_tuple hr (by decide) rfl (zaa (zad 0) (zaa zae zac)) ln2))) (zb6 (zaL (zaK (zap c_is_name hr (by decide) rfl (zaa (zaH (zad 0) zae) zac) ln1)))))) (zar (zaz zce)) zaU) (zak (zbZ (DW.dt (zcF (zaL (zaK (zap c_is_within hr (by decide) rfl (zaa (zaH (zad 0) zae) (zaa zae (zaa (zbQ rfl B.c_MOST_AMOUNT) zac))) ln3))) (zb6 (zaL (zaK (zap c_is_within hr (by decide) rfl (zaa (zaH (zad 0) zae) (zaa zae (zaa (zaH (zad 0) zae) zac))) ln3)))))) (zar (zaz zce)) zaU) (zar (zaz (zb7 (zap c_are_amounts hr (by decide) rfl (zaa (zaH (zad 0) zae) (zaa (zad 1) zac)) ln2) (zcJ (zap c_are_amounts hr (by decide) rfl (zaa (zaH (zad 0) zae) (zaa (zad 1) zac)) ln2)))))))
noncomputable def ze2 (zbE : List D -> Option D) (zam : List D -> Option D) (zaf : List D -> Option D) : List D -> Option D := zbP 0
    (zaS (sIf (orT (zbM (toB (cF zam (zab (vSh 0) (zab (vC (.int 0)) (zab (vC (.int 6)) zag)))))) (zbM (toB (cF zh1 (zab (zaC (za1 (itF (vSh 0)) (zbK 0) tT (cF zbE (zab (vSh 0) (zab (vSh 1) zag))) [none, some 1])) zag))))) (zbc (vC (.bl false))) zcx) (zbc (cF zaf (zab (zaC (za1 (itF (vSh 0)) (zbK 0) tT (b2 ixD (vSh 0) (vC (.int 0))) [none])) zag))))
theorem zgC : FnScope ["stocks", "step_names"] ["stocks", "step_names"] (zan zdo) := ⟨rfl, rfl, rfl, by decide +kernel, rfl, by decide +kernel, by decide +kernel⟩
theorem zf4 {zbE : List D -> Option D} {zam : List D -> Option D} {zaf : List D -> Option D} (F : Dfn K mg "are_stocks" zdo) (B : Bn mg) (c_is_stock : Cal Γ P w K mg base "is_stock" 2 5 zbE) (c_is_list : Cal Γ P w K mg base "is_list" 3 1 zam) (c_are_unlike : Cal Γ P w K mg base "are_unlike" 1 1 zaf) : Cal Γ P w K mg base "are_stocks" 2 6 (ze2 zbE zam zaf) :=
  F.cal (k := 5) zgC (fun _ _ _ _ _ _ us hl => match us, hl with | [_, _], _ => rfl) fun f cdv A outer s H E hr =>
    (zak (zbZ (DW.dt (zcF (zaL (zaK (zap c_is_list hr (by decide) rfl (zaa (zad 0) (zaa zae (zaa (zbQ rfl B.c_MOST_STOCKS) zac))) ln3))) (zb6 (zaL (zaK (zaI (zdg rfl) rfl B.z_all (by rfl) (zaa (DO.de (zbT rfl (CompScope.of rfl rfl) (FvOk.of (N' := ["row", "step_names"]) (fv := [none, some 1]) rfl) (za9 (zad 0)) ⟨fun _ _ _ _ _ => ⟨(zaE 0 (show (["row", "step_names"] : List Str).Nodup by decide +kernel)), zaG, (zap c_is_stock hr (by decide) rfl (zaa (zad 0) (zaa (zad 1) zac)) ln2)⟩⟩)) zac))))))) (zar (zaz zce)) zaU) (zar (zaz (zap c_are_unlike hr (by decide) rfl (zaa (DO.de (zbT rfl (CompScope.of rfl rfl) (FvOk.of (N' := ["row"]) (fv := [none]) rfl) (za9 (zad 0)) ⟨fun _ _ _ _ _ => ⟨(zaE 0 (show (["row"] : List Str).Nodup by decide +kernel)), zaG, (zaH (zad 0) zae)⟩⟩)) zac) ln1))))
noncomputable def zdh (zah : List D -> Option D) (zaV : List D -> Option D) (zba : List D -> Option D) (zbm : List D -> Option D) (za0 : List D -> Option D) (zbb : List D -> Option D) (za8 : List D -> Option D) : List D -> Option D := zbP 2
    (zaS (sIf (zbM (toB (cF zah (zab (vSh 6) (zab (vC (.int 1)) (zab (vC (.int 1000000)) zag)))))) (zbc (vC (.str "horizon"))) zcx) (zaS (sIf (zbM (toB (cF zaV (zab (vSh 0) (zab (vSh 6) zag))))) (zbc (vC (.str "benches"))) zcx) (zaS (zcw 7 (zaC (za1 (itF (vSh 0)) (zbK 0) tT (b2 ixD (vSh 0) (vC (.int 0))) [none]))) (zaS (sIf (zbM (toB (cF zba (zab (vSh 1) (zab (vSh 7) (zab (vSh 6) zag)))))) (zbc (vC (.str "steps"))) zcx) (zaS (zcw 8 (zaC (za1 (itF (vSh 1)) (zbK 0) tT (b2 ixD (vSh 0) (vC (.int 0))) [none]))) (zaS (sIf (zbM (toB (cF zbm (zab (vSh 2) (zab (vSh 8) (zab (vSh 6) zag)))))) (zbc (vC (.str "jobs"))) zcx) (zaS (sIf (zbM (toB (cF za0 (zab (vSh 3) (zab (vSh 7) (zab (vSh 6) zag)))))) (zbc (vC (.str "setups"))) zcx) (zaS (sIf (zbM (toB (cF zbb (zab (vSh 4) (zab (vSh 8) (zab (vSh 6) zag)))))) (zbc (vC (.str "links"))) zcx) (zaS (sIf (zbM (toB (cF za8 (zab (vSh 5) (zab (vSh 8) zag))))) (zbc (vC (.str "stocks"))) zcx) (zbc (vC .non)))))))))))
theorem zb8 : FnScope ["benches", "steps", "jobs", "setups", "links", "stocks", "horizon", "bench_names", "step_names"] ["benches", "steps", "jobs", "setups", "links", "stocks", "horizon"] (zan zcl) := ⟨rfl, rfl, rfl, by decide +kernel, rfl, by decide +kernel, by decide +kernel⟩
theorem zel {zah : List D -> Option D} {zaV : List D -> Option D} {zba : List D -> Option D} {zbm : List D -> Option D} {za0 : List D -> Option D} {zbb : List D -> Option D} {za8 : List D -> Option D} (F : Dfn K mg "first_bad_part" zcl) (B : Bn mg) (c_is_within : Cal Γ P w K mg base "is_within" 3 2 zah) (c_are_benches : Cal Γ P w K mg base "are_benches" 2 6 zaV) (c_are_steps : Cal Γ P w K mg base "are_steps" 3 6 zba) (c_are_jobs : Cal Γ P w K mg base "are_jobs" 3 4 zbm) (c_are_setups : Cal Γ P w K mg base "are_setups" 3 4 za0) (c_are_links : Cal Γ P w K mg base "are_links" 3 4 zbb) (c_are_stocks : Cal Γ P w K mg base "are_stocks" 2 6 za8) : Cal Γ P w K mg base "first_bad_part" 7 7 (zdh zah zaV zba zbm za0 zbb za8) :=
  F.cal (k := 6) zb8 (fun _ _ _ _ _ _ us hl => match us, hl with | [_, _, _, _, _, _, _], _ => rfl) fun f cdv A outer s H E hr =>
    (zak (zbZ (zaL (zaK (zap c_is_within hr (by decide) rfl (zaa (zad 6) (zaa zae (zaa (zbQ rfl B.c_MOST_HORIZON) zac))) ln3))) (zar (zaz zaj)) zaU) (zak (zbZ (zaL (zaK (zap c_are_benches hr (by decide) rfl (zaa (zad 0) (zaa (zad 6) zac)) ln2))) (zar (zaz zaj)) zaU) (zak (zjJ 7 zb8.nd rfl (CompScope.of rfl rfl) (FvOk.of (N' := ["row"]) (fv := [none]) rfl) (za9 (zad 0)) ⟨fun _ _ _ _ _ => ⟨(zaE 0 (show (["row"] : List Str).Nodup by decide +kernel)), zaG, (zaH (zad 0) zae)⟩⟩) (zak (zbZ (zaL (zaK (zap c_are_steps hr (by decide) rfl (zaa (zad 1) (zaa (zad 7) (zaa (zad 6) zac))) ln3))) (zar (zaz zaj)) zaU) (zak (zjJ 8 zb8.nd rfl (CompScope.of rfl rfl) (FvOk.of (N' := ["row"]) (fv := [none]) rfl) (za9 (zad 1)) ⟨fun _ _ _ _ _ => ⟨(zaE 0 (show (["row"] : List Str).Nodup by decide +kernel)), zaG, (zaH (zad 0) zae)⟩⟩) (zak (zbZ (zaL (zaK (zap c_are_jobs hr (by decide) rfl (zaa (zad 2) (zaa (zad 8) (zaa (zad 6) zac))) ln3))) (zar (zaz zaj)) zaU) (zak (zbZ (zaL (zaK (zap c_are_setups hr (by decide) rfl (zaa (zad 3) (zaa (zad 7) (zaa (zad 6) zac))) ln3))) (zar (zaz zaj)) zaU) (zak (zbZ (zaL (zaK (zap c_are_links hr (by decide) rfl (zaa (zad 4) (zaa (zad 8) (zaa (zad 6) zac))) ln3))) (zar (zaz zaj)) zaU) (zak (zbZ (zaL (zaK (zap c_are_stocks hr (by decide) rfl (zaa (zad 5) (zaa (zad 8) zac)) ln2))) (zar (zaz zaj)) zaU) (zar (zaz zi7)))))))))))
noncomputable def zcW (zbt : List D -> Option D) : List D -> Option D := zbP 0
    (zaS (sIf (toB (cF zf2 (zab (vSh 0) (zab (vC (.ty "list")) zag)))) (zbc (zaC (za1 (itF (vSh 0)) (zbK 0) tT (cF zbt (zab (vSh 0) zag)) [none]))) zcx) (zaS (sIf (toB (cF zf2 (zab (vSh 0) (zab (vC (.ty "tuple")) zag)))) (zbc (cF zj1 (zab (zaC (za1 (itF (vSh 0)) (zbK 0) tT (cF zbt (zab (vSh 0) zag)) [none])) zag))) zcx) (zbc (vSh 0))))
theorem zlL : FnScope ["thing"] ["thing"] (zan zib) := ⟨rfl, rfl, rfl, by decide +kernel, rfl, by decide +kernel, by decide +kernel⟩
theorem zlj {k : Nat} {zbt : List D -> Option D} (F : Dfn K mg "fresh" zib) (B : Bn mg) (c_fresh : Cal Γ P w K mg base "fresh" 1 k zbt) : Cal Γ P w K mg base "fresh" 1 (k + 1) (zcW zbt) :=
  F.cal (k := k) zlL (fun _ _ _ _ _ _ us hl => match us, hl with | [_], _ => rfl) fun f cdv A outer s H E hr =>
    (zak (zbZ (zaK (zaI ze1 rfl B.z_isinstance (by rfl) (zaa (zad 0) (zaa (zhK rfl B.z_list (by rfl)) zac)))) (zar (zaz (DO.de (zbT rfl (CompScope.of rfl rfl) (FvOk.of (N' := ["part"]) (fv := [none]) rfl) (za9 (zad 0)) ⟨fun _ _ _ _ _ => ⟨(zaE 0 (show (["part"] : List Str).Nodup by decide +kernel)), zaG, (zap c_fresh hr (Nat.le_refl _) rfl (zaa (zad 0) zac) ln1)⟩⟩)))) zaU) (zak (zbZ (zaK (zaI ze1 rfl B.z_isinstance (by rfl) (zaa (zad 0) (zaa (zhK rfl B.z_tuple (by rfl)) zac)))) (zar (zaz (zcD zlE rfl B.z_tuple (by rfl) (zaa (DO.de (zbT rfl (CompScope.of rfl rfl) (FvOk.of (N' := ["part"]) (fv := [none]) rfl) (za9 (zad 0)) ⟨fun _ _ _ _ _ => ⟨(zaE 0 (show (["part"] : List Str).Nodup by decide +kernel)), zaG, (zap c_fresh hr (Nat.le_refl _) rfl (zaa (zad 0) zac) ln1)⟩⟩)) zac)))) zaU) (zar (zaz (zad 0)))))
noncomputable def zdz (zaA : List D -> Option D) (zbt : List D -> Option D) : List D -> Option D := zho 3 "Shop"
    (zaS (noXm (zcw 8 (cF zaA (zab (vSh 1) (zab (vSh 2) (zab (vSh 3) (zab (vSh 4) (zab (vSh 5) (zab (vSh 6) (zab (vSh 7) zag)))))))))) (zaS (sIf (toB (b2 zkQ (vSh 8) (vC .non))) (zdV (zab (vSh 8) zag)) zcx) (noXm (zaS (zee "Shop" "benches" 0 (cF zbt (zab (vSh 1) zag))) (zaS (zee "Shop" "steps" 0 (cF zbt (zab (vSh 2) zag))) (zaS (zee "Shop" "jobs" 0 (cF zbt (zab (vSh 3) zag))) (zaS (zee "Shop" "setups" 0 (cF zbt (zab (vSh 4) zag))) (zaS (zee "Shop" "links" 0 (cF zbt (zab (vSh 5) zag))) (zaS (zee "Shop" "stocks" 0 (cF zbt (zab (vSh 6) zag))) (zaS (zee "Shop" "horizon" 0 (vSh 7)) (zaS (zee "Shop" "bench_by_name" 0 (cF zhJ (zab (zaC (za1 (itF (zfY "Shop" "benches" 0)) (zbK 0) tT (zaX (szF (zab (b2 ixD (vSh 0) (vC (.int 0))) (zab (vSh 0) zag)))) [none])) zag))) (zaS (zee "Shop" "step_by_name" 0 (cF zhJ (zab (zaC (za1 (itF (zfY "Shop" "steps" 0)) (zbK 0) tT (zaX (szF (zab (b2 ixD (vSh 0) (vC (.int 0))) (zab (vSh 0) zag)))) [none])) zag))) (zaS (zee "Shop" "setup_by_names" 0 (cF zi6 (zab (zaC (za1 (itF (zfY "Shop" "setups" 0)) (zbK 0) tT (zaX (szF (zab (slF (vSh 0) pN (pS (vC (.int 3)))) (zab (b2 ixD (vSh 0) (vC (.int 3))) zag)))) [none])) zag))) (zaS (zoi "Shop" "job_by_step" 0) (zgH (itF (zfY "Shop" "jobs" 0)) (zbK 9) (zgH (itF (b2 ixD (vSh 9) (vC (.int 4)))) (zbK 10) (zcR "Shop" "job_by_step" 0 (vSh 10) (vSh 9))))))))))))))))))
theorem zbO : FnScope ["self", "benches", "steps", "jobs", "setups", "links", "stocks", "horizon", "part", "row", "step"] ["self", "benches", "steps", "jobs", "setups", "links", "stocks", "horizon"] (zan zcA) := ⟨rfl, rfl, rfl, by decide +kernel, rfl, by decide +kernel, by decide +kernel⟩
theorem zeM {zaA : List D -> Option D} {zbt : List D -> Option D} {C CN CSE fI : Addr} {fdN : FuncData} {psN : List Str} (FN : FnOk P w K mg base CX0 1 fI fdN psN (zoh CN "part")) (ZN : XCls K base CN CSE fI "part") (hbN : zcZ K fdN psN []) (mN : mg "NoShop" = some (.ref CN)) (O : ClsOk Γ K mg "Shop" C) (F : DfnM K C "Shop" "__init__" "Shop.__init__" zcA) (B : Bn mg) (c_first_bad_part : Cal Γ P w K mg base "first_bad_part" 7 7 zaA) (c_fresh : Cal Γ P w K mg base "fresh" 1 8 zbt) (cf_Shop : CF Γ K "Shop" zlp) : CalIY Γ P w K mg base "Shop" CN "part" 7 9 (zdz zaA zbt) :=
  DfnM.calIY (k := 8) O F zbO (fun _ _ _ _ _ _ us hl => match us, hl with | [_, _, _, _, _, _, _, _], _ => rfl) (zf7.seq zf7.none (zf7.seq (zf7.iff zf7.raise zf7.nil) zf7.none)) fun f y cdv A outer s H E hr =>
    (zi3 (zqI (zbd 8 zbO.nd (zap (c_first_bad_part.re y) hr (by decide) rfl (zaa (zad 1) (zaa (zad 2) (zaa (zad 3) (zaa (zad 4) (zaa (zad 5) (zaa (zad 6) (zaa (zad 7) zac))))))) ln7))) (zi3 (zqJ (zi4 zmB (zad 8) zi7 (zdf _)) (znW (zmp (fun _ _ h => h) FN ZN hbN hr (by decide) rfl mN (zaa (zad 8) zac))) znX) (zpE (zak (zcU 0 (cf_Shop.re y) (.head _) (zap (c_fresh.re y) hr (by decide) rfl (zaa (zad 1) zac) ln1)) (zak (zcU 0 (cf_Shop.re y) (.tail _ (.head _)) (zap (c_fresh.re y) hr (by decide) rfl (zaa (zad 2) zac) ln1)) (zak (zcU 0 (cf_Shop.re y) (.tail _ (.tail _ (.head _))) (zap (c_fresh.re y) hr (by decide) rfl (zaa (zad 3) zac) ln1)) (zak (zcU 0 (cf_Shop.re y) (.tail _ (.tail _ (.tail _ (.head _)))) (zap (c_fresh.re y) hr (by decide) rfl (zaa (zad 4) zac) ln1)) (zak (zcU 0 (cf_Shop.re y) (.tail _ (.tail _ (.tail _ (.tail _ (.head _))))) (zap (c_fresh.re y) hr (by decide) rfl (zaa (zad 5) zac) ln1)) (zak (zcU 0 (cf_Shop.re y) (.tail _ (.tail _ (.tail _ (.tail _ (.tail _ (.head _)))))) (zap (c_fresh.re y) hr (by decide) rfl (zaa (zad 6) zac) ln1)) (zak (zcU 0 (cf_Shop.re y) (.tail _ (.tail _ (.tail _ (.tail _ (.tail _ (.tail _ (.head _))))))) (zad 7)) (zak (zcU 0 (cf_Shop.re y) (.tail _ (.tail _ (.tail _ (.tail _ (.tail _ (.tail _ (.tail _ (.head _)))))))) (zcD (ziE rfl (zok hr)) rfl B.z_dict (by rfl) (zaa (DO.de (zbT rfl (CompScope.of rfl rfl) (FvOk.of (N' := ["row"]) (fv := [none]) rfl) (za9 (zgU 0 (cf_Shop.re y) (.head _))) ⟨fun _ _ _ _ _ => ⟨(zaE 0 (show (["row"] : List Str).Nodup by decide +kernel)), zaG, (zat (zaa (zaH (zad 0) zae) (zaa (zad 0) zac)))⟩⟩)) zac))) (zak (zcU 0 (cf_Shop.re y) (.tail _ (.tail _ (.tail _ (.tail _ (.tail _ (.tail _ (.tail _ (.tail _ (.head _))))))))) (zcD (ziE rfl (zok hr)) rfl B.z_dict (by rfl) (zaa (DO.de (zbT rfl (CompScope.of rfl rfl) (FvOk.of (N' := ["row"]) (fv := [none]) rfl) (za9 (zgU 0 (cf_Shop.re y) (.tail _ (.head _)))) ⟨fun _ _ _ _ _ => ⟨(zaE 0 (show (["row"] : List Str).Nodup by decide +kernel)), zaG, (zat (zaa (zaH (zad 0) zae) (zaa (zad 0) zac)))⟩⟩)) zac))) (zak (zcU 0 (cf_Shop.re y) (.tail _ (.tail _ (.tail _ (.tail _ (.tail _ (.tail _ (.tail _ (.tail _ (.tail _ (.head _)))))))))) (zcD (zlF rfl (zok hr)) rfl B.z_dict (by rfl) (zaa (DO.de (zbT rfl (CompScope.of rfl rfl) (FvOk.of (N' := ["row"]) (fv := [none]) rfl) (za9 (zgU 0 (cf_Shop.re y) (.tail _ (.tail _ (.tail _ (.head _)))))) ⟨fun _ _ _ _ _ => ⟨(zaE 0 (show (["row"] : List Str).Nodup by decide +kernel)), zaG, (zat (zaa (zct (zad 0) zdd (zdc zae)) (zaa (zaH (zad 0) zae) zac)))⟩⟩)) zac))) (zak (zpH 0 (cf_Shop.re y) (.tail _ (.tail _ (.tail _ (.tail _ (.tail _ (.tail _ (.tail _ (.tail _ (.tail _ (.tail _ (.head _)))))))))))) (zar (zhG PassesOwn.never rfl (za9 (zgU 0 (cf_Shop.re y) (.tail _ (.tail _ (.head _))))) (zaE 9 zbO.nd) (zar (zhG PassesOwn.never rfl (za9 (zaH (zad 9) zae)) (zaE 10 zbO.nd) (zar (zk2 0 (zok hr) (cf_Shop.re y) (.tail _ (.tail _ (.tail _ (.tail _ (.tail _ (.tail _ (.tail _ (.tail _ (.tail _ (.tail _ (.head _))))))))))) (zad 10) (zad 9)))))))))))))))))))))
noncomputable def zcX (zaF : List D -> Option D) : List D -> Option D := zrb zaF
    (zab (b2 ixD (vSh 0) (vC (.int 0))) (zab (b2 ixD (vSh 0) (vC (.int 1))) (zab (b2 ixD (vSh 0) (vC (.int 2))) (zab (b2 ixD (vSh 0) (vC (.int 3))) (zab (b2 ixD (vSh 0) (vC (.int 4))) (zab (b2 ixD (vSh 0) (vC (.int 5))) (zab (vSh 1) zag)))))))
theorem zcy : FnScope ["_law_some", "_law_horizon", "_law_caught", "e"] ["_law_some", "_law_horizon"] (zan zcO) := ⟨rfl, rfl, rfl, by decide +kernel, rfl, by decide +kernel, by decide +kernel⟩
theorem ze8 {zaF : List D -> Option D} {CN CS CG CM CP CR CY CT : Addr} (F : Dfn K mg "_law_refused" zcO) (B : Bn mg) (R : RefYK K mg CN CS CG CM CP CR CY CT) (c_Shop___init__ : CalIY Γ P w K mg base "Shop" CN "part" 7 9 zaF) : Cal Γ P w K mg base "_law_refused" 2 11 (zcX zaF) := by
  obtain ⟨f, fd, h1, h2⟩ := F.ex
  obtain ⟨C, f2, fd2, ps2, g0, gM, gm, g1, g4⟩ := c_Shop___init__.ex
  refine ⟨f, fd, ["_law_some", "_law_horizon"], Fun.ok (k := 10) h1 zcy (fun vs H Q E h => ?_) (fun cdv A outer s H vs Q E hr h => ?_), h2, h1.kp, h1.binds (fun _ _ _ _ _ _ us hl => match us, hl with | [_, _], _ => rfl)⟩
  · obtain ⟨G, ds, d, _, r, hl, _⟩ := h
    rw [r.length, hl]; rfl
  · obtain ⟨G, ds, d, gh, r, hl, hd, k⟩ := h
    have hv : ∃ v0 v1, vs = [v0, v1] := by
      have e := r.length.trans hl
      match vs, e with
      | [v0, v1], _ => exact ⟨v0, v1, rfl⟩
    obtain ⟨v0, v1, rfl⟩ := hv
    obtain ⟨d0, d1, rfl, r0, r1⟩ : ∃ d0 d1, ds = [d0, d1] /\ Rep Γ K G v0 d0 /\ Rep Γ K G v1 d1 := by
      cases r with
      | cons a b => cases b with
        | cons b c => cases c; exact ⟨_, _, rfl, a, b⟩
    have A0 : At Γ K G H G H [some (.sh d0), some (.sh d1), none, none] [some v0, some v1, some .non, none] := ⟨.refl gh, .ofSh rfl (fun i s e => by
      match i, e with
      | 0, e => cases e; exact ⟨_, rfl⟩
      | 1, e => cases e; exact ⟨_, rfl⟩
      | 2, e => cases e
      | 3, e => cases e
      | n + 4, e => cases e) (fun i d e => by
      match i, e with
      | 0, e => cases e; exact ⟨_, rfl, r0⟩
      | 1, e => cases e; exact ⟨_, rfl, r1⟩
      | 2, e => cases e
      | 3, e => cases e
      | n + 4, e => cases e)⟩
    refine ⟨_, zcG (ziL (i := 2) zcy.nd rfl (.inl rfl) zmM) (zcG (znq (i := 2) (j := 3) gM g1 (hr.mono (by decide)) (fun _ _ z => z) rfl rfl rfl gm g4 (DA.out (Γ := Γ)
        (zaa (zaH (zad 0) zae) (zaa (zaH (zad 0) zae) (zaa (zaH (zad 0) zae) (zaa (zaH (zad 0) zae) (zaa (zaH (zad 0) zae) (zaa (zaH (zad 0) zae) (zaa (zad 1) zac)))))))) rfl R.mS zcy.nd rfl rfl rfl rfl (by decide))
      (zcG (zkj (zoL (zo0 (zci (i := 2) rfl (.inl rfl)))) (zdr (zhp zhs)) zfp)
      (zcG (zkj (PW.pt (zoI (zki (ziK (zeg zfI rfl B.z_isinstance (by rfl) (zbq (zci (i := 2) rfl (.inl rfl)) (zbq (zds (v := .ref CN) rfl R.mN rfl) zdK)))))
        (zmJ (zki (ziK (zeg zfI rfl B.z_isinstance (by rfl) (zbq (zci (i := 2) rfl (.inl rfl)) (zbq (zkm (v := .ty "ValueError") rfl B.z_ValueError (by rfl) rfl) zdK)))))))) (zdr (zhp zhs)) zfp)
      (zcG (zkj (ziK (zeg zfI rfl B.z_isinstance (by rfl) (zbq (zci (i := 2) rfl (.inl rfl)) (zbq (zmL (zbq (zds (v := .ref CG) rfl R.mG rfl) (zbq (zds (v := .ref CM) rfl R.mM rfl) (zbq (zds (v := .ref CP) rfl R.mP rfl) (zbq (zds (v := .ref CR) rfl R.mR rfl) (zbq (zds (v := .ref CY) rfl R.mY rfl) (zbq (zds (v := .ref CT) rfl R.mT rfl) zdK))))))) zdK)))) (zdr (zhp zhs)) zfp)
      (zdr (zhp (zqo (zci (i := 2) rfl (.inl rfl))))))))), ?_⟩
    unfold zcX zrb at hd
    obtain ⟨xs, hxs, hd⟩ := Option.bind_eq_some_iff.mp hd
    obtain ⟨y, hF, hd⟩ := Option.bind_eq_some_iff.mp hd
    show zos K (zqh Γ K C CN "part" 7 zaF) C (.ref CS) 2 3 (TDa Γ K _) _ [some v0, some v1, some .non, none] H
    refine ⟨G, H, G, _, xs, A0, hxs, fun us G1 H1 s1 r1' x dx hx hdx hne => ?_⟩
    have hl7 : xs.length = 7 := ln7 _ _ hxs
    by_cases hy : ∃ p, y = xm p
    · obtain ⟨p, rfl⟩ := hy
      cases hd
      refine ⟨fun _ _ => False, fun cls o H2 => cls = .ref CN /\ ∃ dz G2 H3, o = some dz /\ Step G1 H1 G2 H3 /\ H3 dz = none /\ H2 = upd H3 dz (.xd [("part", .str p)]), ⟨x, dx, H1, G1, xs, _, us, rfl, rfl, hx, hdx, hne, s1.gh, r1', hl7, hF, fun p' e G' H' dz st hz => ?_, fun z => absurd rfl (z p)⟩, fun _ _ z => z.elim, ?_⟩
      · cases e
        exact ⟨rfl, dz, G', H', rfl, st, hz, rfl⟩
      · rintro CN' dz H2 ⟨e, dz', G2, H3, e2, st, hz, rfl⟩
        cases e
        cases e2
        refine ⟨R.exm, fun a ha => ?_⟩
        have sA := (s1.trans st).trans (Step.newOwn (o := .xd [("part", .str p)]) st.gh hz)
        have sB := sA.trans (Step.newOwn (o := .ext (ze5 a CN dz)) sA.gh ha)
        have hnz : dz ≠ a := fun z => by rw [← z, zaw] at ha; cases ha
        have hA : (upd (upd H3 dz (.xd [("part", .str p)])) a (.ext (ze5 a CN dz))) a = some (.ext (ze5 a CN dz)) := zaw
        have hZ : (upd (upd H3 dz (.xd [("part", .str p)])) a (.ext (ze5 a CN dz))) dz = some (.xd [("part", .str p)]) := by rw [zas hnz, zaw]
        refine ⟨.ref a, rfl, ?_⟩
        refine ⟨_, rfl, ?_⟩
        refine zmU ?_
        refine ⟨.ref a, rfl, a, CN, dz, .ref CN, true, rfl, hA, R.exk, .one rfl (by unfold PySem.W.kitOne; rw [if_pos (beq_self_eq_true _)]), true, rfl, ?_⟩
        refine ⟨.ref a, rfl, a, CN, dz, .ty "ValueError", true, rfl, hA, R.exk, .one rfl R.k2, true, rfl, ?_⟩
        refine ⟨.ref a, rfl, by show 6 <= sizeLine; decide, fun q hq => ?_⟩
        have ne1 : a ≠ q := fun z => by subst z; rw [hA] at hq; cases hq
        have ne2 : dz ≠ q := fun z => by subst z; rw [hZ] at hq; cases hq
        refine ⟨a, CN, dz, .ref q, false, rfl, by rw [zas ne1]; exact hA, R.exk, .tup zaw rfl R.k3, false, rfl, ?_⟩
        refine ⟨.ref a, rfl, a, CN, dz, _, .str p, rfl, by rw [zas ne1]; exact hA, by rw [zas ne2]; exact hZ, R.exk, R.hd, R.no, rfl, ?_⟩
        exact k _ G2 _ (sB.trans (Step.newOwn sB.gh hq)) (.str p)
    · have hd' : d = .str "none" := by
        unfold zp0 at hd
        split at hd
        · split at hd
          · rename_i hn; subst hn; exact absurd ⟨_, rfl⟩ hy
          · cases hd
        · cases hd; rfl
        · cases hd
      subst hd'
      refine ⟨fun v H2 => v = .non /\ ∃ G2, Step G1 H1 G2 H2, fun _ _ _ => False, ⟨x, dx, H1, G1, xs, y, us, rfl, rfl, hx, hdx, hne, s1.gh, r1', hl7, hF, fun p e => absurd ⟨p, e⟩ hy, fun _ G' H' st _ => ⟨rfl, G', st⟩⟩, ?_, fun _ _ _ z => z.elim⟩
      rintro v H2 ⟨rfl, G2, st⟩
      refine ⟨rfl, ?_⟩
      refine ⟨.non, rfl, ?_⟩
      refine ⟨_, rfl, ?_⟩
      refine zmT ?_
      exact k _ G2 H2 (s1.trans st) (.str "none")
noncomputable def zdl (zal : List D -> Option D) : List D -> Option D := zbP 4
    (zaS (zkc 1 (szF zag)) (zaS (zgH (itR zkg (zab (vC (.int 121)) zag)) (zbK 2) (zaS (zcw 3 (b2 zcr (vC (.str "s")) (cF zal (zab (b2 zft (vSh 2) (vC (.int 11))) zag)))) (zaS (zcw 4 (b2 zcr (vC (.str "s")) (cF zal (zab (b2 zgR (vSh 2) (vC (.int 11))) zag)))) (sIf (bwT 1 (zq0 (toB (b2 neA (vSh 3) (vSh 4))) (toB (b2 ltD (cF zfy (zab (vSh 1) zag)) (vSh 0))))) (zoC 1 (zaX (szF (zab (vSh 3) (zab (vSh 4) (zab (b2 zft (vSh 2) (vC (.int 5))) zag)))))) zcx)))) (zke 1 (zbc (vSh 1)))))
theorem zbl : FnScope ["_law_many", "_law_found", "_law_k", "_law_one", "_law_other"] ["_law_many"] (zan zcp) := ⟨rfl, rfl, rfl, by decide +kernel, rfl, by decide +kernel, by decide +kernel⟩
theorem zep {zal : List D -> Option D} (F : Dfn K mg "_law_all_links" zcp) (B : Bn mg) (c__law_letter : Cal Γ P w K mg base "_law_letter" 1 1 zal) : Cal Γ P w K mg base "_law_all_links" 1 2 (zdl zal) :=
  F.cal (k := 1) zbl (fun _ _ _ _ _ _ us hl => match us, hl with | [_], _ => rfl) fun f cdv A outer s H E hr =>
    (zak (zi5 1 zbl.nd (zao zac)) (zak (zhG PassesOwn.never rfl (zb0 rfl B.z_range (zaa zae zac)) (zaE 2 zbl.nd) (zak (zbd 3 zbl.nd (zaT zaj (zap c__law_letter hr (by decide) rfl (zaa (zcq (zad 2) zae) zac) ln1))) (zak (zbd 4 zbl.nd (zaT zaj (zap c__law_letter hr (by decide) rfl (zaa (zeK (zad 2) zae) zac) ln1))) (zar (zbZ (zpG 1 (DW.dt (zpF (zi4 (zlh (zqG hr)) (zad 3) (zad 4) (zdf _)) (znY (zi4 zn9 (zaI zeq rfl B.z_len (by rfl) (zaa (zad 1) zac)) (zad 0) (zdf _)))))) (zar (zhH 1 (zat (zaa (zad 3) (zaa (zad 4) (zaa (zcq (zad 2) zae) zac)))))) zaU))))) (zgS 1 (zar (zaz (zad 1))))))
noncomputable def zcY (zal : List D -> Option D) (za4 : List D -> Option D) (zaB : List D -> Option D) (zaD : List D -> Option D) (zaq : List D -> Option D) (zax : List D -> Option D) : List D -> Option D := zbP 4
    (zaS (zcw 1 (zaC (za1 (itR zkg (zab (vC (.int 6)) zag)) (zbK 0) tT (zaX (szF (zab (b2 zcr (vC (.str "t")) (cF zal (zab (vSh 0) zag))) (zab (vC (.int 0)) (zab (vC (.int 1)) (zab (zaC (szF (zab (zaX (szF (zab (vC (.str "sa")) (zab (vC (.int 1)) zag)))) zag))) (zab (zaC (szF (zab (zaX (szF (zab (vC (.str "sb")) (zab (vC (.int 1)) zag)))) zag))) zag))))))) [none]))) (zaS (zkc 2 (szF (zab (cF zaq (zab (vC (.int 8)) zag)) (zab (cF zaD (zab (vC (.int 40)) zag)) (zab (zaC (szF zag)) (zab (cF zaB (zab (vC (.int 100)) zag)) (zab (cF za4 (zab (vC (.int 100)) zag)) (zab (vSh 1) zag)))))))) (zaS (zcw 3 (zaC (za1 (itF (cF zaq (zab (vC (.int 4)) zag))) (zbK 0) tT (zaX (szF (zab (b2 ixD (vSh 0) (vC (.int 0))) (zab (vC (.int 1)) zag)))) [none]))) (zaS (zcw 4 (zaC (za1 (itR zkg (zab (vC (.int 10)) zag)) (zbK 0) tT (zaX (szF (zab (b2 zlz (vC (.int 2)) (vSh 0)) (zab (b2 zcr (b2 zlz (vC (.int 2)) (vSh 0)) (vC (.int 1))) zag)))) [none]))) (zaS (zkd 2 0 (b2 zcr (slF (b2 ixD (vSh 2) (vC (.int 0))) pN (pS (vC (.int 7)))) (zaC (szF (zab (zaX (szF (zab (vC (.str "abcdefgh")) (zab (vSh 4) zag)))) zag))))) (zaS (zkd 2 1 (b2 zcr (slF (b2 ixD (vSh 2) (vC (.int 1))) pN (pS (vC (.int 39)))) (zaC (szF (zab (zaX (szF (zab (vC (.str "zzzzzzzz")) (zab (vC (.str "yyyyyyyy")) (zab (vSh 3) zag))))) zag))))) (zaS (zkd 2 2 (zaC (za1 (itR zkg (zab (vC (.int 40)) zag)) (zbK 0) tT (zaX (szF (zab (b2 zcr (b2 zcr (vC (.str "j")) (cF zal (zab (vSh 0) zag))) (b2 zlz (vC (.str "y")) (b2 zgR (vSh 0) (vC (.int 26))))) (zab (vC (.int 0)) (zab (vSh 1) (zab (b2 eqD (b2 zft (vSh 0) (vC (.int 2))) (vC (.int 0))) (zab (zaC (szF (zab (b2 ixD (b2 ixD (b2 ixD (vSh 2) (vC (.int 1))) (vSh 0)) (vC (.int 0))) zag))) zag))))))) [none, some 0, some 2]))) (zke 2 (zbc (b2 eqD (cF zax (zab (vSh 2) (zab (vSh 0) zag))) (vC (.str "none"))))))))))))
theorem zby : FnScope ["_law_horizon", "_law_stocks", "_law_some", "_law_ways", "_law_spans"] ["_law_horizon"] (zan zcQ) := ⟨rfl, rfl, rfl, by decide +kernel, rfl, by decide +kernel, by decide +kernel⟩
theorem zfa {zal : List D -> Option D} {za4 : List D -> Option D} {zaB : List D -> Option D} {zaD : List D -> Option D} {zaq : List D -> Option D} {zax : List D -> Option D} (F : Dfn K mg "_law_at_most" zcQ) (B : Bn mg) (c__law_letter : Cal Γ P w K mg base "_law_letter" 1 1 zal) (c__law_all_links : Cal Γ P w K mg base "_law_all_links" 1 2 za4) (c__law_all_setups : Cal Γ P w K mg base "_law_all_setups" 1 2 zaB) (c__law_all_steps : Cal Γ P w K mg base "_law_all_steps" 1 2 zaD) (c__law_benches : Cal Γ P w K mg base "_law_benches" 1 2 zaq) (c__law_refused : Cal Γ P w K mg base "_law_refused" 2 11 zax) : Cal Γ P w K mg base "_law_at_most" 1 12 (zcY zal za4 zaB zaD zaq zax) :=
  F.cal (k := 11) zby (fun _ _ _ _ _ _ us hl => match us, hl with | [_], _ => rfl) fun f cdv A outer s H E hr =>
    (zak (zjJ 1 zby.nd rfl (CompScope.of rfl rfl) (FvOk.of (N' := ["_law_k"]) (fv := [none]) rfl) (zb0 rfl B.z_range (zaa zae zac)) ⟨fun _ _ _ _ _ => ⟨(zaE 0 (show (["_law_k"] : List Str).Nodup by decide +kernel)), zaG, (zat (zaa (zaT zaj (zap c__law_letter hr (by decide) rfl (zaa (zad 0) zac) ln1)) (zaa zae (zaa zae (zaa (DO.de (zao (zaa (zat (zaa zaj (zaa zae zac))) zac))) (zaa (DO.de (zao (zaa (zat (zaa zaj (zaa zae zac))) zac))) zac))))))⟩⟩) (zak (zi5 2 zby.nd (zao (zaa (zap c__law_benches hr (by decide) rfl (zaa zae zac) ln1) (zaa (zap c__law_all_steps hr (by decide) rfl (zaa zae zac) ln1) (zaa (DO.de (zao zac)) (zaa (zap c__law_all_setups hr (by decide) rfl (zaa zae zac) ln1) (zaa (zap c__law_all_links hr (by decide) rfl (zaa zae zac) ln1) (zaa (zad 1) zac)))))))) (zak (zjJ 3 zby.nd rfl (CompScope.of rfl rfl) (FvOk.of (N' := ["_law_row"]) (fv := [none]) rfl) (za9 (zap c__law_benches hr (by decide) rfl (zaa zae zac) ln1)) ⟨fun _ _ _ _ _ => ⟨(zaE 0 (show (["_law_row"] : List Str).Nodup by decide +kernel)), zaG, (zat (zaa (zaH (zad 0) zae) (zaa zae zac)))⟩⟩) (zak (zjJ 4 zby.nd rfl (CompScope.of rfl rfl) (FvOk.of (N' := ["_law_k"]) (fv := [none]) rfl) (zb0 rfl B.z_range (zaa zae zac)) ⟨fun _ _ _ _ _ => ⟨(zaE 0 (show (["_law_k"] : List Str).Nodup by decide +kernel)), zaG, (zat (zaa (zfE zae (zad 0)) (zaa (zaT (zfE zae (zad 0)) zae) zac)))⟩⟩) (zak (zin 2 0 (zaT (zct (zaH (zad 2) zae) zdd (zdc zae)) (DO.de (zao (zaa (zat (zaa zaj (zaa (zad 4) zac))) zac))))) (zak (zin 2 1 (zaT (zct (zaH (zad 2) zae) zdd (zdc zae)) (DO.de (zao (zaa (zat (zaa zaj (zaa zaj (zaa (zad 3) zac)))) zac))))) (zak (zin 2 2 (DO.de (zbT rfl (CompScope.of rfl rfl) (FvOk.of (N' := ["_law_k", "_law_horizon", "_law_some"]) (fv := [none, some 0, some 2]) rfl) (zb0 rfl B.z_range (zaa zae zac)) ⟨fun _ _ _ _ _ => ⟨(zaE 0 (show (["_law_k", "_law_horizon", "_law_some"] : List Str).Nodup by decide +kernel)), zaG, (zat (zaa (zaT (zaT zaj (zap c__law_letter hr (by decide) rfl (zaa (zad 0) zac) ln1)) (zfE zaj (zeK (zad 0) zae))) (zaa zae (zaa (zad 1) (zaa (zek zli (zcq (zad 0) zae) zae (zdf _)) (zaa (DO.de (zao (zaa (zaH (zaH (zaH (zad 2) zae) (zad 0)) zae) zac))) zac))))))⟩⟩))) (zgS 2 (zar (zaz (zek zli (zap c__law_refused hr (by decide) rfl (zaa (zad 2) (zaa (zad 0) zac)) ln2) zaj (zdf _))))))))))))
noncomputable def zpT (zaq : List D -> Option D) (zaO : List D -> Option D) (zax : List D -> Option D) (zaY : List D -> Option D) : List D -> Option D := zbP 5
    (zaS (zcw 1 (b2 zcr (vC (.int 22)) (b2 zft (cF zfy (zab (vSh 0) zag)) (vC (.int 39))))) (zaS (zcw 2 (zaC (szF (zab (zaX (szF (zab (vC (.str "sa")) (zab (vC (.str "p")) (zab (zaC (szF (zab (zaX (szF (zab (vC (.str "ba")) (zab (vC (.int 1)) zag)))) zag))) zag))))) (zab (zaX (szF (zab (vC (.str "sb")) (zab (vC (.str "q")) (zab (zaC (szF (zab (zaX (szF (zab (vC (.str "bb")) (zab (vC (.int 1)) zag)))) (zab (zaX (szF (zab (vC (.str "ba")) (zab (vC (.int 2)) zag)))) zag)))) zag))))) zag))))) (zaS (zkc 3 (szF (zab (cF zaq (zab (vC (.int 5)) zag)) (zab (vSh 2) (zab (zaC (szF (zab (zaX (szF (zab (vC (.str "ja")) (zab (vC (.int 0)) (zab (vC (.int 9)) (zab (vC (.bl true)) (zab (zaC (szF (zab (vC (.str "sa")) zag))) zag))))))) zag))) (zab (zaC (szF (zab (zaX (szF (zab (vC (.str "ba")) (zab (vC (.str "p")) (zab (vC (.str "q")) (zab (vC (.int 1)) zag)))))) zag))) (zab (zaC (szF (zab (zaX (szF (zab (vC (.str "sa")) (zab (vC (.str "sb")) (zab (vC (.int 1)) zag))))) zag))) zag))))))) (zaS (zoC 3 (zaC (szF (zab (zaX (szF (zab (vC (.str "ta")) (zab (vC (.int 1)) (zab (vC (.int 2)) (zab (zaC (szF (zab (zaX (szF (zab (vC (.str "sa")) (zab (vC (.int 1)) zag)))) zag))) (zab (zaC (szF (zab (zaX (szF (zab (vC (.str "sb")) (zab (vC (.int 1)) zag)))) zag))) zag))))))) zag)))) (zaS (zcw 4 (zaC (szF (zab (vC (.str "benches")) (zab (vC (.str "steps")) (zab (vC (.str "jobs")) (zab (vC (.str "setups")) (zab (vC (.str "links")) (zab (vC (.str "stocks")) zag))))))))) (zaS (zgH (itF (b2 zcr (zaC (szF (zab (vC (.int 4)) zag))) (slF (vSh 0) pN (pS (vC (.int 60)))))) (zbK 5) (sIf (bwT 3 (toB (b2 neA (cF zax (zab (cF zaO (zab (vSh 3) (zab (vSh 1) (zab (vSh 5) zag)))) (zab (vSh 1) zag))) (b2 ixD (vSh 4) (b2 zft (vSh 5) (vC (.int 6))))))) (zbc (vC (.bl false))) zcx)) (zke 3 (zbc (zdx (b2 eqD (cF zax (zab (vSh 3) (zab (vSh 1) zag))) (vC (.str "none"))) (cF zaY (zab (vSh 1) zag)))))))))))
theorem zgb : FnScope ["_law_script", "_law_horizon", "_law_steps", "_law_good", "_law_words", "_law_cell"] ["_law_script"] (zan zfk) := ⟨rfl, rfl, rfl, by decide +kernel, rfl, by decide +kernel, by decide +kernel⟩
theorem zoa {zaq : List D -> Option D} {zaO : List D -> Option D} {zax : List D -> Option D} {zaY : List D -> Option D} (B : Bn mg) (c__law_benches : Cal Γ P w K mg base "_law_benches" 1 2 zaq) (c__law_spoilt : Cal Γ P w K mg base "_law_spoilt" 3 4 zaO) (c__law_refused : Cal Γ P w K mg base "_law_refused" 2 11 zax) (c__law_at_most : Cal Γ P w K mg base "_law_at_most" 1 12 zaY) (f : Addr) (cdv : Value) (A : Around) (outer : List Env) (s : Shared) (H : Hp) (E : XK) (hr : Room 12 (A.deeper (envOfC "law" (zan zfk) s.heap.objs.size f cdv))) : DSs Γ (zgW CX0 P w K mg base ["_law_script", "_law_horizon", "_law_steps", "_law_good", "_law_words", "_law_cell"] "law" (zan zfk) f cdv A outer s H E).nox (zbz zfk)
    (zaS (zcw 1 (b2 zcr (vC (.int 22)) (b2 zft (cF zfy (zab (vSh 0) zag)) (vC (.int 39))))) (zaS (zcw 2 (zaC (szF (zab (zaX (szF (zab (vC (.str "sa")) (zab (vC (.str "p")) (zab (zaC (szF (zab (zaX (szF (zab (vC (.str "ba")) (zab (vC (.int 1)) zag)))) zag))) zag))))) (zab (zaX (szF (zab (vC (.str "sb")) (zab (vC (.str "q")) (zab (zaC (szF (zab (zaX (szF (zab (vC (.str "bb")) (zab (vC (.int 1)) zag)))) (zab (zaX (szF (zab (vC (.str "ba")) (zab (vC (.int 2)) zag)))) zag)))) zag))))) zag))))) (zaS (zkc 3 (szF (zab (cF zaq (zab (vC (.int 5)) zag)) (zab (vSh 2) (zab (zaC (szF (zab (zaX (szF (zab (vC (.str "ja")) (zab (vC (.int 0)) (zab (vC (.int 9)) (zab (vC (.bl true)) (zab (zaC (szF (zab (vC (.str "sa")) zag))) zag))))))) zag))) (zab (zaC (szF (zab (zaX (szF (zab (vC (.str "ba")) (zab (vC (.str "p")) (zab (vC (.str "q")) (zab (vC (.int 1)) zag)))))) zag))) (zab (zaC (szF (zab (zaX (szF (zab (vC (.str "sa")) (zab (vC (.str "sb")) (zab (vC (.int 1)) zag))))) zag))) zag))))))) (zaS (zoC 3 (zaC (szF (zab (zaX (szF (zab (vC (.str "ta")) (zab (vC (.int 1)) (zab (vC (.int 2)) (zab (zaC (szF (zab (zaX (szF (zab (vC (.str "sa")) (zab (vC (.int 1)) zag)))) zag))) (zab (zaC (szF (zab (zaX (szF (zab (vC (.str "sb")) (zab (vC (.int 1)) zag)))) zag))) zag))))))) zag)))) (zaS (zcw 4 (zaC (szF (zab (vC (.str "benches")) (zab (vC (.str "steps")) (zab (vC (.str "jobs")) (zab (vC (.str "setups")) (zab (vC (.str "links")) (zab (vC (.str "stocks")) zag))))))))) (zaS (zgH (itF (b2 zcr (zaC (szF (zab (vC (.int 4)) zag))) (slF (vSh 0) pN (pS (vC (.int 60)))))) (zbK 5) (sIf (bwT 3 (toB (b2 neA (cF zax (zab (cF zaO (zab (vSh 3) (zab (vSh 1) (zab (vSh 5) zag)))) (zab (vSh 1) zag))) (b2 ixD (vSh 4) (b2 zft (vSh 5) (vC (.int 6))))))) (zbc (vC (.bl false))) zcx)) (zke 3 (zbc (zdx (b2 eqD (cF zax (zab (vSh 3) (zab (vSh 1) zag))) (vC (.str "none"))) (cF zaY (zab (vSh 1) zag))))))))))) :=
    (zak (zbd 1 zgb.nd (zaT zae (zcq (zaI zeq rfl B.z_len (by rfl) (zaa (zad 0) zac)) zae))) (zak (zbd 2 zgb.nd (DO.de (zao (zaa (zat (zaa zaj (zaa zaj (zaa (DO.de (zao (zaa (zat (zaa zaj (zaa zae zac))) zac))) zac)))) (zaa (zat (zaa zaj (zaa zaj (zaa (DO.de (zao (zaa (zat (zaa zaj (zaa zae zac))) (zaa (zat (zaa zaj (zaa zae zac))) zac)))) zac)))) zac))))) (zak (zi5 3 zgb.nd (zao (zaa (zap c__law_benches hr (by decide) rfl (zaa zae zac) ln1) (zaa (zad 2) (zaa (DO.de (zao (zaa (zat (zaa zaj (zaa zae (zaa zae (zaa zce (zaa (DO.de (zao (zaa zaj zac))) zac)))))) zac))) (zaa (DO.de (zao (zaa (zat (zaa zaj (zaa zaj (zaa zaj (zaa zae zac))))) zac))) (zaa (DO.de (zao (zaa (zat (zaa zaj (zaa zaj (zaa zae zac)))) zac))) zac))))))) (zak (zhH 3 (DO.de (zao (zaa (zat (zaa zaj (zaa zae (zaa zae (zaa (DO.de (zao (zaa (zat (zaa zaj (zaa zae zac))) zac))) (zaa (DO.de (zao (zaa (zat (zaa zaj (zaa zae zac))) zac))) zac)))))) zac)))) (zak (zbd 4 zgb.nd (DO.de (zao (zaa zaj (zaa zaj (zaa zaj (zaa zaj (zaa zaj (zaa zaj zac))))))))) (zak (zhG PassesOwn.never rfl (za9 (zaT (DO.de (zao (zaa zae zac))) (zct (zad 0) zdd (zdc zae)))) (zaE 5 zgb.nd) (zar (zbZ (zpG 3 (zi4 (zlh (zqG hr)) (zap c__law_refused hr (by decide) rfl (zaa (zap c__law_spoilt hr (by decide) rfl (zaa (zad 3) (zaa (zad 1) (zaa (zad 5) zac))) ln3) (zaa (zad 1) zac)) ln2) (zaH (zad 4) (zcq (zad 5) zae)) (zdf _))) (zar (zaz zce)) zaU))) (zgS 3 (zar (zaz (zb7 (zek zli (zap c__law_refused hr (by decide) rfl (zaa (zad 3) (zaa (zad 1) zac)) ln2) zaj (zdf _)) (zcJ (zap c__law_at_most hr (by decide) rfl (zaa (zad 1) zac) ln1))))))))))))
end Law
end
section
namespace Law
open PySem L2 PySem.Spec PyProof.Rows
noncomputable def zal : List D -> Option D := zet
noncomputable def zaq : List D -> Option D := zdN zal
noncomputable def zbI : List D -> Option D := zgv
noncomputable def zaB : List D -> Option D := zc5 zal
noncomputable def zaN : List D -> Option D := zc4 zaB
noncomputable def zaW : List D -> Option D := zdy
noncomputable def zaD : List D -> Option D := zdk zal
noncomputable def zaP : List D -> Option D := zdi zaq zaD
noncomputable def zaJ : List D -> Option D := zcL zaq
noncomputable def zaM : List D -> Option D := zc3 zal
noncomputable def zaQ : List D -> Option D := zdj
noncomputable def zaO : List D -> Option D := zde zbI zaN zaW zaP zaJ zaM zaQ
noncomputable def zbD : List D -> Option D := zeO
noncomputable def zah : List D -> Option D := zd3 zbD
noncomputable def zai : List D -> Option D := zeP
noncomputable def zbG : List D -> Option D := zeS zah zai
noncomputable def zam : List D -> Option D := zfP
noncomputable def zbo : List D -> Option D := ze4 zbG zam
noncomputable def zay : List D -> Option D := zh2
noncomputable def zbH : List D -> Option D := zeT zbo zay zai
noncomputable def zaf : List D -> Option D := zck
noncomputable def zaV : List D -> Option D := zer zbH zam zaf
noncomputable def zau : List D -> Option D := zd4 zay
noncomputable def zcu : List D -> Option D := zg6 zah zau zai
noncomputable def zbV : List D -> Option D := zgt zcu zam zaf
noncomputable def zb3 : List D -> Option D := zfO zay zai zbV
noncomputable def zba : List D -> Option D := zfR zb3 zam zaf
noncomputable def zcM : List D -> Option D := zjd zay zai zah zau zam
noncomputable def zbm : List D -> Option D := zgu zcM zam zaf
noncomputable def zbF : List D -> Option D := zeR zau zai zah zay
noncomputable def za0 : List D -> Option D := ze3 zbF zam zaf
noncomputable def zb4 : List D -> Option D := zfQ zau zai zah
noncomputable def zbb : List D -> Option D := zfS zb4 zam zaf
noncomputable def zbs : List D -> Option D := zd5 zah zau zai
noncomputable def za7 : List D -> Option D := zes zbs zam zaf
noncomputable def zbE : List D -> Option D := zeQ zay zai zah za7
noncomputable def za8 : List D -> Option D := ze2 zbE zam zaf
noncomputable def zaA : List D -> Option D := zdh zah zaV zba zbm za0 zbb za8
noncomputable def zcV : Nat -> List D -> Option D
  | 0 => fun _ => none
  | n + 1 => zcW (zcV n)
noncomputable def zbt : List D -> Option D := zcV 8
noncomputable def zaF : List D -> Option D := zdz zaA zbt
noncomputable def zax : List D -> Option D := zcX zaF
noncomputable def za4 : List D -> Option D := zdl zal
noncomputable def zaY : List D -> Option D := zcY zal za4 zaB zaD zaq zax
noncomputable def zoe : List D -> Option D := zpT zaq zaO zax zaY
end Law
end
section
namespace Law
open PySem L2
theorem i2 : zij "int" "int" = some true := rfl
theorem i3 : zij "int" "bool" = some false := rfl
theorem i5 : zij "bool" "bool" = some true := rfl
theorem k1 : zij "list" "list" = some true := rfl
theorem k2 : zij "tuple" "list" = some false := rfl
theorem k3 : zij "tuple" "tuple" = some true := rfl
theorem k4 : zij "str" "list" = some false := rfl
theorem k5 : zij "str" "tuple" = some false := rfl
theorem k6 : zij "int" "list" = some false := rfl
theorem k7 : zij "int" "tuple" = some false := rfl
theorem k8 : zij "bool" "list" = some false := rfl
theorem k9 : zij "bool" "tuple" = some false := rfl
theorem k10 : zij "NoneType" "list" = some false := rfl
theorem k11 : zij "NoneType" "tuple" = some false := rfl
theorem sz2 : (1 + 1 <= sizeLine) = True := by simp [sizeLine]
theorem sz3 : (1 + 1 + 1 <= sizeLine) = True := by simp [sizeLine]
section
variable {x0 x1 x2 x3 x4 : D} {r : List D}
theorem zd2 {α : Type} (l : List α) (n : Nat) : atI l (n : Int) = l[n]? := by
  unfold atI ixN
  rw [if_pos (by omega)]
  by_cases h : n < l.length
  · rw [if_pos (by omega)]; simp
  · rw [if_neg (by omega)]; simp; omega
theorem zjS : ixD (.tup (x0 :: r)) (.int 0) = some x0 := zd2 _ 0
theorem zlA : ixD (.tup (x0 :: x1 :: r)) (.int 1) = some x1 := zd2 _ 1
theorem zpq : ixD (.tup (x0 :: x1 :: x2 :: r)) (.int 2) = some x2 := zd2 _ 2
theorem zp4 : ixD (.tup (x0 :: x1 :: x2 :: x3 :: r)) (.int 3) = some x3 := zd2 _ 3
theorem zpp : ixD (.tup (x0 :: x1 :: x2 :: x3 :: x4 :: r)) (.int 4) = some x4 := zd2 _ 4
end
theorem zn7 {fe : FE} {r : zbx} {f : D -> D} : ∀ {xs : List D} {a : Option Slot}, (∀ x ∈ xs, fe (some (.sh x) :: r) = some (f x)) -> zir (zbK 0) tT fe xs (a :: r) = some (xs.map f)
  | [], _, _ => rfl
  | x :: xs, a, h => by
    have h1 := h x List.mem_cons_self
    have ih := zn7 (xs := xs) (a := some (.sh x)) fun y hy => h y (List.mem_cons_of_mem _ hy)
    simp only [zir, zbK, List.set_cons_zero, Option.bind_some, tT, if_true, h1, ih, Option.map_some, List.map_cons]
theorem zll : ∀ {l : List D}, (∀ x ∈ l, x = .bl true) -> ∃ bs : List Bool, zom l = some bs /\ bs.all id = true
  | [], _ => ⟨[], rfl, rfl⟩
  | x :: r, h => by
    obtain ⟨bs, h1, h2⟩ := zll (l := r) fun y hy => h y (List.mem_cons_of_mem _ hy)
    have hx := h x List.mem_cons_self
    subst hx
    exact ⟨true :: bs, by simp [zom, h1], by simpa using h2⟩
theorem zbR {fi : FA} {fe : FE} {fv : List (Option Nat)} {ρ r : zbx} {a : Option Slot} {xs : List D} (h1 : fi ρ = some xs) (h2 : xs.length <= sizeLine) (h3 : zfC fv ρ = a :: r) (h : ∀ x ∈ xs, fe (some (.sh x) :: r) = some (.bl true)) :
    cF zh1 (zab (zaC (za1 fi (zbK 0) tT fe fv)) zag) ρ = some (.bl true) := by
  have c := zn7 (a := a) (f := fun _ => .bl true) h
  obtain ⟨bs, e1, e2⟩ := zll (l := xs.map fun _ => D.bl true) (by simp)
  simp only [cF, zab, zag, zaC, za1, h1, Option.bind_some, if_pos h2, h3, c, Option.map_some, zh1, e1]
  simpa using e2
theorem zcB {fi : FA} {fe : FE} {fv : List (Option Nat)} {ρ r : zbx} {a : Option Slot} {xs : List D} {f : D -> D} (h1 : fi ρ = some xs) (h2 : xs.length <= sizeLine) (h3 : zfC fv ρ = a :: r) (h : ∀ x ∈ xs, fe (some (.sh x) :: r) = some (f x)) :
    zaC (za1 fi (zbK 0) tT fe fv) ρ = some (.lst (xs.map f)) := by
  simp only [zaC, za1, h1, Option.bind_some, if_pos h2, h3, zn7 (a := a) h, Option.map_some]
theorem zim {gg : FG} {body : FS} {xs : List D} {ρ : zbx} (I : Nat -> zbx -> Prop) (h0 : I 0 ρ) (hs : ∀ i x ρ, xs[i]? = some x -> I i ρ -> ∃ ρ1 ρ2, gg x ρ = some ρ1 /\ body ρ1 = some (.nx, ρ2) /\ I (i + 1) ρ2) :
    ∃ ρ', zjT gg body xs ρ = some (.nx, ρ') /\ I xs.length ρ' := by
  have key : ∀ (ys : List D) (k : Nat) (ρ : zbx), xs.drop k = ys -> I k ρ -> ∃ ρ', zjT gg body ys ρ = some (.nx, ρ') /\ I (k + ys.length) ρ' := by
    intro ys
    induction ys with
    | nil => intro k ρ _ hk; exact ⟨ρ, rfl, hk⟩
    | cons y r ih =>
      intro k ρ hd hk
      have hy : xs[k]? = some y := by
        have : (xs.drop k)[0]? = some y := by rw [hd]; rfl
        simpa using this
      obtain ⟨ρ1, ρ2, h1, h2, h3⟩ := hs k y ρ hy hk
      have hd' : xs.drop (k + 1) = r := by rw [← List.drop_drop, hd]; rfl
      obtain ⟨ρ', h4, h5⟩ := ih (k + 1) ρ2 hd' h3
      refine ⟨ρ', ?_, by rw [List.length_cons]; rwa [show k + 1 + r.length = k + (r.length + 1) by omega] at h5⟩
      simp only [zjT, h1, Option.bind_some, h2, h4]
  obtain ⟨ρ', h1, h2⟩ := key xs 0 ρ rfl h0
  exact ⟨ρ', h1, by rwa [Nat.zero_add] at h2⟩
theorem zqY : (2 : Int) ^ 62 = 4611686018427387904 := by decide +kernel
theorem znh {i j : Int} (h : 0 <= i /\ i <= 1000000 /\ 0 <= j /\ j <= 1000000) : zni [.int i, .int j] = some ((List.range (j - i).toNat).map fun k : Nat => D.int (i + k)) := by
  unfold zni
  rw [zqY]
  exact if_pos ⟨by omega, by omega, by omega, by omega⟩
theorem zps {g : List D -> Option (List D)} {fr : FA} {ρ : zbx} {ds r : List D} (h1 : fr ρ = some ds) (h2 : g ds = some r) : itR g fr ρ = some r := by
  unfold itR; rw [h1]; exact h2
theorem zcf {g : D -> D -> Option D} {fa fb : FE} {ρ : zbx} {x y z : D} (h1 : fa ρ = some x) (h2 : fb ρ = some y) (h3 : g x y = some z) : b2 g fa fb ρ = some z := by
  unfold b2; rw [h1, Option.bind_some, h2, Option.bind_some]; exact h3
theorem zb2 {g : List D -> Option D} {fr : FA} {ρ : zbx} {ds : List D} {z : D} (h1 : fr ρ = some ds) (h2 : g ds = some z) : cF g fr ρ = some z := by
  unfold cF; rw [h1]; exact h2
theorem zbi {f : FE} {fr : FA} {ρ : zbx} {d : D} {ds : List D} (h1 : f ρ = some d) (h2 : fr ρ = some ds) : zab f fr ρ = some (d :: ds) := by
  unfold zab; rw [h1, Option.bind_some, h2]; rfl
theorem zcH {ρ : zbx} : zag ρ = some [] := rfl
theorem zmH {n : Nat} {g : FS} {ds : List D} {d : D} {ρ' : zbx} (h : g (ds.map (fun d => some (Slot.sh d)) ++ List.replicate n none) = some (.rt d, ρ')) : zbP n g ds = some d := by
  unfold zbP; rw [h]; rfl
theorem za5 {n : Nat} {g : FS} {ds : List D} {d : D} (ρ : zbx) {ρ' : zbx} (e : ds.map (fun d => some (Slot.sh d)) ++ List.replicate n none = ρ) (h : g ρ = some (.rt d, ρ')) : zbP n g ds = some d := by
  subst e; exact zmH h
theorem za2 {f : FE} {ρ : zbx} {d : D} (h : f ρ = some d) : zbc f ρ = some (.rt d, ρ) := by unfold zbc; rw [h]; rfl
theorem zbU {f : FE} {ρ : zbx} {b : Bool} (h : f ρ = some (.bl b)) : toB f ρ = some b := by unfold toB; rw [h]; rfl
theorem zbj {A : FE} {X E : FS} {ρ : zbx} (hA : A ρ = some (.bl true)) : zaS (sIf (zbM (toB A)) X zcx) E ρ = E ρ := by
  simp only [zaS, sIf, zbM, zbU hA, Option.map_some, Option.bind_some, Bool.not_true, Bool.false_eq_true, if_false, zcx]
theorem zdw {A B : FE} {X E : FS} {ρ : zbx} (hA : A ρ = some (.bl true)) (hB : B ρ = some (.bl true)) : zaS (sIf (orT (zbM (toB A)) (zbM (toB B))) X zcx) E ρ = E ρ := by
  simp only [zaS, sIf, orT, zbM, zbU hA, zbU hB, Option.map_some, Option.bind_some, Bool.not_true, Bool.false_eq_true, if_false, zcx]
theorem zpv {A B C : FE} {X E : FS} {ρ : zbx} (hA : A ρ = some (.bl true)) (hB : B ρ = some (.bl true)) (hC : C ρ = some (.bl true)) : zaS (sIf (orT (zbM (toB A)) (orT (zbM (toB B)) (zbM (toB C)))) X zcx) E ρ = E ρ := by
  simp only [zaS, sIf, orT, zbM, zbU hA, zbU hB, zbU hC, Option.map_some, Option.bind_some, Bool.not_true, Bool.false_eq_true, if_false, zcx]
theorem zlq {A B : FE} {ρ : zbx} (hA : A ρ = some (.bl true)) (hB : B ρ = some (.bl true)) : zdx A B ρ = some (.bl true) := by
  simp only [zdx, hA, hB, Option.bind_some]
theorem zaR {i : Nat} {f : FE} {g : FS} {ρ : zbx} {d : D} (h : f ρ = some d) : zaS (zcw i f) g ρ = g (ρ.set i (some (.sh d))) := by
  simp only [zaS, zcw, h, Option.map_some, Option.bind_some]
theorem zjW (i : Int) : zbD [.int i] = some (.bl true) := by
  simp only [zbD, zeO, zbP, zbc, zdx, zp2, cF, zab, zag, vSh, vC, zf2, tyD, List.map_cons, List.map_nil, List.cons_append, List.nil_append, List.replicate, List.getElem?_cons_zero, Option.bind_some, Option.map_some, Bool.not_false, i2, i3]
theorem zbe (i a b : Int) (h : a <= i /\ i <= b) : zah [.int i, .int a, .int b] = some (.bl true) := by
  simp only [zah, zd3, zjW, zbP, zbc, zdx, cF, zab, zag, vSh, chD, leD, List.map_cons, List.map_nil, List.cons_append, List.nil_append, List.replicate, List.getElem?_cons_zero, List.getElem?_cons_succ, Option.bind_some, Option.map_some, decide_eq_true h.1, decide_eq_true h.2]
theorem zcT (l : List D) (a b : Int) (h : a <= l.length /\ (l.length : Int) <= b) : zam [.lst l, .int a, .int b] = some (.bl true) := by
  simp only [zam, zfP, zbP, zbc, zdx, cF, zab, zag, vSh, vC, chD, zf2, tyD, zfy, leD, List.map_cons, List.map_nil, List.cons_append, List.nil_append, List.replicate, List.getElem?_cons_zero, List.getElem?_cons_succ, Option.bind_some, Option.map_some, k1, decide_eq_true h.1, decide_eq_true h.2]
theorem zfc (l : List D) (n : Int) (h : (l.length : Int) = n) : zai [.tup l, .int n] = some (.bl true) := by
  simp only [zai, zeP, zbP, zbc, zdx, cF, zab, zag, vSh, vC, b2, zf2, tyD, zfy, eqD, eqS, List.map_cons, List.map_nil, List.cons_append, List.nil_append, List.replicate, List.getElem?_cons_zero, List.getElem?_cons_succ, Option.bind_some, Option.map_some, k3, decide_eq_true h]
section
variable {a b c d e : D}
theorem zpZ : zai [.tup [a, b], .int 2] = some (.bl true) := zfc _ _ rfl
theorem zq8 : zai [.tup [a, b, c], .int 3] = some (.bl true) := zfc _ _ rfl
theorem zrr : zai [.tup [a, b, c, d], .int 4] = some (.bl true) := zfc _ _ rfl
theorem zq7 : zai [.tup [a, b, c, d, e], .int 5] = some (.bl true) := zfc _ _ rfl
end
def dIv (p : Int × Int) : D := .tup [.int p.1, .int p.2]
theorem zmE (p : Int × Int) (h : Int) (h1 : 0 <= p.1) (h2 : p.1 < p.2) (h3 : p.2 <= h) : zbG [dIv p, .int h] = some (.bl true) := by
  simp only [zbG, zeS, dIv, zbP, zaS, sIf, zbc, zcx, orT, zbM, toB, cF, zab, zag, vSh, vC, b2, ltD, zjS, zlA, List.map_cons, List.map_nil, List.cons_append, List.nil_append, List.replicate, List.getElem?_cons_zero, List.getElem?_cons_succ, Option.bind_some, Option.map_some, if_false, Bool.not_true, Bool.false_eq_true, zpZ, zbe p.1 0 h ⟨h1, by omega⟩, zbe p.2 0 h ⟨by omega, h3⟩, decide_eq_true h2]
def az (c : Nat) : Bool := !ltS ⟨#[c]⟩ "a" && !ltS "z" ⟨#[c]⟩
theorem zqZ {c : Nat} (h : az c = true) : c <= 122 := by
  have z : ("z" : Str) = ⟨#[122]⟩ := by decide +kernel
  unfold az ltS at h
  rw [z] at h
  simp only [Bool.and_eq_true, Bool.not_eq_true', decide_eq_false_iff_not] at h
  have h2 := h.2
  rcases Nat.lt_or_ge 122 c with q | q
  · exact absurd (show ([122] : List Nat) < [c] from List.Lex.rel q) h2
  · exact q
theorem zmA (c : Nat) (r : zbx) : chD leD leD (vC (.str "a")) (vSh 0) (vC (.str "z")) (some (.sh (.str ⟨#[c]⟩)) :: r) = some (.bl (az c)) := by
  simp only [chD, vC, vSh, List.getElem?_cons_zero, Option.bind_some, leD, az]
  cases ltS ⟨#[c]⟩ "a" <;> simp
def zbn (x : Str) : Bool := decide (1 <= x.length) && decide (x.length <= 8) && x.cps.toList.all az
theorem zkw {x : Str} (h : zbn x = true) : 1 <= x.length /\ x.length <= 8 := by
  unfold zbn at h
  simp only [Bool.and_eq_true, decide_eq_true_eq] at h
  exact h.1
theorem ziQ {x : Str} (h : zbn x = true) : ∀ c ∈ x.cps.toList, az c = true := by
  unfold zbn at h
  simp only [Bool.and_eq_true, List.all_eq_true] at h
  exact h.2
theorem zdu {x : Str} (h : zbn x = true) : zay [.str x] = some (.bl true) := by
  obtain ⟨h1, h2⟩ := zkw h
  have hz : x.length <= sizeLine := by unfold sizeLine; omega
  have hl : (x.cps.toList.map fun c => D.str ⟨#[c]⟩).length <= sizeLine := by simpa [Str.length] using hz
  have e1 : decide ((1 : Int) <= (x.length : Nat)) = true := decide_eq_true (by omega)
  have e2 : decide (((x.length : Nat) : Int) <= 8) = true := decide_eq_true (by omega)
  have ha := zbR (fi := itS (vSh 0)) (fe := chD leD leD (vC (.str "a")) (vSh 0) (vC (.str "z"))) (fv := [none]) (ρ := [some (.sh (.str x))]) (r := []) (a := none) (xs := x.cps.toList.map fun c => D.str ⟨#[c]⟩)
    (by simp [itS, vSh, zj7]) hl rfl (fun y hy => by
      obtain ⟨c, hc, rfl⟩ := List.mem_map.mp hy
      rw [zmA, ziQ h c hc])
  refine zmH (ρ' := [some (.sh (.str x))]) ((zdw ?_ ?_).trans (za2 ha))
  · rfl
  · show chD leD leD (vC (.int 1)) (cF zfy (zab (vSh 0) zag)) (vC (.int 8)) [some (.sh (.str x))] = _
    simp only [cF, zab, zag, vSh, vC, chD, zfy, leD, List.getElem?_cons_zero, Option.bind_some, Option.map_some, if_pos hz, e1, e2]
theorem ziF {x : Str} (h : zbn x = true) : PyData.strOk x = true := by
  unfold PyData.strOk
  rw [Array.all_eq_true']
  intro c hc
  have := zqZ (ziQ h c (by simpa using hc))
  exact decide_eq_true (by omega)
theorem zkn : ∀ (ns : List Str), zlW (ns.map D.str) = some (ns.map PyData.str)
  | [] => by simp [zlW]
  | x :: r => by simp [zlW, pdD, zkn r]
theorem ziU : ∀ {ns : List Str}, (∀ x ∈ ns, zbn x = true) -> PyData.canLayAll0 (ns.map PyData.str) = true
  | [], _ => by simp [PyData.canLayAll0]
  | x :: r, h => by
    simp only [List.map_cons, PyData.canLayAll0, PyData.canLay0, ziF (h x List.mem_cons_self), Bool.true_and]
    exact ziU fun y hy => h y (List.mem_cons_of_mem _ hy)
theorem zjc (x : Str) : ∀ (ns : List Str), ((ns.map PyData.str).any fun z => PyData.eqv z (.str x)) = decide (x ∈ ns)
  | [] => by simp
  | y :: r => by
    have ih := zjc x r
    rw [List.map_cons, List.any_cons, ih]
    simp only [PyData.eqv]
    by_cases e : y = x
    · subst e; simp
    · have : x ≠ y := fun z => e z.symm
      simp [e, this]
theorem znO {x : Str} {ns : List Str} (hx : zbn x = true) (hn : ∀ y ∈ ns, zbn y = true) : zpu (.str x) (.lst (ns.map D.str)) = some (.bl (decide (x ∈ ns))) := by
  have sh : SeqAt.shaped (.str x) = true := by simp [SeqAt.shaped, PyData.canLay0, ziF hx, PyData.depth]
  simp only [zpu, inX, pdD, zkn, Option.map_some, Option.bind_some, sh, ziU hn, and_self, if_true, zjc]
theorem zc0 {x : Str} {ns : List Str} (hx : x ∈ ns) (hn : ∀ y ∈ ns, zbn y = true) : zau [.str x, .lst (ns.map D.str)] = some (.bl true) := by
  simp only [zau, zd4, zbP, zbc, zdx, cF, zab, zag, vSh, b2, List.map_cons, List.map_nil, List.cons_append, List.nil_append, List.replicate, List.getElem?_cons_zero, List.getElem?_cons_succ, Option.bind_some, Option.map_some, zdu (hn x hx), znO (hn x hx) hn, decide_eq_true hx]
theorem zi8 {κ : Type} [DecidableEq κ] {l : List κ} (h : l.Nodup) : ST.dd l = l := by
  have key : ∀ (l a : List κ), (a ++ l).Nodup -> l.foldl (fun a k => if k ∈ a then a else a ++ [k]) a = a ++ l := by
    intro l
    induction l with
    | nil => intro a _; simp
    | cons x r ih =>
      intro a hn
      have hx : x ∉ a := by
        intro z
        rw [List.nodup_append] at hn
        exact hn.2.2 x z x List.mem_cons_self rfl
      rw [List.foldl_cons, if_neg hx, ih (a ++ [x]) (by simpa using hn)]
      simp
  simpa [ST.dd] using key l [] (by simpa using h)
theorem zdE : ∀ (ns : List Str), ze7 (ns.map D.str) = some (ns.map Sum.inr)
  | [] => by simp [ze7]
  | x :: r => by simp [ze7, zmt, zdE r]
theorem zbS {ns : List Str} (h : ns.Nodup) (hl : ns.length <= 300) : zaf [.lst (ns.map D.str)] = some (.bl true) := by
  have hd : (ns.map (Sum.inr : Str -> Key)).Nodup := List.Pairwise.map _ (fun a b hab z => hab (Sum.inr.inj z)) h
  simp only [zaf, zck, zbP, zbc, cF, zab, zag, vSh, b1, b2, zfy, eqD, eqS, List.map_cons, List.map_nil, List.cons_append, List.nil_append, List.replicate, List.getElem?_cons_zero, Option.bind_some, Option.map_some, zeF, List.length_map, if_pos hl, zdE, zi8 hd]
  simp
theorem zeU : ∀ (ts : List (List Str)), zdO (ts.map fun t => .tup (t.map D.str)) = some (ts.map fun t => t.map Sum.inr)
  | [] => by simp [zdO]
  | t :: r => by simp [zdO, zdE, zeU r]
theorem zfe {ts : List (List Str)} (h : ts.Nodup) (hl : ts.length <= 300) : zaf [.lst (ts.map fun t => .tup (t.map D.str))] = some (.bl true) := by
  have inj : ∀ a b : List Str, a.map (Sum.inr : Str -> Key) = b.map Sum.inr -> a = b := fun a b z => (List.map_inj_right (fun x y q => Sum.inr.inj q)).mp z
  have hd : (ts.map fun t => t.map (Sum.inr : Str -> Key)).Nodup := List.Pairwise.map _ (fun a b hab z => hab (inj a b z)) h
  cases ts with
  | nil => simp only [zaf, zck, zbP, zbc, cF, zab, zag, vSh, b1, b2, zfy, eqD, eqS, List.map_cons, List.map_nil, List.cons_append, List.nil_append, List.replicate, List.getElem?_cons_zero, Option.bind_some, Option.map_some, List.length_nil, zeF, ze7, ST.dd]; simp
  | cons t r =>
    have e : ze7 ((t :: r).map fun t => D.tup (t.map D.str)) = none := by simp [ze7, zmt]
    simp only [zaf, zck, zbP, zbc, b2, b1, vSh, List.map_cons, List.map_nil, List.cons_append, List.nil_append, List.replicate, List.getElem?_cons_zero, Option.bind_some, zeF, cF, zab, zag, zfy, Option.map_some]
    rw [if_pos (by simpa using hl)]
    have e' := e
    rw [List.map_cons] at e'
    rw [e']
    have t' := zeU (t :: r)
    rw [List.map_cons] at t'
    rw [t']
    rw [Option.map_some, zi8 hd]
    simp [eqD, eqS]
end Law
end
section
namespace Law
open PySem L2
structure BenchT where
  nm : Str
  br : List (Int × Int)
structure StepT where
  nm : Str
  kd : Str
  ws : List (Str × Int)
structure JobT where
  nm : Str
  ea : Int
  du : Int
  od : Bool
  ms : List Str
structure SetT where
  b : Str
  p : Str
  q : Str
  n : Int
structure LinkT where
  a : Str
  b : Str
  g : Int
structure StockT where
  nm : Str
  lo : Int
  hi : Int
  tk : List (Str × Int)
  pt : List (Str × Int)
def dW (w : Str × Int) : D := .tup [.str w.1, .int w.2]
def zbg (b : BenchT) : D := .tup [.str b.nm, .lst (b.br.map dIv)]
def zb1 (s : StepT) : D := .tup [.str s.nm, .str s.kd, .lst (s.ws.map dW)]
def zb5 (j : JobT) : D := .tup [.str j.nm, .int j.ea, .int j.du, .bl j.od, .lst (j.ms.map D.str)]
def zd6 (u : SetT) : D := .tup [.str u.b, .str u.p, .str u.q, .int u.n]
def zcj (l : LinkT) : D := .tup [.str l.a, .str l.b, .int l.g]
def zbA (k : StockT) : D := .tup [.str k.nm, .int k.lo, .int k.hi, .lst (k.tk.map dW), .lst (k.pt.map dW)]
structure GoodB (h : Int) (b : BenchT) : Prop where
  nm : zbn b.nm = true
  len : b.br.length <= 10
  iv : ∀ p ∈ b.br, 0 <= p.1 /\ p.1 < p.2 /\ p.2 <= h
  gap : ∀ (i : Nat) p q, b.br[i]? = some p -> b.br[i + 1]? = some q -> p.2 < q.1
structure GoodS (bn : List Str) (h : Int) (s : StepT) : Prop where
  nm : zbn s.nm = true
  kd : zbn s.kd = true
  l1 : 1 <= s.ws.length
  l4 : s.ws.length <= 4
  ws : ∀ w ∈ s.ws, w.1 ∈ bn /\ 1 <= w.2 /\ w.2 <= h
  nd : (s.ws.map (·.1)).Nodup
structure GoodJ (sn : List Str) (h : Int) (j : JobT) : Prop where
  nm : zbn j.nm = true
  ea : 0 <= j.ea /\ j.ea <= h
  du : 0 <= j.du /\ j.du <= h
  l1 : 1 <= j.ms.length
  ln : j.ms.length <= sn.length
  ms : ∀ m ∈ j.ms, m ∈ sn
structure GoodU (bn : List Str) (h : Int) (u : SetT) : Prop where
  b : u.b ∈ bn
  p : zbn u.p = true
  q : zbn u.q = true
  n : 1 <= u.n /\ u.n <= h
structure GoodL (sn : List Str) (h : Int) (l : LinkT) : Prop where
  a : l.a ∈ sn
  b : l.b ∈ sn
  ne : l.a ≠ l.b
  g : 0 <= l.g /\ l.g <= h
structure GoodA (sn : List Str) (am : List (Str × Int)) : Prop where
  ln : am.length <= sn.length
  ws : ∀ w ∈ am, w.1 ∈ sn /\ 1 <= w.2 /\ w.2 <= 1000000
  nd : (am.map (·.1)).Nodup
structure GoodK (sn : List Str) (k : StockT) : Prop where
  nm : zbn k.nm = true
  lo : 0 <= k.lo /\ k.lo <= k.hi
  hi : 0 <= k.hi /\ k.hi <= 1000000
  tk : GoodA sn k.tk
  pt : GoodA sn k.pt
structure Good (bs : List BenchT) (ss : List StepT) (js : List JobT) (us : List SetT) (ls : List LinkT) (ks : List StockT) (hz : Int) : Prop where
  hh : 1 <= hz /\ hz <= 1000000
  bl : 1 <= bs.length /\ bs.length <= 8
  b : ∀ x ∈ bs, GoodB hz x
  bn : (bs.map (·.nm)).Nodup
  sl : 1 <= ss.length /\ ss.length <= 40
  s : ∀ x ∈ ss, GoodS (bs.map (·.nm)) hz x
  sn : (ss.map (·.nm)).Nodup
  jl : js.length <= 40
  j : ∀ x ∈ js, GoodJ (ss.map (·.nm)) hz x
  jn : (js.map (·.nm)).Nodup
  jm : (js.flatMap (·.ms)).Nodup
  ul : us.length <= 100
  u : ∀ x ∈ us, GoodU (bs.map (·.nm)) hz x
  un : (us.map fun u => [u.b, u.p, u.q]).Nodup
  ll : ls.length <= 100
  l : ∀ x ∈ ls, GoodL (ss.map (·.nm)) hz x
  ln : (ls.map fun l => [l.a, l.b]).Nodup
  kl : ks.length <= 6
  k : ∀ x ∈ ks, GoodK (ss.map (·.nm)) x
  kn : (ks.map (·.nm)).Nodup
theorem ixL (l : List D) (n : Nat) : ixD (.lst l) (.int (n : Int)) = l[n]? := zd2 l n
theorem szN {n k : Nat} (h : n <= k) (hk : k <= 1000) : n <= sizeLine := by unfold sizeLine; omega
section
variable {h : Int} {bn sn : List Str}
theorem zpw {br : List (Int × Int)} (len : br.length <= 10) (gap : ∀ (i : Nat) p q, br[i]? = some p -> br[i + 1]? = some q -> p.2 < q.1) :
    cF zh1 (zab (zaC (za1 (itR zni (zab (vC (.int 1)) (zab (cF zfy (zab (vSh 0) zag)) zag))) (zbK 0) tT (b2 ltD (b2 ixD (b2 ixD (vSh 1) (b2 zov (vSh 0) (vC (.int 1)))) (vC (.int 1))) (b2 ixD (b2 ixD (vSh 1) (vSh 0)) (vC (.int 0)))) [none, some 0])) zag) [some (.sh (.lst (br.map dIv))), some (.sh (.int h))] = some (.bl true) := by
  have e0 : itR zni (zab (vC (.int 1)) (zab (cF zfy (zab (vSh 0) zag)) zag)) [some (.sh (.lst (br.map dIv))), some (.sh (.int h))] = some ((List.range (((br.map dIv).length : Int) - 1).toNat).map fun k : Nat => D.int (1 + k)) := by
    exact zps rfl (znh (i := 1) (j := ((br.map dIv).length : Nat)) (by rw [List.length_map]; omega))
  refine zbR (r := [some (.sh (.lst (br.map dIv)))]) (a := none) e0 ?_ rfl fun x hx => ?_
  · simp only [List.length_map, List.length_range]
    exact szN (k := 10) (by omega) (by decide)
  · obtain ⟨k, hk, rfl⟩ := List.mem_map.mp hx
    rw [List.mem_range, List.length_map] at hk
    have hk1 : k < br.length := by omega
    have hk2 : k + 1 < br.length := by omega
    have e1 : br[k]? = some br[k] := by simp [hk1]
    have e2 : br[k + 1]? = some br[k + 1] := by simp [hk2]
    have g := gap k _ _ e1 e2
    have a1 : ixD (.lst (br.map dIv)) (.int (1 + (k : Int) - 1)) = some (dIv br[k]) := by
      have : (1 + (k : Int) - 1) = ((k : Nat) : Int) := by omega
      rw [this, ixL, List.getElem?_map, e1]; rfl
    have a2 : ixD (.lst (br.map dIv)) (.int (1 + (k : Int))) = some (dIv br[k + 1]) := by
      have : (1 + (k : Int)) = ((k + 1 : Nat) : Int) := by omega
      rw [this, ixL, List.getElem?_map, e2]; rfl
    simp only [vSh, vC, b2, ltD, zov, List.getElem?_cons_zero, List.getElem?_cons_succ, Option.bind_some, a1, a2]
    simp only [dIv, zjS, zlA, Option.bind_some, decide_eq_true g]
theorem zlk {br : List (Int × Int)} (len : br.length <= 10) (iv : ∀ p ∈ br, 0 <= p.1 /\ p.1 < p.2 /\ p.2 <= h) (gap : ∀ (i : Nat) p q, br[i]? = some p -> br[i + 1]? = some q -> p.2 < q.1) :
    zbo [.lst (br.map dIv), .int h] = some (.bl true) := by
  refine za5 [some (.sh (.lst (br.map dIv))), some (.sh (.int h))] rfl ((zdw ?_ (zbR (r := [some (.sh (.int h))]) (a := none) (xs := br.map dIv) rfl (by rw [List.length_map]; exact szN len (by decide)) rfl fun x hx => ?_)).trans (za2 (zpw len gap)))
  · exact zcT _ 0 10 ⟨by omega, by rw [List.length_map]; omega⟩
  · obtain ⟨p, hp, rfl⟩ := List.mem_map.mp hx
    obtain ⟨h1, h2, h3⟩ := iv p hp
    exact zmE p h h1 h2 h3
theorem zmF {b : BenchT} (g : GoodB h b) : zbH [zbg b, .int h] = some (.bl true) := by
  simp only [zbH, zeT, zbg, zbP, zbc, zdx, cF, zab, zag, vSh, vC, b2, zjS, zlA, List.map_cons, List.map_nil, List.cons_append, List.nil_append, List.replicate, List.getElem?_cons_zero, List.getElem?_cons_succ, Option.bind_some, Option.map_some, zpZ, zdu g.nm, zlk g.len g.iv g.gap]
theorem zcI {α : Type} {f : α -> D} {nm : α -> Str} {xs : List α} {i : Nat} {ρ : zbx} {fv : List (Option Nat)} (hf : ∀ x, ∃ r, f x = .tup (.str (nm x) :: r)) (h1 : vSh i ρ = some (.lst (xs.map f))) (h2 : xs.length <= sizeLine) (h3 : zfC fv ρ = [none]) :
    zaC (za1 (itF (vSh i)) (zbK 0) tT (b2 ixD (vSh 0) (vC (.int 0))) fv) ρ = some (.lst ((xs.map nm).map D.str)) := by
  have hc := zcB (fi := itF (vSh i)) (fe := b2 ixD (vSh 0) (vC (.int 0))) (fv := fv) (ρ := ρ) (r := []) (a := none) (xs := xs.map f) (f := fun d => match d with | .tup (x :: _) => x | _ => .non) (by unfold itF; rw [h1]; rfl) (by rw [List.length_map]; exact h2) h3 (fun x hx => by
    obtain ⟨y, _, rfl⟩ := List.mem_map.mp hx
    obtain ⟨r, e⟩ := hf y
    simp only [b2, vSh, vC, List.getElem?_cons_zero, Option.bind_some, e, zjS])
  rw [hc]
  congr 2
  rw [List.map_map, List.map_map]
  refine List.map_congr_left fun x _ => ?_
  obtain ⟨r, e⟩ := hf x
  simp [e]
theorem zgr {bs : List BenchT} (l1 : 1 <= bs.length) (l8 : bs.length <= 8) (g : ∀ x ∈ bs, GoodB h x) (nd : (bs.map (·.nm)).Nodup) : zaV [.lst (bs.map zbg), .int h] = some (.bl true) := by
  refine za5 [some (.sh (.lst (bs.map zbg))), some (.sh (.int h))] rfl ((zdw ?_ (zbR (r := [some (.sh (.int h))]) (a := none) (xs := bs.map zbg) rfl (by rw [List.length_map]; exact szN l8 (by decide)) rfl fun x hx => ?_)).trans (za2 ?_))
  · exact zcT _ 1 8 ⟨by rw [List.length_map]; omega, by rw [List.length_map]; omega⟩
  · obtain ⟨p, hp, rfl⟩ := List.mem_map.mp hx
    exact zmF (g p hp)
  · have := zcI (i := 0) (fv := [none]) (ρ := [some (.sh (.lst (bs.map zbg))), some (.sh (.int h))]) (f := zbg) (nm := (·.nm)) (xs := bs) (fun x => ⟨_, rfl⟩) rfl (szN l8 (by decide)) rfl
    simp only [cF, zab, zag, this, Option.bind_some, Option.map_some]
    exact zbS nd (by rw [List.length_map]; omega)
theorem zoo {w : Str × Int} (hb : ∀ y ∈ bn, zbn y = true) (g : w.1 ∈ bn /\ 1 <= w.2 /\ w.2 <= h) : zcu [dW w, .lst (bn.map D.str), .int h] = some (.bl true) := by
  simp only [zcu, zg6, dW, zbP, zbc, zdx, cF, zab, zag, vSh, vC, b2, zjS, zlA, List.map_cons, List.map_nil, List.cons_append, List.nil_append, List.replicate, List.getElem?_cons_zero, List.getElem?_cons_succ, Option.bind_some, Option.map_some, zpZ, zc0 g.1 hb, zbe w.2 1 h g.2]
theorem zm6 {ws : List (Str × Int)} (hb : ∀ y ∈ bn, zbn y = true) (l1 : 1 <= ws.length) (l4 : ws.length <= 4) (g : ∀ w ∈ ws, w.1 ∈ bn /\ 1 <= w.2 /\ w.2 <= h) (nd : (ws.map (·.1)).Nodup) : zbV [.lst (ws.map dW), .lst (bn.map D.str), .int h] = some (.bl true) := by
  refine za5 [some (.sh (.lst (ws.map dW))), some (.sh (.lst (bn.map D.str))), some (.sh (.int h))] rfl ((zdw ?_ (zbR (r := [some (.sh (.lst (bn.map D.str))), some (.sh (.int h))]) (a := none) (xs := ws.map dW) rfl (by rw [List.length_map]; exact szN l4 (by decide)) rfl fun x hx => ?_)).trans (za2 ?_))
  · exact zcT _ 1 4 ⟨by rw [List.length_map]; omega, by rw [List.length_map]; omega⟩
  · obtain ⟨p, hp, rfl⟩ := List.mem_map.mp hx
    exact zoo hb (g p hp)
  · have := zcI (i := 0) (fv := [none]) (ρ := [some (.sh (.lst (ws.map dW))), some (.sh (.lst (bn.map D.str))), some (.sh (.int h))]) (f := dW) (nm := (·.1)) (xs := ws) (fun x => ⟨_, rfl⟩) rfl (szN l4 (by decide)) rfl
    simp only [cF, zab, zag, this, Option.bind_some, Option.map_some]
    exact zbS nd (by rw [List.length_map]; omega)
theorem znb {s : StepT} (hb : ∀ y ∈ bn, zbn y = true) (g : GoodS bn h s) : zb3 [zb1 s, .lst (bn.map D.str), .int h] = some (.bl true) := by
  simp only [zb3, zfO, zb1, zbP, zaS, sIf, zbc, zcx, orT, zbM, toB, cF, zab, zag, vSh, vC, b2, zjS, zlA, zpq, List.map_cons, List.map_nil, List.cons_append, List.nil_append, List.replicate, List.getElem?_cons_zero, List.getElem?_cons_succ, Option.bind_some, Option.map_some, if_false, Bool.not_true, Bool.false_eq_true, zq8, zdu g.nm, zdu g.kd, zm6 hb g.l1 g.l4 g.ws g.nd]
theorem ziG {ss : List StepT} (hb : ∀ y ∈ bn, zbn y = true) (l1 : 1 <= ss.length) (l4 : ss.length <= 40) (g : ∀ s ∈ ss, GoodS bn h s) (nd : (ss.map (·.nm)).Nodup) : zba [.lst (ss.map zb1), .lst (bn.map D.str), .int h] = some (.bl true) := by
  refine za5 [some (.sh (.lst (ss.map zb1))), some (.sh (.lst (bn.map D.str))), some (.sh (.int h))] rfl ((zdw ?_ (zbR (r := [some (.sh (.lst (bn.map D.str))), some (.sh (.int h))]) (a := none) (xs := ss.map zb1) rfl (by rw [List.length_map]; exact szN l4 (by decide)) rfl fun x hx => ?_)).trans (za2 ?_))
  · exact zcT _ 1 40 ⟨by rw [List.length_map]; omega, by rw [List.length_map]; omega⟩
  · obtain ⟨p, hp, rfl⟩ := List.mem_map.mp hx
    exact znb hb (g p hp)
  · have := zcI (i := 0) (fv := [none]) (ρ := [some (.sh (.lst (ss.map zb1))), some (.sh (.lst (bn.map D.str))), some (.sh (.int h))]) (f := zb1) (nm := (·.nm)) (xs := ss) (fun x => ⟨_, rfl⟩) rfl (szN l4 (by decide)) rfl
    simp only [cF, zab, zag, this, Option.bind_some, Option.map_some]
    exact zbS nd (by rw [List.length_map]; omega)
end
end Law
end
section
namespace Law
open PySem L2
theorem zku (a b : Str) : neA (.str a) (.str b) = some (.bl (!decide (a = b))) := rfl
theorem zrk {a b c d : D} : ziI none (some 3) (.tup [a, b, c, d]) = some (.tup [a, b, c]) := rfl
theorem zrQ {a b c : D} : ziI none (some 2) (.tup [a, b, c]) = some (.tup [a, b]) := rfl
theorem zi2 {α β : Type} {f : α -> List β} {m : Nat} : ∀ {l : List α}, (∀ x ∈ l, (f x).length <= m) -> (l.flatMap f).length <= l.length * m
  | [], _ => by simp
  | x :: r, h => by
    have h1 := h x List.mem_cons_self
    have h2 := zi2 (l := r) fun y hy => h y (List.mem_cons_of_mem _ hy)
    rw [List.flatMap_cons, List.length_append, List.length_cons, Nat.succ_mul]
    omega
section
variable {h : Int} {bn sn : List Str}
theorem zpl {j : JobT} (hs : ∀ y ∈ sn, zbn y = true) (hl : sn.length <= 40) (g : GoodJ sn h j) : zcM [zb5 j, .lst (sn.map D.str), .int h] = some (.bl true) := by
  refine za5 [some (.sh (zb5 j)), some (.sh (.lst (sn.map D.str))), some (.sh (.int h))] rfl ((zpv ?_ ?_ ?_).trans ((zdw ?_ ?_).trans (za2 (zlq ?_ (zbR (r := [some (.sh (.lst (sn.map D.str)))]) (a := none) (xs := j.ms.map D.str) ?_ ?_ rfl fun x hx => ?_)))))
  · exact zq7
  · simp only [zb5, cF, zab, zag, vSh, vC, b2, zjS, List.getElem?_cons_zero, Option.bind_some, Option.map_some, zdu g.nm]
  · simp only [zb5, cF, zab, zag, vSh, vC, b2, zf2, tyD, zp4, List.getElem?_cons_zero, Option.bind_some, Option.map_some, i5]
  · simp only [zb5, cF, zab, zag, vSh, vC, b2, zlA, List.getElem?_cons_zero, List.getElem?_cons_succ, Option.bind_some, Option.map_some, zbe _ 0 h g.ea]
  · simp only [zb5, cF, zab, zag, vSh, vC, b2, zpq, List.getElem?_cons_zero, List.getElem?_cons_succ, Option.bind_some, Option.map_some, zbe _ 0 h g.du]
  · simp only [zb5, cF, zab, zag, vSh, vC, b2, zfy, zpp, List.getElem?_cons_zero, List.getElem?_cons_succ, Option.bind_some, Option.map_some]
    exact zcT _ _ _ ⟨by rw [List.length_map]; have := g.l1; omega, by rw [List.length_map, List.length_map]; have := g.ln; omega⟩
  · simp only [zb5, vSh, vC, b2, itF, zhC, zpp, List.getElem?_cons_zero, Option.bind_some]
  · rw [List.length_map]; exact szN (Nat.le_trans g.ln hl) (by decide)
  · obtain ⟨m, hm, rfl⟩ := List.mem_map.mp hx
    simp only [cF, zab, zag, vSh, List.getElem?_cons_zero, List.getElem?_cons_succ, Option.bind_some, Option.map_some, zc0 (g.ms m hm) hs]
theorem zjv {js : List JobT} {S H : Option Slot} (hl : js.length <= 40) (g : ∀ j ∈ js, j.ms.length <= 40) :
    ∃ z, zjT (zbK 4) (zoj 3 (b2 ixD (vSh 4) (vC (.int 4)))) (js.map zb5) [some (.sh (.lst (js.map zb5))), S, H, some (.own []), none] = some (.nx, [some (.sh (.lst (js.map zb5))), S, H, some (.own ((js.flatMap (·.ms)).map D.str)), z]) := by
  obtain ⟨ρ', h1, z, h2⟩ := zim (gg := zbK 4) (body := zoj 3 (b2 ixD (vSh 4) (vC (.int 4)))) (xs := js.map zb5) (ρ := [some (.sh (.lst (js.map zb5))), S, H, some (.own []), none])
    (fun i ρ => ∃ z, ρ = [some (.sh (.lst (js.map zb5))), S, H, some (.own (((js.take i).flatMap (·.ms)).map D.str)), z]) ⟨none, by simp⟩ (fun i x ρ hx hI => by
      obtain ⟨z, rfl⟩ := hI
      rw [List.getElem?_map] at hx
      obtain ⟨j, hj, rfl⟩ := Option.map_eq_some_iff.mp hx
      have hm : j ∈ js := List.mem_of_getElem? hj
      have t1 : ((js.take i).flatMap (·.ms)).length <= (js.take i).length * 40 := zi2 fun y hy => g y (List.mem_of_mem_take hy)
      have t2 : (js.take i).length <= 40 := by rw [List.length_take]; omega
      have t3 := g j hm
      have tk : js.take (i + 1) = js.take i ++ [j] := by rw [List.take_add_one, hj]; rfl
      have sz : (((js.take i).flatMap (·.ms)).map D.str).length + (j.ms.map D.str).length <= sizeLine := by
        rw [List.length_map, List.length_map]; unfold sizeLine; omega
      refine ⟨_, [some (.sh (.lst (js.map zb5))), S, H, some (.own (((js.take (i + 1)).flatMap (·.ms)).map D.str)), some (.sh (zb5 j))], rfl, ?_, _, rfl⟩
      have e : b2 ixD (vSh 4) (vC (.int 4)) [some (.sh (.lst (js.map zb5))), S, H, some (.own (((js.take i).flatMap (·.ms)).map D.str)), some (.sh (zb5 j))] = some (.lst (j.ms.map D.str)) := by
        simp only [zb5, vSh, vC, b2, zpp, List.getElem?_cons_zero, List.getElem?_cons_succ, Option.bind_some]
      simp only [zoj, List.set_cons_zero, List.set_cons_succ, List.getElem?_cons_zero, List.getElem?_cons_succ, e, Option.bind_some, if_pos sz, tk]
      simp)
  refine ⟨z, ?_⟩
  rw [h1, h2, List.length_map, List.take_length]
theorem zkM {js : List JobT} (hs : ∀ y ∈ sn, zbn y = true) (hl : sn.length <= 40) (l4 : js.length <= 40) (g : ∀ j ∈ js, GoodJ sn h j) (nd : (js.map (·.nm)).Nodup) (nm : (js.flatMap (·.ms)).Nodup) (ml : (js.flatMap (·.ms)).length <= 300) : zbm [.lst (js.map zb5), .lst (sn.map D.str), .int h] = some (.bl true) := by
  obtain ⟨z, hz⟩ := zjv (js := js) (S := some (.sh (.lst (sn.map D.str)))) (H := some (.sh (.int h))) l4 fun j hj => Nat.le_trans (g j hj).ln hl
  refine za5 [some (.sh (.lst (js.map zb5))), some (.sh (.lst (sn.map D.str))), some (.sh (.int h)), none, none] (ρ' := [some (.sh (.lst (js.map zb5))), some (.sh (.lst (sn.map D.str))), some (.sh (.int h)), some (.sh (.lst ((js.flatMap (·.ms)).map D.str))), z]) rfl ((zdw ?_ (zbR (r := [some (.sh (.lst (sn.map D.str))), some (.sh (.int h))]) (a := none) (xs := js.map zb5) rfl (by rw [List.length_map]; exact szN l4 (by decide)) rfl fun x hx => ?_)).trans ?_)
  · exact zcT _ 0 40 ⟨by omega, by rw [List.length_map]; omega⟩
  · obtain ⟨p, hp, rfl⟩ := List.mem_map.mp hx
    simp only [cF, zab, zag, vSh, List.getElem?_cons_zero, List.getElem?_cons_succ, Option.bind_some, Option.map_some, zpl hs hl (g p hp)]
  · have nn := zcI (i := 0) (fv := [none]) (ρ := [some (.sh (.lst (js.map zb5))), some (.sh (.lst (sn.map D.str))), some (.sh (.int h)), some (.sh (.lst ((js.flatMap (·.ms)).map D.str))), z]) (f := zb5) (nm := (·.nm)) (xs := js) (fun x => ⟨_, rfl⟩) rfl (szN l4 (by decide)) rfl
    have u1 : cF zaf (zab (zaC (za1 (itF (vSh 0)) (zbK 0) tT (b2 ixD (vSh 0) (vC (.int 0))) [none])) zag) [some (.sh (.lst (js.map zb5))), some (.sh (.lst (sn.map D.str))), some (.sh (.int h)), some (.sh (.lst ((js.flatMap (·.ms)).map D.str))), z] = some (.bl true) :=
      zb2 (zbi nn zcH) (zbS nd (by rw [List.length_map]; omega))
    have u2 : cF zaf (zab (vSh 3) zag) [some (.sh (.lst (js.map zb5))), some (.sh (.lst (sn.map D.str))), some (.sh (.int h)), some (.sh (.lst ((js.flatMap (·.ms)).map D.str))), z] = some (.bl true) :=
      zb2 (zbi rfl zcH) (zbS nm ml)
    have r := za2 (zlq u1 u2)
    have z0 : (0 <= sizeLine) = True := by simp
    simp only [zaS, zkc, szF, zag, Option.bind_some, Option.map_some, List.length_nil, z0, if_true, List.set_cons_zero, List.set_cons_succ, zgH, itF, vSh, List.getElem?_cons_zero, zhC]
    rw [hz]
    simp only [Option.bind_some, zke, List.getElem?_cons_zero, List.getElem?_cons_succ, List.set_cons_zero, List.set_cons_succ]
    exact r
theorem zlI {u : SetT} (hb : ∀ y ∈ bn, zbn y = true) (g : GoodU bn h u) : zbF [zd6 u, .lst (bn.map D.str), .int h] = some (.bl true) := by
  simp only [zbF, zeR, zd6, zbP, zaS, sIf, zbc, zcx, zdx, orT, zbM, toB, cF, zab, zag, vSh, vC, b2, zjS, zlA, zpq, zp4, List.map_cons, List.map_nil, List.cons_append, List.nil_append, List.replicate, List.getElem?_cons_zero, List.getElem?_cons_succ, Option.bind_some, Option.map_some, if_false, Bool.not_true, Bool.false_eq_true, zrr, zc0 g.b hb, zdu g.p, zdu g.q, zbe _ 1 h g.n]
theorem zhf {us : List SetT} (hb : ∀ y ∈ bn, zbn y = true) (l4 : us.length <= 100) (g : ∀ u ∈ us, GoodU bn h u) (nd : (us.map fun u => [u.b, u.p, u.q]).Nodup) : za0 [.lst (us.map zd6), .lst (bn.map D.str), .int h] = some (.bl true) := by
  refine za5 [some (.sh (.lst (us.map zd6))), some (.sh (.lst (bn.map D.str))), some (.sh (.int h))] rfl ((zdw ?_ (zbR (r := [some (.sh (.lst (bn.map D.str))), some (.sh (.int h))]) (a := none) (xs := us.map zd6) rfl (by rw [List.length_map]; exact szN l4 (by decide)) rfl fun x hx => ?_)).trans (za2 (zb2 (zbi (zcB (r := []) (a := none) (xs := us.map zd6) (f := fun d => match d with | .tup [a, b, c, d] => .tup [a, b, c] | _ => .non) rfl (by rw [List.length_map]; exact szN l4 (by decide)) rfl fun x hx => ?_) zcH) ?_)))
  · exact zcT _ 0 100 ⟨by omega, by rw [List.length_map]; omega⟩
  · obtain ⟨p, hp, rfl⟩ := List.mem_map.mp hx
    simp only [cF, zab, zag, vSh, List.getElem?_cons_zero, List.getElem?_cons_succ, Option.bind_some, Option.map_some, zlI hb (g p hp)]
  · obtain ⟨p, hp, rfl⟩ := List.mem_map.mp hx
    simp only [vSh, vC, slF, pN, pS, List.getElem?_cons_zero, Option.bind_some, zd6, zrk]
  · have := zfe nd (by rw [List.length_map]; omega)
    rw [List.map_map] at this ⊢
    exact this
theorem znL {l : LinkT} (hs : ∀ y ∈ sn, zbn y = true) (g : GoodL sn h l) : zb4 [zcj l, .lst (sn.map D.str), .int h] = some (.bl true) := by
  have := g.ne
  simp only [zb4, zfQ, zcj, zbP, zaS, sIf, zbc, zcx, zdx, orT, zbM, toB, cF, zab, zag, vSh, vC, b2, zjS, zlA, zpq, List.map_cons, List.map_nil, List.cons_append, List.nil_append, List.replicate, List.getElem?_cons_zero, List.getElem?_cons_succ, Option.bind_some, Option.map_some, if_false, Bool.not_true, Bool.not_false, Bool.false_eq_true, zq8, zc0 g.a hs, zc0 g.b hs, zku, decide_eq_false g.ne, zbe _ 0 h g.g]
theorem ziT {ls : List LinkT} (hs : ∀ y ∈ sn, zbn y = true) (l4 : ls.length <= 100) (g : ∀ l ∈ ls, GoodL sn h l) (nd : (ls.map fun l => [l.a, l.b]).Nodup) : zbb [.lst (ls.map zcj), .lst (sn.map D.str), .int h] = some (.bl true) := by
  refine za5 [some (.sh (.lst (ls.map zcj))), some (.sh (.lst (sn.map D.str))), some (.sh (.int h))] rfl ((zdw ?_ (zbR (r := [some (.sh (.lst (sn.map D.str))), some (.sh (.int h))]) (a := none) (xs := ls.map zcj) rfl (by rw [List.length_map]; exact szN l4 (by decide)) rfl fun x hx => ?_)).trans (za2 (zb2 (zbi (zcB (r := []) (a := none) (xs := ls.map zcj) (f := fun d => match d with | .tup [a, b, c] => .tup [a, b] | _ => .non) rfl (by rw [List.length_map]; exact szN l4 (by decide)) rfl fun x hx => ?_) zcH) ?_)))
  · exact zcT _ 0 100 ⟨by omega, by rw [List.length_map]; omega⟩
  · obtain ⟨p, hp, rfl⟩ := List.mem_map.mp hx
    simp only [cF, zab, zag, vSh, List.getElem?_cons_zero, List.getElem?_cons_succ, Option.bind_some, Option.map_some, znL hs (g p hp)]
  · obtain ⟨p, hp, rfl⟩ := List.mem_map.mp hx
    simp only [vSh, vC, slF, pN, pS, List.getElem?_cons_zero, Option.bind_some, zcj, zrQ]
  · have := zfe nd (by rw [List.length_map]; omega)
    rw [List.map_map] at this ⊢
    exact this
theorem zlr {w : Str × Int} (hs : ∀ y ∈ sn, zbn y = true) (g : w.1 ∈ sn /\ 1 <= w.2 /\ w.2 <= 1000000) : zbs [dW w, .lst (sn.map D.str)] = some (.bl true) := by
  simp only [zbs, zd5, dW, zbP, zbc, zdx, cF, zab, zag, vSh, vC, b2, zjS, zlA, List.map_cons, List.map_nil, List.cons_append, List.nil_append, List.replicate, List.getElem?_cons_zero, List.getElem?_cons_succ, Option.bind_some, Option.map_some, zpZ, zc0 g.1 hs, zbe w.2 1 1000000 g.2]
theorem zgs {ws : List (Str × Int)} (hs : ∀ y ∈ sn, zbn y = true) (hl : sn.length <= 40) (g : GoodA sn ws) : za7 [.lst (ws.map dW), .lst (sn.map D.str)] = some (.bl true) := by
  have l4 : ws.length <= 40 := Nat.le_trans g.ln hl
  refine za5 [some (.sh (.lst (ws.map dW))), some (.sh (.lst (sn.map D.str)))] rfl ((zdw ?_ (zbR (r := [some (.sh (.lst (sn.map D.str)))]) (a := none) (xs := ws.map dW) rfl (by rw [List.length_map]; exact szN l4 (by decide)) rfl fun x hx => ?_)).trans (za2 ?_))
  · have e := zcT (ws.map dW) 0 ((sn.map D.str).length : Nat) ⟨by omega, by rw [List.length_map, List.length_map]; have := g.ln; omega⟩
    simp only [cF, zab, zag, vSh, vC, zfy, List.getElem?_cons_zero, List.getElem?_cons_succ, Option.bind_some, Option.map_some]
    exact e
  · obtain ⟨p, hp, rfl⟩ := List.mem_map.mp hx
    simp only [cF, zab, zag, vSh, List.getElem?_cons_zero, List.getElem?_cons_succ, Option.bind_some, Option.map_some, zlr hs (g.ws p hp)]
  · have := zcI (i := 0) (fv := [none]) (ρ := [some (.sh (.lst (ws.map dW))), some (.sh (.lst (sn.map D.str)))]) (f := dW) (nm := (·.1)) (xs := ws) (fun x => ⟨_, rfl⟩) rfl (szN l4 (by decide)) rfl
    exact zb2 (zbi this zcH) (zbS g.nd (by rw [List.length_map]; omega))
theorem zlG {k : StockT} (hs : ∀ y ∈ sn, zbn y = true) (hl : sn.length <= 40) (g : GoodK sn k) : zbE [zbA k, .lst (sn.map D.str)] = some (.bl true) := by
  simp only [zbE, zeQ, zbA, zbP, zaS, sIf, zbc, zcx, zdx, orT, zbM, toB, cF, zab, zag, vSh, vC, b2, zjS, zlA, zpq, zp4, zpp, List.map_cons, List.map_nil, List.cons_append, List.nil_append, List.replicate, List.getElem?_cons_zero, List.getElem?_cons_succ, Option.bind_some, Option.map_some, if_false, Bool.not_true, Bool.false_eq_true, zq7, zdu g.nm, zbe _ 0 1000000 g.hi, zbe _ 0 _ g.lo, zgs hs hl g.tk, zgs hs hl g.pt]
theorem zj3 {ks : List StockT} (hs : ∀ y ∈ sn, zbn y = true) (hl : sn.length <= 40) (l4 : ks.length <= 6) (g : ∀ k ∈ ks, GoodK sn k) (nd : (ks.map (·.nm)).Nodup) : za8 [.lst (ks.map zbA), .lst (sn.map D.str)] = some (.bl true) := by
  refine za5 [some (.sh (.lst (ks.map zbA))), some (.sh (.lst (sn.map D.str)))] rfl ((zdw ?_ (zbR (r := [some (.sh (.lst (sn.map D.str)))]) (a := none) (xs := ks.map zbA) rfl (by rw [List.length_map]; exact szN l4 (by decide)) rfl fun x hx => ?_)).trans (za2 ?_))
  · exact zcT _ 0 6 ⟨by omega, by rw [List.length_map]; omega⟩
  · obtain ⟨p, hp, rfl⟩ := List.mem_map.mp hx
    simp only [cF, zab, zag, vSh, List.getElem?_cons_zero, List.getElem?_cons_succ, Option.bind_some, Option.map_some, zlG hs hl (g p hp)]
  · have := zcI (i := 0) (fv := [none]) (ρ := [some (.sh (.lst (ks.map zbA))), some (.sh (.lst (sn.map D.str)))]) (f := zbA) (nm := (·.nm)) (xs := ks) (fun x => ⟨_, rfl⟩) rfl (szN l4 (by decide)) rfl
    exact zb2 (zbi this zcH) (zbS nd (by rw [List.length_map]; omega))
end
section
variable {bs : List BenchT} {ss : List StepT} {js : List JobT} {us : List SetT} {ls : List LinkT} {ks : List StockT} {h : Int}
theorem Good.bnn (g : Good bs ss js us ls ks h) : ∀ y ∈ bs.map (·.nm), zbn y = true := fun y hy => by
  obtain ⟨b, hb, rfl⟩ := List.mem_map.mp hy
  exact (g.b b hb).nm
theorem Good.snn (g : Good bs ss js us ls ks h) : ∀ y ∈ ss.map (·.nm), zbn y = true := fun y hy => by
  obtain ⟨b, hb, rfl⟩ := List.mem_map.mp hy
  exact (g.s b hb).nm
theorem zko (g : Good bs ss js us ls ks h) (ml : (js.flatMap (·.ms)).length <= 300) : zaA [.lst (bs.map zbg), .lst (ss.map zb1), .lst (js.map zb5), .lst (us.map zd6), .lst (ls.map zcj), .lst (ks.map zbA), .int h] = some .non := by
  have hb := g.bnn
  have hs := g.snn
  have hl : (ss.map (·.nm)).length <= 40 := by rw [List.length_map]; exact g.sl.2
  have n1 : ∀ z : Option Slot, zaC (za1 (itF (vSh 0)) (zbK 0) tT (b2 ixD (vSh 0) (vC (.int 0))) [none]) [some (.sh (.lst (bs.map zbg))), some (.sh (.lst (ss.map zb1))), some (.sh (.lst (js.map zb5))), some (.sh (.lst (us.map zd6))), some (.sh (.lst (ls.map zcj))), some (.sh (.lst (ks.map zbA))), some (.sh (.int h)), none, none] = some (.lst ((bs.map (·.nm)).map D.str)) := fun z =>
    zcI (f := zbg) (nm := (·.nm)) (xs := bs) (fun x => ⟨_, rfl⟩) rfl (szN g.bl.2 (by decide)) rfl
  have n2 : zaC (za1 (itF (vSh 1)) (zbK 0) tT (b2 ixD (vSh 0) (vC (.int 0))) [none]) [some (.sh (.lst (bs.map zbg))), some (.sh (.lst (ss.map zb1))), some (.sh (.lst (js.map zb5))), some (.sh (.lst (us.map zd6))), some (.sh (.lst (ls.map zcj))), some (.sh (.lst (ks.map zbA))), some (.sh (.int h)), some (.sh (.lst ((bs.map (·.nm)).map D.str))), none] = some (.lst ((ss.map (·.nm)).map D.str)) :=
    zcI (f := zb1) (nm := (·.nm)) (xs := ss) (fun x => ⟨_, rfl⟩) rfl (szN g.sl.2 (by decide)) rfl
  refine za5 [some (.sh (.lst (bs.map zbg))), some (.sh (.lst (ss.map zb1))), some (.sh (.lst (js.map zb5))), some (.sh (.lst (us.map zd6))), some (.sh (.lst (ls.map zcj))), some (.sh (.lst (ks.map zbA))), some (.sh (.int h)), none, none] rfl ((zbj ?_).trans ((zbj ?_).trans ((zaR (n1 none)).trans ((zbj ?_).trans ((zaR n2).trans ((zbj ?_).trans ((zbj ?_).trans ((zbj ?_).trans ((zbj ?_).trans (za2 rfl))))))))))
  · exact zbe h 1 1000000 g.hh
  · exact zgr g.bl.1 g.bl.2 g.b g.bn
  · exact ziG hb g.sl.1 g.sl.2 g.s g.sn
  · exact zkM hs hl g.jl g.j g.jn g.jm ml
  · exact zhf hb g.ul g.u g.un
  · exact ziT hs g.ll g.l g.ln
  · exact zj3 hs hl g.kl g.k g.kn
end
end Law
end
section
namespace Law
open PySem L2
def Pl : Nat -> D -> Prop
  | 0, _ => False
  | n + 1, .lst l => l.length <= sizeLine /\ ∀ x ∈ l, Pl n x
  | n + 1, .tup l => l.length <= sizeLine /\ ∀ x ∈ l, Pl n x
  | _ + 1, .non => True
  | _ + 1, .bl _ => True
  | _ + 1, .int _ => True
  | _ + 1, .str _ => True
  | _ + 1, _ => False
theorem zcN {ft : FT} {X E : FS} {ρ : zbx} (h : ft ρ = some false) : zaS (sIf ft X zcx) E ρ = E ρ := by
  simp only [zaS, sIf, h, Option.bind_some, Bool.false_eq_true, if_false, zcx]
theorem zc6 {ft : FT} {A B E : FS} {ρ ρ' : zbx} {d : D} (h : ft ρ = some true) (h2 : A ρ = some (.rt d, ρ')) : zaS (sIf ft A B) E ρ = some (.rt d, ρ') := by
  simp only [zaS, sIf, h, Option.bind_some, if_true, h2]
theorem zgQ : ∀ (n : Nat) (d : D), Pl n d -> zcV n [d] = some d
  | 0, _, h => h.elim
  | n + 1, .lst l, h => by
    refine za5 [some (.sh (.lst l))] rfl (zc6 (zbU (b := true) ?_) (za2 ?_))
    · simp only [cF, zab, zag, vSh, vC, zf2, tyD, List.getElem?_cons_zero, Option.bind_some, Option.map_some, k1]
    · have := zcB (fi := itF (vSh 0)) (fe := cF (zcV n) (zab (vSh 0) zag)) (fv := [none]) (ρ := [some (.sh (.lst l))]) (r := []) (a := none) (xs := l) (f := fun x => x) rfl h.1 rfl (fun x hx => by simp only [cF, zab, zag, vSh, List.getElem?_cons_zero, Option.bind_some, Option.map_some, zgQ n x (h.2 x hx)])
      rw [List.map_id'] at this
      exact this
  | n + 1, .tup l, h => by
    refine za5 [some (.sh (.tup l))] rfl ((zcN (zbU (b := false) ?_)).trans (zc6 (zbU (b := true) ?_) (za2 (zb2 (zbi (d := .lst l) ?_ zcH) rfl))))
    · simp only [cF, zab, zag, vSh, vC, zf2, tyD, List.getElem?_cons_zero, Option.bind_some, Option.map_some, k2]
    · simp only [cF, zab, zag, vSh, vC, zf2, tyD, List.getElem?_cons_zero, Option.bind_some, Option.map_some, k3]
    · have := zcB (fi := itF (vSh 0)) (fe := cF (zcV n) (zab (vSh 0) zag)) (fv := [none]) (ρ := [some (.sh (.tup l))]) (r := []) (a := none) (xs := l) (f := fun x => x) rfl h.1 rfl (fun x hx => by simp only [cF, zab, zag, vSh, List.getElem?_cons_zero, Option.bind_some, Option.map_some, zgQ n x (h.2 x hx)])
      rw [List.map_id'] at this
      exact this
  | n + 1, .non, h => by
    show zcW (zcV n) [.non] = some .non
    unfold zcW
    refine za5 [some (.sh .non)] rfl ((zcN (zbU (b := false) ?_)).trans ((zcN (zbU (b := false) ?_)).trans (za2 (f := vSh 0) rfl))) <;> simp only [cF, zab, zag, vSh, vC, zf2, tyD, List.getElem?_cons_zero, Option.bind_some, Option.map_some, k10, k11]
  | n + 1, .bl b, h => by
    show zcW (zcV n) [.bl b] = some (.bl b)
    unfold zcW
    refine za5 [some (.sh (.bl b))] rfl ((zcN (zbU (b := false) ?_)).trans ((zcN (zbU (b := false) ?_)).trans (za2 (f := vSh 0) rfl))) <;> simp only [cF, zab, zag, vSh, vC, zf2, tyD, List.getElem?_cons_zero, Option.bind_some, Option.map_some, k8, k9]
  | n + 1, .int b, h => by
    show zcW (zcV n) [.int b] = some (.int b)
    unfold zcW
    refine za5 [some (.sh (.int b))] rfl ((zcN (zbU (b := false) ?_)).trans ((zcN (zbU (b := false) ?_)).trans (za2 (f := vSh 0) rfl))) <;> simp only [cF, zab, zag, vSh, vC, zf2, tyD, List.getElem?_cons_zero, Option.bind_some, Option.map_some, k6, k7]
  | n + 1, .str b, h => by
    show zcW (zcV n) [.str b] = some (.str b)
    unfold zcW
    refine za5 [some (.sh (.str b))] rfl ((zcN (zbU (b := false) ?_)).trans ((zcN (zbU (b := false) ?_)).trans (za2 (f := vSh 0) rfl))) <;> simp only [cF, zab, zag, vSh, vC, zf2, tyD, List.getElem?_cons_zero, Option.bind_some, Option.map_some, k4, k4, k5]
theorem zgn {d : D} (h : Pl 8 d) : zbt [d] = some d := zgQ 8 d h
theorem zef {n : Nat} {α : Type} {f : α -> D} {xs : List α} (hl : xs.length <= 1000) (h : ∀ x ∈ xs, Pl n (f x)) : Pl (n + 1) (.lst (xs.map f)) :=
  ⟨by rw [List.length_map]; exact szN hl (by decide), fun x hx => by
    obtain ⟨y, hy, rfl⟩ := List.mem_map.mp hx
    exact h y hy⟩
theorem zoP {n : Nat} {xs : List Str} (hl : xs.length <= 1000) : Pl (n + 2) (.lst (xs.map D.str)) := zef hl fun x _ => (trivial : Pl (n + 1) (.str x))
theorem zqn {n : Nat} {xs : List (Str × Int)} (hl : xs.length <= 1000) : Pl (n + 3) (.lst (xs.map dW)) := zef hl fun x _ => ⟨by simp [sizeLine], by
  intro y hy
  simp only [List.mem_cons, List.not_mem_nil, or_false] at hy
  rcases hy with rfl | rfl <;> trivial⟩
theorem zlS {n : Nat} {h : Int} {b : BenchT} (g : GoodB h b) : Pl (n + 4) (zbg b) := ⟨by simp [sizeLine], by
  intro y hy
  simp only [List.mem_cons, List.not_mem_nil, or_false] at hy
  rcases hy with rfl | rfl
  · trivial
  · exact zef (by have := g.len; omega) fun x _ => ⟨by simp [sizeLine], by
      intro y hy
      simp only [List.mem_cons, List.not_mem_nil, or_false] at hy
      rcases hy with rfl | rfl <;> trivial⟩⟩
theorem znu {n : Nat} {bn : List Str} {h : Int} {s : StepT} (g : GoodS bn h s) : Pl (n + 4) (zb1 s) := ⟨by simp [sizeLine], by
  intro y hy
  simp only [List.mem_cons, List.not_mem_nil, or_false] at hy
  rcases hy with rfl | rfl | rfl
  · trivial
  · trivial
  · exact zqn (by have := g.l4; omega)⟩
theorem zoR {n : Nat} {sn : List Str} {h : Int} {j : JobT} (hl : sn.length <= 40) (g : GoodJ sn h j) : Pl (n + 3) (zb5 j) := ⟨by simp [sizeLine], by
  intro y hy
  simp only [List.mem_cons, List.not_mem_nil, or_false] at hy
  rcases hy with rfl | rfl | rfl | rfl | rfl
  · trivial
  · trivial
  · trivial
  · trivial
  · exact zoP (by have := g.ln; omega)⟩
theorem zoQ {n : Nat} {u : SetT} : Pl (n + 2) (zd6 u) := ⟨by simp [sizeLine], by
  intro y hy
  simp only [List.mem_cons, List.not_mem_nil, or_false] at hy
  rcases hy with rfl | rfl | rfl | rfl <;> trivial⟩
theorem znv {n : Nat} {u : LinkT} : Pl (n + 2) (zcj u) := ⟨by simp [sizeLine], by
  intro y hy
  simp only [List.mem_cons, List.not_mem_nil, or_false] at hy
  rcases hy with rfl | rfl | rfl <;> trivial⟩
theorem zlR {n : Nat} {sn : List Str} {k : StockT} (hl : sn.length <= 40) (g : GoodK sn k) : Pl (n + 4) (zbA k) := ⟨by simp [sizeLine], by
  intro y hy
  simp only [List.mem_cons, List.not_mem_nil, or_false] at hy
  rcases hy with rfl | rfl | rfl | rfl | rfl
  · trivial
  · trivial
  · trivial
  · exact zqn (by have := g.tk.ln; omega)
  · exact zqn (by have := g.pt.ln; omega)⟩
theorem zgf {α : Type} {nm : α -> Str} {f : α -> D} : ∀ (xs : List α), zgg (xs.map fun x => .tup [.str (nm x), f x]) = some (xs.map fun x => (.inr (nm x), f x))
  | [] => rfl
  | x :: r => by simp only [List.map_cons, zgg, zmt, Option.bind_some, zgf r, Option.map_some]
theorem zge {α : Type} {t : α -> List Str} {f : α -> D} : ∀ (xs : List α), zfr (xs.map fun x => .tup [.tup ((t x).map D.str), f x]) = some (xs.map fun x => ((t x).map Sum.inr, f x))
  | [] => rfl
  | x :: r => by simp only [List.map_cons, zfr, zdE, Option.bind_some, zge r, Option.map_some]
theorem zgh {κ : Type} [DecidableEq κ] {ps : List (κ × D)} (h : (ps.map (·.1)).Nodup) : zp3 ps = ps := by
  have key : ∀ (l a : List (κ × D)), ((a ++ l).map (·.1)).Nodup -> l.foldl (fun acc kv => zjs acc kv.1 kv.2) a = a ++ l := by
    intro l
    induction l with
    | nil => intro a _; simp
    | cons x r ih =>
      intro a hn
      have hx : (a.any fun kv => decide (kv.1 = x.1)) = false := by
        rw [List.any_eq_false]
        intro y hy z
        rw [List.map_append, List.nodup_append] at hn
        exact hn.2.2 y.1 (List.mem_map_of_mem hy) x.1 (by simp) (of_decide_eq_true z)
      rw [List.foldl_cons]
      have e : zjs a x.1 x.2 = a ++ [x] := by
        unfold zjs
        rw [hx]
        rfl
      rw [e, ih (a ++ [x]) (by simpa using hn)]
      simp
  simpa [zp3] using key ps [] (by simpa using h)
theorem zgM {β : Type} : ∀ {fs : List (Str × β)} {i : Nat} {k : Str} {d : β}, (fs.map (·.1)).Nodup -> fs[i]? = some (k, d) -> fs.lookup k = some d
  | [], i, k, d, _, h => by simp at h
  | (a, b) :: r, 0, k, d, _, h => by
    simp only [List.getElem?_cons_zero, Option.some.injEq, Prod.mk.injEq] at h
    obtain ⟨rfl, rfl⟩ := h
    simp [List.lookup]
  | (a, b) :: r, i + 1, k, d, nd, h => by
    rw [List.getElem?_cons_succ] at h
    rw [List.map_cons, List.nodup_cons] at nd
    have ne : k ≠ a := by
      intro z
      subst z
      exact nd.1 (List.mem_map_of_mem (f := (·.1)) (List.mem_of_getElem? h))
    have hb : (k == a) = false := by simpa using ne
    simp only [List.lookup, hb]
    exact zgM nd.2 h
theorem zgN {β : Type} : ∀ {fs : List (Str × β)} {k : Str}, k ∉ fs.map (·.1) -> fs.lookup k = none
  | [], _, _ => rfl
  | (a, b) :: r, k, h => by
    rw [List.map_cons, List.mem_cons, not_or] at h
    have hb : (k == a) = false := by simpa using h.1
    simp only [List.lookup, hb]
    exact zgN h.2
end Law
end
section
namespace Law
open PySem L2
def zly (j : JobT) (acc : List (Key × D)) (m : Str) : List (Key × D) := zjs acc (.inr m) (zb5 j)
def jkv (js : List JobT) : List (Key × D) := js.foldl (fun acc j => j.ms.foldl (zly j) acc) []
theorem zlP {κ : Type} [DecidableEq κ] (kvs : List (κ × D)) (k : κ) (v : D) : (zjs kvs k v).length <= kvs.length + 1 := by
  unfold zjs
  split
  · rw [List.length_map]; omega
  · rw [List.length_append]; simp
theorem zfB (j : JobT) : ∀ (ms : List Str) (acc : List (Key × D)), (ms.foldl (zly j) acc).length <= acc.length + ms.length
  | [], acc => by simp
  | m :: r, acc => by
    rw [List.foldl_cons]
    have h1 := zfB j r (zly j acc m)
    have h2 : (zly j acc m).length <= acc.length + 1 := zlP _ _ _
    rw [List.length_cons]; omega
theorem zkN {m : Nat} : ∀ {js : List JobT} (acc : List (Key × D)), (∀ j ∈ js, j.ms.length <= m) -> (js.foldl (fun acc j => j.ms.foldl (zly j) acc) acc).length <= acc.length + js.length * m
  | [], acc, _ => by simp
  | j :: r, acc, h => by
    rw [List.foldl_cons]
    have h1 := zkN (js := r) (j.ms.foldl (zly j) acc) fun y hy => h y (List.mem_cons_of_mem _ hy)
    have h2 := zfB j j.ms acc
    have h3 := h j List.mem_cons_self
    rw [List.length_cons, Nat.succ_mul]; omega
def zkY (bs : List BenchT) (ss : List StepT) (js : List JobT) (us : List SetT) (ls : List LinkT) (ks : List StockT) (h : Int) : List (Str × D) :=
  [("benches", .lst (bs.map zbg)), ("steps", .lst (ss.map zb1)), ("jobs", .lst (js.map zb5)), ("setups", .lst (us.map zd6)), ("links", .lst (ls.map zcj)), ("stocks", .lst (ks.map zbA)), ("horizon", .int h),
   ("bench_by_name", .dk (bs.map fun b => (.inr b.nm, zbg b))), ("step_by_name", .dk (ss.map fun s => (.inr s.nm, zb1 s))), ("setup_by_names", .dt (us.map fun u => ([u.b, u.p, u.q].map Sum.inr, .int u.n)))]
def zrP (bs : List BenchT) (ss : List StepT) (js : List JobT) (us : List SetT) (ls : List LinkT) (ks : List StockT) (h : Int) : List (Str × D) := zkY bs ss js us ls ks h ++ [(("job_by_step" : Str), D.dk (jkv js))]
def zpO (bs : List BenchT) (ss : List StepT) (js : List JobT) (us : List SetT) (ls : List LinkT) (ks : List StockT) (h : Int) : D := .ins "Shop" (zrP bs ss js us ls ks h)
def zgj : List Str := ["benches", "steps", "jobs", "setups", "links", "stocks", "horizon", "bench_by_name", "step_by_name", "setup_by_names", "job_by_step"]
theorem zih : zgj.Nodup := by decide +kernel
theorem zkv {α : Type} {l : List α} (h : l.Nodup) (n : Nat) : (l.take n).Nodup := List.Sublist.nodup (List.take_sublist n l) h
section
variable {fs : List (Str × D)} {f : Str} {fv : FE} {r : zbx} {g : FS} {d : D}
theorem zcS (n : Nat) (hk : zgj[n]? = some f) (hf : fs.map (·.1) = zgj.take n) (h : fv (some (.obj "Shop" fs) :: r) = some d) : zaS (zee "Shop" f 0 fv) g (some (.obj "Shop" fs) :: r) = g (some (.obj "Shop" (fs ++ [(f, d)])) :: r) := by
  have hno : fs.lookup f = none := zgN (by
    rw [hf]
    intro z
    obtain ⟨i, hi⟩ := List.getElem?_of_mem z
    have hin : i < n := by
      rcases Nat.lt_or_ge i n with q | q
      · exact q
      · rw [List.getElem?_eq_none (by rw [List.length_take]; omega)] at hi; cases hi
    rw [List.getElem?_take_of_lt hin] at hi
    have := (List.getElem?_inj (List.getElem?_eq_some_iff.mp hi).1 zih).mp (hi.trans hk.symm)
    omega)
  have hlen : fs.length < 100 := by
    have := congrArg List.length hf
    rw [List.length_map, List.length_take] at this
    have k : zgj.length = 11 := rfl
    omega
  simp only [zaS, zee, h, Option.bind_some, List.getElem?_cons_zero, hno, hlen, and_self, if_true, List.set_cons_zero]
theorem zgK (n i : Nat) (hf : fs.map (·.1) = zgj.take n) (h : fs[i]? = some (f, d)) : zfY "Shop" f 0 (some (.obj "Shop" fs) :: r) = some d := by
  have e : fs.lookup f = some d := zgM (by rw [hf]; exact zkv zih n) h
  show (if some ("Shop" : Str) = some ("Shop" : Str) then fs.lookup f else none) = some d
  rw [if_pos rfl, e]
end
theorem zk5 {α : Type} {f : α -> D} {nm : α -> Str} {xs : List α} {fo : FE} {ρ : zbx} (hf : ∀ x, ∃ r, f x = .tup (.str (nm x) :: r)) (h1 : fo ρ = some (.lst (xs.map f))) (h2 : xs.length <= 1000) (nd : (xs.map nm).Nodup) :
    cF zhJ (zab (zaC (za1 (itF fo) (zbK 0) tT (zaX (szF (zab (b2 ixD (vSh 0) (vC (.int 0))) (zab (vSh 0) zag)))) [none])) zag) ρ = some (.dk (xs.map fun x => (.inr (nm x), f x))) := by
  have hc := zcB (fi := itF fo) (fe := zaX (szF (zab (b2 ixD (vSh 0) (vC (.int 0))) (zab (vSh 0) zag)))) (fv := [none]) (ρ := ρ) (r := []) (a := none) (xs := xs.map f) (f := fun d => .tup [match d with | .tup (x :: _) => x | _ => .non, d]) (by unfold itF; rw [h1]; rfl) (by rw [List.length_map]; exact szN h2 (by decide)) rfl (fun x hx => by
    obtain ⟨y, _, rfl⟩ := List.mem_map.mp hx
    obtain ⟨r, e⟩ := hf y
    simp only [zab, zag, vSh, vC, b2, zaX, szF, zjS, List.getElem?_cons_zero, Option.bind_some, Option.map_some, if_true, List.length_cons, List.length_nil, Nat.zero_add, sz2, e])
  have e : (xs.map f).map (fun d => D.tup [match d with | .tup (x :: _) => x | _ => .non, d]) = xs.map fun x => .tup [.str (nm x), f x] := by
    rw [List.map_map]
    refine List.map_congr_left fun x _ => ?_
    obtain ⟨r, e⟩ := hf x
    simp [e]
  rw [e] at hc
  have kn : ((xs.map fun x => ((.inr (nm x) : Key), f x)).map (·.1)).Nodup := by
    rw [List.map_map]
    have := List.Pairwise.map (S := fun a b : Key => a ≠ b) (Sum.inr : Str -> Key) (fun a b hab z => hab (Sum.inr.inj z)) nd
    rw [List.map_map] at this
    exact this
  refine zb2 (zbi hc zcH) ?_
  show (if _ then _ else _) = _
  rw [if_pos (by rw [List.length_map]; exact h2), zgf, Option.map_some, zgh kn]
theorem zmw {us : List SetT} {fo : FE} {ρ : zbx} (h1 : fo ρ = some (.lst (us.map zd6))) (h2 : us.length <= 1000) (nd : (us.map fun u => [u.b, u.p, u.q]).Nodup) :
    cF zi6 (zab (zaC (za1 (itF fo) (zbK 0) tT (zaX (szF (zab (slF (vSh 0) pN (pS (vC (.int 3)))) (zab (b2 ixD (vSh 0) (vC (.int 3))) zag)))) [none])) zag) ρ = some (.dt (us.map fun u => ([u.b, u.p, u.q].map Sum.inr, .int u.n))) := by
  have hc := zcB (fi := itF fo) (fe := zaX (szF (zab (slF (vSh 0) pN (pS (vC (.int 3)))) (zab (b2 ixD (vSh 0) (vC (.int 3))) zag)))) (fv := [none]) (ρ := ρ) (r := []) (a := none) (xs := us.map zd6) (f := fun d => match d with | .tup [a, b, c, d] => .tup [.tup [a, b, c], d] | _ => .non) (by unfold itF; rw [h1]; rfl) (by rw [List.length_map]; exact szN h2 (by decide)) rfl (fun x hx => by
    obtain ⟨y, _, rfl⟩ := List.mem_map.mp hx
    simp only [zab, zag, vSh, vC, b2, zaX, szF, slF, pN, pS, zp4, List.getElem?_cons_zero, Option.bind_some, Option.map_some, if_true, List.length_cons, List.length_nil, Nat.zero_add, sz2, zd6, zrk])
  rw [List.map_map] at hc
  have kn : ((us.map fun u => ([u.b, u.p, u.q].map (Sum.inr : Str -> Key), D.int u.n)).map (·.1)).Nodup := by
    rw [List.map_map]
    have inj : ∀ a b : List Str, a.map (Sum.inr : Str -> Key) = b.map Sum.inr -> a = b := fun a b z => (List.map_inj_right (fun x y q => Sum.inr.inj q)).mp z
    have := List.Pairwise.map (S := fun a b : List Key => a ≠ b) (List.map (Sum.inr : Str -> Key)) (fun a b hab z => hab (inj a b z)) nd
    rw [List.map_map] at this
    exact this
  refine zb2 (zbi hc zcH) ?_
  show (if _ then _ else _) = _
  have e := zge (t := fun u : SetT => [u.b, u.p, u.q]) (f := fun u => .int u.n) us
  rw [if_pos (by rw [List.length_map]; exact h2)]
  have e2 : zfr (us.map ((fun d => match d with | .tup [a, b, c, d] => D.tup [.tup [a, b, c], d] | _ => .non) ∘ zd6)) = some (us.map fun u => ([u.b, u.p, u.q].map Sum.inr, .int u.n)) := e
  rw [e2, Option.map_some, zgh kn]
section
variable {bs : List BenchT} {ss : List StepT} {js : List JobT} {us : List SetT} {ls : List LinkT} {ks : List StockT} {h : Int}
theorem zfD : (zkY bs ss js us ls ks h).map (·.1) = zgj.take 10 := rfl
abbrev r9 (bs : List BenchT) (ss : List StepT) (js : List JobT) (us : List SetT) (ls : List LinkT) (ks : List StockT) (h : Int) (a b : Option Slot) : zbx := [some (.sh (.lst (bs.map zbg))), some (.sh (.lst (ss.map zb1))), some (.sh (.lst (js.map zb5))), some (.sh (.lst (us.map zd6))), some (.sh (.lst (ls.map zcj))), some (.sh (.lst (ks.map zbA))), some (.sh (.int h)), some (.sh .non), a, b]
abbrev ob (bs : List BenchT) (ss : List StepT) (js : List JobT) (us : List SetT) (ls : List LinkT) (ks : List StockT) (h : Int) (kvs : List (Key × D)) : Option Slot := some (.objd "Shop" (zkY bs ss js us ls ks h) "job_by_step" kvs)
theorem zoK {j : JobT} {m : Str} {kvs : List (Key × D)} (hl : kvs.length < 100000) : zcR "Shop" "job_by_step" 0 (vSh 10) (vSh 9) (ob bs ss js us ls ks h kvs :: r9 bs ss js us ls ks h (some (.sh (zb5 j))) (some (.sh (.str m)))) = some (.nx, ob bs ss js us ls ks h (zly j kvs m) :: r9 bs ss js us ls ks h (some (.sh (zb5 j))) (some (.sh (.str m)))) := by
  have hno : (zkY bs ss js us ls ks h).lookup ("job_by_step" : Str) = none := zgN (by rw [zfD]; decide +kernel)
  simp only [zcR, vSh, List.getElem?_cons_zero, List.getElem?_cons_succ, Option.bind_some, zmt, hno, hl, and_self, if_true, List.set_cons_zero, zly]
theorem zmc {j : JobT} {acc : List (Key × D)} {z : Option Slot} (hl : acc.length + j.ms.length < 100000) : ∃ z', zgH (itF (b2 ixD (vSh 9) (vC (.int 4)))) (zbK 10) (zcR "Shop" "job_by_step" 0 (vSh 10) (vSh 9)) (ob bs ss js us ls ks h acc :: r9 bs ss js us ls ks h (some (.sh (zb5 j))) z) = some (.nx, ob bs ss js us ls ks h (j.ms.foldl (zly j) acc) :: r9 bs ss js us ls ks h (some (.sh (zb5 j))) z') := by
  obtain ⟨ρ', h1, z', h2⟩ := zim (gg := zbK 10) (body := zcR "Shop" "job_by_step" 0 (vSh 10) (vSh 9)) (xs := j.ms.map D.str) (ρ := ob bs ss js us ls ks h acc :: r9 bs ss js us ls ks h (some (.sh (zb5 j))) z)
    (fun i ρ => ∃ z, ρ = ob bs ss js us ls ks h ((j.ms.take i).foldl (zly j) acc) :: r9 bs ss js us ls ks h (some (.sh (zb5 j))) z) ⟨z, by simp⟩ (fun i x ρ hx hI => by
      obtain ⟨z, rfl⟩ := hI
      rw [List.getElem?_map] at hx
      obtain ⟨m, hm, rfl⟩ := Option.map_eq_some_iff.mp hx
      have tk : j.ms.take (i + 1) = j.ms.take i ++ [m] := by rw [List.take_add_one, hm]; rfl
      have hlen := zfB j (j.ms.take i) acc
      rw [List.length_take] at hlen
      refine ⟨_, _, rfl, zoK (by omega), some (.sh (.str m)), ?_⟩
      rw [tk, List.foldl_append]; rfl)
  refine ⟨z', ?_⟩
  have e : itF (b2 ixD (vSh 9) (vC (.int 4))) (ob bs ss js us ls ks h acc :: r9 bs ss js us ls ks h (some (.sh (zb5 j))) z) = some (j.ms.map D.str) := by
    simp only [vSh, vC, b2, itF, zhC, zpp, List.getElem?_cons_zero, List.getElem?_cons_succ, Option.bind_some, zb5]
  unfold zgH
  rw [e, Option.bind_some, h1, h2, List.length_map, List.take_length]
theorem zlZ (hj : js.length <= 40) (hm : ∀ j ∈ js, j.ms.length <= 40) : ∃ z z', zjT (zbK 9) (zgH (itF (b2 ixD (vSh 9) (vC (.int 4)))) (zbK 10) (zcR "Shop" "job_by_step" 0 (vSh 10) (vSh 9))) (js.map zb5) (ob bs ss js us ls ks h [] :: r9 bs ss js us ls ks h none none) = some (.nx, ob bs ss js us ls ks h (jkv js) :: r9 bs ss js us ls ks h z z') := by
  obtain ⟨ρ', h1, z, z', h2⟩ := zim (gg := zbK 9) (body := zgH (itF (b2 ixD (vSh 9) (vC (.int 4)))) (zbK 10) (zcR "Shop" "job_by_step" 0 (vSh 10) (vSh 9))) (xs := js.map zb5) (ρ := ob bs ss js us ls ks h [] :: r9 bs ss js us ls ks h none none)
    (fun i ρ => ∃ z z', ρ = ob bs ss js us ls ks h (jkv (js.take i)) :: r9 bs ss js us ls ks h z z') ⟨none, none, by simp [jkv]⟩ (fun i x ρ hx hI => by
      obtain ⟨z, z', rfl⟩ := hI
      rw [List.getElem?_map] at hx
      obtain ⟨j, hjm, rfl⟩ := Option.map_eq_some_iff.mp hx
      have tk : js.take (i + 1) = js.take i ++ [j] := by rw [List.take_add_one, hjm]; rfl
      have hlen := zkN (m := 40) (js := js.take i) [] fun y hy => hm y (List.mem_of_mem_take hy)
      rw [List.length_take, List.length_nil] at hlen
      have h4 := hm j (List.mem_of_getElem? hjm)
      obtain ⟨w, hw⟩ := zmc (bs := bs) (ss := ss) (js := js) (us := us) (ls := ls) (ks := ks) (h := h) (j := j) (acc := jkv (js.take i)) (z := z') (by unfold jkv; omega)
      refine ⟨_, _, rfl, hw, some (.sh (zb5 j)), w, ?_⟩
      rw [tk]
      unfold jkv
      rw [List.foldl_append]; rfl)
  refine ⟨z, z', ?_⟩
  rw [h1, h2, List.length_map, List.take_length]
theorem zjV {i : Nat} {f : FE} {g : FS} {ρ : zbx} {d : D} (h : f ρ = some d) : zaS (noXm (zcw i f)) g ρ = g (ρ.set i (some (.sh d))) := by
  unfold zaS noXm zcw; rw [h]; rfl
theorem znI {g : FS} {ρ ρ' : zbx} (h : g ρ = some (.nx, ρ')) : noXm g ρ = some (.nx, ρ') := by unfold noXm; rw [h]
theorem znN (g : Good bs ss js us ls ks h) (ml : (js.flatMap (·.ms)).length <= 300) : zaF [.lst (bs.map zbg), .lst (ss.map zb1), .lst (js.map zb5), .lst (us.map zd6), .lst (ls.map zcj), .lst (ks.map zbA), .int h] = some (zpO bs ss js us ls ks h) := by
  have hl : (ss.map (·.nm)).length <= 40 := by rw [List.length_map]; exact g.sl.2
  have f1 := zgn (d := .lst (bs.map zbg)) (zef (by have := g.bl.2; omega) fun x hx => zlS (g.b x hx))
  have f2 := zgn (d := .lst (ss.map zb1)) (zef (by have := g.sl.2; omega) fun x hx => znu (g.s x hx))
  have f3 := zgn (d := .lst (js.map zb5)) (zef (by have := g.jl; omega) fun x hx => zoR hl (g.j x hx))
  have f4 := zgn (d := .lst (us.map zd6)) (zef (by have := g.ul; omega) fun x hx => zoQ)
  have f5 := zgn (d := .lst (ls.map zcj)) (zef (by have := g.ll; omega) fun x hx => znv)
  have f6 := zgn (d := .lst (ks.map zbA)) (zef (by have := g.kl; omega) fun x hx => zlR hl (g.k x hx))
  obtain ⟨z, z', ho⟩ := zlZ (bs := bs) (ss := ss) (us := us) (ls := ls) (ks := ks) (h := h) g.jl fun j hj => Nat.le_trans (g.j j hj).ln hl
  have key : ∀ (G : FS) (ρ' : zbx), G (some (.obj "Shop" []) :: [some (.sh (.lst (bs.map zbg))), some (.sh (.lst (ss.map zb1))), some (.sh (.lst (js.map zb5))), some (.sh (.lst (us.map zd6))), some (.sh (.lst (ls.map zcj))), some (.sh (.lst (ks.map zbA))), some (.sh (.int h)), none, none, none]) = some (.nx, ob bs ss js us ls ks h (jkv js) :: ρ') ->
      zho 3 "Shop" G [.lst (bs.map zbg), .lst (ss.map zb1), .lst (js.map zb5), .lst (us.map zd6), .lst (ls.map zcj), .lst (ks.map zbA), .int h] = some (zpO bs ss js us ls ks h) := fun G ρ' e => by
    unfold zho
    show (G (some (.obj "Shop" []) :: [some (.sh (.lst (bs.map zbg))), some (.sh (.lst (ss.map zb1))), some (.sh (.lst (js.map zb5))), some (.sh (.lst (us.map zd6))), some (.sh (.lst (ls.map zcj))), some (.sh (.lst (ks.map zbA))), some (.sh (.int h)), none, none, none])).bind _ = _
    rw [e]
    rfl
  refine key _ (r9 bs ss js us ls ks h z z') ((zjV (zb2 rfl (zko g ml))).trans ?_)
  show zaS _ _ (some (.obj "Shop" []) :: r9 bs ss js us ls ks h none none) = _
  refine (zcN (zbU (b := false) rfl)).trans (znI ?_)
  refine (zcS 0 rfl rfl (zb2 rfl f1)).trans ?_
  refine (zcS 1 rfl rfl (zb2 rfl f2)).trans ?_
  refine (zcS 2 rfl rfl (zb2 rfl f3)).trans ?_
  refine (zcS 3 rfl rfl (zb2 rfl f4)).trans ?_
  refine (zcS 4 rfl rfl (zb2 rfl f5)).trans ?_
  refine (zcS 5 rfl rfl (zb2 rfl f6)).trans ?_
  refine (zcS 6 rfl rfl (d := .int h) rfl).trans ?_
  refine (zcS 7 rfl rfl (zk5 (f := zbg) (nm := (·.nm)) (xs := bs) (fun x => ⟨_, rfl⟩) (zgK 7 0 rfl rfl) (by have := g.bl.2; omega) g.bn)).trans ?_
  refine (zcS 8 rfl rfl (zk5 (f := zb1) (nm := (·.nm)) (xs := ss) (fun x => ⟨_, rfl⟩) (zgK 8 1 rfl rfl) (by have := g.sl.2; omega) g.sn)).trans ?_
  refine (zcS 9 rfl rfl (zmw (us := us) (zgK 9 3 rfl rfl) (by have := g.ul; omega) g.un)).trans ?_
  have hno : (zkY bs ss js us ls ks h).lookup ("job_by_step" : Str) = none := zgN (by rw [zfD]; decide +kernel)
  have hle : (zkY bs ss js us ls ks h).length < 100 := by simp [zkY]
  have e1 : zoi "Shop" "job_by_step" 0 (some (.obj "Shop" (zkY bs ss js us ls ks h)) :: r9 bs ss js us ls ks h none none) = some (.nx, ob bs ss js us ls ks h [] :: r9 bs ss js us ls ks h none none) := by
    simp only [zoi, List.getElem?_cons_zero, hno, hle, and_self, if_true, List.set_cons_zero]
  have e2 : itF (zfY "Shop" "jobs" 0) (ob bs ss js us ls ks h [] :: r9 bs ss js us ls ks h none none) = some (js.map zb5) := by
    have lk : (zkY bs ss js us ls ks h).lookup ("jobs" : Str) = some (.lst (js.map zb5)) := zgM (i := 2) (by rw [zfD]; exact zkv zih 10) rfl
    have n1 : ("jobs" : Str) ≠ "job_by_step" := by decide +kernel
    have e : zfY "Shop" "jobs" 0 (ob bs ss js us ls ks h [] :: r9 bs ss js us ls ks h none none) = some (.lst (js.map zb5)) := by
      show (if some ("Shop" : Str) = some ("Shop" : Str) then (if ("jobs" : Str) = "job_by_step" then none else (zkY bs ss js us ls ks h).lookup ("jobs" : Str)) else none) = _
      rw [if_pos rfl, if_neg n1, lk]
    unfold itF
    rw [e]; rfl
  show zaS (zoi "Shop" "job_by_step" 0) (zgH (itF (zfY "Shop" "jobs" 0)) (zbK 9) (zgH (itF (b2 ixD (vSh 9) (vC (.int 4)))) (zbK 10) (zcR "Shop" "job_by_step" 0 (vSh 10) (vSh 9)))) (some (.obj "Shop" (zkY bs ss js us ls ks h)) :: r9 bs ss js us ls ks h none none) = _
  unfold zaS
  rw [e1, Option.bind_some]
  show zgH _ _ _ _ = _
  unfold zgH
  rw [e2, Option.bind_some]
  exact ho
end
end Law
end
section
namespace Law
open PySem L2
theorem zdB {a b c d e f : D} {h : Int} {p : Str} (hp : zaA [a, b, c, d, e, f, .int h] = some (.str p)) (hl : p.length <= 1000) : zax [.lst [a, b, c, d, e, f], .int h] = some (.str p) := by
  have key : ∀ (G : FS) (ρ' : zbx), G (some (.obj "Shop" []) :: [some (.sh a), some (.sh b), some (.sh c), some (.sh d), some (.sh e), some (.sh f), some (.sh (.int h)), none, none, none]) = some (.rt (xm p), ρ') -> zho 3 "Shop" G [a, b, c, d, e, f, .int h] = some (xm p) := fun G ρ' e => by
    unfold zho
    show (G (some (.obj "Shop" []) :: [some (.sh a), some (.sh b), some (.sh c), some (.sh d), some (.sh _), some (.sh f), some (.sh (.int h)), none, none, none])).bind _ = _
    rw [e]
    rfl
  have hi : zaF [a, b, c, d, e, f, .int h] = some (xm p) := by
    refine key _ [some (.obj "Shop" []), some (.sh a), some (.sh b), some (.sh c), some (.sh d), some (.sh e), some (.sh f), some (.sh (.int h)), some (.sh (.str p)), none, none] ((zjV (zb2 rfl hp)).trans (zc6 (d := xm p) (zbU (b := true) rfl) ?_))
    show zdV (zab (vSh 8) zag) _ = _
    unfold zdV
    show (if p.length <= 1000 then _ else _) = _
    rw [if_pos hl]
    rfl
  show (zaF [a, b, c, d, e, f, .int h]).bind zp0 = _
  rw [hi]
  rfl
theorem zj8 {bs : List BenchT} {ss : List StepT} {js : List JobT} {us : List SetT} {ls : List LinkT} {ks : List StockT} {h : Int} (g : Good bs ss js us ls ks h) (ml : (js.flatMap (·.ms)).length <= 300) :
    zax [.lst [.lst (bs.map zbg), .lst (ss.map zb1), .lst (js.map zb5), .lst (us.map zd6), .lst (ls.map zcj), .lst (ks.map zbA)], .int h] = some (.str "none") := by
  show (zaF [.lst (bs.map zbg), .lst (ss.map zb1), .lst (js.map zb5), .lst (us.map zd6), .lst (ls.map zcj), .lst (ks.map zbA), .int h]).bind zp0 = _
  rw [znN g ml]
  rfl
end Law
end
section
namespace Law
open PySem L2
def LO : List D := [.non, .int 5, .bl true, .lst [.str "sa"], .tup [.str "s"], .dk [], .str "", .str "sA", .str "s1", .str "abcdefghi", .str "s ", .tup [.str "sa", .str "sb"]]
def LB (o : D) : List D := [.lst [.tup [.str "ba", .lst []], .tup [.str "bb", .lst []], .tup [.str "bc", .lst []], .tup [.str "bd", .lst []], .tup [.str "be", .lst []], .tup [.str "bf", .lst []], .tup [.str "bg", .lst []], .tup [.str "bh", .lst []], .tup [.str "bi", .lst []]],
  .lst [.tup [.str "ba", .lst [.tup [.int 0, .int 1], .tup [.int 2, .int 3], .tup [.int 4, .int 5], .tup [.int 6, .int 7], .tup [.int 8, .int 9], .tup [.int 10, .int 11], .tup [.int 12, .int 13], .tup [.int 14, .int 15], .tup [.int 16, .int 17], .tup [.int 18, .int 19], .tup [.int 20, .int 21]]], .tup [.str "bb", .lst []], .tup [.str "bc", .lst []], .tup [.str "bd", .lst []], .tup [.str "be", .lst []]],
  .lst [.tup [.str "ba", .lst []], .tup [.str "bb", .lst []], .tup [.str "bc", .lst []], .tup [.str "bd", .lst []], .tup [.str "be", .lst []], .tup [.str "ba", .lst [.tup [.int 3, .int 4]]]],
  .lst [.tup [.str "ba", .lst []], .tup [.str "bb", .lst []], .tup [.str "bc", .lst []], .tup [.str "bd", .lst []], .tup [o, .lst []]],
  .lst [.tup [o, .lst [.tup [.int 0, .int 1]]], .tup [.str "ba", .lst []], .tup [.str "bb", .lst []], .tup [.str "bc", .lst []], .tup [.str "bd", .lst []], .tup [.str "be", .lst []]],
  .lst [.tup [.str "ba", .lst []], .tup [.str "bb", .lst []], .tup [.str "bc", .lst []], .tup [.str "bd", .lst []], .tup [.str "be", .lst [.lst [.int 0, .int 1]]]]]
def LS (o : D) : List D := [.lst [.tup [.str "sa", .str "p", .lst [.tup [.str "ba", .int 1]]], .tup [.str "sb", .str "p", .lst [.tup [.str "ba", .int 1]]], .tup [.str "sc", .str "p", .lst [.tup [.str "ba", .int 1]]], .tup [.str "sd", .str "p", .lst [.tup [.str "ba", .int 1]]], .tup [.str "se", .str "p", .lst [.tup [.str "ba", .int 1]]], .tup [.str "sf", .str "p", .lst [.tup [.str "ba", .int 1]]], .tup [.str "sg", .str "p", .lst [.tup [.str "ba", .int 1]]], .tup [.str "sh", .str "p", .lst [.tup [.str "ba", .int 1]]], .tup [.str "si", .str "p", .lst [.tup [.str "ba", .int 1]]], .tup [.str "sj", .str "p", .lst [.tup [.str "ba", .int 1]]], .tup [.str "sk", .str "p", .lst [.tup [.str "ba", .int 1]]], .tup [.str "sl", .str "p", .lst [.tup [.str "ba", .int 1]]], .tup [.str "sm", .str "p", .lst [.tup [.str "ba", .int 1]]], .tup [.str "sn", .str "p", .lst [.tup [.str "ba", .int 1]]], .tup [.str "so", .str "p", .lst [.tup [.str "ba", .int 1]]], .tup [.str "sp", .str "p", .lst [.tup [.str "ba", .int 1]]], .tup [.str "sq", .str "p", .lst [.tup [.str "ba", .int 1]]], .tup [.str "sr", .str "p", .lst [.tup [.str "ba", .int 1]]], .tup [.str "ss", .str "p", .lst [.tup [.str "ba", .int 1]]], .tup [.str "st", .str "p", .lst [.tup [.str "ba", .int 1]]], .tup [.str "su", .str "p", .lst [.tup [.str "ba", .int 1]]], .tup [.str "sv", .str "p", .lst [.tup [.str "ba", .int 1]]], .tup [.str "sw", .str "p", .lst [.tup [.str "ba", .int 1]]], .tup [.str "sx", .str "p", .lst [.tup [.str "ba", .int 1]]], .tup [.str "sy", .str "p", .lst [.tup [.str "ba", .int 1]]], .tup [.str "sz", .str "p", .lst [.tup [.str "ba", .int 1]]], .tup [.str "sax", .str "p", .lst [.tup [.str "ba", .int 1]]], .tup [.str "sbx", .str "p", .lst [.tup [.str "ba", .int 1]]], .tup [.str "scx", .str "p", .lst [.tup [.str "ba", .int 1]]], .tup [.str "sdx", .str "p", .lst [.tup [.str "ba", .int 1]]], .tup [.str "sex", .str "p", .lst [.tup [.str "ba", .int 1]]], .tup [.str "sfx", .str "p", .lst [.tup [.str "ba", .int 1]]], .tup [.str "sgx", .str "p", .lst [.tup [.str "ba", .int 1]]], .tup [.str "shx", .str "p", .lst [.tup [.str "ba", .int 1]]], .tup [.str "six", .str "p", .lst [.tup [.str "ba", .int 1]]], .tup [.str "sjx", .str "p", .lst [.tup [.str "ba", .int 1]]], .tup [.str "skx", .str "p", .lst [.tup [.str "ba", .int 1]]], .tup [.str "slx", .str "p", .lst [.tup [.str "ba", .int 1]]], .tup [.str "smx", .str "p", .lst [.tup [.str "ba", .int 1]]], .tup [.str "snx", .str "p", .lst [.tup [.str "ba", .int 1]]], .tup [.str "sox", .str "p", .lst [.tup [.str "ba", .int 1]]]],
  .lst [.tup [.str "sa", .str "p", .lst [.tup [.str "ba", .int 1]]], .tup [.str "sb", .str "q", .lst [.tup [.str "ba", .int 1], .tup [.str "bb", .int 1], .tup [.str "bc", .int 1], .tup [.str "bd", .int 1], .tup [.str "be", .int 1]]]],
  .lst [.tup [.str "sa", .str "p", .lst [.tup [.str "ba", .int 1]]], .tup [.str "sa", .str "q", .lst [.tup [.str "bb", .int 2]]]],
  .lst [.tup [.str "sa", .str "p", .lst [.tup [.str "ba", .int 1]]], .tup [.str "sb", .str "q", .lst [.tup [.str "bb", .int 1], .tup [.str "bb", .int 2]]]],
  .lst [.tup [.str "sa", .str "p", .lst [.tup [.str "ba", .int 1]]], .tup [o, .str "q", .lst [.tup [.str "bb", .int 1]]]],
  .lst [.tup [.str "sa", .str "p", .lst [.tup [.str "ba", .int 1]]], .tup [.str "sb", o, .lst [.tup [.str "bb", .int 1]]]],
  .lst [.tup [.str "sa", .str "p", .lst [.tup [.str "ba", .int 1]]], .tup [.str "sb", .str "q", .lst [.tup [.str "bb", .int 1], .tup [o, .int 2]]]]]
def LJ (o : D) : List D := [.lst [.tup [.str "ja", .int 0, .int 9, .bl true, .lst [.str "sa"]], .tup [.str "ja", .int 1, .int 9, .bl false, .lst [.str "sb"]]],
  .lst [.tup [.str "ja", .int 0, .int 9, .bl true, .lst [.str "sa"]], .tup [o, .int 1, .int 9, .bl false, .lst [.str "sb"]]],
  .lst [.tup [.str "ja", .int 0, .int 9, .bl true, .lst [.str "sa"]], .tup [.str "jb", .int 0, .int 9, .bl false, .lst [.str "sb", .str "sa"]]],
  .lst [.tup [.str "ja", .int 0, .int 9, .bl true, .lst [.str "sb", o]]],
  .lst [.lst [.str "ja", .int 0, .int 9, .bl true, .lst [.str "sa"]]],
  .tup [.tup [.str "ja", .int 0, .int 9, .bl true, .lst [.str "sa"]]]]
def LU (o : D) : List D := [.lst [.tup [.str "ba", .str "a", .str "a", .int 1], .tup [.str "ba", .str "b", .str "a", .int 2], .tup [.str "ba", .str "c", .str "a", .int 3], .tup [.str "ba", .str "d", .str "a", .int 1], .tup [.str "ba", .str "e", .str "a", .int 2], .tup [.str "ba", .str "f", .str "a", .int 3], .tup [.str "ba", .str "g", .str "a", .int 1], .tup [.str "ba", .str "h", .str "a", .int 2], .tup [.str "ba", .str "i", .str "a", .int 3], .tup [.str "ba", .str "j", .str "a", .int 1], .tup [.str "ba", .str "k", .str "a", .int 2], .tup [.str "ba", .str "a", .str "b", .int 3], .tup [.str "ba", .str "b", .str "b", .int 1], .tup [.str "ba", .str "c", .str "b", .int 2], .tup [.str "ba", .str "d", .str "b", .int 3], .tup [.str "ba", .str "e", .str "b", .int 1], .tup [.str "ba", .str "f", .str "b", .int 2], .tup [.str "ba", .str "g", .str "b", .int 3], .tup [.str "ba", .str "h", .str "b", .int 1], .tup [.str "ba", .str "i", .str "b", .int 2], .tup [.str "ba", .str "j", .str "b", .int 3], .tup [.str "ba", .str "k", .str "b", .int 1], .tup [.str "ba", .str "a", .str "c", .int 2], .tup [.str "ba", .str "b", .str "c", .int 3], .tup [.str "ba", .str "c", .str "c", .int 1], .tup [.str "ba", .str "d", .str "c", .int 2], .tup [.str "ba", .str "e", .str "c", .int 3], .tup [.str "ba", .str "f", .str "c", .int 1], .tup [.str "ba", .str "g", .str "c", .int 2], .tup [.str "ba", .str "h", .str "c", .int 3], .tup [.str "ba", .str "i", .str "c", .int 1], .tup [.str "ba", .str "j", .str "c", .int 2], .tup [.str "ba", .str "k", .str "c", .int 3], .tup [.str "ba", .str "a", .str "d", .int 1], .tup [.str "ba", .str "b", .str "d", .int 2], .tup [.str "ba", .str "c", .str "d", .int 3], .tup [.str "ba", .str "d", .str "d", .int 1], .tup [.str "ba", .str "e", .str "d", .int 2], .tup [.str "ba", .str "f", .str "d", .int 3], .tup [.str "ba", .str "g", .str "d", .int 1], .tup [.str "ba", .str "h", .str "d", .int 2], .tup [.str "ba", .str "i", .str "d", .int 3], .tup [.str "ba", .str "j", .str "d", .int 1], .tup [.str "ba", .str "k", .str "d", .int 2], .tup [.str "ba", .str "a", .str "e", .int 3], .tup [.str "ba", .str "b", .str "e", .int 1], .tup [.str "ba", .str "c", .str "e", .int 2], .tup [.str "ba", .str "d", .str "e", .int 3], .tup [.str "ba", .str "e", .str "e", .int 1], .tup [.str "ba", .str "f", .str "e", .int 2], .tup [.str "ba", .str "g", .str "e", .int 3], .tup [.str "ba", .str "h", .str "e", .int 1], .tup [.str "ba", .str "i", .str "e", .int 2], .tup [.str "ba", .str "j", .str "e", .int 3], .tup [.str "ba", .str "k", .str "e", .int 1], .tup [.str "ba", .str "a", .str "f", .int 2], .tup [.str "ba", .str "b", .str "f", .int 3], .tup [.str "ba", .str "c", .str "f", .int 1], .tup [.str "ba", .str "d", .str "f", .int 2], .tup [.str "ba", .str "e", .str "f", .int 3], .tup [.str "ba", .str "f", .str "f", .int 1], .tup [.str "ba", .str "g", .str "f", .int 2], .tup [.str "ba", .str "h", .str "f", .int 3], .tup [.str "ba", .str "i", .str "f", .int 1], .tup [.str "ba", .str "j", .str "f", .int 2], .tup [.str "ba", .str "k", .str "f", .int 3], .tup [.str "ba", .str "a", .str "g", .int 1], .tup [.str "ba", .str "b", .str "g", .int 2], .tup [.str "ba", .str "c", .str "g", .int 3], .tup [.str "ba", .str "d", .str "g", .int 1], .tup [.str "ba", .str "e", .str "g", .int 2], .tup [.str "ba", .str "f", .str "g", .int 3], .tup [.str "ba", .str "g", .str "g", .int 1], .tup [.str "ba", .str "h", .str "g", .int 2], .tup [.str "ba", .str "i", .str "g", .int 3], .tup [.str "ba", .str "j", .str "g", .int 1], .tup [.str "ba", .str "k", .str "g", .int 2], .tup [.str "ba", .str "a", .str "h", .int 3], .tup [.str "ba", .str "b", .str "h", .int 1], .tup [.str "ba", .str "c", .str "h", .int 2], .tup [.str "ba", .str "d", .str "h", .int 3], .tup [.str "ba", .str "e", .str "h", .int 1], .tup [.str "ba", .str "f", .str "h", .int 2], .tup [.str "ba", .str "g", .str "h", .int 3], .tup [.str "ba", .str "h", .str "h", .int 1], .tup [.str "ba", .str "i", .str "h", .int 2], .tup [.str "ba", .str "j", .str "h", .int 3], .tup [.str "ba", .str "k", .str "h", .int 1], .tup [.str "ba", .str "a", .str "i", .int 2], .tup [.str "ba", .str "b", .str "i", .int 3], .tup [.str "ba", .str "c", .str "i", .int 1], .tup [.str "ba", .str "d", .str "i", .int 2], .tup [.str "ba", .str "e", .str "i", .int 3], .tup [.str "ba", .str "f", .str "i", .int 1], .tup [.str "ba", .str "g", .str "i", .int 2], .tup [.str "ba", .str "h", .str "i", .int 3], .tup [.str "ba", .str "i", .str "i", .int 1], .tup [.str "ba", .str "j", .str "i", .int 2], .tup [.str "ba", .str "k", .str "i", .int 3], .tup [.str "ba", .str "a", .str "j", .int 1], .tup [.str "ba", .str "b", .str "j", .int 2]],
  .lst [.tup [.str "ba", .str "p", .str "q", .int 1], .tup [.str "ba", .str "p", .str "q", .int 2]],
  .lst [.tup [.str "ba", .str "p", .str "q", .int 1], .tup [o, .str "p", .str "q", .int 1]],
  .lst [.tup [.str "ba", .str "p", .str "q", .int 1], .tup [.str "ba", o, .str "q", .int 1]],
  .lst [.tup [.str "ba", .str "p", .str "q", .int 1], .tup [.str "ba", .str "p", o, .int 1]],
  .lst [.lst [.str "ba", .str "p", .str "q", .int 1]],
  .tup [.tup [.str "ba", .str "p", .str "q", .int 1]]]
def LL (o f : D) : List D := [.lst [.tup [.str "sa", .str "sb", f]],
  .lst [.tup [.str "sa", .str "sb", .int (-1)]],
  .lst [.tup [.str "sa", .str "sb", .bl true]],
  .lst [.tup [.str "sa", .str "sb", .non]],
  .lst [.tup [.str "sa", .str "sb", .str "0"]],
  .lst [.tup [.str "sa", .str "sb", .int 1], .tup [.str "sa", .str "sb", .int 1]],
  .lst [.tup [.str "sa", .str "sb", .int 1], .tup [.str "sa", .str "sb", .int 2]],
  .lst [.tup [.str "sa", o, .int 1]],
  .lst [.tup [o, .str "sa", .int 1]],
  .lst [.lst [.str "sa", .str "sb", .int 1]],
  .tup [.tup [.str "sa", .str "sb", .int 1]]]
def LK (o : D) : List D := [.lst [.tup [.str "ta", .int 0, .int 1, .lst [], .lst []], .tup [.str "tb", .int 0, .int 1, .lst [], .lst []], .tup [.str "tc", .int 0, .int 1, .lst [], .lst []], .tup [.str "td", .int 0, .int 1, .lst [], .lst []], .tup [.str "te", .int 0, .int 1, .lst [], .lst []], .tup [.str "tf", .int 0, .int 1, .lst [], .lst []], .tup [.str "tg", .int 0, .int 1, .lst [], .lst []]],
  .lst [.tup [.str "ta", .int 1, .int 2, .lst [.tup [.str "sa", .int 1]], .lst []], .tup [.str "ta", .int 0, .int 2, .lst [], .lst [.tup [.str "sb", .int 1]]]],
  .lst [.tup [.str "ta", .int 1, .int 2, .lst [.tup [.str "sa", .int 1], .tup [.str "sa", .int 2]], .lst []]],
  .lst [.tup [.str "ta", .int 1, .int 2, .lst [], .lst [.tup [.str "sb", .int 2], .tup [.str "sb", .int 1]]]],
  .lst [.tup [.str "ta", .int 1, .int 2, .lst [.tup [.str "sa", .int 1]], .lst []], .tup [o, .int 0, .int 1, .lst [], .lst []]],
  .lst [.tup [.str "ta", .int 1, .int 2, .lst [.tup [.str "sa", .int 1], .tup [o, .int 1]], .lst []]],
  .lst [.lst [.str "ta", .int 1, .int 2, .lst [.tup [.str "sa", .int 1]], .lst []]],
  .lst [.tup [.str "ta", .int 1, .int 2, .lst [.lst [.str "sa", .int 1]], .lst []]]]
def isF : Option D -> Bool
  | some (.bl false) => true
  | _ => false
theorem zgk {x : Option D} (h : isF x = true) : x = some (.bl false) := by
  unfold isF at h
  split at h
  · rfl
  · cases h
def nB : D := .lst [.str "ba", .str "bb", .str "bc", .str "bd", .str "be"]
def nS : D := .lst [.str "sa", .str "sb"]
noncomputable def okB (o : D) (h : Nat) : Bool := (LB o).all fun b => isF (zaV [b, .int (h : Int)])
noncomputable def okS (o : D) (h : Nat) : Bool := (LS o).all fun b => isF (zba [b, nB, .int (h : Int)])
noncomputable def okJ (o : D) (h : Nat) : Bool := (LJ o).all fun b => isF (zbm [b, nS, .int (h : Int)])
noncomputable def okU (o : D) (h : Nat) : Bool := (LU o).all fun b => isF (za0 [b, nB, .int (h : Int)])
noncomputable def okL (o : D) (h : Nat) : Bool := (LL o (.int ((h : Int) + 1))).all fun b => isF (zbb [b, nS, .int (h : Int)])
noncomputable def okK (o : D) : Bool := (LK o).all fun b => isF (za8 [b, nS])
end Law
end
section
namespace Law
open PySem L2
theorem zrX : (LO.all fun o => (List.range 39).all fun h => okB o (22 + h)) = true := by decide +kernel
end Law
end
section
namespace Law
open PySem L2
theorem zrT : (LO.all fun o => (List.range 39).all fun h => okS o (22 + h)) = true := by decide +kernel
end Law
end
section
namespace Law
open PySem L2
theorem zrW : (LO.all fun o => (List.range 39).all fun h => okJ o (22 + h)) = true := by decide +kernel
end Law
end
section
namespace Law
open PySem L2
theorem zrS : (LO.all fun o => (List.range 39).all fun h => okU o (22 + h)) = true := by decide +kernel
end Law
end
section
namespace Law
open PySem L2
theorem zrU : (LO.all fun o => (List.range 39).all fun h => okL o (22 + h)) = true := by decide +kernel
end Law
end
section
namespace Law
open PySem L2
theorem zrV : (LO.all fun o => okK o) = true := by decide +kernel
end Law
end
section
namespace Law
open PySem L2
theorem zdL {x M : Int} (h : 0 < M) : zft (.int x) (.int M) = some (.int (x % M)) := if_pos h
theorem zqD {l : List D} {i : Int} {r : Nat} {d : D} (h : i = r) (hd : l[r]? = some d) : ixD (.lst l) (.int i) = some d := by
  subst h
  exact (ixL l r).trans hd
theorem zlN {x : Int} {M : Nat} (h : 0 < M) : x % (M : Int) = ((x % (M : Int)).toNat : Int) /\ (x % (M : Int)).toNat < M := by
  have h1 := Int.emod_nonneg x (show (M : Int) ≠ 0 by omega)
  have h2 := Int.emod_lt_of_pos x (show (0 : Int) < M by omega)
  omega
theorem znw {l : List D} {x : Int} {M : Nat} (h : 0 < M) (hl : l.length = M) : ∃ d, d ∈ l /\ ixD (.lst l) (.int (x % (M : Int))) = some d := by
  obtain ⟨h1, h2⟩ := zlN (x := x) h
  have h3 : (x % (M : Int)).toNat < l.length := by rw [hl]; exact h2
  exact ⟨l[(x % (M : Int)).toNat], List.getElem_mem h3, zqD h1 (List.getElem?_eq_getElem h3)⟩
theorem zpc (x : Int) : ∃ o, o ∈ LO /\ zbI [.int x] = some o := by
  obtain ⟨d, hd, he⟩ := znw (l := LO) (x := x) (M := 12) (by decide) rfl
  refine ⟨d, hd, ?_⟩
  exact za5 [some (.sh (.int x)), none] rfl ((zaR (d := .lst LO) (by kernel_rfl)).trans (za2 (zcf (x := .lst LO) rfl (zcf rfl rfl (zdL (by decide))) he)))
def zgp (n : Nat) : D := .lst ((List.range n).map fun k : Nat => .tup [.int (2 * (k : Int)), .int (2 * (k : Int) + 1)])
theorem zix (o : D) (x : Int) : ∃ b, b ∈ LB o /\ zaJ [o, .int x] = some b := by
  obtain ⟨d, hd, he⟩ := znw (l := LB o) (x := x) (M := 6) (by decide) rfl
  refine ⟨d, hd, ?_⟩
  exact za5 [some (.sh o), some (.sh (.int x)), none, none] rfl ((zaR (d := zgp 11) (by kernel_rfl)).trans ((zaR (d := .lst ((LB o).take 3)) (by kernel_rfl)).trans ((zaR (d := .lst ((LB o).take 5)) (by kernel_rfl)).trans (za2 (zcf (x := .lst (LB o)) (by kernel_rfl) (zcf rfl rfl (zdL (by decide))) he)))))
def zqP : D := .tup [.str "sa", .str "p", .lst [.tup [.str "ba", .int 1]]]
theorem zj4 (o : D) (x : Int) : ∃ b, b ∈ LS o /\ zaP [o, .int x] = some b := by
  obtain ⟨d, hd, he⟩ := znw (l := LS o) (x := x) (M := 7) (by decide) rfl
  refine ⟨d, hd, ?_⟩
  exact za5 [some (.sh o), some (.sh (.int x)), none, none] rfl ((zaR (d := zqP) (by kernel_rfl)).trans ((zaR (d := .lst ((LS o).take 2)) (by kernel_rfl)).trans ((zaR (d := .lst ((LS o).take 4)) (by kernel_rfl)).trans ((zaR (d := .lst ((LS o).take 6)) (by kernel_rfl)).trans (za2 (zcf (x := .lst (LS o)) (by kernel_rfl) (zcf rfl rfl (zdL (by decide))) he))))))
theorem zmb (o : D) (x : Int) : ∃ b, b ∈ LJ o /\ zaW [o, .int x] = some b := by
  obtain ⟨d, hd, he⟩ := znw (l := LJ o) (x := x) (M := 6) (by decide) rfl
  refine ⟨d, hd, ?_⟩
  exact za5 [some (.sh o), some (.sh (.int x)), none, none] rfl ((zaR (d := .tup [.str "ja", .int 0, .int 9, .bl true, .lst [.str "sa"]]) (by kernel_rfl)).trans ((zaR (d := .lst ((LJ o).take 2)) (by kernel_rfl)).trans ((zaR (d := .lst ((LJ o).take 4)) (by kernel_rfl)).trans (za2 (zcf (x := .lst (LJ o)) (by kernel_rfl) (zcf rfl rfl (zdL (by decide))) he)))))
theorem zjk (o : D) (x : Int) : ∃ b, b ∈ LU o /\ zaN [o, .int x] = some b := by
  obtain ⟨d, hd, he⟩ := znw (l := LU o) (x := x) (M := 7) (by decide) rfl
  refine ⟨d, hd, ?_⟩
  exact za5 [some (.sh o), some (.sh (.int x)), none, none] rfl ((zaR (d := .tup [.str "ba", .str "p", .str "q", .int 1]) (by kernel_rfl)).trans ((zaR (d := .lst ((LU o).take 3)) (by kernel_rfl)).trans ((zaR (d := .lst ((LU o).take 5)) (by kernel_rfl)).trans (za2 (zcf (x := .lst (LU o)) (by kernel_rfl) (zcf rfl rfl (zdL (by decide))) he)))))
theorem zkG (o f : D) (x : Int) : ∃ b, b ∈ LL o f /\ zaQ [o, f, .int x] = some b := by
  obtain ⟨d, hd, he⟩ := znw (l := LL o f) (x := x) (M := 11) (by decide) rfl
  refine ⟨d, hd, ?_⟩
  exact za5 [some (.sh o), some (.sh f), some (.sh (.int x)), none] rfl ((zaR (d := .lst ((LL o f).take 5)) (by kernel_rfl)).trans ((zaR (d := .lst ((LL o f).take 9)) (by kernel_rfl)).trans (za2 (zcf (x := .lst (LL o f)) (by kernel_rfl) (zcf rfl rfl (zdL (by decide))) he))))
theorem zji (o : D) (x : Int) : ∃ b, b ∈ LK o /\ zaM [o, .int x] = some b := by
  obtain ⟨d, hd, he⟩ := znw (l := LK o) (x := x) (M := 8) (by decide) rfl
  refine ⟨d, hd, ?_⟩
  exact za5 [some (.sh o), some (.sh (.int x)), none, none] rfl ((zaR (d := .tup [.str "ta", .int 1, .int 2, .lst [.tup [.str "sa", .int 1]], .lst []]) (by kernel_rfl)).trans ((zaR (d := .lst ((LK o).take 2)) (by kernel_rfl)).trans ((zaR (d := .lst ((LK o).take 4)) (by kernel_rfl)).trans ((zaR (d := .lst ((LK o).take 6)) (by kernel_rfl)).trans (za2 (zcf (x := .lst (LK o)) (by kernel_rfl) (zcf rfl rfl (zdL (by decide))) he))))))
end Law
end
section
namespace Law
open PySem L2
def ab0 : List BenchT := [⟨"ba", []⟩, ⟨"bb", []⟩, ⟨"bc", []⟩, ⟨"bd", []⟩, ⟨"be", []⟩, ⟨"bf", []⟩, ⟨"bg", []⟩, ⟨"bh", []⟩]
def zpS : List BenchT := [⟨"ba", []⟩, ⟨"bb", []⟩, ⟨"bc", []⟩, ⟨"bd", []⟩, ⟨"be", []⟩, ⟨"bf", []⟩, ⟨"bg", []⟩, ⟨"abcdefgh", [(0, 1), (2, 3), (4, 5), (6, 7), (8, 9), (10, 11), (12, 13), (14, 15), (16, 17), (18, 19)]⟩]
def as0 : List StepT := [⟨"sa", "p", [("ba", 1)]⟩, ⟨"sb", "p", [("ba", 1)]⟩, ⟨"sc", "p", [("ba", 1)]⟩, ⟨"sd", "p", [("ba", 1)]⟩, ⟨"se", "p", [("ba", 1)]⟩, ⟨"sf", "p", [("ba", 1)]⟩, ⟨"sg", "p", [("ba", 1)]⟩, ⟨"sh", "p", [("ba", 1)]⟩, ⟨"si", "p", [("ba", 1)]⟩, ⟨"sj", "p", [("ba", 1)]⟩, ⟨"sk", "p", [("ba", 1)]⟩, ⟨"sl", "p", [("ba", 1)]⟩, ⟨"sm", "p", [("ba", 1)]⟩, ⟨"sn", "p", [("ba", 1)]⟩, ⟨"so", "p", [("ba", 1)]⟩, ⟨"sp", "p", [("ba", 1)]⟩, ⟨"sq", "p", [("ba", 1)]⟩, ⟨"sr", "p", [("ba", 1)]⟩, ⟨"ss", "p", [("ba", 1)]⟩, ⟨"st", "p", [("ba", 1)]⟩, ⟨"su", "p", [("ba", 1)]⟩, ⟨"sv", "p", [("ba", 1)]⟩, ⟨"sw", "p", [("ba", 1)]⟩, ⟨"sx", "p", [("ba", 1)]⟩, ⟨"sy", "p", [("ba", 1)]⟩, ⟨"sz", "p", [("ba", 1)]⟩, ⟨"sax", "p", [("ba", 1)]⟩, ⟨"sbx", "p", [("ba", 1)]⟩, ⟨"scx", "p", [("ba", 1)]⟩, ⟨"sdx", "p", [("ba", 1)]⟩, ⟨"sex", "p", [("ba", 1)]⟩, ⟨"sfx", "p", [("ba", 1)]⟩, ⟨"sgx", "p", [("ba", 1)]⟩, ⟨"shx", "p", [("ba", 1)]⟩, ⟨"six", "p", [("ba", 1)]⟩, ⟨"sjx", "p", [("ba", 1)]⟩, ⟨"skx", "p", [("ba", 1)]⟩, ⟨"slx", "p", [("ba", 1)]⟩, ⟨"smx", "p", [("ba", 1)]⟩, ⟨"snx", "p", [("ba", 1)]⟩]
def ass : List StepT := [⟨"sa", "p", [("ba", 1)]⟩, ⟨"sb", "p", [("ba", 1)]⟩, ⟨"sc", "p", [("ba", 1)]⟩, ⟨"sd", "p", [("ba", 1)]⟩, ⟨"se", "p", [("ba", 1)]⟩, ⟨"sf", "p", [("ba", 1)]⟩, ⟨"sg", "p", [("ba", 1)]⟩, ⟨"sh", "p", [("ba", 1)]⟩, ⟨"si", "p", [("ba", 1)]⟩, ⟨"sj", "p", [("ba", 1)]⟩, ⟨"sk", "p", [("ba", 1)]⟩, ⟨"sl", "p", [("ba", 1)]⟩, ⟨"sm", "p", [("ba", 1)]⟩, ⟨"sn", "p", [("ba", 1)]⟩, ⟨"so", "p", [("ba", 1)]⟩, ⟨"sp", "p", [("ba", 1)]⟩, ⟨"sq", "p", [("ba", 1)]⟩, ⟨"sr", "p", [("ba", 1)]⟩, ⟨"ss", "p", [("ba", 1)]⟩, ⟨"st", "p", [("ba", 1)]⟩, ⟨"su", "p", [("ba", 1)]⟩, ⟨"sv", "p", [("ba", 1)]⟩, ⟨"sw", "p", [("ba", 1)]⟩, ⟨"sx", "p", [("ba", 1)]⟩, ⟨"sy", "p", [("ba", 1)]⟩, ⟨"sz", "p", [("ba", 1)]⟩, ⟨"sax", "p", [("ba", 1)]⟩, ⟨"sbx", "p", [("ba", 1)]⟩, ⟨"scx", "p", [("ba", 1)]⟩, ⟨"sdx", "p", [("ba", 1)]⟩, ⟨"sex", "p", [("ba", 1)]⟩, ⟨"sfx", "p", [("ba", 1)]⟩, ⟨"sgx", "p", [("ba", 1)]⟩, ⟨"shx", "p", [("ba", 1)]⟩, ⟨"six", "p", [("ba", 1)]⟩, ⟨"sjx", "p", [("ba", 1)]⟩, ⟨"skx", "p", [("ba", 1)]⟩, ⟨"slx", "p", [("ba", 1)]⟩, ⟨"smx", "p", [("ba", 1)]⟩, ⟨"zzzzzzzz", "yyyyyyyy", [("ba", 1), ("bb", 1), ("bc", 1), ("bd", 1)]⟩]
def aus : List SetT := [⟨"ba", "a", "a", 1⟩, ⟨"ba", "b", "a", 2⟩, ⟨"ba", "c", "a", 3⟩, ⟨"ba", "d", "a", 1⟩, ⟨"ba", "e", "a", 2⟩, ⟨"ba", "f", "a", 3⟩, ⟨"ba", "g", "a", 1⟩, ⟨"ba", "h", "a", 2⟩, ⟨"ba", "i", "a", 3⟩, ⟨"ba", "j", "a", 1⟩, ⟨"ba", "k", "a", 2⟩, ⟨"ba", "a", "b", 3⟩, ⟨"ba", "b", "b", 1⟩, ⟨"ba", "c", "b", 2⟩, ⟨"ba", "d", "b", 3⟩, ⟨"ba", "e", "b", 1⟩, ⟨"ba", "f", "b", 2⟩, ⟨"ba", "g", "b", 3⟩, ⟨"ba", "h", "b", 1⟩, ⟨"ba", "i", "b", 2⟩, ⟨"ba", "j", "b", 3⟩, ⟨"ba", "k", "b", 1⟩, ⟨"ba", "a", "c", 2⟩, ⟨"ba", "b", "c", 3⟩, ⟨"ba", "c", "c", 1⟩, ⟨"ba", "d", "c", 2⟩, ⟨"ba", "e", "c", 3⟩, ⟨"ba", "f", "c", 1⟩, ⟨"ba", "g", "c", 2⟩, ⟨"ba", "h", "c", 3⟩, ⟨"ba", "i", "c", 1⟩, ⟨"ba", "j", "c", 2⟩, ⟨"ba", "k", "c", 3⟩, ⟨"ba", "a", "d", 1⟩, ⟨"ba", "b", "d", 2⟩, ⟨"ba", "c", "d", 3⟩, ⟨"ba", "d", "d", 1⟩, ⟨"ba", "e", "d", 2⟩, ⟨"ba", "f", "d", 3⟩, ⟨"ba", "g", "d", 1⟩, ⟨"ba", "h", "d", 2⟩, ⟨"ba", "i", "d", 3⟩, ⟨"ba", "j", "d", 1⟩, ⟨"ba", "k", "d", 2⟩, ⟨"ba", "a", "e", 3⟩, ⟨"ba", "b", "e", 1⟩, ⟨"ba", "c", "e", 2⟩, ⟨"ba", "d", "e", 3⟩, ⟨"ba", "e", "e", 1⟩, ⟨"ba", "f", "e", 2⟩, ⟨"ba", "g", "e", 3⟩, ⟨"ba", "h", "e", 1⟩, ⟨"ba", "i", "e", 2⟩, ⟨"ba", "j", "e", 3⟩, ⟨"ba", "k", "e", 1⟩, ⟨"ba", "a", "f", 2⟩, ⟨"ba", "b", "f", 3⟩, ⟨"ba", "c", "f", 1⟩, ⟨"ba", "d", "f", 2⟩, ⟨"ba", "e", "f", 3⟩, ⟨"ba", "f", "f", 1⟩, ⟨"ba", "g", "f", 2⟩, ⟨"ba", "h", "f", 3⟩, ⟨"ba", "i", "f", 1⟩, ⟨"ba", "j", "f", 2⟩, ⟨"ba", "k", "f", 3⟩, ⟨"ba", "a", "g", 1⟩, ⟨"ba", "b", "g", 2⟩, ⟨"ba", "c", "g", 3⟩, ⟨"ba", "d", "g", 1⟩, ⟨"ba", "e", "g", 2⟩, ⟨"ba", "f", "g", 3⟩, ⟨"ba", "g", "g", 1⟩, ⟨"ba", "h", "g", 2⟩, ⟨"ba", "i", "g", 3⟩, ⟨"ba", "j", "g", 1⟩, ⟨"ba", "k", "g", 2⟩, ⟨"ba", "a", "h", 3⟩, ⟨"ba", "b", "h", 1⟩, ⟨"ba", "c", "h", 2⟩, ⟨"ba", "d", "h", 3⟩, ⟨"ba", "e", "h", 1⟩, ⟨"ba", "f", "h", 2⟩, ⟨"ba", "g", "h", 3⟩, ⟨"ba", "h", "h", 1⟩, ⟨"ba", "i", "h", 2⟩, ⟨"ba", "j", "h", 3⟩, ⟨"ba", "k", "h", 1⟩, ⟨"ba", "a", "i", 2⟩, ⟨"ba", "b", "i", 3⟩, ⟨"ba", "c", "i", 1⟩, ⟨"ba", "d", "i", 2⟩, ⟨"ba", "e", "i", 3⟩, ⟨"ba", "f", "i", 1⟩, ⟨"ba", "g", "i", 2⟩, ⟨"ba", "h", "i", 3⟩, ⟨"ba", "i", "i", 1⟩, ⟨"ba", "j", "i", 2⟩, ⟨"ba", "k", "i", 3⟩, ⟨"ba", "a", "j", 1⟩]
def als : List LinkT := [⟨"sb", "sa", 1⟩, ⟨"sc", "sa", 2⟩, ⟨"sd", "sa", 3⟩, ⟨"se", "sa", 4⟩, ⟨"sf", "sa", 0⟩, ⟨"sg", "sa", 1⟩, ⟨"sh", "sa", 2⟩, ⟨"si", "sa", 3⟩, ⟨"sj", "sa", 4⟩, ⟨"sk", "sa", 0⟩, ⟨"sa", "sb", 1⟩, ⟨"sc", "sb", 3⟩, ⟨"sd", "sb", 4⟩, ⟨"se", "sb", 0⟩, ⟨"sf", "sb", 1⟩, ⟨"sg", "sb", 2⟩, ⟨"sh", "sb", 3⟩, ⟨"si", "sb", 4⟩, ⟨"sj", "sb", 0⟩, ⟨"sk", "sb", 1⟩, ⟨"sa", "sc", 2⟩, ⟨"sb", "sc", 3⟩, ⟨"sd", "sc", 0⟩, ⟨"se", "sc", 1⟩, ⟨"sf", "sc", 2⟩, ⟨"sg", "sc", 3⟩, ⟨"sh", "sc", 4⟩, ⟨"si", "sc", 0⟩, ⟨"sj", "sc", 1⟩, ⟨"sk", "sc", 2⟩, ⟨"sa", "sd", 3⟩, ⟨"sb", "sd", 4⟩, ⟨"sc", "sd", 0⟩, ⟨"se", "sd", 2⟩, ⟨"sf", "sd", 3⟩, ⟨"sg", "sd", 4⟩, ⟨"sh", "sd", 0⟩, ⟨"si", "sd", 1⟩, ⟨"sj", "sd", 2⟩, ⟨"sk", "sd", 3⟩, ⟨"sa", "se", 4⟩, ⟨"sb", "se", 0⟩, ⟨"sc", "se", 1⟩, ⟨"sd", "se", 2⟩, ⟨"sf", "se", 4⟩, ⟨"sg", "se", 0⟩, ⟨"sh", "se", 1⟩, ⟨"si", "se", 2⟩, ⟨"sj", "se", 3⟩, ⟨"sk", "se", 4⟩, ⟨"sa", "sf", 0⟩, ⟨"sb", "sf", 1⟩, ⟨"sc", "sf", 2⟩, ⟨"sd", "sf", 3⟩, ⟨"se", "sf", 4⟩, ⟨"sg", "sf", 1⟩, ⟨"sh", "sf", 2⟩, ⟨"si", "sf", 3⟩, ⟨"sj", "sf", 4⟩, ⟨"sk", "sf", 0⟩, ⟨"sa", "sg", 1⟩, ⟨"sb", "sg", 2⟩, ⟨"sc", "sg", 3⟩, ⟨"sd", "sg", 4⟩, ⟨"se", "sg", 0⟩, ⟨"sf", "sg", 1⟩, ⟨"sh", "sg", 3⟩, ⟨"si", "sg", 4⟩, ⟨"sj", "sg", 0⟩, ⟨"sk", "sg", 1⟩, ⟨"sa", "sh", 2⟩, ⟨"sb", "sh", 3⟩, ⟨"sc", "sh", 4⟩, ⟨"sd", "sh", 0⟩, ⟨"se", "sh", 1⟩, ⟨"sf", "sh", 2⟩, ⟨"sg", "sh", 3⟩, ⟨"si", "sh", 0⟩, ⟨"sj", "sh", 1⟩, ⟨"sk", "sh", 2⟩, ⟨"sa", "si", 3⟩, ⟨"sb", "si", 4⟩, ⟨"sc", "si", 0⟩, ⟨"sd", "si", 1⟩, ⟨"se", "si", 2⟩, ⟨"sf", "si", 3⟩, ⟨"sg", "si", 4⟩, ⟨"sh", "si", 0⟩, ⟨"sj", "si", 2⟩, ⟨"sk", "si", 3⟩, ⟨"sa", "sj", 4⟩, ⟨"sb", "sj", 0⟩, ⟨"sc", "sj", 1⟩, ⟨"sd", "sj", 2⟩, ⟨"se", "sj", 3⟩, ⟨"sf", "sj", 4⟩, ⟨"sg", "sj", 0⟩, ⟨"sh", "sj", 1⟩, ⟨"si", "sj", 2⟩, ⟨"sk", "sj", 4⟩]
def aks : List StockT := [⟨"ta", 0, 1, [("sa", 1)], [("sb", 1)]⟩, ⟨"tb", 0, 1, [("sa", 1)], [("sb", 1)]⟩, ⟨"tc", 0, 1, [("sa", 1)], [("sb", 1)]⟩, ⟨"td", 0, 1, [("sa", 1)], [("sb", 1)]⟩, ⟨"te", 0, 1, [("sa", 1)], [("sb", 1)]⟩, ⟨"tf", 0, 1, [("sa", 1)], [("sb", 1)]⟩]
def ajs (h : Int) : List JobT := [⟨"ja", 0, h, true, ["sa"]⟩, ⟨"jb", 0, h, false, ["sb"]⟩, ⟨"jc", 0, h, true, ["sc"]⟩, ⟨"jd", 0, h, false, ["sd"]⟩, ⟨"je", 0, h, true, ["se"]⟩, ⟨"jf", 0, h, false, ["sf"]⟩, ⟨"jg", 0, h, true, ["sg"]⟩, ⟨"jh", 0, h, false, ["sh"]⟩, ⟨"ji", 0, h, true, ["si"]⟩, ⟨"jj", 0, h, false, ["sj"]⟩, ⟨"jk", 0, h, true, ["sk"]⟩, ⟨"jl", 0, h, false, ["sl"]⟩, ⟨"jm", 0, h, true, ["sm"]⟩, ⟨"jn", 0, h, false, ["sn"]⟩, ⟨"jo", 0, h, true, ["so"]⟩, ⟨"jp", 0, h, false, ["sp"]⟩, ⟨"jq", 0, h, true, ["sq"]⟩, ⟨"jr", 0, h, false, ["sr"]⟩, ⟨"js", 0, h, true, ["ss"]⟩, ⟨"jt", 0, h, false, ["st"]⟩, ⟨"ju", 0, h, true, ["su"]⟩, ⟨"jv", 0, h, false, ["sv"]⟩, ⟨"jw", 0, h, true, ["sw"]⟩, ⟨"jx", 0, h, false, ["sx"]⟩, ⟨"jy", 0, h, true, ["sy"]⟩, ⟨"jz", 0, h, false, ["sz"]⟩, ⟨"jay", 0, h, true, ["sax"]⟩, ⟨"jby", 0, h, false, ["sbx"]⟩, ⟨"jcy", 0, h, true, ["scx"]⟩, ⟨"jdy", 0, h, false, ["sdx"]⟩, ⟨"jey", 0, h, true, ["sex"]⟩, ⟨"jfy", 0, h, false, ["sfx"]⟩, ⟨"jgy", 0, h, true, ["sgx"]⟩, ⟨"jhy", 0, h, false, ["shx"]⟩, ⟨"jiy", 0, h, true, ["six"]⟩, ⟨"jjy", 0, h, false, ["sjx"]⟩, ⟨"jky", 0, h, true, ["skx"]⟩, ⟨"jly", 0, h, false, ["slx"]⟩, ⟨"jmy", 0, h, true, ["smx"]⟩, ⟨"jny", 0, h, false, ["zzzzzzzz"]⟩]
def aws : List (Str × Int) := [("ba", 1), ("bb", 1), ("bc", 1), ("bd", 1)]
def zrl (br : List (Int × Int)) : Bool := (List.range br.length).all fun i => match br[i]?, br[i + 1]? with
  | some p, some q => decide (p.2 < q.1)
  | _, _ => true
def zqV (b : BenchT) : Bool := zbn b.nm && decide (b.br.length <= 10) && (b.br.all fun p => decide (0 <= p.1) && decide (p.1 < p.2) && decide (p.2 <= 22)) && zrl b.br
def zp5 (bn : List Str) (m : Int) (w : Str × Int) : Bool := decide (w.1 ∈ bn) && decide (1 <= w.2) && decide (w.2 <= m)
def zqR (bn : List Str) (s : StepT) : Bool := zbn s.nm && zbn s.kd && decide (1 <= s.ws.length) && decide (s.ws.length <= 4) && s.ws.all (zp5 bn 22) && decide ((s.ws.map (·.1)).Nodup)
def zqQ (bn : List Str) (u : SetT) : Bool := decide (u.b ∈ bn) && zbn u.p && zbn u.q && decide (1 <= u.n) && decide (u.n <= 22)
def zqS (sn : List Str) (l : LinkT) : Bool := decide (l.a ∈ sn) && decide (l.b ∈ sn) && decide (l.a ≠ l.b) && decide (0 <= l.g) && decide (l.g <= 22)
def zp6 (sn : List Str) (am : List (Str × Int)) : Bool := decide (am.length <= sn.length) && am.all (zp5 sn 1000000) && decide ((am.map (·.1)).Nodup)
def zqT (sn : List Str) (k : StockT) : Bool := zbn k.nm && decide (0 <= k.lo) && decide (k.lo <= k.hi) && decide (k.hi <= 1000000) && zp6 sn k.tk && zp6 sn k.pt
def zqU (sn : List Str) (j : JobT) : Bool := zbn j.nm && decide (1 <= j.ms.length) && decide (j.ms.length <= sn.length) && j.ms.all fun m => decide (m ∈ sn)
section
variable {h : Int} (hh : 22 <= h /\ h <= 60)
include hh
theorem zmk {b : BenchT} (c : zqV b = true) : GoodB h b := by
  simp only [zqV, zrl, Bool.and_eq_true, decide_eq_true_eq, List.all_eq_true, List.mem_range] at c
  obtain ⟨⟨⟨c1, c2⟩, c3⟩, c4⟩ := c
  refine ⟨c1, c2, fun p hp => ?_, fun i p q e1 e2 => ?_⟩
  · have := c3 p hp; omega
  · have := c4 i (List.getElem?_eq_some_iff.mp e1).1
    rw [e1, e2] at this
    simpa using this
theorem zmh {bn : List Str} {s : StepT} (c : zqR bn s = true) : GoodS bn h s := by
  simp only [zqR, zp5, Bool.and_eq_true, decide_eq_true_eq, List.all_eq_true] at c
  obtain ⟨⟨⟨⟨⟨c1, c2⟩, c3⟩, c4⟩, c5⟩, c6⟩ := c
  exact ⟨c1, c2, c3, c4, fun w hw => ⟨(c5 w hw).1.1, (c5 w hw).1.2, by have := (c5 w hw).2; omega⟩, c6⟩
theorem zmg {bn : List Str} {u : SetT} (c : zqQ bn u = true) : GoodU bn h u := by
  simp only [zqQ, Bool.and_eq_true, decide_eq_true_eq] at c
  obtain ⟨⟨⟨⟨c1, c2⟩, c3⟩, c4⟩, c5⟩ := c
  exact ⟨c1, c2, c3, c4, by omega⟩
theorem zmi {sn : List Str} {l : LinkT} (c : zqS sn l = true) : GoodL sn h l := by
  simp only [zqS, Bool.and_eq_true, decide_eq_true_eq] at c
  obtain ⟨⟨⟨⟨c1, c2⟩, c3⟩, c4⟩, c5⟩ := c
  exact ⟨c1, c2, c3, c4, by omega⟩
theorem ziZ {sn : List Str} {j : JobT} (c : zqU sn j = true) (c1 : 0 <= j.ea /\ j.ea <= h) (c2 : 0 <= j.du /\ j.du <= h) : GoodJ sn h j := by
  simp only [zqU, Bool.and_eq_true, decide_eq_true_eq, List.all_eq_true] at c
  obtain ⟨⟨⟨c3, c4⟩, c5⟩, c6⟩ := c
  exact ⟨c3, c1, c2, c4, c5, c6⟩
omit hh
theorem zi0 {sn : List Str} {am : List (Str × Int)} (c : zp6 sn am = true) : GoodA sn am := by
  simp only [zp6, zp5, Bool.and_eq_true, decide_eq_true_eq, List.all_eq_true] at c
  obtain ⟨⟨c1, c2⟩, c3⟩ := c
  exact ⟨c1, fun w hw => ⟨(c2 w hw).1.1, (c2 w hw).1.2, (c2 w hw).2⟩, c3⟩
theorem zmj {sn : List Str} {k : StockT} (c : zqT sn k = true) : GoodK sn k := by
  simp only [zqT, Bool.and_eq_true, decide_eq_true_eq] at c
  obtain ⟨⟨⟨⟨⟨c1, c2⟩, c3⟩, c4⟩, c5⟩, c6⟩ := c
  exact ⟨c1, ⟨c2, c3⟩, ⟨by omega, c4⟩, zi0 c5, zi0 c6⟩
end
def zlg (bs : List BenchT) (ss : List StepT) (us : List SetT) (ls : List LinkT) (ks : List StockT) : Bool :=
  decide (1 <= bs.length) && decide (bs.length <= 8) && bs.all zqV && decide ((bs.map (·.nm)).Nodup) && decide (1 <= ss.length) && decide (ss.length <= 40) && ss.all (zqR (bs.map (·.nm))) && decide ((ss.map (·.nm)).Nodup) &&
  decide (us.length <= 100) && us.all (zqQ (bs.map (·.nm))) && decide ((us.map fun u => [u.b, u.p, u.q]).Nodup) && decide (ls.length <= 100) && ls.all (zqS (ss.map (·.nm))) && decide ((ls.map fun l => [l.a, l.b]).Nodup) &&
  decide (ks.length <= 6) && ks.all (zqT (ss.map (·.nm))) && decide ((ks.map (·.nm)).Nodup)
theorem zkU {bs : List BenchT} {ss : List StepT} {js : List JobT} {us : List SetT} {ls : List LinkT} {ks : List StockT} {h : Int} (hh : 22 <= h /\ h <= 60) (c : zlg bs ss us ls ks = true) (jl : js.length <= 40) (j : ∀ x ∈ js, GoodJ (ss.map (·.nm)) h x) (jn : (js.map (·.nm)).Nodup) (jm : (js.flatMap (·.ms)).Nodup) : Good bs ss js us ls ks h := by
  simp only [zlg, Bool.and_eq_true, decide_eq_true_eq, List.all_eq_true] at c
  obtain ⟨⟨⟨⟨⟨⟨⟨⟨⟨⟨⟨⟨⟨⟨⟨⟨c1, c2⟩, c3⟩, c4⟩, c5⟩, c6⟩, c7⟩, c8⟩, c9⟩, c10⟩, c11⟩, c12⟩, c13⟩, c14⟩, c15⟩, c16⟩, c17⟩ := c
  exact ⟨by omega, ⟨c1, c2⟩, fun x hx => zmk hh (c3 x hx), c4, ⟨c5, c6⟩, fun x hx => zmh hh (c7 x hx), c8, jl, j, jn, jm, c9, fun x hx => zmg hh (c10 x hx), c11, c12, fun x hx => zmi hh (c13 x hx), c14, c15, fun x hx => zmj (c16 x hx), c17⟩
def gbs : List BenchT := [⟨"ba", []⟩, ⟨"bb", []⟩, ⟨"bc", []⟩, ⟨"bd", []⟩, ⟨"be", []⟩]
def gss : List StepT := [⟨"sa", "p", [("ba", 1)]⟩, ⟨"sb", "q", [("bb", 1), ("ba", 2)]⟩]
def gjs : List JobT := [⟨"ja", 0, 9, true, ["sa"]⟩]
def gus : List SetT := [⟨"ba", "p", "q", 1⟩]
def gls : List LinkT := [⟨"sa", "sb", 1⟩]
def gks : List StockT := [⟨"ta", 1, 2, [("sa", 1)], [("sb", 1)]⟩]
theorem zjE {h : Int} (hh : 22 <= h /\ h <= 60) : Good gbs gss gjs gus gls gks h := zkU hh (by decide +kernel) (by decide) (fun x hx => by
  rw [List.mem_singleton.mp hx]
  exact ziZ hh (by decide +kernel) (show (0 : Int) <= 0 /\ (0 : Int) <= h by omega) (show (0 : Int) <= 9 /\ (9 : Int) <= h by omega)) (by decide +kernel) (by decide +kernel)
theorem zl2 : zlg zpS ass aus als aks = true := by decide +kernel
theorem zkz (h : Int) : (ajs h).all (fun j => zqU (ass.map (·.nm)) j) = true := by kernel_rfl
theorem zkA {h : Int} (hh : 22 <= h /\ h <= 60) : Good zpS ass (ajs h) aus als aks h := zkU hh zl2 (by show 40 <= 40; decide) (fun x hx => by
  have hc := List.all_eq_true.mp (zkz h) x hx
  have he : x.ea = 0 /\ x.du = h := by
    have : ∀ y ∈ ajs h, y.ea = 0 /\ y.du = h := by
      unfold ajs
      simp only [List.forall_mem_cons, List.not_mem_nil, false_implies, implies_true, and_self]
    exact this x hx
  exact ziZ hh hc (by rw [he.1]; omega) (by rw [he.2]; omega)) (by
  have e : (ajs h).map (·.nm) = (ajs 0).map (·.nm) := by kernel_rfl
  rw [e]; decide +kernel) (by
  have e : (ajs h).flatMap (·.ms) = (ajs 0).flatMap (·.ms) := by kernel_rfl
  rw [e]; decide +kernel)
end Law
end
section
namespace Law
open PySem L2
theorem zmP {i : Nat} {fr : FA} {g : FS} {ρ : zbx} {ds : List D} (h : fr ρ = some ds) : zaS (zkc i fr) g ρ = g (ρ.set i (some (.own ds))) := by
  unfold zaS zkc; rw [h]; rfl
theorem zhh {g g' : FS} {ρ ρ1 : zbx} (h : g ρ = some (.nx, ρ1)) : zaS g g' ρ = g' ρ1 := by unfold zaS; rw [h]; rfl
theorem zmV {i : Nat} {g : FS} {ρ : zbx} {ds : List D} (h1 : ρ[i]? = some (some (.own ds))) : zke i g ρ = g (ρ.set i (some (.sh (.lst ds)))) := by unfold zke; rw [h1]
def dK0 : D := .lst (aks.map zbA)
def dW0 : D := .lst (aws.map dW)
def m0 : List D := [.lst (ab0.map zbg), .lst (as0.map zb1), .lst [], .lst (aus.map zd6), .lst (als.map zcj), dK0]
def m1 : List D := [.lst (zpS.map zbg), .lst (as0.map zb1), .lst [], .lst (aus.map zd6), .lst (als.map zcj), dK0]
def m2 : List D := [.lst (zpS.map zbg), .lst (ass.map zb1), .lst [], .lst (aus.map zd6), .lst (als.map zcj), dK0]
def m3 (h : Int) : List D := [.lst (zpS.map zbg), .lst (ass.map zb1), .lst ((ajs h).map zb5), .lst (aus.map zd6), .lst (als.map zcj), dK0]
theorem zmZ : eqD (.str "none") (.str "none") = some (.bl true) := by kernel_rfl
theorem zpd {h : Int} (hh : 22 <= h /\ h <= 60) : zax [.lst (m3 h), .int h] = some (.str "none") := zj8 (zkA hh) (by
  have e : ((ajs h).flatMap (·.ms)).length = 40 := by kernel_rfl
  rw [e]; decide)
theorem zky {h : Int} (hh : 22 <= h /\ h <= 60) : zaY [.int h] = some (.bl true) := by
  unfold zaY zcY
  refine za5 (ρ' := [some (.sh (.int h)), some (.sh dK0), some (.sh (.lst (m3 h))), some (.sh dW0), some (.sh (zgp 10))]) [some (.sh (.int h)), none, none, none, none] rfl ?_
  refine (zaR (d := dK0) (by kernel_rfl)).trans ?_
  refine (zmP (ds := m0) (by kernel_rfl)).trans ?_
  refine (zaR (d := dW0) (by kernel_rfl)).trans ?_
  refine (zaR (d := zgp 10) (by kernel_rfl)).trans ?_
  refine (zhh (ρ1 := [some (.sh (.int h)), some (.sh dK0), some (.own m1), some (.sh dW0), some (.sh (zgp 10))]) (by kernel_rfl)).trans ?_
  refine (zhh (ρ1 := [some (.sh (.int h)), some (.sh dK0), some (.own m2), some (.sh dW0), some (.sh (zgp 10))]) (by kernel_rfl)).trans ?_
  refine (zhh (ρ1 := [some (.sh (.int h)), some (.sh dK0), some (.own (m3 h)), some (.sh dW0), some (.sh (zgp 10))]) (by kernel_rfl)).trans ?_
  refine (zmV rfl).trans ?_
  exact za2 (zcf (zb2 rfl (zpd hh)) rfl zmZ)
theorem zeJ {A : FE} {ρ : zbx} (h : A ρ = some (.bl false)) : zbM (toB A) ρ = some true := by unfold zbM toB; rw [h]; rfl
section
variable {h : Int} (hh : 22 <= h /\ h <= 60) {x0 x1 x2 x3 x4 x5 : D}
include hh
theorem wi : zah [.int h, .int 1, .int 1000000] = some (.bl true) := zbe h 1 1000000 (by omega)
def gB : D := .lst (gbs.map zbg)
def gS : D := .lst (gss.map zb1)
def gJ : D := .lst (gjs.map zb5)
def gU : D := .lst (gus.map zd6)
def gL : D := .lst (gls.map zcj)
def gK : D := .lst (gks.map zbA)
theorem zpb : zaV [gB, .int h] = some (.bl true) := let g := zjE hh; zgr g.bl.1 g.bl.2 g.b g.bn
omit hh in
theorem eB : nB = .lst ((gbs.map (·.nm)).map D.str) := rfl
omit hh in
theorem eS : nS = .lst ((gss.map (·.nm)).map D.str) := rfl
theorem zp1 : zba [gS, nB, .int h] = some (.bl true) := by
  have g := zjE hh
  rw [eB]
  exact ziG g.bnn g.sl.1 g.sl.2 g.s g.sn
theorem zqz : zbm [gJ, nS, .int h] = some (.bl true) := by
  have g := zjE hh
  rw [eS]
  exact zkM g.snn (by decide) g.jl g.j g.jn g.jm (by decide)
theorem zri : za0 [gU, nB, .int h] = some (.bl true) := by
  have g := zjE hh
  rw [eB]
  exact zhf g.bnn g.ul g.u g.un
theorem zrJ : zbb [gL, nS, .int h] = some (.bl true) := by
  have g := zjE hh
  rw [eS]
  exact ziT g.snn g.ll g.l g.ln
theorem qB (hb : zaV [x0, .int h] = some (.bl false)) : zaA [x0, x1, x2, x3, x4, x5, .int h] = some (.str "benches") :=
  za5 [some (.sh x0), some (.sh x1), some (.sh x2), some (.sh x3), some (.sh x4), some (.sh x5), some (.sh (.int h)), none, none] rfl ((zbj (wi hh)).trans (zc6 (zeJ hb) (za2 rfl)))
theorem qS (hb : zba [x1, nB, .int h] = some (.bl false)) : zaA [gB, x1, x2, x3, x4, x5, .int h] = some (.str "steps") :=
  za5 [some (.sh gB), some (.sh x1), some (.sh x2), some (.sh x3), some (.sh x4), some (.sh x5), some (.sh (.int h)), none, none] rfl ((zbj (wi hh)).trans ((zbj (zpb hh)).trans ((zaR (d := nB) (by kernel_rfl)).trans (zc6 (zeJ hb) (za2 rfl)))))
theorem qJ (hb : zbm [x2, nS, .int h] = some (.bl false)) : zaA [gB, gS, x2, x3, x4, x5, .int h] = some (.str "jobs") :=
  za5 [some (.sh gB), some (.sh gS), some (.sh x2), some (.sh x3), some (.sh x4), some (.sh x5), some (.sh (.int h)), none, none] rfl ((zbj (wi hh)).trans ((zbj (zpb hh)).trans ((zaR (d := nB) (by kernel_rfl)).trans ((zbj (zp1 hh)).trans ((zaR (d := nS) (by kernel_rfl)).trans (zc6 (zeJ hb) (za2 rfl)))))))
theorem qU (hb : za0 [x3, nB, .int h] = some (.bl false)) : zaA [gB, gS, gJ, x3, x4, x5, .int h] = some (.str "setups") :=
  za5 [some (.sh gB), some (.sh gS), some (.sh gJ), some (.sh x3), some (.sh x4), some (.sh x5), some (.sh (.int h)), none, none] rfl ((zbj (wi hh)).trans ((zbj (zpb hh)).trans ((zaR (d := nB) (by kernel_rfl)).trans ((zbj (zp1 hh)).trans ((zaR (d := nS) (by kernel_rfl)).trans ((zbj (zqz hh)).trans (zc6 (zeJ hb) (za2 rfl))))))))
theorem qL (hb : zbb [x4, nS, .int h] = some (.bl false)) : zaA [gB, gS, gJ, gU, x4, x5, .int h] = some (.str "links") :=
  za5 [some (.sh gB), some (.sh gS), some (.sh gJ), some (.sh gU), some (.sh x4), some (.sh x5), some (.sh (.int h)), none, none] rfl ((zbj (wi hh)).trans ((zbj (zpb hh)).trans ((zaR (d := nB) (by kernel_rfl)).trans ((zbj (zp1 hh)).trans ((zaR (d := nS) (by kernel_rfl)).trans ((zbj (zqz hh)).trans ((zbj (zri hh)).trans (zc6 (zeJ hb) (za2 rfl)))))))))
theorem qK (hb : za8 [x5, nS] = some (.bl false)) : zaA [gB, gS, gJ, gU, gL, x5, .int h] = some (.str "stocks") :=
  za5 [some (.sh gB), some (.sh gS), some (.sh gJ), some (.sh gU), some (.sh gL), some (.sh x5), some (.sh (.int h)), none, none] rfl ((zbj (wi hh)).trans ((zbj (zpb hh)).trans ((zaR (d := nB) (by kernel_rfl)).trans ((zbj (zp1 hh)).trans ((zaR (d := nS) (by kernel_rfl)).trans ((zbj (zqz hh)).trans ((zbj (zri hh)).trans ((zbj (zrJ hh)).trans (zc6 (zeJ hb) (za2 rfl))))))))))
end
end Law
end
section
namespace Law
open PySem L2
def fS : FE := b2 zcr (b2 zcr (slF (vSh 0) pN (pS (vSh 5))) (zaC (szF (zab (b2 ixD (vSh 6) (vSh 5)) zag)))) (slF (vSh 0) (pS (b2 zcr (vSh 5) (vC (.int 1)))) pN)
theorem zm0 {x M : Int} (h : 0 < M /\ M < 1073741824) : zgR (.int x) (.int M) = some (.int (x / M)) := if_pos h
section
variable {g0 g1 g2 g3 g4 g5 o b0 b1 b2' b3 b4 b5 r : D} {h c p : Int}
theorem zcv (ho : zbI [.int (c / 6)] = some o) (h0 : zaJ [o, .int (c / 72)] = some b0) (h1 : zaP [o, .int (c / 72)] = some b1) (h2 : zaW [o, .int (c / 72)] = some b2') (h3 : zaN [o, .int (c / 72)] = some b3)
    (h4 : zaQ [o, .int (h + 1), .int (c / 72)] = some b4) (h5 : zaM [o, .int (c / 72)] = some b5) (hp : c % 6 = p)
    (hr : fS [some (.sh (.lst [g0, g1, g2, g3, g4, g5])), some (.sh (.int h)), some (.sh (.int c)), some (.sh o), some (.sh (.int (c / 72))), some (.sh (.int p)), some (.sh (.lst [b0, b1, b2', b3, b4, b5]))] = some r) :
    zaO [.lst [g0, g1, g2, g3, g4, g5], .int h, .int c] = some r := by
  unfold zaO zde
  refine za5 (ρ' := [some (.sh (.lst [g0, g1, g2, g3, g4, g5])), some (.sh (.int h)), some (.sh (.int c)), some (.sh o), some (.sh (.int (c / 72))), some (.sh (.int p)), some (.sh (.lst [b0, b1, b2', b3, b4, b5]))]) [some (.sh (.lst [g0, g1, g2, g3, g4, g5])), some (.sh (.int h)), some (.sh (.int c)), none, none, none, none] rfl ?_
  refine (zaR (zb2 (zbi (zcf rfl rfl (zm0 (by decide))) zcH) ho)).trans ?_
  refine (zaR (zcf rfl rfl (zm0 (by decide)))).trans ?_
  refine (zaR (d := .int p) (zcf rfl rfl ((zdL (by decide)).trans (by rw [hp])))).trans ?_
  refine (zaR (d := .lst [b0, b1, b2', b3]) ?_).trans ?_
  · have e : ∀ (fr : FA) (ρ : zbx) (l : List D), fr ρ = some l -> l.length <= 1000 -> zaC (szF fr) ρ = some (.lst l) := fun fr ρ l e hl => by
      unfold zaC szF; rw [e]
      have := sizeLine_eq
      simp only [Option.bind_some, if_pos (show l.length <= sizeLine by omega), Option.map_some]
    exact e _ _ _ (zbi (zb2 rfl h0) (zbi (zb2 rfl h1) (zbi (zb2 rfl h2) (zbi (zb2 rfl h3) zcH)))) (by simp)
  refine (zaR (d := .lst [b0, b1, b2', b3, b4, b5]) (zcf (x := .lst [b0, b1, b2', b3]) (y := .lst [b4, b5]) rfl ?_ (by kernel_rfl))).trans ?_
  · have e : ∀ (fr : FA) (ρ : zbx) (l : List D), fr ρ = some l -> l.length <= 1000 -> zaC (szF fr) ρ = some (.lst l) := fun fr ρ l e hl => by
      unfold zaC szF; rw [e]
      have := sizeLine_eq
      simp only [Option.bind_some, if_pos (show l.length <= sizeLine by omega), Option.map_some]
    exact e _ _ _ (zbi (zb2 (zbi rfl (zbi (zcf rfl rfl rfl) (zbi rfl zcH))) h4) (zbi (zb2 rfl h5) zcH)) (by simp)
  exact za2 hr
theorem fS0 : fS [some (.sh (.lst [g0, g1, g2, g3, g4, g5])), some (.sh (.int h)), some (.sh (.int c)), some (.sh o), some (.sh (.int (c / 72))), some (.sh (.int 0)), some (.sh (.lst [b0, b1, b2', b3, b4, b5]))] = some (.lst [b0, g1, g2, g3, g4, g5]) := by kernel_rfl
theorem fS1 : fS [some (.sh (.lst [g0, g1, g2, g3, g4, g5])), some (.sh (.int h)), some (.sh (.int c)), some (.sh o), some (.sh (.int (c / 72))), some (.sh (.int 1)), some (.sh (.lst [b0, b1, b2', b3, b4, b5]))] = some (.lst [g0, b1, g2, g3, g4, g5]) := by kernel_rfl
theorem fS2 : fS [some (.sh (.lst [g0, g1, g2, g3, g4, g5])), some (.sh (.int h)), some (.sh (.int c)), some (.sh o), some (.sh (.int (c / 72))), some (.sh (.int 2)), some (.sh (.lst [b0, b1, b2', b3, b4, b5]))] = some (.lst [g0, g1, b2', g3, g4, g5]) := by kernel_rfl
theorem fS3 : fS [some (.sh (.lst [g0, g1, g2, g3, g4, g5])), some (.sh (.int h)), some (.sh (.int c)), some (.sh o), some (.sh (.int (c / 72))), some (.sh (.int 3)), some (.sh (.lst [b0, b1, b2', b3, b4, b5]))] = some (.lst [g0, g1, g2, b3, g4, g5]) := by kernel_rfl
theorem fS4 : fS [some (.sh (.lst [g0, g1, g2, g3, g4, g5])), some (.sh (.int h)), some (.sh (.int c)), some (.sh o), some (.sh (.int (c / 72))), some (.sh (.int 4)), some (.sh (.lst [b0, b1, b2', b3, b4, b5]))] = some (.lst [g0, g1, g2, g3, b4, g5]) := by kernel_rfl
theorem fS5 : fS [some (.sh (.lst [g0, g1, g2, g3, g4, g5])), some (.sh (.int h)), some (.sh (.int c)), some (.sh o), some (.sh (.int (c / 72))), some (.sh (.int 5)), some (.sh (.lst [b0, b1, b2', b3, b4, b5]))] = some (.lst [g0, g1, g2, g3, g4, b5]) := by kernel_rfl
end
def zeu : List Str := ["benches", "steps", "jobs", "setups", "links", "stocks"]
theorem zrR {h : Int} (hh : 22 <= h /\ h <= 60) : ∃ n : Nat, n < 39 /\ h = ((22 + n : Nat) : Int) := ⟨(h - 22).toNat, by omega, by omega⟩
theorem zn8 {h c : Int} (hh : 22 <= h /\ h <= 60) : ∃ s w, zaO [.lst [gB, gS, gJ, gU, gL, gK], .int h, .int c] = some s /\ zax [s, .int h] = some (.str w) /\ ixD (.lst (zeu.map D.str)) (.int (c % 6)) = some (.str w) := by
  obtain ⟨o, mo, ho⟩ := zpc (c / 6)
  obtain ⟨b0, k0, h0⟩ := zix o (c / 72)
  obtain ⟨b1, k1, h1⟩ := zj4 o (c / 72)
  obtain ⟨b2', k2, h2⟩ := zmb o (c / 72)
  obtain ⟨b3, k3, h3⟩ := zjk o (c / 72)
  obtain ⟨b4, k4, h4⟩ := zkG o (.int (h + 1)) (c / 72)
  obtain ⟨b5, k5, h5⟩ := zji o (c / 72)
  obtain ⟨n, hn, e⟩ := zrR hh
  have hc : c % 6 = 0 \/ c % 6 = 1 \/ c % 6 = 2 \/ c % 6 = 3 \/ c % 6 = 4 \/ c % 6 = 5 := by omega
  have mh : n ∈ List.range 39 := List.mem_range.mpr hn
  rcases hc with hc | hc | hc | hc | hc | hc
  · refine ⟨_, "benches", zcv ho h0 h1 h2 h3 h4 h5 hc fS0, zdB (qB hh ?_) (by decide +kernel), by rw [hc]; rfl⟩
    have := List.all_eq_true.mp (List.all_eq_true.mp (List.all_eq_true.mp zrX o mo) n mh) b0 k0
    rw [e]; exact zgk this
  · refine ⟨_, "steps", zcv ho h0 h1 h2 h3 h4 h5 hc fS1, zdB (qS hh ?_) (by decide +kernel), by rw [hc]; rfl⟩
    have := List.all_eq_true.mp (List.all_eq_true.mp (List.all_eq_true.mp zrT o mo) n mh) b1 k1
    rw [e]; exact zgk this
  · refine ⟨_, "jobs", zcv ho h0 h1 h2 h3 h4 h5 hc fS2, zdB (qJ hh ?_) (by decide +kernel), by rw [hc]; rfl⟩
    have := List.all_eq_true.mp (List.all_eq_true.mp (List.all_eq_true.mp zrW o mo) n mh) b2' k2
    rw [e]; exact zgk this
  · refine ⟨_, "setups", zcv ho h0 h1 h2 h3 h4 h5 hc fS3, zdB (qU hh ?_) (by decide +kernel), by rw [hc]; rfl⟩
    have := List.all_eq_true.mp (List.all_eq_true.mp (List.all_eq_true.mp zrS o mo) n mh) b3 k3
    rw [e]; exact zgk this
  · refine ⟨_, "links", zcv ho h0 h1 h2 h3 h4 h5 hc fS4, zdB (qL hh ?_) (by decide +kernel), by rw [hc]; rfl⟩
    have := List.all_eq_true.mp (List.all_eq_true.mp (List.all_eq_true.mp zrU o mo) n mh) b4 (by rw [← e]; exact k4)
    rw [e]; exact zgk this
  · refine ⟨_, "stocks", zcv ho h0 h1 h2 h3 h4 h5 hc fS5, zdB (qK hh ?_) (by decide +kernel), by rw [hc]; rfl⟩
    have := List.all_eq_true.mp (List.all_eq_true.mp zrV o mo) b5 k5
    exact zgk this
end Law
end
section
namespace Law
open PySem L2
def zei : List D := [gB, gS, gJ, gU, gL, gK]
noncomputable def lB : FS := sIf (bwT 3 (toB (b2 neA (cF zax (zab (cF zaO (zab (vSh 3) (zab (vSh 1) (zab (vSh 5) zag)))) (zab (vSh 1) zag))) (b2 ixD (vSh 4) (b2 zft (vSh 5) (vC (.int 6))))))) (zbc (vC (.bl false))) zcx
theorem zqC {S W : Option Slot} {h c : Int} (hh : 22 <= h /\ h <= 60) : lB [S, some (.sh (.int h)), W, some (.own zei), some (.sh (.lst (zeu.map D.str))), some (.sh (.int c))] = some (.nx, [S, some (.sh (.int h)), W, some (.own zei), some (.sh (.lst (zeu.map D.str))), some (.sh (.int c))]) := by
  obtain ⟨s, w, h1, h2, h3⟩ := zn8 (c := c) hh
  have e : bwT 3 (toB (b2 neA (cF zax (zab (cF zaO (zab (vSh 3) (zab (vSh 1) (zab (vSh 5) zag)))) (zab (vSh 1) zag))) (b2 ixD (vSh 4) (b2 zft (vSh 5) (vC (.int 6)))))) [S, some (.sh (.int h)), W, some (.own zei), some (.sh (.lst (zeu.map D.str))), some (.sh (.int c))] = some false := by
    show toB _ [S, some (.sh (.int h)), W, some (.sh (.lst zei)), some (.sh (.lst (zeu.map D.str))), some (.sh (.int c))] = _
    refine zbU (zcf (zb2 (zbi (zb2 (ds := [.lst zei, .int h, .int c]) rfl h1) (zbi (d := .int h) rfl zcH)) h2) (zcf rfl (zcf rfl rfl (zdL (by decide))) h3) ?_)
    rw [zku]
    simp
  unfold lB sIf
  rw [e]
  rfl
theorem zkD {S W : Option Slot} {h : Int} (hh : 22 <= h /\ h <= 60) : ∀ (cs : List Int) (a : Option Slot), ∃ b, zjT (zbK 5) lB (cs.map D.int) [S, some (.sh (.int h)), W, some (.own zei), some (.sh (.lst (zeu.map D.str))), a] = some (.nx, [S, some (.sh (.int h)), W, some (.own zei), some (.sh (.lst (zeu.map D.str))), b])
  | [], a => ⟨a, rfl⟩
  | c :: cs, a => by
    obtain ⟨b, hb⟩ := zkD hh cs (some (.sh (.int c)))
    refine ⟨b, ?_⟩
    show ((some [S, some (.sh (.int h)), W, some (.own zei), some (.sh (.lst (zeu.map D.str))), some (.sh (.int c))]).bind fun ρ1 => (lB ρ1).bind fun r => _) = _
    rw [Option.bind_some, zqC hh]
    exact hb
theorem zpB {fi : FA} {gg : FG} {body : FS} {ρ : zbx} {xs : List D} {R : Option (Fl × zbx)} (h1 : fi ρ = some xs) (h2 : zjT gg body xs ρ = R) : zgH fi gg body ρ = R := by unfold zgH; rw [h1]; exact h2
theorem zkV {h : Int} (hh : 22 <= h /\ h <= 60) : zax [.lst zei, .int h] = some (.str "none") := zj8 (zjE hh) (by decide)
theorem and_true {f g : FE} {ρ : zbx} (h1 : f ρ = some (.bl true)) (h2 : g ρ = some (.bl true)) : zdx f g ρ = some (.bl true) := zlq h1 h2
theorem zl7 (ns : List Int) (hlen : ns.length <= 63) : zoe [.scr ns] = some (.bl true) := by
  unfold zoe zpT
  have hh : 22 <= 22 + (ns.length : Int) % 39 /\ 22 + (ns.length : Int) % 39 <= 60 := by omega
  obtain ⟨b, hb⟩ := zkD (S := some (.sh (.scr ns))) (W := some (.sh gS)) hh (4 :: zg8 ns none (some 60)) none
  have hcut : (zg8 ns none (some 60)).length <= 63 := by
    unfold zg8
    rw [List.length_take, List.length_drop]
    omega
  have hi : itF (b2 zcr (zaC (szF (zab (vC (.int 4)) zag))) (slF (vSh 0) pN (pS (vC (.int 60))))) [some (.sh (.scr ns)), some (.sh (.int (22 + (ns.length : Int) % 39))), some (.sh gS), some (.own zei), some (.sh (.lst (zeu.map D.str))), none] = some ((4 :: zg8 ns none (some 60)).map D.int) := by
    have ha : b2 zcr (zaC (szF (zab (vC (.int 4)) zag))) (slF (vSh 0) pN (pS (vC (.int 60)))) [some (.sh (.scr ns)), some (.sh (.int (22 + (ns.length : Int) % 39))), some (.sh gS), some (.own zei), some (.sh (.lst (zeu.map D.str))), none] = some (.lst ((4 :: zg8 ns none (some 60)).map D.int)) :=
      zcf (x := .lst [.int 4]) (y := .lst ((zg8 ns none (some 60)).map D.int)) (by kernel_rfl) rfl (if_pos (by rw [List.length_map]; have := sizeLine_eq; simp only [List.length_cons, List.length_nil]; omega))
    unfold itF
    rw [ha]
    rfl
  refine za5 (ρ' := [some (.sh (.scr ns)), some (.sh (.int (22 + (ns.length : Int) % 39))), some (.sh gS), some (.sh (.lst zei)), some (.sh (.lst (zeu.map D.str))), b]) [some (.sh (.scr ns)), none, none, none, none, none] rfl ?_
  refine (zaR (d := .int (22 + (ns.length : Int) % 39)) (zcf rfl (zcf rfl rfl (zdL (x := (ns.length : Int)) (by decide))) rfl)).trans ?_
  refine (zaR (d := gS) (by kernel_rfl)).trans ?_
  refine (zmP (ds := [gB, gS, gJ, gU, gL]) (by kernel_rfl)).trans ?_
  refine (zhh (ρ1 := [some (.sh (.scr ns)), some (.sh (.int (22 + (ns.length : Int) % 39))), some (.sh gS), some (.own zei), none, none]) (by kernel_rfl)).trans ?_
  refine (zaR (d := .lst (zeu.map D.str)) (by kernel_rfl)).trans ?_
  refine (zhh (ρ1 := [some (.sh (.scr ns)), some (.sh (.int (22 + (ns.length : Int) % 39))), some (.sh gS), some (.own zei), some (.sh (.lst (zeu.map D.str))), b]) ?_).trans ?_
  · exact zpB hi hb
  refine (zmV rfl).trans ?_
  exact za2 (and_true (zcf (zb2 rfl (zkV hh)) rfl zmZ) (zb2 rfl (zky hh)))
end Law
end
section
namespace Law
open PySem L2 PySem.Spec PyProof.Rows
def Gam (C_Shop : Addr) : Cn := ⟨fun c => if c = "Shop" then some C_Shop else none, none⟩
def znc (K : PySem.W.Frag) : Sp := fun vs H Q _ => ∃ (a : Addr) (ns : List Int), vs = [.ref a] /\ SqL K H a (ns.map V.int) /\ ns.length <= 63 /\ ∀ H', Q (.bl true) H'
theorem all_mk {l : PySem.W.OpenLaw} {w : World} {K : PySem.W.Frag} {h : Heap} {mg : Str -> Option Value} {fa : Addr} (X : K.In h) (G : h.Ns mainGlobals mg) (hfa : mg "law" = some (.ref fa))
    {C_Shop : Addr} (aC_Shop : PySem.W.nsIn K mainGlobals "Shop" = some (some (.ref C_Shop)))
    (d0 : Dfn K mg "_law_letter" zda)
    (d1 : Dfn K mg "_law_benches" zcP)
    (d2 : Dfn K mg "_law_odd" zeE)
    (d3 : Dfn K mg "_law_all_setups" zcc)
    (d4 : Dfn K mg "_law_bad_setups" zcb)
    (d5 : Dfn K mg "_law_bad_jobs" zcz)
    (d6 : Dfn K mg "_law_all_steps" zco)
    (d7 : Dfn K mg "_law_bad_steps" zcm)
    (d8 : Dfn K mg "_law_bad_benches" zbW)
    (d9 : Dfn K mg "_law_bad_stocks" zca)
    (d10 : Dfn K mg "_law_bad_links" zcn)
    (d11 : Dfn K mg "_law_spoilt" zc9)
    (d12 : Dfn K mg "is_whole" zew)
    (d13 : Dfn K mg "is_within" zdQ)
    (d14 : Dfn K mg "is_tuple" zex)
    (d15 : Dfn K mg "is_break" zeA)
    (d16 : Dfn K mg "is_list" zfn)
    (d17 : Dfn K mg "are_breaks" zdq)
    (d18 : Dfn K mg "is_name" zfm)
    (d19 : Dfn K mg "is_bench" zeB)
    (d20 : Dfn K mg "are_unlike" zdn)
    (d21 : Dfn K mg "are_benches" zc7)
    (d22 : Dfn K mg "is_one_of" zdR)
    (d23 : Dfn K mg "is_way" zgF)
    (d24 : Dfn K mg "are_ways" zeC)
    (d25 : Dfn K mg "is_step" zfl)
    (d26 : Dfn K mg "are_steps" zdT)
    (d27 : Dfn K mg "is_job" zgG)
    (d28 : Dfn K mg "are_jobs" zeD)
    (d29 : Dfn K mg "is_setup" zez)
    (d30 : Dfn K mg "are_setups" zdp)
    (d31 : Dfn K mg "is_link" zfo)
    (d32 : Dfn K mg "are_links" zdU)
    (d33 : Dfn K mg "is_amount" zdS)
    (d34 : Dfn K mg "are_amounts" zc8)
    (d35 : Dfn K mg "is_stock" zey)
    (d36 : Dfn K mg "are_stocks" zdo)
    (d37 : Dfn K mg "first_bad_part" zcl)
    (d38 : Dfn K mg "fresh" zib)
    (d39 : DfnM K C_Shop "Shop" "__init__" "Shop.__init__" zcA)
    (d40 : Dfn K mg "_law_refused" zcO)
    (d41 : Dfn K mg "_law_all_links" zcp)
    (d42 : Dfn K mg "_law_at_most" zcQ)
    (a43 : PySem.W.nsIn K mainGlobals "law" = some (some (.ref f43))) (l43 : K.lookup f43 = some ⟨oc43, od43, .func (PySem.W.fnOf "law" "law" (zcC zfk) (zbz zfk) (zan zfk) .none kV43 dc43 pm43 an43 cd43 ct43), sl43⟩) (c43 : PySem.W.codeIn K cd43 "law" = true) (k43 : PySem.W.keepIn K (.ref f43) = true)
    (pg_Shop : PySem.W.plainGet K C_Shop Str.empty = true) (hd_Shop : PySem.W.hasDictIn K C_Shop = true) (po_Shop : PySem.W.plainOver K C_Shop = true) (sa_Shop : PySem.W.findIn K (.ref C_Shop) "__setattr__" = some (some (.builtin "object.__setattr__"))) (mk_Shop : PySem.W.makesIn K C_Shop = true) (kc_Shop : PySem.W.keepIn K (.ref C_Shop) = true)
    (n0_Shop : PySem.W.findIn K (.ref C_Shop) "benches" = some none)
    (n1_Shop : PySem.W.findIn K (.ref C_Shop) "steps" = some none)
    (n2_Shop : PySem.W.findIn K (.ref C_Shop) "jobs" = some none)
    (n3_Shop : PySem.W.findIn K (.ref C_Shop) "setups" = some none)
    (n4_Shop : PySem.W.findIn K (.ref C_Shop) "links" = some none)
    (n5_Shop : PySem.W.findIn K (.ref C_Shop) "stocks" = some none)
    (n6_Shop : PySem.W.findIn K (.ref C_Shop) "horizon" = some none)
    (n7_Shop : PySem.W.findIn K (.ref C_Shop) "bench_by_name" = some none)
    (n8_Shop : PySem.W.findIn K (.ref C_Shop) "step_by_name" = some none)
    (n9_Shop : PySem.W.findIn K (.ref C_Shop) "setup_by_names" = some none)
    (n10_Shop : PySem.W.findIn K (.ref C_Shop) "job_by_step" = some none)
    {CN : Addr} (aCN : PySem.W.nsIn K mainGlobals "NoShop" = some (some (.ref CN)))
    {CS : Addr} (aCS : PySem.W.nsIn K mainGlobals "ShopError" = some (some (.ref CS)))
    {CG : Addr} (aCG : PySem.W.nsIn K mainGlobals "Gone" = some (some (.ref CG)))
    {CM : Addr} (aCM : PySem.W.nsIn K mainGlobals "NoName" = some (some (.ref CM)))
    {CP : Addr} (aCP : PySem.W.nsIn K mainGlobals "NoPlan" = some (some (.ref CP)))
    {CR : Addr} (aCR : PySem.W.nsIn K mainGlobals "NoRow" = some (some (.ref CR)))
    {CY : Addr} (aCY : PySem.W.nsIn K mainGlobals "NoSay" = some (some (.ref CY)))
    {CT : Addr} (aCT : PySem.W.nsIn K mainGlobals "NoTree" = some (some (.ref CT)))
    (dN : DfnM K CN "NoShop" "__init__" "NoShop.__init__" zcd)
    {ddN : Option Addr} {cdN : ClassData} {q0 q1 q2 q3 q5 : Option Value} (lkN : K.lookup CN = some ⟨.type "type", ddN, .cls cdN, #[q0, q1, q2, q3, some (.builtin "ValueError.__new__"), q5]⟩)
    (hmN : cdN.mro = .ref CN :: .ref CS :: zlw)
    (hdN : cdN.hasDel = false)
    (hhN : cdN.hasDict = true)
    (xe : PySem.W.excIn K CS [.type "ValueError", .type "Exception", .type "BaseException", .type "object"] "ValueError.__new__" = true)
    (saN : PySem.W.findIn K (.ref CN) "__setattr__" = some (some (.builtin "object.__setattr__")))
    (obN : PySem.W.mroIn K CN (.type "object") = some true)
    (noN : PySem.W.findIn K (.ref CN) "part" = some none)
    (kpN : PySem.W.keepIn K (.ref CN) = true)
    (hspS : PySem.W.specialIn K (.ref CS) "__getattribute__" = some (some (.builtin "type.__getattribute__")))
    (rdS : PySem.W.readsIn K CS (.type "type") = true)
    (fcS : PySem.W.findCls K (.ref CS) (.type "type") "__init__" = some (.val (.builtin "ValueError.__init__")))
    (xm1 : PySem.W.exmOne K (.ref CN) (.ref CS) = some true)
    (x2 : PySem.W.kitOne K (.ref CN) (.type "ValueError") = some true)
    (x3 : PySem.W.kitAny K (.ref CN) [.ref CG, .ref CM, .ref CP, .ref CR, .ref CY, .ref CT] = some false)
    (xc : PySem.W.isClsIn K CN = true)
    (xga : PySem.W.findIn K (.ref CN) "__getattribute__" = some (some (.builtin "BaseException.__getattribute__")))
    (xno : PySem.W.findIn K (.ref CN) "__getattr__" = some none)
    (xlk : PySem.W.findIn K (.ref CN) "__class__" = some (some (.builtin "object.__class__")))
    (xgs : PySem.W.specialIn K (.builtin "object.__class__") "__get__" = some (some (.builtin "getset_descriptor.__get__")))
    (xtk : PySem.W.takesIn K (.builtin "object.__class__") = some true)
    (xsu : PySem.W.subIn K (.ref CN) (.type "BaseException") = some true)
    (xhd : PySem.W.hasDictIn K CN = true)
    (z_ValueError : PySem.W.nsIn K mainGlobals "ValueError" = some none)
    (z_all : PySem.W.nsIn K mainGlobals "all" = some none)
    (z_bool : PySem.W.nsIn K mainGlobals "bool" = some none)
    (z_dict : PySem.W.nsIn K mainGlobals "dict" = some none)
    (z_int : PySem.W.nsIn K mainGlobals "int" = some none)
    (z_isinstance : PySem.W.nsIn K mainGlobals "isinstance" = some none)
    (z_len : PySem.W.nsIn K mainGlobals "len" = some none)
    (z_list : PySem.W.nsIn K mainGlobals "list" = some none)
    (z_range : PySem.W.nsIn K mainGlobals "range" = some none)
    (z_set : PySem.W.nsIn K mainGlobals "set" = some none)
    (z_str : PySem.W.nsIn K mainGlobals "str" = some none)
    (z_tuple : PySem.W.nsIn K mainGlobals "tuple" = some none)
    {tk_LONGEST_NAME : Tok} (z_LONGEST_NAME : PySem.W.nsIn K mainGlobals "LONGEST_NAME" = some (some (.int 8 tk_LONGEST_NAME)))
    {tk_MOST_AMOUNT : Tok} (z_MOST_AMOUNT : PySem.W.nsIn K mainGlobals "MOST_AMOUNT" = some (some (.int 1000000 tk_MOST_AMOUNT)))
    {tk_MOST_BENCHES : Tok} (z_MOST_BENCHES : PySem.W.nsIn K mainGlobals "MOST_BENCHES" = some (some (.int 8 tk_MOST_BENCHES)))
    {tk_MOST_BREAKS : Tok} (z_MOST_BREAKS : PySem.W.nsIn K mainGlobals "MOST_BREAKS" = some (some (.int 10 tk_MOST_BREAKS)))
    {tk_MOST_HORIZON : Tok} (z_MOST_HORIZON : PySem.W.nsIn K mainGlobals "MOST_HORIZON" = some (some (.int 1000000 tk_MOST_HORIZON)))
    {tk_MOST_JOBS : Tok} (z_MOST_JOBS : PySem.W.nsIn K mainGlobals "MOST_JOBS" = some (some (.int 40 tk_MOST_JOBS)))
    {tk_MOST_LINKS : Tok} (z_MOST_LINKS : PySem.W.nsIn K mainGlobals "MOST_LINKS" = some (some (.int 100 tk_MOST_LINKS)))
    {tk_MOST_SETUPS : Tok} (z_MOST_SETUPS : PySem.W.nsIn K mainGlobals "MOST_SETUPS" = some (some (.int 100 tk_MOST_SETUPS)))
    {tk_MOST_STEPS : Tok} (z_MOST_STEPS : PySem.W.nsIn K mainGlobals "MOST_STEPS" = some (some (.int 40 tk_MOST_STEPS)))
    {tk_MOST_STOCKS : Tok} (z_MOST_STOCKS : PySem.W.nsIn K mainGlobals "MOST_STOCKS" = some (some (.int 6 tk_MOST_STOCKS)))
    {tk_MOST_WAYS : Tok} (z_MOST_WAYS : PySem.W.nsIn K mainGlobals "MOST_WAYS" = some (some (.int 4 tk_MOST_WAYS)))
    : ∃ fd : FuncData, (∀ (s : Shared) (v : Value), BindsTo s fd ⟨[v], []⟩ [("_law_script", v)]) /\ ∀ base : Heap, K.In base -> base.Ns mainGlobals mg -> FnOk l.prog w K mg base CX0 13 fa fd ["_law_script"] (znc K) := by
  have e := hfa.symm.trans (PySem.W.mg_of X G a43)
  have e2 := Value.ref.inj (Option.some.inj e)
  subst e2
  have B : Bn mg := ⟨PySem.W.mg_none_of X G z_ValueError, PySem.W.mg_none_of X G z_all, PySem.W.mg_none_of X G z_bool, PySem.W.mg_none_of X G z_dict, PySem.W.mg_none_of X G z_int, PySem.W.mg_none_of X G z_isinstance, PySem.W.mg_none_of X G z_len, PySem.W.mg_none_of X G z_list, PySem.W.mg_none_of X G z_range, PySem.W.mg_none_of X G z_set, PySem.W.mg_none_of X G z_str, PySem.W.mg_none_of X G z_tuple, by have q := PySem.W.mg_of X G z_LONGEST_NAME; rw [q]; unfold zdJ; rw [q], by have q := PySem.W.mg_of X G z_MOST_AMOUNT; rw [q]; unfold zea; rw [q], by have q := PySem.W.mg_of X G z_MOST_BENCHES; rw [q]; unfold zdI; rw [q], by have q := PySem.W.mg_of X G z_MOST_BREAKS; rw [q]; unfold zd9; rw [q], by have q := PySem.W.mg_of X G z_MOST_HORIZON; rw [q]; unfold zdH; rw [q], by have q := PySem.W.mg_of X G z_MOST_JOBS; rw [q]; unfold zfg; rw [q], by have q := PySem.W.mg_of X G z_MOST_LINKS; rw [q]; unfold zeW; rw [q], by have q := PySem.W.mg_of X G z_MOST_SETUPS; rw [q]; unfold zd8; rw [q], by have q := PySem.W.mg_of X G z_MOST_STEPS; rw [q]; unfold zeV; rw [q], by have q := PySem.W.mg_of X G z_MOST_STOCKS; rw [q]; unfold zd7; rw [q], by have q := PySem.W.mg_of X G z_MOST_WAYS; rw [q]; unfold zff; rw [q]⟩
  have O_Shop : ClsOk (Gam C_Shop) K mg "Shop" C_Shop := ⟨by unfold Gam; rfl, ⟨pg_Shop, hd_Shop, po_Shop, sa_Shop⟩, PySem.W.mg_of X G aC_Shop, mk_Shop, kc_Shop⟩
  have cf_Shop : CF (Gam C_Shop) K "Shop" zlp := O_Shop.cf (List.forall_mem_cons.mpr ⟨n0_Shop, (List.forall_mem_cons.mpr ⟨n1_Shop, (List.forall_mem_cons.mpr ⟨n2_Shop, (List.forall_mem_cons.mpr ⟨n3_Shop, (List.forall_mem_cons.mpr ⟨n4_Shop, (List.forall_mem_cons.mpr ⟨n5_Shop, (List.forall_mem_cons.mpr ⟨n6_Shop, (List.forall_mem_cons.mpr ⟨n7_Shop, (List.forall_mem_cons.mpr ⟨n8_Shop, (List.forall_mem_cons.mpr ⟨n9_Shop, (List.forall_mem_cons.mpr ⟨n10_Shop, (List.forall_mem_nil _)⟩)⟩)⟩)⟩)⟩)⟩)⟩)⟩)⟩)⟩)⟩)
  refine ⟨PySem.W.fnOf "law" "law" (zcC zfk) (zbz zfk) (zan zfk) .none kV43 dc43 pm43 an43 cd43 ct43, fun s v => .of_eq rfl, fun base KB _ => ?_⟩
  obtain ⟨fI, fdN, FunN, fiN, isN⟩ := dN.ex
  have ZN : XCls K base CN CS fI "part" := zm5 KB lkN hmN hdN hhN xe saN obN noN fiN isN kpN
  have FN : FnOk l.prog w K mg base CX0 1 fI fdN ["self", "part"] (zoh CN "part") := zd1 FunN ZN (PySem.W.mg_of X G aCS) hspS rdS fcS
  have hbN : zcZ K fdN ["self", "part"] [] := FunN.binds (fun _ _ _ _ _ _ us hl => match us, hl with | [_, _], _ => rfl)
  have RK : RefYK K mg CN CS CG CM CP CR CY CT := ⟨PySem.W.mg_of X G aCN, PySem.W.mg_of X G aCS, PySem.W.mg_of X G aCG, PySem.W.mg_of X G aCM, PySem.W.mg_of X G aCP, PySem.W.mg_of X G aCR, PySem.W.mg_of X G aCY, PySem.W.mg_of X G aCT, xm1, x2, x3, ⟨Option.isSome_iff_exists.mp xc, xga, xno, xlk, xgs, xtk, obN, xsu⟩, xhd, noN⟩
  have C__law_letter : Cal (Gam C_Shop) l.prog w K mg base "_law_letter" 1 1 zal := zfM d0 B
  have C__law_benches : Cal (Gam C_Shop) l.prog w K mg base "_law_benches" 1 2 zaq := ze9 d1 B C__law_letter
  have C__law_odd : Cal (Gam C_Shop) l.prog w K mg base "_law_odd" 1 1 zbI := zhW d2 B
  have C__law_all_setups : Cal (Gam C_Shop) l.prog w K mg base "_law_all_setups" 1 2 zaB := zd0 d3 B C__law_letter
  have C__law_bad_setups : Cal (Gam C_Shop) l.prog w K mg base "_law_bad_setups" 2 3 zaN := zdZ d4 B C__law_all_setups
  have C__law_bad_jobs : Cal (Gam C_Shop) l.prog w K mg base "_law_bad_jobs" 2 1 zaW := zeL d5 B
  have C__law_all_steps : Cal (Gam C_Shop) l.prog w K mg base "_law_all_steps" 1 2 zaD := zeo d6 B C__law_letter
  have C__law_bad_steps : Cal (Gam C_Shop) l.prog w K mg base "_law_bad_steps" 2 3 zaP := zem d7 B C__law_benches C__law_all_steps
  have C__law_bad_benches : Cal (Gam C_Shop) l.prog w K mg base "_law_bad_benches" 2 3 zaJ := zdG d8 B C__law_benches
  have C__law_bad_stocks : Cal (Gam C_Shop) l.prog w K mg base "_law_bad_stocks" 2 2 zaM := zdY d9 B C__law_letter
  have C__law_bad_links : Cal (Gam C_Shop) l.prog w K mg base "_law_bad_links" 3 1 zaQ := zen d10 B
  have C__law_spoilt : Cal (Gam C_Shop) l.prog w K mg base "_law_spoilt" 3 4 zaO := zfL d11 B C__law_odd C__law_bad_setups C__law_bad_jobs C__law_bad_steps C__law_bad_benches C__law_bad_stocks C__law_bad_links
  have C_is_whole : Cal (Gam C_Shop) l.prog w K mg base "is_whole" 1 1 zbD := zhO d12 B
  have C_is_within : Cal (Gam C_Shop) l.prog w K mg base "is_within" 3 2 zah := zgZ d13 B C_is_whole
  have C_is_tuple : Cal (Gam C_Shop) l.prog w K mg base "is_tuple" 2 1 zai := zhP d14 B
  have C_is_break : Cal (Gam C_Shop) l.prog w K mg base "is_break" 2 3 zbG := zhS d15 B C_is_within C_is_tuple
  have C_is_list : Cal (Gam C_Shop) l.prog w K mg base "is_list" 3 1 zam := ziv d16 B
  have C_are_breaks : Cal (Gam C_Shop) l.prog w K mg base "are_breaks" 2 4 zbo := zf6 d17 B C_is_break C_is_list
  have C_is_name : Cal (Gam C_Shop) l.prog w K mg base "is_name" 1 1 zay := ziu d18 B
  have C_is_bench : Cal (Gam C_Shop) l.prog w K mg base "is_bench" 2 5 zbH := zhT d19 B C_are_breaks C_is_name C_is_tuple
  have C_are_unlike : Cal (Gam C_Shop) l.prog w K mg base "are_unlike" 1 1 zaf := zf3 d20 B
  have C_are_benches : Cal (Gam C_Shop) l.prog w K mg base "are_benches" 2 6 zaV := zfJ d21 B C_is_bench C_is_list C_are_unlike
  have C_is_one_of : Cal (Gam C_Shop) l.prog w K mg base "is_one_of" 2 2 zau := zg0 d22 B C_is_name
  have C_is_way : Cal (Gam C_Shop) l.prog w K mg base "is_way" 3 3 zcu := zjN d23 B C_is_within C_is_one_of C_is_tuple
  have C_are_ways : Cal (Gam C_Shop) l.prog w K mg base "are_ways" 3 4 zbV := zhU d24 B C_is_way C_is_list C_are_unlike
  have C_is_step : Cal (Gam C_Shop) l.prog w K mg base "is_step" 3 5 zb3 := zit d25 B C_is_name C_is_tuple C_are_ways
  have C_are_steps : Cal (Gam C_Shop) l.prog w K mg base "are_steps" 3 6 zba := zg2 d26 B C_is_step C_is_list C_are_unlike
  have C_is_job : Cal (Gam C_Shop) l.prog w K mg base "is_job" 3 3 zcM := zjO d27 B C_is_name C_is_tuple C_is_within C_is_one_of C_is_list
  have C_are_jobs : Cal (Gam C_Shop) l.prog w K mg base "are_jobs" 3 4 zbm := zhV d28 B C_is_job C_is_list C_are_unlike
  have C_is_setup : Cal (Gam C_Shop) l.prog w K mg base "is_setup" 3 3 zbF := zhR d29 B C_is_one_of C_is_tuple C_is_within C_is_name
  have C_are_setups : Cal (Gam C_Shop) l.prog w K mg base "are_setups" 3 4 za0 := zf5 d30 B C_is_setup C_is_list C_are_unlike
  have C_is_link : Cal (Gam C_Shop) l.prog w K mg base "is_link" 3 3 zb4 := ziw d31 B C_is_one_of C_is_tuple C_is_within
  have C_are_links : Cal (Gam C_Shop) l.prog w K mg base "are_links" 3 4 zbb := zg3 d32 B C_is_link C_is_list C_are_unlike
  have C_is_amount : Cal (Gam C_Shop) l.prog w K mg base "is_amount" 2 3 zbs := zg1 d33 B C_is_within C_is_one_of C_is_tuple
  have C_are_amounts : Cal (Gam C_Shop) l.prog w K mg base "are_amounts" 2 4 za7 := zfK d34 B C_is_amount C_is_list C_are_unlike
  have C_is_stock : Cal (Gam C_Shop) l.prog w K mg base "is_stock" 2 5 zbE := zhQ d35 B C_is_name C_is_tuple C_is_within C_are_amounts
  have C_are_stocks : Cal (Gam C_Shop) l.prog w K mg base "are_stocks" 2 6 za8 := zf4 d36 B C_is_stock C_is_list C_are_unlike
  have C_first_bad_part : Cal (Gam C_Shop) l.prog w K mg base "first_bad_part" 7 7 zaA := zel d37 B C_is_within C_are_benches C_are_steps C_are_jobs C_are_setups C_are_links C_are_stocks
  have C_fresh : ∀ n, Cal (Gam C_Shop) l.prog w K mg base "fresh" 1 n (zcV n) := fun n => by
    induction n with
    | zero => exact Dfn.none (ps := ["thing"]) d38 (fun _ _ _ _ _ _ us hl => match us, hl with | [_], _ => rfl)
    | succ n ih => exact zlj d38 B ih
  replace C_fresh : Cal (Gam C_Shop) l.prog w K mg base "fresh" 1 8 zbt := C_fresh 8
  have C_Shop___init__ : CalIY (Gam C_Shop) l.prog w K mg base "Shop" CN "part" 7 9 zaF := zeM FN ZN hbN (PySem.W.mg_of X G aCN) O_Shop d39 B C_first_bad_part C_fresh cf_Shop
  have C__law_refused : Cal (Gam C_Shop) l.prog w K mg base "_law_refused" 2 11 zax := ze8 d40 B RK C_Shop___init__
  have C__law_all_links : Cal (Gam C_Shop) l.prog w K mg base "_law_all_links" 1 2 za4 := zep d41 B C__law_letter
  have C__law_at_most : Cal (Gam C_Shop) l.prog w K mg base "_law_at_most" 1 12 zaY := zfa d42 B C__law_letter C__law_all_links C__law_all_setups C__law_all_steps C__law_benches C__law_refused
  have FL := zkX (st := zfk) l43 c43 k43
  have ok : FnOk l.prog w K mg base CX0 13 fa _ ["_law_script"] (spF (Gam C_Shop) K 1 zoe) := FL.okD (k := 12) zgb (zoa B C__law_benches C__law_spoilt C__law_refused C__law_at_most fa)
  refine ok.imp fun vs H Q E hq => ?_
  obtain ⟨a, ns, rfl, hS, hlen, k⟩ := hq
  exact ⟨H, [.scr ns], .bl true, zbw.refl H, .cons (.scr hS) .nil, rfl, zl7 ns hlen, fun v G' H' _ r => by rw [r.bl_inv]; exact k H'⟩
theorem walk {l : PySem.W.OpenLaw} {q : Program} {loose : List Str} {XP : (Str -> Option Value) -> Heap -> Prop} {YP : World -> Heap -> Prop} {d : DefRec} {K : Params -> PySem.W.Frag} (hn : l.most = some 63) (hdf : d.params.defaults = [])
    (hY : ∀ (w : World) (h : Heap), YP w h -> (K w.params).In h)
    (F : ∀ (w : World) (mg : Str -> Option Value) (fa : Addr) (h : Heap), (K w.params).In h -> h.Ns mainGlobals mg -> mg d.name = some (.ref fa) ->
      ∃ fd : FuncData, (∀ (s : Shared) (u : Value), BindsTo s fd ⟨[u], []⟩ [("_law_script", u)]) /\ ∀ base : Heap, (K w.params).In base -> base.Ns mainGlobals mg -> FnOk l.prog w (K w.params) mg base CX0 13 fa fd ["_law_script"] (znc (K w.params))) :
    PySem.W.WalkO q loose XP YP l.row.toRowW d [] (fun f vs => PySem.call f vs) :=
  L2.walk_of (n := 63) (k := 13) (x := "_law_script") (CX := fun _ => CX0) (sp := fun w => znc (K w.params)) hn (by decide) hdf ⟨rfl, by decide, by decide⟩ hY F (fun _ _ a ns hl _ hS => ⟨a, ns, rfl, hS, hl, fun _ => rfl⟩) fun _ _ _ _ _ z => z
end Law
def PySem.W.Fast.tw6514379699937728736 : Unit := ()
def PySem.W.Fast.tw8676109683019651409 : Unit := ()
def PySem.W.Fast.tw208639177187184412 : Unit := ()
def PySem.W.Fast.tw460002023486903962 : Unit := ()
def PySem.W.Fast.tw11919053033258747403 : Unit := ()
def PySem.W.Fast.tw11911340060601975980 : Unit := ()
def PySem.W.Fast.tw5279684833098881141 : Unit := ()
def PySem.W.Fast.tw9739233956121089827 : Unit := ()
def PySem.W.Fast.tw3859540694578790765 : Unit := ()
def PySem.W.Fast.tw4828252863828978755 : Unit := ()
def PySem.W.Fast.tw1140412202332316451 : Unit := ()
def PySem.W.Fast.tw6497712169320222448 : Unit := ()
def PySem.W.Fast.tw2813275097401235673 : Unit := ()
def PySem.W.Fast.tw4705144960139674097 : Unit := ()
open PySem PySem.W PyProof.Rows L2
set_option maxRecDepth 100000 in
set_option maxHeartbeats 0 in
theorem PySem.Challenge.cw_shopbound_k05_no_shop_by_counts_holds : PySem.Challenge.rw_shopbound_k05_no_shop_by_counts.Holds := by
  w_on; o_law; k_head; (case hw => w_witness2)
  k_fill
  refine Law.walk (l := PySem.Challenge.rw_shopbound_k05_no_shop_by_counts) rfl rfl (fun w h Y => PySem.W.kIn_of Y) ?F
  case F =>
    intro w mg fa h KX G hmg
    refine' Law.all_mk KX G hmg ?aC_Shop ?d0 ?d1 ?d2 ?d3 ?d4 ?d5 ?d6 ?d7 ?d8 ?d9 ?d10 ?d11 ?d12 ?d13 ?d14 ?d15 ?d16 ?d17 ?d18 ?d19 ?d20 ?d21 ?d22 ?d23 ?d24 ?d25 ?d26 ?d27 ?d28 ?d29 ?d30 ?d31 ?d32 ?d33 ?d34 ?d35 ?d36 ?d37 ?d38 ?d39 ?d40 ?d41 ?d42 ?a43 ?l43 ?c43 ?k43 ?pg_Shop ?hd_Shop ?po_Shop ?sa_Shop ?mk_Shop ?kc_Shop ?n0_Shop ?n1_Shop ?n2_Shop ?n3_Shop ?n4_Shop ?n5_Shop ?n6_Shop ?n7_Shop ?n8_Shop ?n9_Shop ?n10_Shop ?aCN ?aCS ?aCG ?aCM ?aCP ?aCR ?aCY ?aCT ?dN ?lkN ?hmN ?hdN ?hhN ?xe ?saN ?obN ?noN ?kpN ?hspS ?rdS ?fcS ?xm1 ?x2 ?x3 ?xc ?xga ?xno ?xlk ?xgs ?xtk ?xsu ?xhd ?z_ValueError ?z_all ?z_bool ?z_dict ?z_int ?z_isinstance ?z_len ?z_list ?z_range ?z_set ?z_str ?z_tuple ?z_LONGEST_NAME ?z_MOST_AMOUNT ?z_MOST_BENCHES ?z_MOST_BREAKS ?z_MOST_HORIZON ?z_MOST_JOBS ?z_MOST_LINKS ?z_MOST_SETUPS ?z_MOST_STEPS ?z_MOST_STOCKS ?z_MOST_WAYS
    (case aC_Shop => k_is)
    (case d0 => refine' Dfn.mk' KX G ?a ?l ?c ?k; (case a => k_is); (case l => k_is); (case c => k_is); (case k => k_is))
    (case d1 => refine' Dfn.mk' KX G ?a ?l ?c ?k; (case a => k_is); (case l => k_is); (case c => k_is); (case k => k_is))
    (case d2 => refine' Dfn.mk' KX G ?a ?l ?c ?k; (case a => k_is); (case l => k_is); (case c => k_is); (case k => k_is))
    (case d3 => refine' Dfn.mk' KX G ?a ?l ?c ?k; (case a => k_is); (case l => k_is); (case c => k_is); (case k => k_is))
    (case d4 => refine' Dfn.mk' KX G ?a ?l ?c ?k; (case a => k_is); (case l => k_is); (case c => k_is); (case k => k_is))
    (case d5 => refine' Dfn.mk' KX G ?a ?l ?c ?k; (case a => k_is); (case l => k_is); (case c => k_is); (case k => k_is))
    (case d6 => refine' Dfn.mk' KX G ?a ?l ?c ?k; (case a => k_is); (case l => k_is); (case c => k_is); (case k => k_is))
    (case d7 => refine' Dfn.mk' KX G ?a ?l ?c ?k; (case a => k_is); (case l => k_is); (case c => k_is); (case k => k_is))
    (case d8 => refine' Dfn.mk' KX G ?a ?l ?c ?k; (case a => k_is); (case l => k_is); (case c => k_is); (case k => k_is))
    (case d9 => refine' Dfn.mk' KX G ?a ?l ?c ?k; (case a => k_is); (case l => k_is); (case c => k_is); (case k => k_is))
    (case d10 => refine' Dfn.mk' KX G ?a ?l ?c ?k; (case a => k_is); (case l => k_is); (case c => k_is); (case k => k_is))
    (case d11 => refine' Dfn.mk' KX G ?a ?l ?c ?k; (case a => k_is); (case l => k_is); (case c => k_is); (case k => k_is))
    (case d12 => refine' Dfn.mk' KX G ?a ?l ?c ?k; (case a => k_is); (case l => k_is); (case c => k_is); (case k => k_is))
    (case d13 => refine' Dfn.mk' KX G ?a ?l ?c ?k; (case a => k_is); (case l => k_is); (case c => k_is); (case k => k_is))
    (case d14 => refine' Dfn.mk' KX G ?a ?l ?c ?k; (case a => k_is); (case l => k_is); (case c => k_is); (case k => k_is))
    (case d15 => refine' Dfn.mk' KX G ?a ?l ?c ?k; (case a => k_is); (case l => k_is); (case c => k_is); (case k => k_is))
    (case d16 => refine' Dfn.mk' KX G ?a ?l ?c ?k; (case a => k_is); (case l => k_is); (case c => k_is); (case k => k_is))
    (case d17 => refine' Dfn.mk' KX G ?a ?l ?c ?k; (case a => k_is); (case l => k_is); (case c => k_is); (case k => k_is))
    (case d18 => refine' Dfn.mk' KX G ?a ?l ?c ?k; (case a => k_is); (case l => k_is); (case c => k_is); (case k => k_is))
    (case d19 => refine' Dfn.mk' KX G ?a ?l ?c ?k; (case a => k_is); (case l => k_is); (case c => k_is); (case k => k_is))
    (case d20 => refine' Dfn.mk' KX G ?a ?l ?c ?k; (case a => k_is); (case l => k_is); (case c => k_is); (case k => k_is))
    (case d21 => refine' Dfn.mk' KX G ?a ?l ?c ?k; (case a => k_is); (case l => k_is); (case c => k_is); (case k => k_is))
    (case d22 => refine' Dfn.mk' KX G ?a ?l ?c ?k; (case a => k_is); (case l => k_is); (case c => k_is); (case k => k_is))
    (case d23 => refine' Dfn.mk' KX G ?a ?l ?c ?k; (case a => k_is); (case l => k_is); (case c => k_is); (case k => k_is))
    (case d24 => refine' Dfn.mk' KX G ?a ?l ?c ?k; (case a => k_is); (case l => k_is); (case c => k_is); (case k => k_is))
    (case d25 => refine' Dfn.mk' KX G ?a ?l ?c ?k; (case a => k_is); (case l => k_is); (case c => k_is); (case k => k_is))
    (case d26 => refine' Dfn.mk' KX G ?a ?l ?c ?k; (case a => k_is); (case l => k_is); (case c => k_is); (case k => k_is))
    (case d27 => refine' Dfn.mk' KX G ?a ?l ?c ?k; (case a => k_is); (case l => k_is); (case c => k_is); (case k => k_is))
    (case d28 => refine' Dfn.mk' KX G ?a ?l ?c ?k; (case a => k_is); (case l => k_is); (case c => k_is); (case k => k_is))
    (case d29 => refine' Dfn.mk' KX G ?a ?l ?c ?k; (case a => k_is); (case l => k_is); (case c => k_is); (case k => k_is))
    (case d30 => refine' Dfn.mk' KX G ?a ?l ?c ?k; (case a => k_is); (case l => k_is); (case c => k_is); (case k => k_is))
    (case d31 => refine' Dfn.mk' KX G ?a ?l ?c ?k; (case a => k_is); (case l => k_is); (case c => k_is); (case k => k_is))
    (case d32 => refine' Dfn.mk' KX G ?a ?l ?c ?k; (case a => k_is); (case l => k_is); (case c => k_is); (case k => k_is))
    (case d33 => refine' Dfn.mk' KX G ?a ?l ?c ?k; (case a => k_is); (case l => k_is); (case c => k_is); (case k => k_is))
    (case d34 => refine' Dfn.mk' KX G ?a ?l ?c ?k; (case a => k_is); (case l => k_is); (case c => k_is); (case k => k_is))
    (case d35 => refine' Dfn.mk' KX G ?a ?l ?c ?k; (case a => k_is); (case l => k_is); (case c => k_is); (case k => k_is))
    (case d36 => refine' Dfn.mk' KX G ?a ?l ?c ?k; (case a => k_is); (case l => k_is); (case c => k_is); (case k => k_is))
    (case d37 => refine' Dfn.mk' KX G ?a ?l ?c ?k; (case a => k_is); (case l => k_is); (case c => k_is); (case k => k_is))
    (case d38 => refine' Dfn.mk' KX G ?a ?l ?c ?k; (case a => k_is); (case l => k_is); (case c => k_is); (case k => k_is))
    (case d39 => refine' DfnM.mk' ?a ?i ?l ?c ?k; (case a => k_is); (case i => k_is); (case l => k_is); (case c => k_is); (case k => k_is))
    (case d40 => refine' Dfn.mk' KX G ?a ?l ?c ?k; (case a => k_is); (case l => k_is); (case c => k_is); (case k => k_is))
    (case d41 => refine' Dfn.mk' KX G ?a ?l ?c ?k; (case a => k_is); (case l => k_is); (case c => k_is); (case k => k_is))
    (case d42 => refine' Dfn.mk' KX G ?a ?l ?c ?k; (case a => k_is); (case l => k_is); (case c => k_is); (case k => k_is))
    (case a43 => k_is)
    (case l43 => k_is)
    (case c43 => k_is)
    (case k43 => k_is)
    (case pg_Shop => k_is)
    (case hd_Shop => k_is)
    (case po_Shop => k_is)
    (case sa_Shop => k_is)
    (case mk_Shop => k_is)
    (case kc_Shop => k_is)
    (case n0_Shop => k_is)
    (case n1_Shop => k_is)
    (case n2_Shop => k_is)
    (case n3_Shop => k_is)
    (case n4_Shop => k_is)
    (case n5_Shop => k_is)
    (case n6_Shop => k_is)
    (case n7_Shop => k_is)
    (case n8_Shop => k_is)
    (case n9_Shop => k_is)
    (case n10_Shop => k_is)
    (case aCN => k_is)
    (case aCS => k_is)
    (case aCG => k_is)
    (case aCM => k_is)
    (case aCP => k_is)
    (case aCR => k_is)
    (case aCY => k_is)
    (case aCT => k_is)
    (case dN => refine' DfnM.mk' ?a ?i ?l ?c ?k; (case a => k_is); (case i => k_is); (case l => k_is); (case c => k_is); (case k => k_is))
    (case lkN => k_is)
    (case hmN => rfl)
    (case hdN => rfl)
    (case hhN => rfl)
    (case xe => k_exc)
    (case saN => k_is)
    (case obN => k_is)
    (case noN => k_is)
    (case kpN => k_is)
    (case hspS => k_is)
    (case rdS => k_is)
    (case fcS => k_is)
    (case xm1 => kts_exm)
    (case x2 => kit_is)
    (case x3 => kit_is)
    (case xc => k_is)
    (case xga => k_is)
    (case xno => k_is)
    (case xlk => k_is)
    (case xgs => k_is)
    (case xtk => k_is)
    (case xsu => k_is)
    (case xhd => k_is)
    (case z_ValueError => k_is)
    (case z_all => k_is)
    (case z_bool => k_is)
    (case z_dict => k_is)
    (case z_int => k_is)
    (case z_isinstance => k_is)
    (case z_len => k_is)
    (case z_list => k_is)
    (case z_range => k_is)
    (case z_set => k_is)
    (case z_str => k_is)
    (case z_tuple => k_is)
    (case z_LONGEST_NAME => k_is)
    (case z_MOST_AMOUNT => k_is)
    (case z_MOST_BENCHES => k_is)
    (case z_MOST_BREAKS => k_is)
    (case z_MOST_HORIZON => k_is)
    (case z_MOST_JOBS => k_is)
    (case z_MOST_LINKS => k_is)
    (case z_MOST_SETUPS => k_is)
    (case z_MOST_STEPS => k_is)
    (case z_MOST_STOCKS => k_is)
    (case z_MOST_WAYS => k_is)
end
