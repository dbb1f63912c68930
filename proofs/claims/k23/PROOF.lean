import PyProof.Rows.All
import Wide.All
import OpenK.AllK
import Wide.FinOn
import Lean
import PyProof.EqAt
import PyProof.EqKinds
import PyProof.TupleCall
import KE.KDictOf
import PyProof.AttrMiss
import PyProof.IsiH_list
import PySem.SetOps
import KE.KEqDict
import KE.KItemsList
import KE.KDictSum
import KE.KRevSl
import PyProof.Rows.SortStr
import PyProof.Rows.SortWalk
import PyProof.DictWalks
import PyProof.StrLawsTight
import KE.KIntText
import PyProof.Rows.StrIntSpec
import PyProof.StrLawsJoin
import PySem.Challenge.RW_shopbound_k23_plans_written
set_option Elab.async false
set_option linter.all false
set_option maxRecDepth 100000
section
namespace L2
open PySem PySem.Spec PyProof.Rows
abbrev Key := Sum Int Str
def keyIs : Key -> Value -> Bool
  | .inl k, v => Value.isInt k v
  | .inr x, v => Value.isStrOf x v
def keyH (w : World) : Key -> Int
  | .inl k => hashInt k
  | .inr x => hashStr w x
theorem keyIs_shape : ∀ {k : Key} {v : Value}, keyIs k v = true -> (∃ i t, k = Sum.inl i /\ v = Value.int i t) \/ (∃ x t, k = Sum.inr x /\ v = Value.str x t)
  | .inl i, v, h => by
    obtain ⟨t, e⟩ := Value.isInt_shape (k := i) (v := v) h
    exact .inl ⟨i, t, rfl, e⟩
  | .inr x, v, h => by
    obtain ⟨t, e⟩ := Value.isStrOf_shape (x := x) (v := v) h
    exact .inr ⟨x, t, rfl, e⟩
theorem keyIs_int (i : Int) (t : Tok) : keyIs (.inl i) (.int i t) = true := by simp [keyIs, Value.isInt]
theorem keyIs_str (x : Str) (t : Tok) : keyIs (.inr x) (.str x t) = true := by simp [keyIs, Value.isStrOf]
theorem key_ll (a b : Int) : decide ((Sum.inl a : Key) = Sum.inl b) = (a == b) := by
  by_cases e : a = b
  · subst e; simp
  · have h : ¬ (Sum.inl a : Key) = Sum.inl b := fun q => e (Sum.inl.inj q)
    rw [decide_eq_false h]
    exact (beq_eq_false_iff_ne.mpr e).symm
theorem key_rr (a b : Str) : decide ((Sum.inr a : Key) = Sum.inr b) = decide (a = b) := by
  by_cases e : a = b
  · subst e; simp
  · have h : ¬ (Sum.inr a : Key) = Sum.inr b := fun q => e (Sum.inr.inj q)
    rw [decide_eq_false h, decide_eq_false e]
theorem key_lr (a : Int) (b : Str) : decide ((Sum.inl a : Key) = Sum.inr b) = false := decide_eq_false (fun q => nomatch q)
theorem key_rl (a : Str) (b : Int) : decide ((Sum.inr a : Key) = Sum.inl b) = false := decide_eq_false (fun q => nomatch q)
def mixKind (prog : Program) (w : World) : PySem.KeyKind prog w Key where
  is := keyIs
  hash := keyH w
  inj := fun v a b ha hb => by
    rcases keyIs_shape ha with ⟨i, t, rfl, rfl⟩ | ⟨x, t, rfl, rfl⟩
    · rcases keyIs_shape hb with ⟨j, u, rfl, e⟩ | ⟨y, u, rfl, e⟩
      · injection e with e1 _; rw [e1]
      · exact nomatch e
    · rcases keyIs_shape hb with ⟨j, u, rfl, e⟩ | ⟨y, u, rfl, e⟩
      · exact nomatch e
      · injection e with e1 _; rw [e1]
  byValue := fun k v h => by
    rcases keyIs_shape h with ⟨i, t, rfl, rfl⟩ | ⟨x, t, rfl, rfl⟩ <;> rfl
  pyHash := fun hv h => by
    rcases keyIs_shape hv with ⟨i, t, rfl, rfl⟩ | ⟨x, t, rfl, rfl⟩
    · exact wpAny_pyHash_int h
    · exact wpAny_pyHash_str h
  eqBool := fun hu hv h => by
    rcases keyIs_shape hu with ⟨i, t, rfl, rfl⟩ | ⟨x, t, rfl, rfl⟩
    · rcases keyIs_shape hv with ⟨j, u, rfl, rfl⟩ | ⟨y, u, rfl, rfl⟩
      · rw [key_ll] at h; exact wpAny_eqBool_int h
      · rw [key_lr] at h; exact SeqAt.EqAt.int_str i t y u _ _ _ _ h
    · rcases keyIs_shape hv with ⟨j, u, rfl, rfl⟩ | ⟨y, u, rfl, rfl⟩
      · rw [key_rl] at h; exact SeqAt.EqAt.str_int x t j u _ _ _ _ h
      · rw [key_rr] at h; exact wpAny_eqBool_str h
  «strs» := fun k x t v h => by
    rcases keyIs_shape h with ⟨i, u, rfl, e⟩ | ⟨y, u, rfl, e⟩
    · exact nomatch e
    · injection e with e1 _
      subst e1
      cases v <;> rfl
theorem mixKind_int (prog : Program) (w : World) (i : Int) (t : Tok) : (mixKind prog w).is (.inl i) (.int i t) = true := keyIs_int i t
theorem mixKind_str (prog : Program) (w : World) (x : Str) (t : Tok) : (mixKind prog w).is (.inr x) (.str x t) = true := keyIs_str x t
end L2
namespace L2
open PySem PySem.Spec PyProof.Rows
inductive V where
  | non | bl (b : Bool) | int (i : Int) | str (x : Str) | byt (b : Array UInt8) | flt (b : UInt64) | ref (a : Addr) | ty (n : String)
  deriving DecidableEq
def RelV : V -> Value -> Prop
  | .non, u => u = Value.none
  | .bl b, u => u = Value.bool b
  | .int i, u => ∃ t, u = Value.int i t
  | .str x, u => ∃ t, u = Value.str x t
  | .byt b, u => ∃ t, u = Value.bytes b t
  | .flt b, u => ∃ t, u = Value.float b t
  | .ref a, u => u = Value.ref a
  | .ty n, u => u = Value.type n
abbrev Vals : List V -> List Value -> Prop := Paired RelV
theorem Vals.length {xs : List V} {us : List Value} (r : Vals xs us) : xs.length = us.length := Paired.length r
theorem Vals.get : ∀ {xs : List V} {us : List Value} {i : Nat} {x : V}, Vals xs us -> xs[i]? = some x -> ∃ u, us[i]? = some u /\ RelV x u
  | _, _, _, _, .nil, e => by simp at e
  | _, _, 0, _, .cons r _, e => by simp at e; subst e; exact ⟨_, rfl, r⟩
  | _, _, i + 1, x, .cons _ t, e => by
    obtain ⟨u, h1, h2⟩ := Vals.get (i := i) (x := x) t (by simpa using e)
    exact ⟨u, by simpa using h1, h2⟩
theorem Vals.append : ∀ {xs ys : List V} {us ws : List Value}, Vals xs us -> Vals ys ws -> Vals (xs ++ ys) (us ++ ws)
  | _, _, _, _, .nil, s => s
  | _, _, _, _, .cons r t, s => .cons r (Vals.append t s)
theorem Vals.take : ∀ {xs : List V} {us : List Value} (n : Nat), Vals xs us -> Vals (xs.take n) (us.take n)
  | _, _, 0, _ => .nil
  | _, _, _ + 1, .nil => .nil
  | _, _, n + 1, .cons r t => .cons r (Vals.take n t)
theorem Vals.drop : ∀ {xs : List V} {us : List Value} (n : Nat), Vals xs us -> Vals (xs.drop n) (us.drop n)
  | _, _, 0, r => r
  | _, _, _ + 1, .nil => .nil
  | _, _, n + 1, .cons _ t => Vals.drop n t
def RelO : Option V -> Option Value -> Prop
  | some v, some u => RelV v u
  | none, none => True
  | _, _ => False
def KV {κ : Type} : List (κ × V) -> List (κ × Value) -> Prop := Paired fun (p : κ × V) (q : κ × Value) => p.1 = q.1 /\ RelV p.2 q.2
def kV : Key -> V
  | .inl i => .int i
  | .inr x => .str x
inductive HO where
  | lst (xs : List V)
  | tup (xs : List V)
  | dK (kvs : List (Key × V)) | dT (kvs : List (List Key × V))
  | set (S : Int -> Bool) (n : Nat)
  | ins (C dx : Addr) (fs : List (Str × V))
  | own (x : Addr)
  | xd (fs : List (Str × V))
  | met (f x : Addr)
  | rng (lo hi : Int)
  | frz (o : Obj) (u : HO)
  | tbl (ps : Array Value)
  | ext (φ : Heap -> Prop)
abbrev Hp := Addr -> Option HO
def upd (H : Hp) (a : Addr) (o : HO) : Hp := fun b => if b = a then some o else H b
theorem upd_same {H : Hp} {a : Addr} {o : HO} : upd H a o a = some o := by unfold upd; rw [if_pos rfl]
theorem upd_ne {H : Hp} {a b : Addr} {o : HO} (h : b ≠ a) : upd H a o b = H b := by unfold upd; rw [if_neg h]
theorem ne_of {H : Hp} {a b : Addr} {o u : HO} (h : H a = some o) (h' : H b = some u) (d : o ≠ u) : a ≠ b := by
  intro e; subst e; rw [h] at h'; exact d (Option.some.inj h')
theorem ne_of_none {H : Hp} {a b : Addr} {o : HO} (h : H a = some o) (h' : H b = none) : a ≠ b := by
  intro e; subst e; rw [h] at h'; cases h'
section
variable (P : Program) (w : World)
def ObjOk (H : Hp) (h : Heap) (a : Addr) : HO -> Prop
  | .lst xs => xs.length <= sizeLine /\ ∃ (its : List Value) (n : Nat), Vals xs its /\ h.get? a = some { cls := .type "list", data := .seq its.toArray n }
  | .tup xs => xs.length <= sizeLine /\ ∃ its : List Value, Vals xs its /\ IsTup h a its.toArray
  | .dK kvs => kvs.length <= sizeLine /\ (a == sysModules) = false /\ ∃ vs, KV kvs vs /\ h.DictOf (mixKind P w) a vs
  | .dT kvs => kvs.length <= sizeLine /\ (a == sysModules) = false /\ ∃ xs : List (List Key × Addr × Value),
      Paired (fun (p : List Key × V) (q : List Key × Addr × Value) => p.1 = q.1 /\ H q.2.1 = some (.tup (p.1.map kV)) /\ RelV p.2 q.2.2) kvs xs /\
      ∃ o es ep, h.get? a = some o /\ o.ExactDict /\ o.data = .dict es ep /\ es.toList = xs.map (entryOfKey (tupleKind (mixKind P w))) /\ (xs.map (·.1)).Nodup
  | .set S n => h.SetOf (intKind P w) a S n
  | .ins C dx fs => H dx = some (.own a) /\ fs.length <= 1000 /\ dx ≠ a /\ h.get? a = some (PySem.W.instObj C dx) /\
      ∃ mA, h.Ns1 dx mA /\ (∀ f, RelO (fs.lookup f) (mA f)) /\ PySem.Within mA (fs.map (·.1))
  | .own _ => ∃ o, h.get? a = some o
  | .xd fs => ∃ mA, h.Ns1 a mA /\ ∀ f, RelO (fs.lookup f) (mA f)
  | .rng lo hi => ∃ t u v, h.get? a = some { cls := .type "range", data := .fields #[.int lo t, .int hi u, .int 1 v] }
  | .frz o u => h.get? a = some o /\ ObjOk H h a u
  | .tbl ps => h.get? a = some { cls := .none, data := .fields ps }
  | .met f x => h.get? a = some (PySem.W.methodObj (.ref f) (.ref x))
  | .ext φ => φ h /\ (∃ o, h.get? a = some o) /\ ∀ h1 h2 : Heap, φ h1 -> (∀ o, h1.get? a = some o -> h2.get? a = some o) -> φ h2
def HOk (H : Hp) (h : Heap) : Prop := ∀ a o, H a = some o -> ObjOk P w H h a o
end
section
variable {P : Program} {w : World} {H H' : Hp} {h h' : Heap} {a : Addr} {o : HO}
theorem ObjOk.lt (x : ObjOk P w H h a o) : a < h.objs.size := by
  cases o with
  | lst xs => obtain ⟨_, _, _, _, e⟩ := x; exact Heap.lt_size e
  | tup xs => obtain ⟨_, _, _, p⟩ := x; exact p.lt
  | dK kvs => obtain ⟨_, _, _, _, o, _, _, e, _⟩ := x; exact Heap.lt_size e
  | dT kvs => obtain ⟨_, _, _, _, o, _, _, e, _⟩ := x; exact Heap.lt_size e
  | set S n => obtain ⟨o, _, _, _, e, _⟩ := x; exact Heap.lt_size e
  | ins C dx fs => obtain ⟨_, _, _, e, _⟩ := x; exact Heap.lt_size e
  | own y => obtain ⟨_, e⟩ := x; exact Heap.lt_size e
  | xd fs => obtain ⟨_, ⟨_, _, _, e, _⟩, _⟩ := x; exact Heap.lt_size e
  | rng lo hi => obtain ⟨_, _, _, e⟩ := x; exact Heap.lt_size e
  | frz ob u => obtain ⟨e, _⟩ := x; exact Heap.lt_size e
  | tbl ps => exact Heap.lt_size (show h.get? a = some _ from x)
  | met f y => exact Heap.lt_size (show h.get? a = some _ from x)
  | ext φ => obtain ⟨_, ⟨_, e⟩, _⟩ := x; exact Heap.lt_size e
theorem Paired.mapP {α β : Type} {F G : α -> β -> Prop} : ∀ {l₁ : List α} {l₂ : List β}, Paired F l₁ l₂ -> (∀ a b, F a b -> G a b) -> Paired G l₁ l₂
  | _, _, .nil, _ => .nil
  | _, _, .cons r t, f => .cons (f _ _ r) (Paired.mapP t f)
theorem ObjOk.stay (x : ObjOk P w H h a o) (k : ∀ b u, (b = a \/ H b = some (.own a)) -> h.get? b = some u -> h'.get? b = some u)
    (ho : ∀ b, H b = some (.own a) -> H' b = some (.own a)) (ht : ∀ b xs, H b = some (.tup xs) -> H' b = some (.tup xs)) : ObjOk P w H' h' a o := by
  induction o with
  | lst xs => obtain ⟨z, its, n, r, e⟩ := x; exact ⟨z, its, n, r, k _ _ (.inl rfl) e⟩
  | tup xs => obtain ⟨z, its, r, ob, e, c⟩ := x; exact ⟨z, its, r, ob, k _ _ (.inl rfl) e, c⟩
  | dK kvs => obtain ⟨z, y, vs, r, ob, es, ep, e, c⟩ := x; exact ⟨z, y, vs, r, ob, es, ep, k _ _ (.inl rfl) e, c⟩
  | dT kvs =>
    obtain ⟨z, y, xs, r, ob, es, ep, e, c⟩ := x
    exact ⟨z, y, xs, Paired.mapP r fun p q z => ⟨z.1, ht _ _ z.2.1, z.2.2⟩, ob, es, ep, k _ _ (.inl rfl) e, c⟩
  | set S n => obtain ⟨ob, es, ep, t, e, c⟩ := x; exact ⟨ob, es, ep, t, k _ _ (.inl rfl) e, c⟩
  | ins C dx fs =>
    obtain ⟨d, z, ne, e, mA, ⟨od, es, ep, e2, c⟩, r⟩ := x
    exact ⟨ho _ d, z, ne, k _ _ (.inl rfl) e, mA, ⟨od, es, ep, k _ _ (.inr d) e2, c⟩, r⟩
  | own y => obtain ⟨ob, e⟩ := x; exact ⟨ob, k _ _ (.inl rfl) e⟩
  | xd fs => obtain ⟨mA, ⟨od, es, ep, e, c⟩, r⟩ := x; exact ⟨mA, ⟨od, es, ep, k _ _ (.inl rfl) e, c⟩, r⟩
  | rng lo hi => obtain ⟨t, u, v, e⟩ := x; exact ⟨t, u, v, k _ _ (.inl rfl) e⟩
  | frz ob u ih => obtain ⟨e, q⟩ := x; exact ⟨k _ _ (.inl rfl) e, ih q⟩
  | tbl ps =>
    have e : h.get? a = some { cls := .none, data := .fields ps } := x
    show h'.get? a = some { cls := .none, data := .fields ps }
    exact k a _ (.inl rfl) e
  | met f y =>
    have e : h.get? a = some (PySem.W.methodObj (.ref f) (.ref y)) := x
    show h'.get? a = some (PySem.W.methodObj (.ref f) (.ref y))
    exact k a _ (.inl rfl) e
  | ext φ => obtain ⟨p, ⟨o, e⟩, st⟩ := x; exact ⟨st _ _ p fun o q => k _ _ (.inl rfl) q, ⟨o, k _ _ (.inl rfl) e⟩, st⟩
theorem HOk.lt (x : HOk P w H h) (e : H a = some o) : a < h.objs.size := (x a o e).lt
theorem HOk.fresh (x : HOk P w H h) (e : h.objs.size <= a) : H a = none := by
  cases q : H a with
  | none => rfl
  | some u => exact absurd (Nat.lt_of_lt_of_le (x.lt q) e) (Nat.lt_irrefl _)
theorem HOk.kept (x : HOk P w H h) (k : ∀ b u, h.get? b = some u -> h'.get? b = some u) : HOk P w H h' := fun a o e =>
  (x a o e).stay (fun b u _ q => k b u q) (fun _ q => q) fun _ _ q => q
theorem HOk.laid (x : HOk P w H h) (k : ∀ b u, h.get? b = some u -> h'.get? b = some u) (hp : h.objs.size <= a) (new : ObjOk P w (upd H a o) h' a o) : HOk P w (upd H a o) h' := fun b u e => by
  have hn := x.fresh hp
  by_cases hb : b = a
  · subst hb; rw [upd_same] at e; cases e; exact new
  · rw [upd_ne hb] at e
    exact (x b u e).stay (fun c v _ q => k c v q) (fun c q => by rw [upd_ne (ne_of_none q hn)]; exact q) fun c xs q => by rw [upd_ne (ne_of_none q hn)]; exact q
end
def Rd (H : Hp) (a : Addr) (u : HO) : Prop := H a = some u \/ ∃ o, H a = some (.frz o u)
theorem Rd.ok {P : Program} {w : World} {H : Hp} {h : Heap} {a : Addr} {u : HO} (r : Rd H a u) (x : HOk P w H h) : ObjOk P w H h a u := by
  rcases r with r | ⟨o, r⟩
  · exact x a u r
  · obtain ⟨_, q⟩ := x a _ r
    exact q
def Mut : Option HO -> Prop
  | some (.lst _) => True
  | some (.dK _) => True
  | some (.dT _) => True
  | some (.set _ _) => True
  | some (.ins _ _ _) => True
  | some (.ext _) => True
  | _ => False
section
variable {P : Program} {w : World} {H : Hp} {h h' : Heap} {x e : Addr} {o' : HO}
theorem HOk.write (ok : HOk P w H h) (mu : Mut (H x)) (he : e = x \/ H e = some (.own x)) (k : ∀ b u, b ≠ e -> h.get? b = some u -> h'.get? b = some u) (heo : ∃ u, h'.get? e = some u)
    (new : ObjOk P w (upd H x o') h' x o') : HOk P w (upd H x o') h' := fun b u q => by
  have nown : ∀ c y, H c = some (.own y) -> c ≠ x := fun c y r z => by subst z; rw [r] at mu; exact mu
  have ntup : ∀ c xs, H c = some (.tup xs) -> c ≠ x := fun c xs r z => by subst z; rw [r] at mu; exact mu
  by_cases hb : b = x
  · subst hb; rw [upd_same] at q; cases q; exact new
  · rw [upd_ne hb] at q
    by_cases hbe : b = e
    · have q' : H b = some (.own x) := by
        rcases he with z | z
        · exact absurd (hbe.trans z) hb
        · rw [hbe]; exact z
      rw [q] at q'; cases q'
      obtain ⟨v, hv⟩ := heo
      exact ⟨v, by rw [hbe]; exact hv⟩
    · refine (ok b u q).stay (fun c v hc r => k c v ?_ r) (fun c r => by rw [upd_ne (nown c b r)]; exact r) fun c xs r => by rw [upd_ne (ntup c xs r)]; exact r
      rcases hc with rfl | hc
      · exact hbe
      · rintro rfl
        rcases he with z | z
        · exact nown c b hc z
        · rw [hc] at z; cases z; exact hb rfl
end
structure Un (fs ex : List Addr) (H H' : Hp) (h h' : Heap) : Prop where
  keep : ∀ b o, h.get? b = some o -> H b = none -> b ∉ fs -> b ∉ ex -> h'.get? b = some o
  slot : ∀ b o, h.get? b = some o -> H b = none -> b ∈ fs -> b ∉ ex -> ∃ sl, h'.get? b = some { o with slots := sl }
  free : ∀ b o, h.get? b = some o -> H b = none -> b ∉ ex -> H' b = none
  there : ∀ b o, h.get? b = some o -> b ∉ ex -> ∃ o', h'.get? b = some o'
  tups : ∀ b xs, H b = some (.tup xs) -> H' b = some (.tup xs)
  frzs : ∀ b o u, H b = some (.frz o u) -> H' b = some (.frz o u)
  tbls : ∀ b ps, H b = some (.tbl ps) -> ∃ more, H' b = some (.tbl (ps ++ more))
section
variable {fs fs' ex ex' : List Addr} {H H1 H2 : Hp} {h h1 h2 h' : Heap} {a x e : Addr} {o : HO}
theorem Un.any (u : Un fs ex H H1 h h1) {b : Addr} {ob : Obj} (q : h.get? b = some ob) (n : H b = none) (hx : b ∉ ex) : ∃ sl, h1.get? b = some { ob with slots := sl } := by
  by_cases hb : b ∈ fs
  · exact u.slot b ob q n hb hx
  · exact ⟨ob.slots, u.keep b ob q n hb hx⟩
theorem Un.kept (k : ∀ b u, h.get? b = some u -> h'.get? b = some u) : Un fs ex H H h h' :=
  ⟨fun b ob q _ _ _ => k b ob q, fun b ob q _ _ _ => ⟨ob.slots, k b ob q⟩, fun _ _ _ n _ => n, fun b ob q _ => ⟨ob, k b ob q⟩, fun _ _ q => q, fun _ _ _ q => q, fun _ ps q => ⟨#[], by rw [q]; simp⟩⟩
theorem Un.refl : Un fs ex H H h h := Un.kept fun _ _ q => q
theorem Un.laid (k : ∀ b u, h.get? b = some u -> h'.get? b = some u) (hp : h.objs.size <= a) (hn : H a = none) : Un fs ex H (upd H a o) h h' where
  keep := fun b u q _ _ _ => k b u q
  slot := fun b u q _ _ _ => ⟨u.slots, k b u q⟩
  free := fun b u q n _ => by rw [upd_ne (Nat.ne_of_lt (Nat.lt_of_lt_of_le (Heap.lt_size q) hp))]; exact n
  there := fun b u q _ => ⟨u, k b u q⟩
  tups := fun b xs q => by rw [upd_ne (ne_of_none q hn)]; exact q
  frzs := fun b u xs q => by rw [upd_ne (ne_of_none q hn)]; exact q
  tbls := fun b ps q => ⟨#[], by rw [upd_ne (ne_of_none q hn), q]; simp⟩
theorem Un.write (mu : Mut (H x)) (he : e = x \/ H e = some (.own x)) (k : ∀ b u, b ≠ e -> h.get? b = some u -> h'.get? b = some u) (heo : ∃ u, h'.get? e = some u) : Un fs ex H (upd H x o) h h' := by
  have hx : ∀ b, H b = none -> b ≠ x := fun b n z => by subst z; rw [n] at mu; exact mu
  have hb : ∀ b, H b = none -> b ≠ e := fun b n z => by
    subst z
    rcases he with r | r
    · exact hx b n r
    · rw [n] at r; cases r
  have hm : ∀ b u, H b = some u -> ¬ Mut (some u) -> b ≠ x := fun b u q nm z => by subst z; rw [q] at mu; exact nm mu
  refine ⟨fun b u q n _ _ => k b u (hb b n) q, fun b u q n _ _ => ⟨u.slots, k b u (hb b n) q⟩, fun b u q n _ => by rw [upd_ne (hx b n)]; exact n, fun b u q _ => ?_,
    fun b xs q => by rw [upd_ne (hm b _ q fun z => z)]; exact q, fun b u xs q => by rw [upd_ne (hm b _ q fun z => z)]; exact q, fun b ps q => ⟨#[], by rw [upd_ne (hm b _ q fun z => z), q]; simp⟩⟩
  by_cases hbe : b = e
  · subst hbe; exact heo
  · exact ⟨u, k b u hbe q⟩
end
def trk (h : Heap) (H : Hp) : List Addr := (List.range h.objs.size).filter fun a => (H a).isSome
def hidT (h : Heap) (H : Hp) : Heap := PySem.W.hideAll h (trk h H)
theorem hidT_size (h : Heap) (H : Hp) : (hidT h H).objs.size = h.objs.size := PySem.W.hideAll_size _ _
theorem hidT_get {h : Heap} {H : Hp} {b : Addr} {o : Obj} (e : h.get? b = some o) (n : H b = none) : (hidT h H).get? b = some o :=
  PySem.W.hideAll_get _ e fun hm => by
    have q : (H b).isSome = true := (List.mem_filter.mp hm).2
    rw [n] at q; simp at q
theorem of_hidT {h : Heap} {H : Hp} {b : Addr} {o : Obj} (e : (hidT h H).get? b = some o) : h.get? b = some o /\ H b = none := by
  have e' : h.get? b = some o := PySem.W.of_hideAll (trk h H) e
  refine ⟨e', ?_⟩
  cases q : H b with
  | none => rfl
  | some x =>
    have hm : b ∈ trk h H := List.mem_filter.mpr ⟨List.mem_range.mpr (Heap.lt_size e'), by simp [q]⟩
    have z : (hidT h H).get? b = none := PySem.W.hideAll_none (trk h H) hm
    rw [z] at e; cases e
def allNews (g h : Heap) (L : Addr) : List (Addr × Obj) := (List.range h.objs.size).filterMap fun a => if a = L \/ (g.get? a).isSome = true then none else (h.get? a).map fun o => (a, o)
def rest (g h : Heap) (L d : Addr) : List (Addr × Obj) := (allNews g h L).filter fun p => decide (p.1 ≠ d)
end L2
namespace L2
open PySem PySem.Spec PyProof.Rows
structure Mod (K : PySem.W.Frag) (mg : Str -> Option Value) (base : Heap) : Prop where
  kin : K.In base
  glob : base.Ns mainGlobals mg
  blt : ∃ mb, base.Ns builtinsNs mb /\ ∀ x : Str, x ≠ "__name__" -> mb x = bootBuiltins x
  nolimit : base.NoLimit
structure Cx where
  prog : Program
  w : World
  K : PySem.W.Frag
  mg : Str -> Option Value
  base : Heap
  A : Around
  N : List Str
  s₀ : Shared
  H₀ : Hp
  env : Env
  outer : List Env
  stack : List Env
  ex : List Addr
  fn : Str -> Bool
  calm : Bool
  pn : List (Addr × Obj)
  xe : Value -> Shared -> Prop
def frs (l : List Env) : List Addr := l.filterMap (·.frame)
abbrev Cx.fs (X : Cx) : List Addr := frs X.outer
def Vis (sc : Scope) (x : Str) : Prop := sc.names.lookup x = some .local \/ sc.names.lookup x = some .cell \/ sc.names.lookup x = some .free
def Loc (sc : Scope) (x : Str) : Prop := sc.names.lookup x = some .local \/ sc.names.lookup x = some .cell
def Look (env : Env) (h : Heap) (m : Str -> Option Value) (x : Str) (u : Value) : Prop :=
  (env.kindOf x = some .local /\ m x = some u) \/ ((env.kindOf x = some .cell \/ env.kindOf x = some .free) /\ ∃ c, env.cells.lookup x = some c /\ h.IsCell c (some u))
structure Cx.Ok (X : Cx) : Prop where
  mod : Mod X.K X.mg X.base
  kind : X.env.scope.kind = .function
  glob : X.env.globals = mainGlobals
  blt : X.env.builtins = builtinsNs
  above : X.s₀.heap.objs.size <= X.env.locals
  inj : ∀ x y c, X.env.cells.lookup x = some c -> X.env.cells.lookup y = some c -> x = y
  has : ∀ x, (X.env.kindOf x = some .cell \/ X.env.kindOf x = some .free) -> ∃ c, X.env.cells.lookup x = some c
  cab : ∀ x c, X.fn x = true -> X.env.cells.lookup x = some c -> X.s₀.heap.objs.size <= c
  hd : X.calm = true -> X.A.handled = none
  frames : X.A.frames = some X.stack
  stk : X.stack = X.outer \/ (X.stack = X.env :: X.outer /\ X.env.frame = some X.env.locals)
  exf : ∀ b ∈ X.ex, b ≠ X.env.locals /\ ∀ x c, X.env.cells.lookup x = some c -> c ≠ b
  bs : ∀ b o, X.base.get? b = some o -> X.s₀.heap.get? b = some o /\ X.H₀ b = none
  bsz : X.base.objs.size <= X.s₀.heap.objs.size
  noex : ∀ b o, X.base.get? b = some o -> b ∉ X.ex
  exfs : ∀ b ∈ X.ex, b ∉ X.fs
  funs : X.s₀.heap.FunFrames X.base X.outer
  frf : ∀ b ∈ X.fs, X.H₀ b = none
structure Inv (X : Cx) (pins : List (Addr × Obj)) (σ : List (Option V)) (H : Hp) (s : Shared) : Prop where
  ok : X.Ok
  os : s.os = X.s₀.os
  bare : AllBare s.gens
  base : Un X.fs X.ex X.H₀ H X.s₀.heap s.heap
  loc : ∃ m, s.heap.Ns X.env.locals m /\ ∀ (i : Nat) (x : Str) (v : V), X.N[i]? = some x -> σ[i]? = some (some v) -> Vis X.env.scope x -> ∃ u, RelV v u /\ Look X.env s.heap m x u
  cell : ∀ x c, X.env.cells.lookup x = some c -> ∃ v, s.heap.IsCell c v
  free : H X.env.locals = none
  freeC : ∀ x c, X.env.cells.lookup x = some c -> H c = none
  pin : ∀ p ∈ X.pn ++ pins, s.heap.get? p.1 = some p.2 /\ H p.1 = none /\ p.1 ≠ X.env.locals /\ p.1 ∉ X.fs /\ ∀ v, p.2.data ≠ .cell v
  hok : HOk X.prog X.w H s.heap
  len : σ.length = X.N.length
section
variable {X : Cx} {pins : List (Addr × Obj)} {σ : List (Option V)} {H H' : Hp} {s : Shared} {h' : Heap}
theorem Cx.Ok.nofr (ok : X.Ok) {b : Addr} {o : Obj} (e : X.base.get? b = some o) : b ∉ X.fs := fun hb => by
  have := (ok.funs.mem hb).1
  rw [e] at this; cases this
theorem Inv.bs (I : Inv X pins σ H s) : ∀ b o, X.base.get? b = some o -> s.heap.get? b = some o /\ H b = none := fun b o e =>
  ⟨I.base.keep b o (I.ok.bs b o e).1 (I.ok.bs b o e).2 (I.ok.nofr e) (I.ok.noex b o e), I.base.free b o (I.ok.bs b o e).1 (I.ok.bs b o e).2 (I.ok.noex b o e)⟩
theorem Inv.bk (I : Inv X pins σ H s) : ∀ b o, X.base.get? b = some o -> s.heap.get? b = some o := fun b o e => (I.bs b o e).1
theorem Inv.mod (I : Inv X pins σ H s) : Mod X.K X.mg X.base := I.ok.mod
theorem Inv.kIn (I : Inv X pins σ H s) : X.K.In s.heap := I.ok.mod.kin.keeps I.bk
theorem Inv.lt (I : Inv X pins σ H s) : X.env.locals < s.heap.objs.size := let ⟨_, hn, _⟩ := I.loc; hn.lt
theorem Inv.sz (I : Inv X pins σ H s) : X.s₀.heap.objs.size <= s.heap.objs.size := Nat.le_trans I.ok.above (Nat.le_of_lt I.lt)
theorem Inv.nofs (I : Inv X pins σ H s) {a : Addr} (h : s.heap.objs.size <= a) : a ∉ X.fs := fun hb => by
  obtain ⟨_, o, ho, _⟩ := I.ok.funs.mem hb
  exact absurd (Nat.lt_of_lt_of_le (Heap.lt_size ho) (Nat.le_trans I.sz h)) (Nat.lt_irrefl _)
theorem Inv.cne (I : Inv X pins σ H s) : ∀ x c, X.env.cells.lookup x = some c -> c ≠ X.env.locals := fun x c e z => by
  obtain ⟨v, o, ho, hd⟩ := I.cell x c e
  obtain ⟨m, ⟨o', es, ep, ho', hd', _⟩, _⟩ := I.loc
  rw [z, ho'] at ho; cases ho; rw [hd'] at hd; cases hd
theorem Inv.funs (I : Inv X pins σ H s) : s.heap.FunFrames X.base X.outer := by
  have all : ∀ (l : List Env), (∀ b ∈ frs l, b ∈ X.fs) -> X.s₀.heap.FunFrames X.base l -> s.heap.FunFrames X.base l := by
    intro l
    induction l with
    | nil => intro _ _; trivial
    | cons env r ih =>
      intro hs hl
      obtain ⟨hk, ⟨L, o, hf, hn, ho, hd⟩, hr⟩ := hl
      have hL : L ∈ X.fs := hs L (by unfold frs; rw [List.filterMap_cons, hf]; exact List.mem_cons_self)
      obtain ⟨sl, e⟩ := I.base.slot L o ho (I.ok.frf L hL) hL fun z => I.ok.exfs L z hL
      exact ⟨hk, ⟨L, _, hf, hn, e, hd⟩, ih (fun b hb => hs b (by unfold frs; rw [List.filterMap_cons, hf]; exact List.mem_cons_of_mem _ hb)) hr⟩
  exact all X.outer (fun _ hb => hb) I.ok.funs
theorem Inv.stack (I : Inv X pins σ H s) : s.heap.FunFrames X.base X.stack := by
  rcases I.ok.stk with e | ⟨e, hf⟩
  · rw [e]; exact I.funs
  · rw [e]
    obtain ⟨m, hn, _⟩ := I.loc
    refine .cons (by rw [I.ok.kind]; decide) hf hn ?_ I.funs
    exact Heap.get?_none_of_le (Nat.le_trans I.ok.bsz I.ok.above)
theorem Inv.stkSub (I : Inv X pins σ H s) : ∀ b ∈ frs X.stack, b ∈ X.env.locals :: X.fs := fun b hb => by
  rcases I.ok.stk with e | ⟨e, hf⟩
  · rw [e] at hb; exact List.mem_cons_of_mem _ hb
  · rw [e] at hb
    unfold frs at hb
    rw [List.filterMap_cons, hf] at hb
    exact hb
theorem Inv.stkFree (I : Inv X pins σ H s) : ∀ b ∈ frs X.stack, H b = none := fun b hb => by
  rcases List.mem_cons.mp (I.stkSub b hb) with e | hb
  · rw [e]; exact I.free
  · obtain ⟨_, o, ho, _⟩ := I.ok.funs.mem hb
    exact I.base.free b o ho (I.ok.frf b hb) fun z => I.ok.exfs b z hb
theorem Inv.step {g' : Array GenState} {t' : Nat} {d' : Drawn} {ch : List Addr} (I : Inv X pins σ H s)
    (hch : ∀ b ∈ ch, (b ∈ X.ex \/ X.s₀.heap.objs.size <= b) /\ b ≠ X.env.locals /\ (∀ x c, X.env.cells.lookup x = some c -> c ≠ b) /\ ∀ p ∈ X.pn ++ pins, p.1 ≠ b)
    (keep : ∀ b o, b ≠ X.env.locals -> b ∉ X.fs -> b ∉ ch -> s.heap.get? b = some o -> H b = none -> h'.get? b = some o)
    (slot : ∀ b o, b ≠ X.env.locals -> b ∈ X.fs -> b ∉ ch -> s.heap.get? b = some o -> H b = none -> ∃ sl, h'.get? b = some { o with slots := sl }) (free : ∀ b o, b ∉ ch -> s.heap.get? b = some o -> H b = none -> H' b = none)
    (there : ∀ b o, b ∉ ch -> s.heap.get? b = some o -> ∃ o', h'.get? b = some o')
    (tups : ∀ b xs, H b = some (.tup xs) -> H' b = some (.tup xs)) (frzs : ∀ b o u, H b = some (.frz o u) -> H' b = some (.frz o u)) (tbls : ∀ b ps, H b = some (.tbl ps) -> ∃ more, H' b = some (.tbl (ps ++ more)))
    (ns : ∀ m, s.heap.Ns X.env.locals m -> h'.Ns X.env.locals m) (hok : HOk X.prog X.w H' h') (hg : AllBare g') :
    Inv X pins σ H' { s with heap := h', gens := g', drawn := d', toks := t' } := by
  have neL : ∀ b o, X.s₀.heap.get? b = some o -> b ≠ X.env.locals := fun b o e => Nat.ne_of_lt (Nat.lt_of_lt_of_le (Heap.lt_size e) I.ok.above)
  have neC : ∀ b o, X.s₀.heap.get? b = some o -> b ∉ X.ex -> b ∉ ch := fun b o e hx hb => by
    rcases (hch b hb).1 with z | z
    · exact hx z
    · exact absurd (Nat.lt_of_lt_of_le (Heap.lt_size e) z) (Nat.lt_irrefl _)
  have cellK : ∀ x c, X.env.cells.lookup x = some c -> ∀ v, s.heap.IsCell c v -> h'.IsCell c v := fun x c e v ⟨o, ho, hd⟩ => by
    have nch : c ∉ ch := fun z => (hch c z).2.2.1 x c e rfl
    by_cases hc : c ∈ X.fs
    · obtain ⟨sl, q⟩ := slot c o (I.cne x c e) hc nch ho (I.freeC x c e)
      exact ⟨_, q, hd⟩
    · exact ⟨o, keep c o (I.cne x c e) hc nch ho (I.freeC x c e), hd⟩
  refine ⟨I.ok, I.os, hg, ⟨fun b o e n hb hx => ?_, fun b o e n hb hx => ?_, fun b o e n hx => ?_, fun b o e hx => ?_, fun b xs e => tups b xs (I.base.tups b xs e), fun b o xs e => frzs b o xs (I.base.frzs b o xs e), fun b ps e => ?_⟩, ?_, fun x c e => ?_, ?_, fun x c e => ?_, fun p hp => ?_, hok, I.len⟩
  · exact keep b o (neL b o e) hb (neC b o e hx) (I.base.keep b o e n hb hx) (I.base.free b o e n hx)
  · obtain ⟨sl, e1⟩ := I.base.slot b o e n hb hx
    obtain ⟨sl', e2⟩ := slot b _ (neL b o e) hb (neC b o e hx) e1 (I.base.free b o e n hx)
    exact ⟨sl', e2⟩
  · obtain ⟨o', e1⟩ := I.base.there b o e hx
    exact free b o' (neC b o e hx) e1 (I.base.free b o e n hx)
  · obtain ⟨o', e1⟩ := I.base.there b o e hx
    exact there b o' (neC b o e hx) e1
  · obtain ⟨m1, e1⟩ := I.base.tbls b ps e
    obtain ⟨m2, e2⟩ := tbls b _ e1
    exact ⟨m1 ++ m2, by rw [e2, Array.append_assoc]⟩
  · obtain ⟨m, hn, hl⟩ := I.loc
    refine ⟨m, ns m hn, fun i x v e1 e2 e3 => ?_⟩
    obtain ⟨u, r, l⟩ := hl i x v e1 e2 e3
    refine ⟨u, r, ?_⟩
    rcases l with l | ⟨k, c, e, z⟩
    · exact .inl l
    · exact .inr ⟨k, c, e, cellK x c e _ z⟩
  · obtain ⟨v, z⟩ := I.cell x c e
    exact ⟨v, cellK x c e v z⟩
  · obtain ⟨m, ⟨o, _, _, ho, _⟩, _⟩ := I.loc
    exact free _ o (fun z => (hch _ z).2.1 rfl) ho I.free
  · obtain ⟨v, o, ho, hd⟩ := I.cell x c e
    exact free c o (fun z => (hch c z).2.2.1 x c e rfl) ho (I.freeC x c e)
  · obtain ⟨e, n, ne, nf, d⟩ := I.pin p hp
    have nch : p.1 ∉ ch := fun z => (hch p.1 z).2.2.2 p hp rfl
    exact ⟨keep p.1 p.2 ne nf nch e n, free p.1 p.2 nch e n, ne, nf, d⟩
theorem Inv.un {t' : Nat} (I : Inv X pins σ H s) (u : Un X.fs [] H H' s.heap h') (hok : HOk X.prog X.w H' h') : Inv X pins σ H' { s with heap := h', toks := t' } := by
  obtain ⟨m, ⟨o, es, ep, ho, r⟩, _⟩ := id I.loc
  obtain ⟨sl, hL⟩ := u.any ho I.free (by simp)
  exact I.step (g' := s.gens) (d' := s.drawn) (ch := []) (fun _ z => nomatch z) (fun b o _ hb _ e n => u.keep b o e n hb (by simp)) (fun b o _ hb _ e n => u.slot b o e n hb (by simp)) (fun b o _ e n => u.free b o e n (by simp)) (fun b o _ e => u.there b o e (by simp)) u.tups u.frzs u.tbls (fun m' hm => by
    obtain ⟨o', es', ep', ho', r'⟩ := hm
    rw [ho] at ho'; cases ho'
    exact ⟨_, es', ep', hL, r'⟩) hok I.bare
theorem Inv.call {g' : Array GenState} {t' : Nat} {d' : Drawn} {ch : List Addr} (I : Inv X pins σ H s) (u : Un (frs X.stack) ch H H' s.heap h') (hok : HOk X.prog X.w H' h') (hg : AllBare g')
    (hch : ∀ b ∈ ch, (b ∈ X.ex \/ X.s₀.heap.objs.size <= b) /\ b ≠ X.env.locals /\ (∀ x c, X.env.cells.lookup x = some c -> c ≠ b) /\ ∀ p ∈ X.pn ++ pins, p.1 ≠ b) :
    Inv X pins σ H' { s with heap := h', gens := g', drawn := d', toks := t' } := by
  obtain ⟨m, ⟨o, es, ep, ho, r⟩, _⟩ := id I.loc
  obtain ⟨sl, hL⟩ := u.any ho I.free fun z => (hch _ z).2.1 rfl
  exact I.step (ch := ch) hch (fun b o hL hb hc e n => u.keep b o e n (fun z => (List.mem_cons.mp (I.stkSub b z)).elim hL hb) hc) (fun b o _ _ hc e n => u.any e n hc) (fun b o hc e n => u.free b o e n hc) (fun b o hc e => u.there b o e hc) u.tups u.frzs u.tbls (fun m' hm => by
    obtain ⟨o', es', ep', ho', r'⟩ := hm
    rw [ho] at ho'; cases ho'
    exact ⟨_, es', ep', hL, r'⟩) hok hg
theorem Inv.turned {t' : Nat} {it : Addr} (I : Inv X pins σ H s) (k : ∀ b o, b ≠ it -> s.heap.get? b = some o -> h'.get? b = some o) (hn : H it = none) (hL : it ≠ X.env.locals)
    (h1 : it ∈ X.ex \/ X.s₀.heap.objs.size <= it) (h2 : ∀ x c, X.env.cells.lookup x = some c -> c ≠ it) (h3 : ∀ p ∈ X.pn ++ pins, p.1 ≠ it) : Inv X pins σ H { s with heap := h', toks := t' } := by
  have nit : ∀ b u, H b = some u -> b ≠ it := fun b u e z => by rw [z, hn] at e; cases e
  refine I.step (g' := s.gens) (d' := s.drawn) (ch := [it]) (fun b hb => ?_) (fun b o _ _ hc e _ => k b o (fun z => hc (by simp [z])) e) (fun b o _ _ hc e _ => ⟨o.slots, k b o (fun z => hc (by simp [z])) e⟩) (fun _ _ _ _ n => n)
    (fun b o hc e => ⟨o, k b o (fun z => hc (by simp [z])) e⟩) (fun _ _ e => e) (fun _ _ _ e => e) (fun b ps e => ⟨#[], by rw [e]; simp⟩) (fun m hm => ?_) (fun b u e => ?_) I.bare
  · have e : b = it := by simpa using hb
    subst e
    exact ⟨h1, hL, h2, h3⟩
  · obtain ⟨o, es, ep, ho, r⟩ := hm
    exact ⟨o, es, ep, k _ o (Ne.symm hL) ho, r⟩
  · refine (I.hok b u e).stay (fun c v hc q => k c v ?_ q) (fun _ q => q) fun _ _ q => q
    rcases hc with z | z
    · rw [z]; exact nit b u e
    · exact nit c _ z
theorem Inv.tok (I : Inv X pins σ H s) (t : Nat) : Inv X pins σ H { s with toks := t } := I.un (h' := s.heap) (t' := t) Un.refl I.hok
theorem Inv.kept {t' : Nat} (I : Inv X pins σ H s) (k : ∀ b u, s.heap.get? b = some u -> h'.get? b = some u) : Inv X pins σ H { s with heap := h', toks := t' } := I.un (Un.kept k) (I.hok.kept k)
theorem Inv.laid {a : Addr} {o : HO} {t' : Nat} (I : Inv X pins σ H s) (k : ∀ b u, s.heap.get? b = some u -> h'.get? b = some u) (hp : s.heap.objs.size <= a) (new : ObjOk X.prog X.w (upd H a o) h' a o) :
    Inv X pins σ (upd H a o) { s with heap := h', toks := t' } := I.un (Un.laid k hp (I.hok.fresh hp)) (I.hok.laid k hp new)
theorem Inv.write {x e : Addr} {o : HO} {t' : Nat} (I : Inv X pins σ H s) (mu : Mut (H x)) (he : e = x \/ H e = some (.own x)) (k : ∀ b u, b ≠ e -> s.heap.get? b = some u -> h'.get? b = some u) (heo : ∃ u, h'.get? e = some u)
    (new : ObjOk X.prog X.w (upd H x o) h' x o) : Inv X pins σ (upd H x o) { s with heap := h', toks := t' } := I.un (Un.write mu he k heo) (I.hok.write mu he k heo new)
theorem Inv.pins_of {pins' : List (Addr × Obj)} (I : Inv X pins σ H s) (h : ∀ p ∈ pins', s.heap.get? p.1 = some p.2 /\ H p.1 = none /\ p.1 ≠ X.env.locals /\ p.1 ∉ X.fs /\ ∀ v, p.2.data ≠ .cell v) : Inv X pins' σ H s :=
  ⟨I.ok, I.os, I.bare, I.base, I.loc, I.cell, I.free, I.freeC, fun p hp => (List.mem_append.mp hp).elim (fun z => I.pin p (List.mem_append_left _ z)) (h p), I.hok, I.len⟩
theorem nodup_ix {N : List Str} (hN : N.Nodup) {i j : Nat} {x : Str} (a : N[i]? = some x) (b : N[j]? = some x) : i = j := by
  obtain ⟨h1, e1⟩ := List.getElem?_eq_some_iff.mp a
  obtain ⟨h2, e2⟩ := List.getElem?_eq_some_iff.mp b
  exact (List.getElem_inj hN).mp (e1.trans e2.symm)
theorem store_ok2 {M : Model} {A : Around} {E : Value -> Shared -> Prop} {i : Nat} {x : Str} {v : V} {u : Value} {Q : Unit -> Shared -> Prop} (I : Inv X pins σ H s) (hN : X.N.Nodup) (hi : X.N[i]? = some x) (hx : Loc X.env.scope x) (r : RelV v u)
    (h : ∀ s', Inv X pins (σ.set i (some v)) H s' -> (∃ a, Heap.SameBut a s.heap s'.heap /\ (a = X.env.locals \/ X.env.cells.lookup x = some a)) -> Q () s') (hf : X.fn x = true \/ X.env.scope.names.lookup x = some .local := by first | exact .inl rfl | exact .inr rfl | assumption) : wpAny M A (storeName X.env x u) Q E s := by
  obtain ⟨m, hn, hl⟩ := id I.loc
  have hcls : (X.env.scope.kind == .class || (X.env.scope.kind == .module && X.env.locals != X.env.globals)) = false := by rw [I.ok.kind]; rfl
  have hiσ : i < σ.length := by rw [I.len]; exact (List.getElem?_eq_some_iff.mp hi).1
  have cne := I.cne
  have tracked : ∀ {a : Addr} {h' : Heap}, (∃ o, s.heap.get? a = some o /\ H a = none) -> Heap.SameBut a s.heap h' -> HOk X.prog X.w H h' := fun {a h'} ha hs b ob e => by
    obtain ⟨_, _, hfree⟩ := ha
    refine (I.hok b ob e).stay (fun c w' hc q => (hs.2 c ?_).trans q) (fun _ q => q) fun _ _ q => q
    rintro rfl
    rcases hc with rfl | hc
    · rw [hfree] at e; cases e
    · rw [hfree] at hc; cases hc
  rcases hx with hk | hk
  · refine wpAny_storeName_local hk hn (fun h' hn' hs => ?_) hcls
    obtain ⟨oL, _, _, hoL, _⟩ := id hn
    refine h _ ⟨I.ok, I.os, I.bare, ⟨fun b o e n hb hx => ?_, fun b o e n hb hx => ?_, I.base.free, fun b o e hx => ?_, I.base.tups, I.base.frzs, I.base.tbls⟩, ⟨_, hn', fun j y v' e1 e2 e3 => ?_⟩, fun y c e => ?_, I.free, I.freeC, fun p hp => ?_, tracked ⟨oL, hoL, I.free⟩ hs, by simpa using I.len⟩ ⟨_, hs, .inl rfl⟩
    · exact (hs.2 b (Nat.ne_of_lt (Nat.lt_of_lt_of_le (Heap.lt_size e) I.ok.above))).trans (I.base.keep b o e n hb hx)
    · obtain ⟨sl, e1⟩ := I.base.slot b o e n hb hx
      exact ⟨sl, (hs.2 b (Nat.ne_of_lt (Nat.lt_of_lt_of_le (Heap.lt_size e) I.ok.above))).trans e1⟩
    · obtain ⟨o', e1⟩ := I.base.there b o e hx
      exact ⟨o', (hs.2 b (Nat.ne_of_lt (Nat.lt_of_lt_of_le (Heap.lt_size e) I.ok.above))).trans e1⟩
    · by_cases hj : j = i
      · subst hj
        rw [hi] at e1; cases e1
        rw [List.getElem?_set_self hiσ] at e2
        cases e2
        exact ⟨u, r, .inl ⟨hk, by simp⟩⟩
      · rw [List.getElem?_set_ne (Ne.symm hj)] at e2
        obtain ⟨u', r', q⟩ := hl j y v' e1 e2 e3
        refine ⟨u', r', ?_⟩
        rcases q with ⟨k, e⟩ | ⟨k, c, e, z⟩
        · refine .inl ⟨k, ?_⟩
          have : y ≠ x := fun e => hj (nodup_ix hN e1 (e ▸ hi))
          simp [this, e]
        · exact .inr ⟨k, c, e, z.sameBut hs (cne y c e)⟩
    · obtain ⟨w', z⟩ := I.cell y c e
      exact ⟨w', z.sameBut hs (cne y c e)⟩
    · obtain ⟨e, n, ne, nf, d⟩ := I.pin p hp
      exact ⟨(hs.2 p.1 ne).trans e, n, ne, nf, d⟩
  · have hfn : X.fn x = true := by
      rcases hf with z | z
      · exact z
      · rw [z] at hk; cases hk
    obtain ⟨c, hc⟩ := I.ok.has x (.inl hk)
    obtain ⟨w', z⟩ := I.cell x c hc
    refine wpAny_storeName_cell I.ok.kind hk hc z (fun h' hc' hs => ?_)
    obtain ⟨oc, hoc, hocd⟩ := id z
    refine h { s with heap := h' } ⟨I.ok, I.os, I.bare, ⟨fun b o e n hb hx => ?_, fun b o e n hb hx => ?_, I.base.free, fun b o e hx => ?_, I.base.tups, I.base.frzs, I.base.tbls⟩, ⟨m, hn.sameBut hs (Ne.symm (cne x c hc)), fun j y v' e1 e2 e3 => ?_⟩, fun y c' e => ?_, I.free, I.freeC, fun p hp => ?_, tracked ⟨oc, hoc, I.freeC x c hc⟩ hs, by simpa using I.len⟩ ⟨c, hs, .inr hc⟩
    · exact (hs.2 b (Nat.ne_of_lt (Nat.lt_of_lt_of_le (Heap.lt_size e) (I.ok.cab x c hfn hc)))).trans (I.base.keep b o e n hb hx)
    · obtain ⟨sl, e1⟩ := I.base.slot b o e n hb hx
      exact ⟨sl, (hs.2 b (Nat.ne_of_lt (Nat.lt_of_lt_of_le (Heap.lt_size e) (I.ok.cab x c hfn hc)))).trans e1⟩
    · obtain ⟨o', e1⟩ := I.base.there b o e hx
      exact ⟨o', (hs.2 b (Nat.ne_of_lt (Nat.lt_of_lt_of_le (Heap.lt_size e) (I.ok.cab x c hfn hc)))).trans e1⟩
    · by_cases hj : j = i
      · subst hj
        rw [hi] at e1; cases e1
        rw [List.getElem?_set_self hiσ] at e2
        cases e2
        exact ⟨u, r, .inr ⟨.inl hk, c, hc, hc'⟩⟩
      · rw [List.getElem?_set_ne (Ne.symm hj)] at e2
        obtain ⟨u', r', q⟩ := hl j y v' e1 e2 e3
        refine ⟨u', r', ?_⟩
        rcases q with q | ⟨k, c', e, z'⟩
        · exact .inl q
        · refine .inr ⟨k, c', e, z'.sameBut hs ?_⟩
          rintro rfl
          exact hj (nodup_ix hN e1 (I.ok.inj _ _ _ e hc ▸ hi))
    · by_cases hcc : c' = c
      · subst hcc; exact ⟨_, hc'⟩
      · obtain ⟨w2, z2⟩ := I.cell y c' e
        exact ⟨w2, z2.sameBut hs hcc⟩
    · obtain ⟨e, n, ne, nf, d⟩ := I.pin p hp
      refine ⟨(hs.2 p.1 ?_).trans e, n, ne, nf, d⟩
      intro q
      rw [q, hoc] at e
      have q' : oc = p.2 := Option.some.inj e
      exact d w' (by rw [← q']; exact hocd)
theorem store_ok {M : Model} {A : Around} {E : Value -> Shared -> Prop} {i : Nat} {x : Str} {v : V} {u : Value} {Q : Unit -> Shared -> Prop} (I : Inv X pins σ H s) (hN : X.N.Nodup) (hi : X.N[i]? = some x) (hx : Loc X.env.scope x) (r : RelV v u)
    (h : ∀ s', Inv X pins (σ.set i (some v)) H s' -> Q () s') (hf : X.fn x = true \/ X.env.scope.names.lookup x = some .local := by first | exact .inl rfl | exact .inr rfl | assumption) : wpAny M A (storeName X.env x u) Q E s :=
  store_ok2 I hN hi hx r (fun s' I' _ => h s' I') hf
theorem Inv.call' {s' : Shared} {ch : List Addr} (I : Inv X pins σ H s) (ho : s'.os = s.os) (u : Un (frs X.stack) ch H H' s.heap s'.heap) (hok : HOk X.prog X.w H' s'.heap) (hg : AllBare s'.gens)
    (hch : ∀ b ∈ ch, (b ∈ X.ex \/ X.s₀.heap.objs.size <= b) /\ b ≠ X.env.locals /\ (∀ x c, X.env.cells.lookup x = some c -> c ≠ b) /\ ∀ p ∈ X.pn ++ pins, p.1 ≠ b) : Inv X pins σ H' s' := by
  obtain ⟨h', g', d', t', o'⟩ := s'
  have e : o' = s.os := ho
  subst e
  exact I.call (g' := g') (t' := t') (d' := d') u hok hg hch
end
abbrev XK := Value -> Option Addr -> Hp -> Prop
abbrev St := List (Option V)
abbrev VK := V -> Hp -> Prop
abbrev TE := St -> Hp -> VK -> Prop
abbrev TT := St -> Hp -> (Bool -> Hp -> Prop) -> Prop
abbrev TA := St -> Hp -> (List V -> Hp -> Prop) -> Prop
structure Ends where
  nx : St -> Hp -> Prop
  rt : VK
  bk : St -> Hp -> Prop := fun _ _ => False
  ct : St -> Hp -> Prop := fun _ _ => False
abbrev TS := Ends -> St -> Hp -> Prop
def EP (X : Cx) (pins : List (Addr × Obj)) (σ : St) (Q : VK) (u : Value) (s' : Shared) : Prop := ∃ v H', Inv X pins σ H' s' /\ RelV v u /\ Q v H'
def TP (X : Cx) (pins : List (Addr × Obj)) (σ : St) (Q : Bool -> Hp -> Prop) (b : Bool) (s' : Shared) : Prop := ∃ H', Inv X pins σ H' s' /\ Q b H'
def AP (X : Cx) (pins : List (Addr × Obj)) (σ : St) (Q : List V -> Hp -> Prop) (us : List Value) (s' : Shared) : Prop := ∃ vs H', Inv X pins σ H' s' /\ Vals vs us /\ Q vs H'
def SP (X : Cx) (pins : List (Addr × Obj)) (D : Ends) (f : Flow) (s' : Shared) : Prop :=
  match f with
  | .next => ∃ σ' H', Inv X pins σ' H' s' /\ D.nx σ' H'
  | .brk => ∃ σ' H', Inv X pins σ' H' s' /\ D.bk σ' H'
  | .cont => ∃ σ' H', Inv X pins σ' H' s' /\ D.ct σ' H'
  | .ret u => ∃ v σ' H', Inv X pins σ' H' s' /\ RelV v u /\ D.rt v H'
def PE (X : Cx) (e : Expr) (t : TE) : Prop :=
  ∀ (pins : List (Addr × Obj)) (s : Shared) (σ : St) (H : Hp) (Q : VK), Inv X pins σ H s -> t σ H Q -> wpAny (model X.prog X.w) X.A (eval e X.env) (EP X pins σ Q) X.xe s
def PT (X : Cx) (e : Expr) (t : TT) : Prop :=
  ∀ (pins : List (Addr × Obj)) (s : Shared) (σ : St) (H : Hp) (Q : Bool -> Hp -> Prop), Inv X pins σ H s -> t σ H Q -> wpAny (model X.prog X.w) X.A (isTrue e X.env (eval e X.env)) (TP X pins σ Q) X.xe s
def PW (X : Cx) (e : Expr) (t : TT) : Prop :=
  ∀ (whole : Sem Value) (pins : List (Addr × Obj)) (s : Shared) (σ : St) (H : Hp) (Q : Bool -> Hp -> Prop), Inv X pins σ H s -> t σ H Q -> wpAny (model X.prog X.w) X.A (isTrue e X.env whole) (TP X pins σ Q) X.xe s
theorem PW.pt {X : Cx} {e : Expr} {t : TT} (h : PW X e t) : PT X e t := h _
def PA (X : Cx) (es : List Expr) (t : TA) : Prop :=
  ∀ (pos : Pos) (pins : List (Addr × Obj)) (s : Shared) (σ : St) (H : Hp) (Q : List V -> Hp -> Prop), Inv X pins σ H s -> t σ H Q -> wpAny (model X.prog X.w) X.A (spliced (backTo pos (starEach es X.env))) (AP X pins σ Q) X.xe s
def PS (X : Cx) (st : Stmt) (t : TS) : Prop :=
  ∀ (pins : List (Addr × Obj)) (s : Shared) (σ : St) (H : Hp) (D : Ends), Inv X pins σ H s -> t D σ H -> wpAny (model X.prog X.w) X.A (exec st X.env) (SP X pins D) X.xe s
def PSs (X : Cx) (st : List Stmt) (t : TS) : Prop :=
  ∀ (pins : List (Addr × Obj)) (s : Shared) (σ : St) (H : Hp) (D : Ends), Inv X pins σ H s -> t D σ H -> wpAny (model X.prog X.w) X.A (execs st X.env) (SP X pins D) X.xe s
theorem thn {α : Type} {t : Sem α} {Q Q' : α -> Shared -> Prop} {M : Model} {A : Around} {E : Value -> Shared -> Prop} {s : Shared} (h : wpAny M A t Q E s) (hQ : ∀ a s, Q a s -> Q' a s) : wpAny M A t Q' E s := wpAny_mono h hQ fun _ _ x => x
end L2
namespace L2
open PySem PySem.Spec PyProof.Rows
section
variable {X : Cx}
theorem bin {a b : Expr} {ta tb : TE} (ha : PE X a ta) (hb : PE X b tb) {pins : List (Addr × Obj)} {s : Shared} {σ : St} {H : Hp} {R : V -> V -> Hp -> Prop} (I : Inv X pins σ H s) (h : ta σ H fun x H1 => tb σ H1 fun y H2 => R x y H2)
    {α : Type} {Q : α -> Shared -> Prop} {f : Value -> Value -> Sem α}
    (hf : ∀ v u s2 x y H2, Inv X pins σ H2 s2 -> RelV x v -> RelV y u -> R x y H2 -> wpAny (model X.prog X.w) X.A (f v u) Q X.xe s2) :
    wpAny (model X.prog X.w) X.A (eval a X.env) (fun v s₁ => wpAny (model X.prog X.w) X.A (eval b X.env) (fun u s₂ => wpAny (model X.prog X.w) X.A (f v u) Q X.xe s₂) X.xe s₁) X.xe s := by
  refine thn (ha pins s σ H _ I h) fun v s1 ⟨x, H1, I1, r1, q1⟩ => ?_
  refine thn (hb pins s1 σ H1 _ I1 q1) fun u s2 ⟨y, H2, I2, r2, q2⟩ => ?_
  exact hf v u s2 x y H2 I2 r1 r2 q2
def tVar (i : Nat) : TE := fun σ H Q => ∃ v, σ[i]? = some (some v) /\ Q v H
def tC (v : V) : TE := fun _ H Q => Q v H
theorem pe_var {i : Nat} {x : Str} {pos : Pos} (hN : X.N[i]? = some x) (hv : Vis X.env.scope x) (hd : (x == ("__debug__" : Str)) = false := by decide) (hcd : (x == ("__classdict__" : Str)) = false := by decide) : PE X (.Name x pos) (tVar i) := by
  intro pins s σ H Q I h
  obtain ⟨v, e, h⟩ := h
  obtain ⟨m, hn, hl⟩ := I.loc
  obtain ⟨u, r, l⟩ := hl i x v hN e hv
  have fin : EP X pins σ Q u s := ⟨v, H, I, r, h⟩
  rcases l with ⟨hk, hm⟩ | ⟨hk, c, hc, hcell⟩
  · exact wpAny_Name (wpAny_loadName_local I.ok.kind hk hn hm fin) hd
  · rcases hk with hk | hk
    · exact wpAny_Name (wpAny_loadName_cell I.ok.kind hk hc hcell fin) hd
    · exact wpAny_Name (wpAny_loadName_free I.ok.kind hk hc hcell fin hcd) hd
theorem pe_int {i j pos} : PE X (.Constant (.int i) j pos) (tC (.int i)) := fun _ _ _ H _ I h => wpAny_Constant_int ⟨.int i, H, I.tok _, ⟨_, rfl⟩, h⟩
theorem pe_bl {b j pos} : PE X (.Constant (.bool b) j pos) (tC (.bl b)) := fun _ _ _ H _ I h => Constant_bool ⟨.bl b, H, I, rfl, h⟩
theorem pe_str {x j pos} : PE X (.Constant (.str x) j pos) (tC (.str x)) := fun _ _ _ H _ I h => Calls.Constant_str ⟨.str x, H, I.tok _, ⟨_, rfl⟩, h⟩
def Gl (X : Cx) (x : Str) : Prop := X.env.kindOf x = some .globalImplicit
theorem ld_glob {E : Value -> Shared -> Prop} {pins : List (Addr × Obj)} {s : Shared} {σ : St} {H : Hp} {x : Str} {u : Value} {pos : Pos} {Q : Value -> Shared -> Prop} (I : Inv X pins σ H s) (hg : Gl X x) (hm : X.mg x = some u) (h : Q u s)
    (hd : (x == ("__debug__" : Str)) = false := by decide) : wpAny (model X.prog X.w) X.A (eval (.Name x pos) X.env) Q E s :=
  Calls.Name_function_global I.ok.kind hg (Calls.loadGlobal_global (by rw [I.ok.glob]; exact I.mod.glob.keeps I.bk) hm h) hd
theorem ld_blt {E : Value -> Shared -> Prop} {pins : List (Addr × Obj)} {s : Shared} {σ : St} {H : Hp} {x : Str} {u : Value} {pos : Pos} {Q : Value -> Shared -> Prop} (I : Inv X pins σ H s) (hg : Gl X x) (hm : X.mg x = none) (hv : bootBuiltins x = some u) (h : Q u s)
    (hn : x ≠ "__name__" := by decide) (hd : (x == ("__debug__" : Str)) = false := by decide) : wpAny (model X.prog X.w) X.A (eval (.Name x pos) X.env) Q E s := by
  obtain ⟨mb, h1, h2⟩ := I.mod.blt
  exact Calls.Name_function_global I.ok.kind hg (Calls.loadGlobal_builtin (by rw [I.ok.glob]; exact I.mod.glob.keeps I.bk) hm (by rw [I.ok.blt]; exact h1.keeps I.bk) ((h2 x hn).trans hv) h) hd
theorem pe_glob {x : Str} {v : V} {u : Value} {pos : Pos} (hg : Gl X x) (hm : X.mg x = some u) (r : RelV v u) (hd : (x == ("__debug__" : Str)) = false := by decide) : PE X (.Name x pos) (tC v) :=
  fun _ _ _ H _ I h => ld_glob I hg hm ⟨v, H, I, r, h⟩ hd
theorem pe_bltn {x : Str} {v : V} {u : Value} {pos : Pos} (hg : Gl X x) (hm : X.mg x = none) (hv : bootBuiltins x = some u) (r : RelV v u) (hn : x ≠ "__name__" := by decide) (hd : (x == ("__debug__" : Str)) = false := by decide) : PE X (.Name x pos) (tC v) :=
  fun _ _ _ H _ I h => ld_blt I hg hm hv ⟨v, H, I, r, h⟩ hn hd
variable {a b : Expr} {ta tb : TE} {pos : Pos}
def PC (X : Cx) (op : CmpOp) (a b : Expr) (t : TE) : Prop :=
  ∀ (pins : List (Addr × Obj)) (s : Shared) (σ : St) (H : Hp) (Q : VK), Inv X pins σ H s -> t σ H Q ->
    wpAny (model X.prog X.w) X.A (eval a X.env) (fun v s₁ => wpAny (model X.prog X.w) X.A (eval b X.env) (fun u s₂ => wpAny (model X.prog X.w) X.A (compareOp op v u) (EP X pins σ Q) X.xe s₂) X.xe s₁) X.xe s
theorem nobehind (b : Expr) {op : CmpOp} (h : op ≠ .In) (h2 : op ≠ .NotIn) : behindInMarks op b = false := by
  have e1 : (op == CmpOp.In) = false := by cases op <;> first | rfl | exact absurd rfl h
  have e2 : (op == CmpOp.NotIn) = false := by cases op <;> first | rfl | exact absurd rfl h2
  cases b <;> simp [behindInMarks, e1, e2]
def tB (t : TE) : TT := fun σ H Q => t σ H fun x H1 => ∃ c, x = .bl c /\ Q c H1
theorem pt_cmp {op : CmpOp} {t : TE} (h : PC X op a b t) (h1 : behindInMarks op b = false := by first | exact nobehind _ (by decide) (by decide) | rfl) : PT X (.Compare a [op] [b] pos) (tB t) := by
  intro pins s σ H Q I hw
  refine wpAny_isTrue_Compare1 (thn (h pins s σ H _ I hw) fun v s1 h1 => thn h1 fun u s2 h2 => thn h2 fun c s3 ⟨x, H1, I1, r1, q1⟩ => ?_) h1
  obtain ⟨d, rfl, q⟩ := q1
  cases r1
  exact wpAny_truthy_bool ⟨H1, I1, q⟩
theorem pt_val {e : Expr} {t : TE} (h : PE X e t) (he : ∀ whole, isTrue e X.env whole = (do let v ← whole; standAt e.pos; holding [v] (truthy v)) := by intro _; rfl) : PT X e (tB t) := by
  intro pins s σ H Q I hw
  refine isTrue_plain (thn (h pins s σ H _ I hw) fun v s1 ⟨x, H1, I1, r1, q1⟩ => ?_) (he _)
  obtain ⟨d, rfl, q⟩ := q1
  cases r1
  exact wpAny_truthy_bool ⟨H1, I1, q⟩
variable {tA tB' : TT} {rest : List Expr}
def tAnd (t u : TT) : TT := fun σ H Q => t σ H fun c H1 => if c = true then u σ H1 Q else Q false H1
def tOr (t u : TT) : TT := fun σ H Q => t σ H fun c H1 => if c = true then Q true H1 else u σ H1 Q
def tNot (t : TT) : TT := fun σ H Q => t σ H fun c H1 => Q (!c) H1
theorem pw_and1 (ha : PT X a tA) : PW X (.BoolOp .And [a] pos) tA := by
  intro wh pins s σ H Q I h
  refine isTrue_and (thn (ha pins s σ H Q I h) fun c s1 e => ?_)
  cases c with
  | true => exact isTrue_and_nil e
  | false => exact e
theorem pw_or1 (ha : PT X a tA) : PW X (.BoolOp .Or [a] pos) tA := by
  intro wh pins s σ H Q I h
  refine isTrue_or (thn (ha pins s σ H Q I h) fun c s1 e => ?_)
  cases c with
  | false => exact isTrue_or_nil e
  | true => exact e
theorem pw_and (ha : PT X a tA) (hb : PW X (.BoolOp .And (b :: rest) pos) tB') : PW X (.BoolOp .And (a :: b :: rest) pos) (tAnd tA tB') := by
  intro wh pins s σ H Q I h
  refine isTrue_and (thn (ha pins s σ H _ I h) fun c s1 ⟨H1, I1, q1⟩ => ?_)
  cases c with
  | true => exact hb wh pins s1 σ H1 Q I1 q1
  | false => exact ⟨H1, I1, q1⟩
theorem pw_or (ha : PT X a tA) (hb : PW X (.BoolOp .Or (b :: rest) pos) tB') : PW X (.BoolOp .Or (a :: b :: rest) pos) (tOr tA tB') := by
  intro wh pins s σ H Q I h
  refine isTrue_or (thn (ha pins s σ H _ I h) fun c s1 ⟨H1, I1, q1⟩ => ?_)
  cases c with
  | true => exact ⟨H1, I1, q1⟩
  | false => exact hb wh pins s1 σ H1 Q I1 q1
theorem pt_not (ha : PT X a tA) : PT X (.UnaryOp .Not a pos) (tNot tA) := by
  intro pins s σ H Q I h
  exact isTrue_not (ha pins s σ H (fun c H1 => Q (!c) H1) I h)
def tAndV (ta tb : TE) : TE := fun σ H Q => ta σ H fun x H1 => ∃ c, x = .bl c /\ if c = true then tb σ H1 Q else Q (.bl false) H1
theorem pe_one {op} {t : TE} (h : PE X a t) : PE X (.BoolOp op [a] pos) t := fun pins s σ H Q I hw => BoolOp_one (h pins s σ H Q I hw)
theorem pe_and (ha : PE X a ta) (hb : PE X (.BoolOp .And (b :: rest) pos) tb) : PE X (.BoolOp .And (a :: b :: rest) pos) (tAndV ta tb) := by
  intro pins s σ H Q I h
  refine BoolOp_and (thn (ha pins s σ H _ I h) fun v s1 ⟨x, H1, I1, r1, q1⟩ => ?_)
  obtain ⟨c, rfl, q1⟩ := q1
  cases r1
  refine wpAny_truthy_bool ?_
  cases c with
  | true => exact hb pins s1 σ H1 Q I1 q1
  | false => exact ⟨.bl false, H1, I1, rfl, q1⟩
end
end L2
namespace L2
open PySem PySem.Spec PyProof.Rows
def SqL (K : PySem.W.Frag) (H : Hp) (a : Addr) (xs : List V) : Prop :=
  Rd H a (.lst xs) \/
    ∃ (o : Obj) (its : Array Value) (n : Nat), K.lookup a = some o /\ o.cls = .type "list" /\ o.dict = none /\ o.data = .seq its n /\ its.size <= sizeLine /\ Vals xs its.toList
def SqT (K : PySem.W.Frag) (H : Hp) (a : Addr) (xs : List V) : Prop :=
  Rd H a (.tup xs) \/
    ∃ (o : Obj) (its : Array Value) (n : Nat), K.lookup a = some o /\ o.cls = .type "tuple" /\ o.data = .seq its n /\ its.size <= sizeLine /\ Vals xs its.toList
def absV : Value -> Option V
  | .none => some .non
  | .bool b => some (.bl b)
  | .int i _ => some (.int i)
  | .str x _ => some (.str x)
  | .bytes b _ => some (.byt b)
  | .float b _ => some (.flt b)
  | .ref a => some (.ref a)
  | .type n => some (.ty n)
  | _ => none
theorem RelV.abs {x : V} {u : Value} (r : RelV x u) : absV u = some x := by
  cases x with
  | non => cases r; rfl
  | bl _ => cases r; rfl
  | int _ => obtain ⟨t, rfl⟩ := r; rfl
  | str _ => obtain ⟨t, rfl⟩ := r; rfl
  | byt _ => obtain ⟨t, rfl⟩ := r; rfl
  | flt _ => obtain ⟨t, rfl⟩ := r; rfl
  | ref _ => cases r; rfl
  | ty _ => cases r; rfl
theorem RelV.inj {x y : V} {u : Value} (r : RelV x u) (q : RelV y u) : x = y := Option.some.inj (r.abs.symm.trans q.abs)
theorem Vals.inj : ∀ {xs ys : List V} {us : List Value}, Vals xs us -> Vals ys us -> xs = ys
  | _, _, _, .nil, .nil => rfl
  | _, _, _, .cons r t, .cons r' t' => by rw [r.inj r', Vals.inj t t']
section
variable {X : Cx} {pins : List (Addr × Obj)} {σ : St} {H : Hp} {s : Shared} {a : Addr} {xs ys : List V}
theorem Inv.list (I : Inv X pins σ H s) (h : SqL X.K H a xs) : ∃ its : List Value, Vals xs its /\ PlainL s.heap a its.toArray /\ xs.length <= sizeLine := by
  rcases h with h | ⟨o, its, n, hk, hc, hd, hs, hz, r⟩
  · obtain ⟨z, its, n, r, e⟩ := h.ok I.hok
    exact ⟨its, r, ⟨_, n, e, rfl, rfl, rfl⟩, z⟩
  · refine ⟨its.toList, r, ⟨o, n, I.kIn a o hk, hc, hd, by simpa using hs⟩, ?_⟩
    have e := r.length
    simp only [Array.length_toList] at e
    omega
theorem Inv.tuple (I : Inv X pins σ H s) (h : SqT X.K H a xs) : ∃ its : List Value, Vals xs its /\ IsTup s.heap a its.toArray /\ xs.length <= sizeLine := by
  rcases h with h | ⟨o, its, n, hk, hc, hs, hz, r⟩
  · obtain ⟨z, its, r, p⟩ := h.ok I.hok
    exact ⟨its, r, p, z⟩
  · refine ⟨its.toList, r, ⟨o, I.kIn a o hk, hc, n, by simpa using hs⟩, ?_⟩
    have e := r.length
    simp only [Array.length_toList] at e
    omega
theorem Inv.list_inj (I : Inv X pins σ H s) (h : SqL X.K H a xs) (h' : SqL X.K H a ys) : xs = ys := by
  obtain ⟨its, r, ⟨o, n, e, _, _, d⟩, _⟩ := I.list h
  obtain ⟨its', r', ⟨o', n', e', _, _, d'⟩, _⟩ := I.list h'
  rw [e] at e'; cases e'
  rw [d] at d'
  injection d' with d1 _
  have : its = its' := by simpa using congrArg Array.toList d1
  subst this
  exact r.inj r'
theorem Inv.tuple_inj (I : Inv X pins σ H s) (h : SqT X.K H a xs) (h' : SqT X.K H a ys) : xs = ys := by
  obtain ⟨its, r, ⟨o, e, _, n, d⟩, _⟩ := I.tuple h
  obtain ⟨its', r', ⟨o', e', _, n', d'⟩, _⟩ := I.tuple h'
  rw [e] at e'; cases e'
  rw [d] at d'
  injection d' with d1 _
  have : its = its' := by simpa using congrArg Array.toList d1
  subst this
  exact r.inj r'
end
abbrev Cx.wish (X : Cx) (E : Value -> Shared -> Prop) : Cx := { X with xe := E }
abbrev Cx.nox (X : Cx) : Cx := X.wish fun _ _ => False
theorem Cx.Ok.wish {X : Cx} (ok : X.Ok) (E : Value -> Shared -> Prop) : (X.wish E).Ok :=
  ⟨ok.mod, ok.kind, ok.glob, ok.blt, ok.above, ok.inj, ok.has, ok.cab, ok.hd, ok.frames, ok.stk, ok.exf, ok.bs, ok.bsz, ok.noex, ok.exfs, ok.funs, ok.frf⟩
theorem Cx.Ok.unwish {X : Cx} {E : Value -> Shared -> Prop} (ok : (X.wish E).Ok) : X.Ok :=
  ⟨ok.mod, ok.kind, ok.glob, ok.blt, ok.above, ok.inj, ok.has, ok.cab, ok.hd, ok.frames, ok.stk, ok.exf, ok.bs, ok.bsz, ok.noex, ok.exfs, ok.funs, ok.frf⟩
section
variable {X : Cx} {pins : List (Addr × Obj)} {σ : St} {H : Hp} {s : Shared} {E : Value -> Shared -> Prop}
theorem Inv.wish (I : Inv X pins σ H s) (E : Value -> Shared -> Prop) : Inv (X.wish E) pins σ H s := ⟨I.ok.wish E, I.os, I.bare, I.base, I.loc, I.cell, I.free, I.freeC, I.pin, I.hok, I.len⟩
theorem Inv.unwish (I : Inv (X.wish E) pins σ H s) : Inv X pins σ H s := ⟨I.ok.unwish, I.os, I.bare, I.base, I.loc, I.cell, I.free, I.freeC, I.pin, I.hok, I.len⟩
theorem SP.unwish {D : Ends} {f : Flow} {s' : Shared} (h : SP (X.wish E) pins D f s') : SP X pins D f s' := by
  cases f with
  | next => obtain ⟨σ', H', I, q⟩ := h; exact ⟨σ', H', I.unwish, q⟩
  | brk => obtain ⟨σ', H', I, q⟩ := h; exact ⟨σ', H', I.unwish, q⟩
  | cont => obtain ⟨σ', H', I, q⟩ := h; exact ⟨σ', H', I.unwish, q⟩
  | ret u => obtain ⟨v, σ', H', I, r, q⟩ := h; exact ⟨v, σ', H', I.unwish, r, q⟩
theorem PSs.nox {st : List Stmt} {t : TS} (h : PSs X.nox st t) : PSs X st t := fun pins s σ H D I hw =>
  wpAny_mono (h pins s σ H D (I.wish _) hw) (fun _ _ q => q.unwish) fun _ _ z => False.elim z
end
section
variable {X : Cx} {st : Stmt} {rest : List Stmt} {t u : TS} {e : Expr} {te : TE} {pos : Pos}
def tNext : TS := fun D σ H => D.nx σ H
def tSeq (t u : TS) : TS := fun D σ H => t { D with nx := u D } σ H
theorem pss_nil : PSs X [] tNext := fun _ _ σ H _ I h => wpAny_execs_nil ⟨σ, H, I, h⟩
theorem pss_cons (h1 : PS X st t) (h2 : PSs X rest u) : PSs X (st :: rest) (tSeq t u) := by
  intro pins s σ H D I h
  refine wpAny_execs_cons (thn (h1 pins s σ H { D with nx := u D } I h) fun f s1 q => ?_)
  cases f with
  | next =>
    obtain ⟨σ', H', I', q⟩ := q
    exact h2 pins s1 σ' H' D I' q
  | ret v => exact q
  | brk => exact q
  | cont => exact q
theorem pss_one (h1 : PS X st t) : PSs X [st] t := by
  intro pins s σ H D I h
  refine wpAny_execs_cons (thn (h1 pins s σ H D I h) fun f s1 q => ?_)
  cases f with
  | next => exact wpAny_execs_nil q
  | ret v => exact q
  | brk => exact q
  | cont => exact q
theorem Inv.quiet {pins : List (Addr × Obj)} {σ : St} {H : Hp} {s : Shared} (I : Inv X pins σ H s) : interactive X.env = false := by simp [interactive, I.ok.kind]
def tDrop (te : TE) : TS := fun D σ H => te σ H fun _ H1 => D.nx σ H1
theorem ps_expr (he : PE X e te) (hs : swapsWith e none pos.line X.env = pure false := by rfl) : PS X (.Expr e pos) (tDrop te) := by
  intro pins s σ H D I h
  exact wpAny_Expr_any (thn (he pins s σ H _ I h) fun v s1 ⟨x, H1, I1, r1, q1⟩ => ⟨σ, H1, I1, q1⟩) I.quiet hs
def tRet (te : TE) : TS := fun D σ H => te σ H D.rt
theorem ps_ret (he : PE X e te) : PS X (.Return (some e) pos) (tRet te) := by
  intro pins s σ H D I h
  exact wpAny_Return_some (thn (he pins s σ H _ I h) fun v s1 ⟨x, H1, I1, r1, q1⟩ => ⟨x, σ, H1, I1, r1, q1⟩)
def tIfS (c : TT) (t u : TS) : TS := fun D σ H => c σ H fun b H1 => if b = true then t D σ H1 else u D σ H1
theorem ps_if {c : Expr} {a b : List Stmt} {tc : TT} (hc : PT X c tc) (ha : PSs X a t) (hb : PSs X b u) : PS X (.If c a b pos) (tIfS tc t u) := by
  intro pins s σ H D I h
  refine wpAny_If (thn (hc pins s σ H _ I h) fun d s1 ⟨H1, I1, q1⟩ => ?_)
  cases d with
  | true => exact ha pins s1 σ H1 D I1 q1
  | false => exact hb pins s1 σ H1 D I1 q1
end
abbrev TG := V -> St -> Hp -> (St -> Hp -> Prop) -> Prop
abbrev TGs := List V -> St -> Hp -> (St -> Hp -> Prop) -> Prop
def PG (X : Cx) (target : Expr) (t : TG) : Prop :=
  ∀ (pins : List (Addr × Obj)) (s : Shared) (σ : St) (H : Hp) (v : V) (u : Value) (Q : St -> Hp -> Prop), Inv X pins σ H s -> RelV v u -> t v σ H Q ->
    wpAny (model X.prog X.w) X.A (assign target X.env u) (fun _ s' => ∃ σ' H', Inv X pins σ' H' s' /\ Q σ' H') X.xe s
def PGs (X : Cx) (ts : List Expr) (t : TGs) : Prop :=
  ∀ (pins : List (Addr × Obj)) (s : Shared) (σ : St) (H : Hp) (vs : List V) (us : List Value) (Q : St -> Hp -> Prop), Inv X pins σ H s -> Vals vs us -> t vs σ H Q ->
    wpAny (model X.prog X.w) X.A (assignInOrder ((assignEach ts X.env).map (·.2)) us) (fun _ s' => ∃ σ' H', Inv X pins σ' H' s' /\ Q σ' H') X.xe s
section
variable {X : Cx} {pos : Pos}
def gName (i : Nat) : TG := fun v σ H Q => Q (σ.set i (some v)) H
theorem pg_name {i : Nat} {x : Str} (hN : X.N.Nodup) (hi : X.N[i]? = some x) (hx : Loc X.env.scope x) (hf : X.fn x = true \/ X.env.scope.names.lookup x = some .local := by first | exact .inl rfl | exact .inr rfl | assumption) : PG X (.Name x pos) (gName i) := by
  intro pins s σ H v u Q I r h
  exact wpAny_assign_Name (store_ok I hN hi hx r (fun s' I' => ⟨_, H, I', h⟩) hf)
def gNil : TGs := fun vs σ H Q => vs = [] /\ Q σ H
def gCons (t : TG) (u : TGs) : TGs := fun vs σ H Q => ∃ v r, vs = v :: r /\ t v σ H fun σ' H' => u r σ' H' Q
theorem pgs_nil : PGs X [] gNil := by
  intro pins s σ H vs us Q I r h
  obtain ⟨e, h⟩ := h
  subst e
  cases r
  exact assignInOrder_nil ⟨σ, H, I, h⟩
theorem pgs_cons {e : Expr} {es : List Expr} {t : TG} {u : TGs} (h1 : PG X e t) (h2 : PGs X es u)
    (hs : (assignEach (e :: es) X.env).map (·.2) = assign e X.env :: (assignEach es X.env).map (·.2) := by rfl) : PGs X (e :: es) (gCons t u) := by
  intro pins s σ H vs us Q I r h
  obtain ⟨v, vr, e1, h⟩ := h
  subst e1
  cases r with
  | cons r rr =>
    rw [hs]
    refine assignInOrder_cons (thn (h1 pins s σ H _ _ _ I r h) fun _ s1 ⟨σ1, H1, I1, q1⟩ => ?_)
    exact h2 pins s1 σ1 H1 _ _ Q I1 rr q1
def gTup (K : PySem.W.Frag) (n : Nat) (t : TGs) : TG := fun v σ H Q => ∃ a xs, v = .ref a /\ SqT K H a xs /\ xs.length = n /\ t xs σ H Q
theorem pg_tup {es : List Expr} {k : Nat} {t : TGs} {n : Nat} (hc : X.calm = true) (h : PGs X es t)
    (hn : (assignEach es X.env).length = n := by rfl) (hst : (assignEach es X.env).findIdx? (·.1) = none := by rfl) : PG X (.Tuple es k pos) (gTup X.K n t) := by
  intro pins s σ H v u Q I r hw
  obtain ⟨a, xs, e1, hq, hl, hw⟩ := hw
  subst e1
  cases r
  obtain ⟨its, rv, ht, hz⟩ := I.tuple hq
  refine assign_Tuple_tuple (I.ok.hd hc) ht (by simp [hn, ← hl, rv.length]) hst fun h' hx => ?_
  have I1 : Inv X pins σ H { s with heap := h' } := I.kept (t' := s.toks) fun b o e => hx b o (Nat.ne_of_lt (Heap.lt_size e)) e
  exact h pins _ σ H xs _ Q I1 (by simpa using rv) hw
def tAsg (te : TE) (g : TG) : TS := fun D σ H => te σ H fun x H1 => g x σ H1 D.nx
theorem ps_set {i : Nat} {x : Str} {e : Expr} {te : TE} {pos' : Pos} (hN : X.N.Nodup) (hi : X.N[i]? = some x) (hx : Loc X.env.scope x) (he : PE X e te) (hs : swapsWith e (some (.Name x pos')) pos.line X.env = pure false := by rfl) (hf : X.fn x = true \/ X.env.scope.names.lookup x = some .local := by first | exact .inl rfl | exact .inr rfl | assumption) :
    PS X (.Assign [.Name x pos'] e pos) (tAsg te (gName i)) := by
  intro pins s σ H D I h
  refine wpAny_Assign_Name (thn (he pins s σ H _ I h) fun v s1 ⟨y, H1, I1, r1, q1⟩ => ?_) hs
  exact store_ok I1 hN hi hx r1 (fun s2 I2 => ⟨_, H1, I2, q1⟩) hf
end
section
variable {X : Cx} {pos : Pos}
end
structure It where
  go : Nat -> Hp -> Prop
  yld : Nat -> Hp -> V -> Hp -> Prop
  stop : Nat -> Hp -> Prop
def FpOk (X : Cx) (pins : List (Addr × Obj)) (H : Hp) (b : Addr) : Prop :=
  H b = none /\ b ≠ X.env.locals /\ b ∉ X.fs /\ (b ∈ X.ex \/ X.s₀.heap.objs.size <= b) /\ (∀ x c, X.env.cells.lookup x = some c -> c ≠ b) /\ ∀ p ∈ X.pn ++ pins, p.1 ≠ b
theorem Inv.fpOk {X : Cx} {pins : List (Addr × Obj)} {σ : St} {H H' : Hp} {s : Shared} {b : Addr} (I : Inv X pins σ H s) (hb : s.heap.objs.size <= b) (hn : H' b = none) : FpOk X pins H' b := by
  refine ⟨hn, Nat.ne_of_gt (Nat.lt_of_lt_of_le I.lt hb), I.nofs hb, .inr (Nat.le_trans I.sz hb), fun x c e z => ?_, fun p hp z => ?_⟩
  · obtain ⟨v, q⟩ := I.cell x c e
    exact absurd (Nat.lt_of_lt_of_le q.lt (by rw [z]; exact hb)) (Nat.lt_irrefl _)
  · exact absurd (Nat.lt_of_lt_of_le (Heap.lt_size (I.pin p hp).1) (by rw [z]; exact hb)) (Nat.lt_irrefl _)
structure Turn (P : Program) (w : World) (K : PySem.W.Frag) (tg : Expr) (J : It) (fp : List Addr) (it : Addr) (tn : Nat -> Heap -> Prop) : Prop where
  mem : it ∈ fp
  obj : ∀ i h, tn i h -> ∀ b ∈ fp, ∃ o, h.get? b = some o /\ ∀ v, o.data ≠ .cell v
  keep : ∀ i h h', tn i h -> (∀ b ∈ fp, ∀ o, h.get? b = some o -> h'.get? b = some o) -> tn i h'
  item : ∀ (X : Cx), X.prog = P -> X.w = w -> X.K = K -> X.calm = true -> ∀ (i : Nat) (pins : List (Addr × Obj)) (s : Shared) (σ : St) (H : Hp) (E : Value -> Shared -> Prop), Inv X pins σ H s -> (∀ b ∈ fp, FpOk X pins H b) -> tn i s.heap -> J.go i H ->
    wpAny (model P w) X.A (pyNext (.ref it)) (fun r s1 => ∃ u, r = some u /\
      wpAny (model P w) X.A (letOwnedTupleGo tg (.ref it) u) (fun _ s2 => ∃ x H', Inv X pins σ H' s2 /\ RelV x u /\ J.yld i H x H' /\ tn (i + 1) s2.heap /\ ∀ b ∈ fp, H' b = none) E s1) E s
  done : ∀ (X : Cx), X.prog = P -> X.w = w -> X.K = K -> X.calm = true -> ∀ (i : Nat) (pins : List (Addr × Obj)) (s : Shared) (σ : St) (H : Hp) (E : Value -> Shared -> Prop), Inv X pins σ H s -> (∀ b ∈ fp, FpOk X pins H b) -> tn i s.heap -> J.stop i H ->
    wpAny (model P w) X.A (pyNext (.ref it)) (fun r s1 => r = none /\ Inv X pins σ H s1) E s
  self : ∀ (A : Around) (i : Nat) (s : Shared) (Q : Value -> Shared -> Prop) (E : Value -> Shared -> Prop), tn i s.heap -> Q (.ref it) s -> wpAny (model P w) A (pyIter (.ref it)) Q E s
abbrev TI := St -> Hp -> (It -> Hp -> Prop) -> Prop
def PIE (X : Cx) (pins : List (Addr × Obj)) (σ : St) (tg : Expr) (R : It -> Hp -> Prop) (itv : Value) (s2 : Shared) : Prop :=
  ∃ (it : Addr) (fp : List Addr) (tn : Nat -> Heap -> Prop) (J : It) (H' : Hp), itv = .ref it /\ Inv X pins σ H' s2 /\ Turn X.prog X.w X.K tg J fp it tn /\ tn 0 s2.heap /\ (∀ b ∈ fp, FpOk X pins H' b) /\ R J H'
def PI (X : Cx) (tg iter : Expr) (wi : TI) : Prop :=
  ∀ (pins : List (Addr × Obj)) (s : Shared) (σ : St) (H : Hp) (R : It -> Hp -> Prop), Inv X pins σ H s -> wi σ H R ->
    wpAny (model X.prog X.w) X.A (eval iter X.env) (fun v s1 => wpAny (model X.prog X.w) X.A (pyIter v) (PIE X pins σ tg R) X.xe s1) X.xe s
theorem go_of {M : Model} {A : Around} {E : Value -> Shared -> Prop} {s : Shared} {tg : Expr} {it : Addr} {u : Value} {o : Obj} {n : String} {vs : Array Value} {Q : Unit -> Shared -> Prop} (ho : s.heap.get? it = some o) (hc : o.cls = .type n) (hd : o.data = .fields vs)
    (hn : ["enumerate", "zip", "dict_itemiterator", "dict_reverseitemiterator", "odict_iterator", "itertools.zip_longest", "itertools.pairwise"].contains n = false) (hQ : Q () s) : wpAny M A (letOwnedTupleGo tg (.ref it) u) Q E s := by
  unfold letOwnedTupleGo
  cases tg <;> first
    | exact wpAny_pure hQ
    | (cases u <;> first
        | exact wpAny_pure hQ
        | (refine wpAny_bind (wpAny_load ho ?_)
           rw [hc, hd]
           show wpAny M A (if (["enumerate", "zip", "dict_itemiterator", "dict_reverseitemiterator", "odict_iterator", "itertools.zip_longest", "itertools.pairwise"].contains n && vs[0]? == some (rawInt _)) = true then _ else _) Q E s
           rw [if_neg (by intro h; rw [hn, Bool.false_and] at h; cases h)]
           exact wpAny_pure hQ))
def Itl (K : PySem.W.Frag) (a : Addr) : It :=
  ⟨fun i H => ∃ xs x, SqL K H a xs /\ xs[i]? = some x, fun i H x H' => H' = H /\ ∀ xs, SqL K H a xs -> xs[i]? = some x, fun i H => ∃ xs, SqL K H a xs /\ xs.length <= i⟩
def Itt (K : PySem.W.Frag) (a : Addr) : It :=
  ⟨fun i H => ∃ xs x, SqT K H a xs /\ xs[i]? = some x, fun i H x H' => H' = H /\ ∀ xs, SqT K H a xs -> xs[i]? = some x, fun i H => ∃ xs, SqT K H a xs /\ xs.length <= i⟩
def Itr (lo : Int) (n : Nat) : It := ⟨fun i _ => i < n, fun i H x H' => H' = H /\ x = .int (lo + i), fun i _ => n <= i⟩
theorem turn_list {P : Program} {w : World} {K : PySem.W.Frag} {tg : Expr} (a it : Addr) : Turn P w K tg (Itl K a) [it] it (fun i h => h.IsListIter it a i) where
  mem := by simp
  obj := fun i h st b hb => by
    have e : b = it := by simpa using hb
    subst e
    obtain ⟨o, e, c, d⟩ := st
    exact ⟨o, e, fun v z => by rw [d] at z; cases z⟩
  keep := fun i h h' st k => st.at fun o e => k it (by simp) o e
  item := by
    intro X hP hw hK hc i pins s σ H E I hf st hg
    subst hP hw hK
    obtain ⟨xs, x, hq, hx⟩ := hg
    obtain ⟨its, rv, p, hz⟩ := I.list hq
    obtain ⟨u, hu, ru⟩ := rv.get hx
    obtain ⟨f0, f1, f2, f3, f4, f5⟩ := hf it (by simp)
    refine wpAny_pyNext_list_item st p.isList (x := u) (by simpa using hu) fun h' st' sb => ?_
    have I1 : Inv X pins σ H { s with heap := h' } := I.turned (t' := s.toks) (fun b o hb e => (sb.2 b hb).trans e) f0 f1 f3 f4 f5
    obtain ⟨o, e, c, d⟩ := id st'
    exact ⟨u, rfl, go_of (s := { s with heap := h' }) e c d (by decide) ⟨x, H, I1, ru, ⟨rfl, fun ys hy => by rw [I.list_inj hy hq]; exact hx⟩, st', fun b hb => (hf b hb).1⟩⟩
  done := by
    intro X hP hw hK hc i pins s σ H E I hf st hg
    subst hP hw hK
    obtain ⟨xs, hq, hx⟩ := hg
    obtain ⟨its, rv, p, hz⟩ := I.list hq
    obtain ⟨f0, f1, f2, f3, f4, f5⟩ := hf it (by simp)
    have hl := rv.length
    exact wpAny_pyNext_list_end (I.ok.hd hc) st p.isList (by simp; omega) fun h' eb => ⟨rfl, I.turned (t' := s.toks) (fun b o hb e => eb b o hb e) f0 f1 f3 f4 f5⟩
  self := fun _ _ _ _ _ st h => wpAny_pyIter_listiter st h
theorem turn_tuple {P : Program} {w : World} {K : PySem.W.Frag} {tg : Expr} (a it : Addr) : Turn P w K tg (Itt K a) [it] it (fun i h => h.IsTupleIter it a i) where
  mem := by simp
  obj := fun i h st b hb => by
    have e : b = it := by simpa using hb
    subst e
    obtain ⟨o, e, c, d⟩ := st
    exact ⟨o, e, fun v z => by rw [d] at z; cases z⟩
  keep := fun i h h' st k => st.at fun o e => k it (by simp) o e
  item := by
    intro X hP hw hK hc i pins s σ H E I hf st hg
    subst hP hw hK
    obtain ⟨xs, x, hq, hx⟩ := hg
    obtain ⟨its, rv, p, hz⟩ := I.tuple hq
    obtain ⟨u, hu, ru⟩ := rv.get hx
    obtain ⟨f0, f1, f2, f3, f4, f5⟩ := hf it (by simp)
    refine wpAny_pyNext_tuple_item st (show s.heap.IsTuple a its.toArray from p) (x := u) (by simpa using hu) fun h' st' sb => ?_
    have I1 : Inv X pins σ H { s with heap := h' } := I.turned (t' := s.toks) (fun b o hb e => (sb.2 b hb).trans e) f0 f1 f3 f4 f5
    obtain ⟨o, e, c, d⟩ := id st'
    exact ⟨u, rfl, go_of (s := { s with heap := h' }) e c d (by decide) ⟨x, H, I1, ru, ⟨rfl, fun ys hy => by rw [I.tuple_inj hy hq]; exact hx⟩, st', fun b hb => (hf b hb).1⟩⟩
  done := by
    intro X hP hw hK hc i pins s σ H E I hf st hg
    subst hP hw hK
    obtain ⟨xs, hq, hx⟩ := hg
    obtain ⟨its, rv, p, hz⟩ := I.tuple hq
    obtain ⟨f0, f1, f2, f3, f4, f5⟩ := hf it (by simp)
    have hl := rv.length
    exact wpAny_pyNext_tuple_end (I.ok.hd hc) st (show s.heap.IsTuple a its.toArray from p) (by simp; omega) fun h' eb => ⟨rfl, I.turned (t' := s.toks) (fun b o hb e => eb b o hb e) f0 f1 f3 f4 f5⟩
  self := fun _ _ _ _ _ st h => wpAny_pyIter_tupleiter st h
theorem turn_range {P : Program} {w : World} {K : PySem.W.Frag} {tg : Expr} (it : Addr) (lo : Int) (n : Nat) : Turn P w K tg (Itr lo n) [it] it (fun i h => IsRangeIter h it (lo + (i : Nat) * 1) ((n : Int) - (i : Nat)) 1) where
  mem := by simp
  obj := fun i h st b hb => by
    have e : b = it := by simpa using hb
    subst e
    exact ⟨_, st, fun v z => by
      have z' : Data.fields _ = Data.cell v := z
      cases z'⟩
  keep := fun i h h' st k => k it (by simp) _ st
  item := by
    intro X hP hw hK hc i pins s σ H E I hf st hg
    subst hP hw hK
    obtain ⟨f0, f1, f2, f3, f4, f5⟩ := hf it (by simp)
    have W := Walks.range (prog := X.prog) (w := X.w) (I.ok.hd hc) it lo 1 n
    refine W.item i s _ _ hg st fun v h' tk hv st' kk => ?_
    obtain ⟨t, rfl⟩ := hv
    have I1 : Inv X pins σ H { s with heap := h', toks := tk } := I.turned (fun b o hb e => kk b o (by simpa using hb) e) f0 f1 f3 f4 f5
    refine ⟨_, rfl, go_of (s := { s with heap := h', toks := tk }) (n := "range_iterator") st' rfl rfl (by decide) ⟨.int (lo + i), H, I1, ⟨t, ?_⟩, ⟨rfl, rfl⟩, st', fun b hb => (hf b hb).1⟩⟩
    rw [Int.mul_one]
  done := by
    intro X hP hw hK hc i pins s σ H E I hf st hg
    subst hP hw hK
    obtain ⟨f0, f1, f2, f3, f4, f5⟩ := hf it (by simp)
    exact wpAny_pyNext_range_end (I.ok.hd hc) st (by have : n <= i := hg; omega) fun h' eb => ⟨rfl, I.turned (t' := s.toks) (fun b o hb e => eb b o hb e) f0 f1 f3 f4 f5⟩
  self := fun _ _ _ _ _ st h => wpAny_pyIter_rangeiter st h
end L2
namespace L2
open PySem PySem.Spec PyProof.Rows
section
variable {X : Cx} {tg : Expr}
theorem range_it {pins : List (Addr × Obj)} {σ : St} {H : Hp} {s : Shared} {R : It -> Hp -> Prop} {E : Value -> Shared -> Prop} {lo hi : Int} {t u v : Tok} {tk : Nat} (I : Inv X pins σ H s) (h1 : -(2 ^ 62) <= lo) (h2 : lo < 2 ^ 62) (h3 : -(2 ^ 62) <= hi) (h4 : hi < 2 ^ 62)
    (q : R (Itr lo (hi - lo).toNat) H) : wpAny (model X.prog X.w) X.A (pyIter (.ref s.heap.objs.size)) (PIE X pins σ tg R) E { s with heap := s.heap.push { cls := .type "range", data := .fields #[.int lo t, .int hi u, .int 1 v] }, toks := tk } := by
  refine wpAny_pyIter_range (IsRange.new ..) (small_one h1 h2 h3 h4) ?_
  have I1 : Inv X pins σ H { s with heap := s.heap.push { cls := .type "range", data := .fields #[.int lo t, .int hi u, .int 1 v] }, toks := tk } := I.kept fun b o e => Heap.get?_push_of_some _ e
  refine ⟨(s.heap.push { cls := .type "range", data := .fields #[.int lo t, .int hi u, .int 1 v] }).objs.size, [(s.heap.push { cls := .type "range", data := .fields #[.int lo t, .int hi u, .int 1 v] }).objs.size], _, _, H, rfl,
    I1.kept (t' := tk) fun b o e => Heap.get?_push_of_some _ e, turn_range _ lo (hi - lo).toNat, ?_, fun b hb => ?_, q⟩
  · have e1 : lo + ((0 : Nat) : Int) * 1 = lo := by simp
    have e2 : (((hi - lo).toNat : Nat) : Int) - ((0 : Nat) : Int) = Builtin.Range.rangeSize lo hi 1 := by rw [rangeSize_one]; split <;> omega
    show IsRangeIter _ _ (lo + ((0 : Nat) : Int) * 1) ((((hi - lo).toNat : Nat) : Int) - ((0 : Nat) : Int)) 1
    rw [e1, e2]
    exact Heap.get?_push_size _ rfl
  · have e : b = (s.heap.push { cls := .type "range", data := .fields #[.int lo t, .int hi u, .int 1 v] }).objs.size := by simpa using hb
    subst e
    exact I1.fpOk (Nat.le_refl _) (I1.hok.fresh (Nat.le_refl _))
def iRng1 (ta : TA) : TI := fun σ H R => ta σ H fun vs H1 => ∃ j : Int, vs = [.int j] /\ -(2 ^ 62) <= j /\ j < 2 ^ 62 /\ R (Itr 0 j.toNat) H1
theorem pi_range1 {a : Expr} {ta : TA} {p pos : Pos} (hg : Gl X "range") (hm : X.mg "range" = none) (ha : PA X [a] ta) (hs : starEach [a] X.env = [(false, eval a X.env)] := by rfl) : PI X tg (.Call (.Name "range" p) [a] [] pos) (iRng1 ta) := by
  intro pins s σ H R I h
  refine Call_ (ld_blt I hg hm boot_range (PyProof.Rows.callWith_type1 (thn (ha pos pins s σ H _ I h) fun us s1 ⟨vs, H1, I1, r1, q1⟩ => ?_) hs rfl))
  obtain ⟨j, e, q1, q2, q⟩ := q1
  subst e
  cases r1 with
  | cons r rr =>
    cases rr
    obtain ⟨t, rfl⟩ := r
    exact call_range_1 (range_it I1 (by omega) (by omega) q1 q2 (by simpa using q))
def tFor (wi : TI) (g : TG) (tb : TS) : TS := fun D σ H => wi σ H fun J H1 => ∃ W : Nat -> Nat -> St -> Hp -> Prop, (∃ m, W 0 m σ H1) /\ ∀ i m σ H, W i m σ H ->
  (J.stop i H /\ D.nx σ H) \/ (J.go i H /\ ∃ N : St -> Hp -> Prop, (∀ σ' H', N σ' H' -> ∃ m', m' < m /\ W (i + 1) m' σ' H') /\ ∀ x H', J.yld i H x H' -> g x σ H' fun σ2 H2 => tb { D with nx := N, ct := N, bk := D.nx } σ2 H2)
def pinsAt (fp : List Addr) (h : Heap) : List (Addr × Obj) := fp.filterMap fun b => (h.get? b).map fun o => (b, o)
theorem mem_pinsAt {fp : List Addr} {h : Heap} {b : Addr} {o : Obj} (hb : b ∈ fp) (e : h.get? b = some o) : (b, o) ∈ pinsAt fp h := List.mem_filterMap.mpr ⟨b, hb, by rw [e]; rfl⟩
theorem of_pinsAt {fp : List Addr} {h : Heap} {p : Addr × Obj} (hp : p ∈ pinsAt fp h) : p.1 ∈ fp /\ h.get? p.1 = some p.2 := by
  obtain ⟨b, hb, e⟩ := List.mem_filterMap.mp hp
  cases q : h.get? b with
  | none => rw [q] at e; cases e
  | some o =>
    rw [q] at e
    have e' : (b, o) = p := Option.some.inj e
    subst e'
    exact ⟨hb, q⟩
theorem Inv.pinned {pins : List (Addr × Obj)} {σ : St} {H : Hp} {s : Shared} {fp : List Addr} (I : Inv X pins σ H s) (hf : ∀ b ∈ fp, FpOk X pins H b) (ho : ∀ b ∈ fp, ∃ o, s.heap.get? b = some o /\ ∀ v, o.data ≠ .cell v) : Inv X (pins ++ pinsAt fp s.heap) σ H s :=
  I.pins_of fun p hp => (List.mem_append.mp hp).elim (fun z => I.pin p (List.mem_append_right _ z)) fun z => by
    obtain ⟨hb, e⟩ := of_pinsAt z
    obtain ⟨f0, f1, f2, _⟩ := hf p.1 hb
    obtain ⟨o, e', d⟩ := ho p.1 hb
    rw [e] at e'; cases e'
    exact ⟨e, f0, f1, f2, d⟩
theorem Inv.unpinned {pins pl : List (Addr × Obj)} {σ : St} {H : Hp} {s : Shared} (I : Inv X (pins ++ pl) σ H s) : Inv X pins σ H s := I.pins_of fun p hp => I.pin p (List.mem_append_right _ (List.mem_append_left _ hp))
theorem ps_for {iter : Expr} {body : List Stmt} {wi : TI} {g : TG} {tb : TS} {pos : Pos} (hp : PassesOwn (model X.prog X.w) X.A X.env X.xe) (hc : X.calm = true) (hi : PI X tg iter wi) (hg : PG X tg g) (hb : PSs X body tb)
    (hs : ∀ x, foldedSetIterable iter X.env x = pure x := by intro _; rfl) : PS X (.For tg iter body [] pos) (tFor wi g tb) := by
  intro pins s σ H D I h
  refine wpAny_For (thn (hi pins s σ H _ I h) fun v s1 h1 => thn h1 fun itv s2 h2 => ?_) hs
  obtain ⟨it, fp, tn, J, H2, e, I2, T, st2, f2, W, ⟨m0, w0⟩, turn⟩ := h2
  subst e
  have stat : ∀ {H' : Hp}, (∀ b ∈ fp, H' b = none) -> ∀ b ∈ fp, FpOk X pins H' b := fun hn b hb => ⟨hn b hb, (f2 b hb).2⟩
  refine codeAny_forLoop_any (fun n s' => ∃ i σ' H', Inv X pins σ' H' s' /\ tn i s'.heap /\ (∀ b ∈ fp, H' b = none) /\ W i n σ' H') ?_ m0 ⟨0, σ, H2, I2, st2, fun b hb => (f2 b hb).1, w0⟩
  rintro n s3 ⟨i, σ3, H3, I3, st3, fr3, w3⟩
  rcases turn i n σ3 H3 w3 with ⟨stop, qn⟩ | ⟨go, N, hN, step⟩
  · refine wpAny_passesOwn hp (thn (T.done X rfl rfl rfl hc i pins s3 σ3 H3 X.xe I3 (stat fr3) st3 stop) fun r s4 ⟨hr, I4⟩ => ?_)
    subst hr
    exact wpAny_execs_nil ⟨σ3, H3, I4, qn⟩
  · refine wpAny_passesOwn hp (thn (T.item X rfl rfl rfl hc i pins s3 σ3 H3 X.xe I3 (stat fr3) st3 go) fun r s4 ⟨u, hr, h4⟩ => ?_)
    subst hr
    refine wpAny_passesOwn hp (thn h4 fun _ s5 ⟨x, H5, I5, r5, y5, st5, fr5⟩ => ?_)
    have I5' := I5.pinned (stat fr5) (T.obj _ _ st5)
    refine wpAny_passesOwn hp (thn (hg _ s5 σ3 H5 x u _ I5' r5 (step x H5 y5)) fun _ s6 ⟨σ6, H6, I6, q6⟩ => ?_)
    refine wpAny_passesOwn hp (thn (hb _ s6 σ6 H6 _ I6 q6) fun f s7 q7 => ?_)
    have again : ∀ {σ7 : St} {H7 : Hp}, Inv X (pins ++ pinsAt fp s5.heap) σ7 H7 s7 -> N σ7 H7 -> ∃ m, m < n /\ ∃ i σ' H', Inv X pins σ' H' s7 /\ tn i s7.heap /\ (∀ b ∈ fp, H' b = none) /\ W i m σ' H' := fun {σ7 H7} I7 n7 => by
      obtain ⟨m', hm, w7⟩ := hN σ7 H7 n7
      refine ⟨m', hm, i + 1, σ7, H7, I7.unpinned, T.keep _ _ _ st5 fun b hb o e => (I7.pin (b, o) (List.mem_append_right _ (List.mem_append_right _ (mem_pinsAt hb e)))).1, fun b hb => ?_, w7⟩
      obtain ⟨o, e, d⟩ := T.obj _ _ st5 b hb
      exact (I7.pin (b, o) (List.mem_append_right _ (List.mem_append_right _ (mem_pinsAt hb e)))).2.1
    cases f with
    | next => obtain ⟨σ7, H7, I7, n7⟩ := q7; exact again I7 n7
    | cont => obtain ⟨σ7, H7, I7, n7⟩ := q7; exact again I7 n7
    | brk => obtain ⟨σ7, H7, I7, q7⟩ := q7; exact ⟨σ7, H7, I7.unpinned, q7⟩
    | ret v => obtain ⟨x7, σ7, H7, I7, r7, q7⟩ := q7; exact ⟨x7, σ7, H7, I7.unpinned, r7, q7⟩
end
end L2
namespace L2
open PySem PySem.Spec PyProof.Rows
abbrev R2 := V -> V -> Hp -> VK -> Prop
def OpR (X : Cx) (f : Value -> Value -> Sem Value) (r : R2) : Prop :=
  ∀ (pins : List (Addr × Obj)) (s : Shared) (σ : St) (H : Hp) (x y : V) (v u : Value) (Q : VK), Inv X pins σ H s -> RelV x v -> RelV y u -> r x y H Q ->
    wpAny (model X.prog X.w) X.A (f v u) (EP X pins σ Q) X.xe s
def UnR (X : Cx) (f : Value -> Sem Value) (r : V -> Hp -> VK -> Prop) : Prop :=
  ∀ (pins : List (Addr × Obj)) (s : Shared) (σ : St) (H : Hp) (x : V) (v : Value) (Q : VK), Inv X pins σ H s -> RelV x v -> r x H Q ->
    wpAny (model X.prog X.w) X.A (f v) (EP X pins σ Q) X.xe s
def CallR (X : Cx) (f : Value) (r : List V -> Hp -> VK -> Prop) : Prop :=
  ∀ (pins : List (Addr × Obj)) (s : Shared) (σ : St) (H : Hp) (xs : List V) (us : List Value) (Q : VK), Inv X pins σ H s -> Vals xs us -> r xs H Q ->
    wpAny (model X.prog X.w) X.A (call f us) (EP X pins σ Q) X.xe s
def TruR (X : Cx) (r : V -> Hp -> (Bool -> Hp -> Prop) -> Prop) : Prop :=
  ∀ (pins : List (Addr × Obj)) (s : Shared) (σ : St) (H : Hp) (x : V) (v : Value) (Q : Bool -> Hp -> Prop), Inv X pins σ H s -> RelV x v -> r x H Q ->
    wpAny (model X.prog X.w) X.A (truthy v) (TP X pins σ Q) X.xe s
def tOp (r : R2) (ta tb : TE) : TE := fun σ H Q => ta σ H fun x H1 => tb σ H1 fun y H2 => r x y H2 Q
def tUn (r : V -> Hp -> VK -> Prop) (ta : TE) : TE := fun σ H Q => ta σ H fun x H1 => r x H1 Q
def rI (C : Int -> Int -> Prop) (g : Int -> Int -> V) : R2 := fun x y H Q => ∃ i j, x = .int i /\ y = .int j /\ C i j /\ Q (g i j) H
def rI0 (g : Int -> Int -> V) : R2 := fun x y H Q => ∃ i j, x = .int i /\ y = .int j /\ Q (g i j) H
def rU (g : Int -> V) : V -> Hp -> VK -> Prop := fun x H Q => ∃ i, x = .int i /\ Q (g i) H
section
variable {X : Cx} {a b c : Expr} {ta tb tc : TE} {pos : Pos}
theorem binT (ha : PE X a ta) (hb : PE X b tb) {pins : List (Addr × Obj)} {s : Shared} {σ : St} {H : Hp} {R : V -> V -> Hp -> Prop} (I : Inv X pins σ H s)
    (h : ta σ H fun x H1 => tb σ H1 fun y H2 => R x y H2) {Q : Value -> Shared -> Prop} {f : Value -> Value -> Sem Value}
    (hf : ∀ v u s2 x y H2, Inv X pins σ H2 s2 -> RelV x v -> RelV y u -> R x y H2 -> wpAny (model X.prog X.w) X.A (f v u) Q X.xe s2) :
    wpAny (model X.prog X.w) X.A (eval a X.env) (fun v s₁ => wpAny (model X.prog X.w) X.A (eval b X.env) (fun u s₂ => wpAny (model X.prog X.w) X.A (f v u) Q X.xe s₂) X.xe s₁) X.xe s := by
  refine thn (ha pins s σ H _ I h) fun v s1 ⟨x, H1, I1, r1, q1⟩ => ?_
  refine thn (hb pins s1 σ H1 _ I1 q1) fun u s2 ⟨y, H2, I2, r2, q2⟩ => ?_
  exact hf v u s2 x y H2 I2 r1 r2 q2
theorem pe_op {op : Operator} {r : R2} (ho : OpR X (binaryOp op) r) (ha : PE X a ta) (hb : PE X b tb) : PE X (.BinOp a op b pos) (tOp r ta tb) := by
  intro pins s σ H Q I h
  exact wpAny_BinOp (binT ha hb I h fun v u s2 x y H2 I2 rx ry q => ho pins s2 σ H2 x y v u Q I2 rx ry q)
theorem pe_un {op : UnaryOp} {r : V -> Hp -> VK -> Prop} (ho : UnR X (unaryOp op) r) (ha : PE X a ta) : PE X (.UnaryOp op a pos) (tUn r ta) := by
  intro pins s σ H Q I h
  exact UnaryOp_ (thn (ha pins s σ H _ I h) fun v s1 ⟨x, H1, I1, r1, q1⟩ => ho pins s1 σ H1 x v Q I1 r1 q1)
theorem opI {f : Value -> Value -> Sem Value} {C : Int -> Int -> Prop} {g : Int -> Int -> Int}
    (rule : ∀ (i j : Int) (t u : Tok) (s : Shared) (Q : Value -> Shared -> Prop) (E : Value -> Shared -> Prop), C i j -> Q (.int (g i j) s.toks) { s with toks := s.toks + 1 } -> wpAny (model X.prog X.w) X.A (f (.int i t) (.int j u)) Q E s) :
    OpR X f (rI C fun i j => .int (g i j)) := by
  intro pins s σ H x y v u Q I rx ry h
  obtain ⟨i, j, rfl, rfl, hc, q⟩ := h
  obtain ⟨t, rfl⟩ := rx
  obtain ⟨t', rfl⟩ := ry
  exact rule i j t t' s _ _ hc ⟨.int (g i j), H, I.tok _, ⟨_, rfl⟩, q⟩
theorem opI0 {f : Value -> Value -> Sem Value} {g : Int -> Int -> Int}
    (rule : ∀ (i j : Int) (t u : Tok) (s : Shared) (Q : Value -> Shared -> Prop) (E : Value -> Shared -> Prop), Q (.int (g i j) s.toks) { s with toks := s.toks + 1 } -> wpAny (model X.prog X.w) X.A (f (.int i t) (.int j u)) Q E s) :
    OpR X f (rI0 fun i j => .int (g i j)) := by
  intro pins s σ H x y v u Q I rx ry h
  obtain ⟨i, j, rfl, rfl, q⟩ := h
  obtain ⟨t, rfl⟩ := rx
  obtain ⟨t', rfl⟩ := ry
  exact rule i j t t' s _ _ ⟨.int (g i j), H, I.tok _, ⟨_, rfl⟩, q⟩
theorem opB0 {f : Value -> Value -> Sem Value} {g : Int -> Int -> Bool}
    (rule : ∀ (i j : Int) (t u : Tok) (s : Shared) (Q : Value -> Shared -> Prop) (E : Value -> Shared -> Prop), Q (.bool (g i j)) s -> wpAny (model X.prog X.w) X.A (f (.int i t) (.int j u)) Q E s) :
    OpR X f (rI0 fun i j => .bl (g i j)) := by
  intro pins s σ H x y v u Q I rx ry h
  obtain ⟨i, j, rfl, rfl, q⟩ := h
  obtain ⟨t, rfl⟩ := rx
  obtain ⟨t', rfl⟩ := ry
  exact rule i j t t' s _ _ ⟨.bl (g i j), H, I, rfl, q⟩
def CDiv (i j : Int) : Prop := 0 < j /\ j < 1073741824
def CPow (i j : Int) : Prop := 0 <= j /\ j <= 1000000 /\ i.natAbs < 2 ^ 64
def CMul (i j : Int) : Prop := (-(2 ^ 64) < i /\ i < 2 ^ 64) \/ (-(2 ^ 64) < j /\ j < 2 ^ 64)
theorem CMul.ok {i j : Int} (h : CMul i j) : IntMulOk i j := by
  rcases h with ⟨h1, h2⟩ | ⟨h1, h2⟩
  · exact .of_left (intBits_le_64 h1 h2)
  · exact .of_right (intBits_le_64 h1 h2)
theorem op_add : OpR X (binaryOp .Add) (rI0 fun i j => .int (i + j)) := opI0 fun _ _ _ _ _ _ _ q => add_int q
theorem op_mul : OpR X (binaryOp .Mult) (rI CMul fun i j => .int (i * j)) := opI fun _ _ _ _ _ _ _ hc q => mul_int q hc.ok
theorem op_fdiv : OpR X (binaryOp .FloorDiv) (rI CDiv fun i j => .int (i / j)) := opI fun i j _ _ _ _ _ hc q => by
  have h1 : (0 : Int) < j := hc.1
  have h2 : j < 1073741824 := hc.2
  exact floordiv_int (by omega) (by rw [Int.fdiv_eq_ediv_of_nonneg i (by omega)]; exact q) (.inl (PyProof.noPylong_small (by omega)))
theorem op_mod : OpR X (binaryOp .Mod) (rI (fun _ j => 0 < j) fun i j => .int (i % j)) := opI fun i j _ _ _ _ _ hc q => by
  have h1 : (0 : Int) < j := hc
  exact mod_int' (by omega) (by rw [Int.fmod_eq_emod_of_nonneg i (by omega)]; exact q)
theorem op_pow : OpR X (binaryOp .Pow) (rI CPow fun i j => .int (i ^ j.toNat)) := opI fun _ _ _ _ _ _ _ hc q => pow_int_small hc.1 hc.2.1 hc.2.2 q
theorem unI {f : Value -> Sem Value} {g : Int -> Int}
    (rule : ∀ (i : Int) (t : Tok) (s : Shared) (Q : Value -> Shared -> Prop) (E : Value -> Shared -> Prop), Q (.int (g i) s.toks) { s with toks := s.toks + 1 } -> wpAny (model X.prog X.w) X.A (f (.int i t)) Q E s) :
    UnR X f (rU fun i => .int (g i)) := by
  intro pins s σ H x v Q I rx h
  obtain ⟨i, rfl, q⟩ := h
  obtain ⟨t, rfl⟩ := rx
  exact rule i t s _ _ ⟨.int (g i), H, I.tok _, ⟨_, rfl⟩, q⟩
theorem un_neg : UnR X (unaryOp .USub) (rU fun i => .int (-i)) := unI fun _ _ _ _ _ q => neg_int q
end
def scal : V -> V -> Bool
  | .non, .non => true | .non, .int _ => true | .int _, .non => true | .non, .bl _ => true | .bl _, .non => true | .non, .str _ => true | .str _, .non => true
  | .int _, .int _ => true | .bl _, .bl _ => true | .str _, .str _ => true | .byt _, .byt _ => true
  | .int _, .str _ => true | .str _, .int _ => true | .bl _, .str _ => true | .str _, .bl _ => true
  | _, _ => false
def rEq : R2 := fun x y H Q => scal x y = true /\ Q (.bl (decide (x = y))) H
def rNe : R2 := fun x y H Q => scal x y = true /\ Q (.bl (!decide (x = y))) H
theorem dec_int {i j : Int} : decide (V.int i = V.int j) = (i == j) := by
  rw [Bool.eq_iff_iff]
  simp
theorem dec_bl {i j : Bool} : decide (V.bl i = V.bl j) = (i == j) := by
  rw [Bool.eq_iff_iff]
  simp
theorem dec_str {i j : Str} : decide (V.str i = V.str j) = (i == j) := by
  rw [Bool.eq_iff_iff]
  simp
theorem dec_byt {i j : Array UInt8} : decide (V.byt i = V.byt j) = (i.toList == j.toList) := by
  rw [Bool.eq_iff_iff]
  cases i
  cases j
  simp
section
variable {X : Cx} {a b c : Expr} {ta tb tc : TE} {pos : Pos}
theorem fin_bl {pins : List (Addr × Obj)} {σ : St} {H : Hp} {s : Shared} {Q : VK} {k k' : Bool} (I : Inv X pins σ H s) (q : Q (.bl k) H) (e : k = k') : EP X pins σ Q (.bool k') s := by
  subst e
  exact ⟨.bl k, H, I, rfl, q⟩
theorem op_eq : OpR X (compareOp .Eq) rEq := by
  intro pins s σ H x y v u Q I rx ry h
  obtain ⟨hs, q⟩ := h
  cases x with
  | non =>
    cases rx
    cases y with
    | non => cases ry; exact PySem.EqNone.eq_none_none (fin_bl I q (by simp))
    | bl j => cases ry; exact PySem.EqNone.eq_none_bool (fin_bl I q (by simp))
    | int j => obtain ⟨t', rfl⟩ := ry; exact PySem.EqNone.eq_none_int (fin_bl I q (by simp))
    | str j => obtain ⟨t', rfl⟩ := ry; exact PySem.EqNone.eq_none_str (fin_bl I q (by simp))
    | _ => exact absurd (show false = true from hs) Bool.false_ne_true
  | bl i =>
    cases rx
    cases y with
    | non => cases ry; exact PySem.EqNone.eq_bool_none (fin_bl I q (by simp))
    | bl j => cases ry; exact eq_bool (fin_bl I q dec_bl)
    | str j => obtain ⟨t', rfl⟩ := ry; exact PySem.EqMixed.eq_bool_str (fin_bl I q (by simp))
    | _ => exact absurd (show false = true from hs) Bool.false_ne_true
  | int i =>
    obtain ⟨t, rfl⟩ := rx
    cases y with
    | non => cases ry; exact PySem.EqNone.eq_int_none (fin_bl I q (by simp))
    | int j => obtain ⟨t', rfl⟩ := ry; exact eq_int (fin_bl I q dec_int)
    | str j => obtain ⟨t', rfl⟩ := ry; exact PySem.EqMixed.eq_int_str (fin_bl I q (by simp))
    | _ => exact absurd (show false = true from hs) Bool.false_ne_true
  | str i =>
    obtain ⟨t, rfl⟩ := rx
    cases y with
    | non => cases ry; exact PySem.EqNone.eq_str_none (fin_bl I q (by simp))
    | bl j => cases ry; exact PySem.EqMixed.eq_str_bool (fin_bl I q (by simp))
    | int j => obtain ⟨t', rfl⟩ := ry; exact PySem.EqMixed.eq_str_int (fin_bl I q (by simp))
    | str j => obtain ⟨t', rfl⟩ := ry; exact eq_str (fin_bl I q dec_str)
    | _ => exact absurd (show false = true from hs) Bool.false_ne_true
  | byt i =>
    obtain ⟨t, rfl⟩ := rx
    cases y with
    | byt j => obtain ⟨t', rfl⟩ := ry; exact PySem.W.eq_bytes (fin_bl I q dec_byt)
    | _ => exact absurd (show false = true from hs) Bool.false_ne_true
  | _ => cases y <;> exact absurd (show false = true from hs) Bool.false_ne_true
theorem op_ne : OpR X (compareOp .NotEq) rNe := by
  intro pins s σ H x y v u Q I rx ry h
  obtain ⟨hs, q⟩ := h
  cases x with
  | non =>
    cases rx
    cases y with
    | non => cases ry; exact PySem.EqNone.ne_none_none (fin_bl I q (by simp))
    | bl j => cases ry; exact PySem.EqNone.ne_none_bool (fin_bl I q (by simp))
    | int j => obtain ⟨t', rfl⟩ := ry; exact PySem.EqNone.ne_none_int (fin_bl I q (by simp))
    | str j => obtain ⟨t', rfl⟩ := ry; exact PySem.EqNone.ne_none_str (fin_bl I q (by simp))
    | _ => exact absurd (show false = true from hs) Bool.false_ne_true
  | bl i =>
    cases rx
    cases y with
    | non => cases ry; exact PySem.EqNone.ne_bool_none (fin_bl I q (by simp))
    | bl j => cases ry; exact ne_bool (fin_bl I q (congrArg not dec_bl))
    | str j => obtain ⟨t', rfl⟩ := ry; exact PySem.EqMixed.ne_bool_str (fin_bl I q (by simp))
    | _ => exact absurd (show false = true from hs) Bool.false_ne_true
  | int i =>
    obtain ⟨t, rfl⟩ := rx
    cases y with
    | non => cases ry; exact PySem.EqNone.ne_int_none (fin_bl I q (by simp))
    | int j => obtain ⟨t', rfl⟩ := ry; exact ne_int (fin_bl I q (congrArg not dec_int))
    | str j => obtain ⟨t', rfl⟩ := ry; exact PySem.EqMixed.ne_int_str (fin_bl I q (by simp))
    | _ => exact absurd (show false = true from hs) Bool.false_ne_true
  | str i =>
    obtain ⟨t, rfl⟩ := rx
    cases y with
    | non => cases ry; exact PySem.EqNone.ne_str_none (fin_bl I q (by simp))
    | bl j => cases ry; exact PySem.EqMixed.ne_str_bool (fin_bl I q (by simp))
    | int j => obtain ⟨t', rfl⟩ := ry; exact PySem.EqMixed.ne_str_int (fin_bl I q (by simp))
    | str j => obtain ⟨t', rfl⟩ := ry; exact ne_str (fin_bl I q (congrArg not dec_str))
    | _ => exact absurd (show false = true from hs) Bool.false_ne_true
  | byt i =>
    obtain ⟨t, rfl⟩ := rx
    cases y with
    | byt j => obtain ⟨t', rfl⟩ := ry; exact PySem.W.ne_bytes (fin_bl I q (congrArg not dec_byt))
    | _ => exact absurd (show false = true from hs) Bool.false_ne_true
  | _ => cases y <;> exact absurd (show false = true from hs) Bool.false_ne_true
theorem op_le : OpR X (compareOp .LtE) (rI0 fun i j => .bl (decide (i <= j))) := opB0 fun _ _ _ _ _ _ _ q => le_int q
theorem op_in_str : OpR X (compareOp .In) (fun x y H Q => ∃ i j, x = .str i /\ y = .str j /\ Q (.bl (!(Builtin.Str.occurrences j i 0 j.length 1).isEmpty)) H) := by
  intro pins s σ H x y v u Q I rx ry h
  obtain ⟨i, j, rfl, rfl, q⟩ := h
  obtain ⟨t, rfl⟩ := rx
  obtain ⟨t', rfl⟩ := ry
  exact in_str (fin_bl I q rfl)
theorem OpR.or {f : Value -> Value -> Sem Value} {r r' : R2} (h : OpR X f r) (h' : OpR X f r') : OpR X f (fun x y H Q => r x y H Q \/ r' x y H Q) := by
  intro pins s σ H x y v u Q I rx ry q
  rcases q with q | q
  · exact h pins s σ H x y v u Q I rx ry q
  · exact h' pins s σ H x y v u Q I rx ry q
theorem nomark (b : Expr) {op : CmpOp} (h : op ≠ .In := by decide) (h2 : op ≠ .NotIn := by decide) : behindInMarks op b = false := by
  have e1 : (op == CmpOp.In) = false := by cases op <;> first | rfl | exact absurd rfl h
  have e2 : (op == CmpOp.NotIn) = false := by cases op <;> first | rfl | exact absurd rfl h2
  cases b <;> simp [behindInMarks, e1, e2]
theorem pe_cmpR {op : CmpOp} {r : R2} (ho : OpR X (compareOp op) r) (ha : PE X a ta) (hb : PE X b tb) (hm : behindInMarks op b = false) : PE X (.Compare a [op] [b] pos) (tOp r ta tb) := by
  intro pins s σ H Q I h
  exact wpAny_Compare1 (binT ha hb I h fun v u s2 x y H2 I2 rx ry q => ho pins s2 σ H2 x y v u Q I2 rx ry q) hm
def tTest (t : TE) : TT := fun σ H Q => t σ H fun x H' => ∃ k, x = .bl k /\ Q k H'
theorem pt_cmpR {op : CmpOp} {r : R2} (ho : OpR X (compareOp op) r) (ha : PE X a ta) (hb : PE X b tb) (hm : behindInMarks op b = false) : PT X (.Compare a [op] [b] pos) (tTest (tOp r ta tb)) := by
  intro pins s σ H Q I h
  refine wpAny_isTrue_Compare1 (thn (ha pins s σ H _ I h) fun v s1 ⟨x, H1, I1, r1, q1⟩ => thn (hb pins s1 σ H1 _ I1 q1) fun u s2 ⟨y, H2, I2, r2, q2⟩ =>
    thn (ho pins s2 σ H2 x y v u _ I2 r1 r2 q2) fun c s3 ⟨z, H3, I3, r3, k, e, q3⟩ => ?_) hm
  subst e
  cases r3
  exact wpAny_truthy_bool ⟨H3, I3, q3⟩
def tChain (r r' : R2) (ta tb tc : TE) : TE := fun σ H Q => ta σ H fun x H1 => tb σ H1 fun y H2 => r x y H2 fun z H3 => ∃ k, z = .bl k /\
  (if k = true then tc σ H3 fun w' H4 => r' y w' H4 Q else Q (.bl false) H3)
theorem pe_chain {op op' : CmpOp} {r r' : R2} (ho : OpR X (compareOp op) r) (ho' : OpR X (compareOp op') r') (ha : PE X a ta) (hb : PE X b tb) (hc : PE X c tc)
    (hm : lastMarks [op, op'] [b, c] = false := by with_unfolding_all rfl) : PE X (.Compare a [op, op'] [b, c] pos) (tChain r r' ta tb tc) := by
  intro pins s σ H Q I h
  refine Compare_chain (thn (ha pins s σ H _ I h) fun v s1 ⟨x, H1, I1, r1, q1⟩ => chain_link (thn (hb pins s1 σ H1 _ I1 q1) fun u s2 ⟨y, H2, I2, r2, q2⟩ =>
    thn (ho pins s2 σ H2 x y v u _ I2 r1 r2 q2) fun d s3 ⟨z, H3, I3, r3, k, e, q3⟩ => ?_)) hm
  subst e
  cases r3
  refine wpAny_truthy_bool ?_
  cases k with
  | false => exact ite_ff ⟨.bl false, H3, I3, rfl, q3⟩
  | true => exact ite_tt (chain_last (thn (hc pins s3 σ H3 _ I3 q3) fun w' s4 ⟨z', H4, I4, r4, q4⟩ => ho' pins s4 σ H4 y z' u w' Q I4 r2 r4 q4))
theorem pt_chain {op op' : CmpOp} {r r' : R2} (ho : OpR X (compareOp op) r) (ho' : OpR X (compareOp op') r') (ha : PE X a ta) (hb : PE X b tb) (hc : PE X c tc)
    (hm : lastMarks [op, op'] [b, c] = false := by with_unfolding_all rfl) : PT X (.Compare a [op, op'] [b, c] pos) (tTest (tChain r r' ta tb tc)) := by
  intro pins s σ H Q I h
  refine isTrue_chain (thn (ha pins s σ H _ I h) fun v s1 ⟨x, H1, I1, r1, q1⟩ => test_link (thn (hb pins s1 σ H1 _ I1 q1) fun u s2 ⟨y, H2, I2, r2, q2⟩ =>
    thn (ho pins s2 σ H2 x y v u _ I2 r1 r2 q2) fun d s3 ⟨z, H3, I3, r3, k, e, q3⟩ => ?_)) hm
  subst e
  cases r3
  refine wpAny_truthy_bool ?_
  cases k with
  | false =>
    obtain ⟨k', e', q'⟩ := q3
    cases e'
    exact ite_ff ⟨H3, I3, q'⟩
  | true =>
    refine ite_tt (test_last (thn (hc pins s3 σ H3 _ I3 q3) fun w' s4 ⟨z', H4, I4, r4, q4⟩ => thn (ho' pins s4 σ H4 y z' u w' _ I4 r2 r4 q4) fun d' s5 ⟨z2, H5, I5, r5, k2, e2, q5⟩ => ?_))
    subst e2
    cases r5
    exact wpAny_truthy_bool ⟨H5, I5, q5⟩
def TruV (K : PySem.W.Frag) (x : V) (H : Hp) (k : Bool) : Prop :=
  match x with
  | .non => k = false
  | .bl b => k = b
  | .int i => k = (i != 0)
  | .str y => y.length <= sizeLine /\ k = ((y.length : Int) != 0)
  | .byt y => y.size <= sizeLine /\ k = ((y.size : Int) != 0)
  | .ref p => (∃ xs, SqL K H p xs /\ k = !xs.isEmpty) \/ (∃ xs, SqT K H p xs /\ k = !xs.isEmpty) \/ ∃ kvs, H p = some (.dK kvs) /\ k = !kvs.isEmpty
  | _ => False
theorem isEmpty_kv {κ : Type} {kvs : List (κ × V)} {vs : List (κ × Value)} (r : KV kvs vs) : (!vs.isEmpty) = !kvs.isEmpty := by
  cases r <;> rfl
theorem isEmpty_of {xs : List V} {its : List Value} (r : Vals xs its) : (!its.toArray.isEmpty) = !xs.isEmpty := by
  cases r <;> simp
theorem line63 : (sizeLine : Nat) < 2 ^ 63 := by rw [sizeLine_eq]; decide
theorem tru_ok : TruR X (fun x H Q => ∃ k, TruV X.K x H k /\ Q k H) := by
  intro pins s σ H x v Q I rx h
  obtain ⟨k, e, q⟩ := h
  have hl := line63
  have hs : sizeLine = 16777216 := sizeLine_eq
  cases x with
  | non =>
    cases rx
    have e' : k = false := e
    subst e'
    exact truthy_none ⟨H, I, q⟩
  | bl b =>
    cases rx
    have e' : k = b := e
    subst e'
    exact wpAny_truthy_bool ⟨H, I, q⟩
  | int i =>
    obtain ⟨t, rfl⟩ := rx
    have e' : k = (i != 0) := e
    subst e'
    exact PySem.P.truthy_int ⟨H, I, q⟩
  | str y =>
    obtain ⟨t, rfl⟩ := rx
    obtain ⟨hy, e'⟩ : y.length <= sizeLine /\ k = ((y.length : Int) != 0) := e
    subst e'
    exact PySem.P.truthy_str (by omega) ⟨H, I.tok _, q⟩
  | byt y =>
    obtain ⟨t, rfl⟩ := rx
    obtain ⟨hy, e'⟩ : y.size <= sizeLine /\ k = ((y.size : Int) != 0) := e
    subst e'
    exact PySem.W.truthy_bytes (by omega) ⟨H, I.tok _, q⟩
  | ref p =>
    cases rx
    have e' : (∃ xs, SqL X.K H p xs /\ k = !xs.isEmpty) \/ (∃ xs, SqT X.K H p xs /\ k = !xs.isEmpty) \/ ∃ kvs, H p = some (.dK kvs) /\ k = !kvs.isEmpty := e
    rcases e' with ⟨xs, hx, e'⟩ | ⟨xs, hx, e'⟩ | ⟨kvs, hx, e'⟩
    · subst e'
      obtain ⟨its, r, pl, hz⟩ := I.list hx
      have hlen := r.length
      exact wpAny_truthy_list pl.isList (by simp only [List.size_toArray]; omega) ⟨H, I.tok _, by rw [isEmpty_of r]; exact q⟩
    · subst e'
      obtain ⟨its, r, pl, hz⟩ := I.tuple hx
      have hlen := r.length
      exact truthy_tuple pl (by simp only [List.size_toArray]; omega) ⟨H, I.tok _, by rw [isEmpty_of r]; exact q⟩
    · subst e'
      obtain ⟨hz, hS, vs, r, m⟩ : kvs.length <= sizeLine /\ (p == sysModules) = false /\ ∃ vs, KV kvs vs /\ s.heap.DictOf (mixKind X.prog X.w) p vs := I.hok p _ hx
      have hlen : kvs.length = vs.length := Paired.length r
      exact wpAny_truthy_dict hS m (by omega) ⟨H, I.tok _, by rw [isEmpty_kv r]; exact q⟩
  | _ => exact (show False from e).elim
theorem op_add_str : OpR X (binaryOp .Add) (fun x y H Q => ∃ i j, x = .str i /\ y = .str j /\ i.length + j.length <= sizeLine /\ Q (.str (i ++ j)) H) := by
  intro pins s σ H x y v u Q I rx ry h
  obtain ⟨i, j, rfl, rfl, hz, q⟩ := h
  obtain ⟨t, rfl⟩ := rx
  obtain ⟨t', rfl⟩ := ry
  exact add_str (fun t' tk => ⟨.str (i ++ j), H, I.tok _, ⟨_, rfl⟩, q⟩) hz
theorem vals1 {x : V} {us : List Value} (r : Vals [x] us) : ∃ u, us = [u] /\ RelV x u := by
  cases r with
  | cons r1 r2 => cases r2; exact ⟨_, rfl, r1⟩
theorem vals2 {x y : V} {us : List Value} (r : Vals [x, y] us) : ∃ u w', us = [u, w'] /\ RelV x u /\ RelV y w' := by
  cases r with
  | cons r1 r2 =>
    cases r2 with
    | cons r3 r4 => cases r4; exact ⟨_, _, rfl, r1, r3⟩
theorem call_abs : CallR X (.builtin "abs") (fun xs H Q => ∃ i, xs = [.int i] /\ Q (.int (if i < 0 then -i else i)) H) := by
  intro pins s σ H xs us Q I r h
  obtain ⟨i, rfl, q⟩ := h
  obtain ⟨u, rfl, t, rfl⟩ := vals1 r
  exact call_abs_int fun u tk => ⟨.int (if i < 0 then -i else i), H, I.tok _, ⟨_, rfl⟩, q⟩
theorem call_str_int : CallR X (.type "str") (fun xs H Q => ∃ i, xs = [.int i] /\ i.natAbs.log2 < 1920 /\ Q (.str (toString i)) H) := by
  intro pins s σ H xs us Q I r h
  obtain ⟨i, rfl, hz, q⟩ := h
  obtain ⟨u, rfl, t, rfl⟩ := vals1 r
  exact PySem.P.str_of_int hz ⟨.str _, H, I.tok _, ⟨_, rfl⟩, q⟩
def LenV (K : PySem.W.Frag) (x : V) (H : Hp) (n : Nat) : Prop :=
  match x with
  | .str y => y.length <= sizeLine /\ n = y.length
  | .byt y => y.size <= sizeLine /\ n = y.size
  | .ref p => (∃ xs, SqL K H p xs /\ n = xs.length) \/ ∃ xs, SqT K H p xs /\ n = xs.length
  | _ => False
theorem call_len : CallR X (.builtin "len") (fun xs H Q => ∃ x n, xs = [x] /\ LenV X.K x H n /\ Q (.int n) H) := by
  intro pins s σ H xs us Q I r h
  obtain ⟨x, n, rfl, e, q⟩ := h
  obtain ⟨u, rfl, rx⟩ := vals1 r
  have hl := line63
  have hs : sizeLine = 16777216 := sizeLine_eq
  cases x with
  | str y =>
    obtain ⟨t, rfl⟩ := rx
    obtain ⟨hy, e'⟩ : y.length <= sizeLine /\ n = y.length := e
    subst e'
    exact len_str (by omega) ⟨.int _, H, I.tok _, ⟨_, rfl⟩, q⟩
  | byt y =>
    obtain ⟨t, rfl⟩ := rx
    obtain ⟨hy, e'⟩ : y.size <= sizeLine /\ n = y.size := e
    subst e'
    exact PySem.W.len_bytes (by omega) ⟨.int _, H, I.tok _, ⟨_, rfl⟩, q⟩
  | ref p =>
    cases rx
    have e' : (∃ xs, SqL X.K H p xs /\ n = xs.length) \/ ∃ xs, SqT X.K H p xs /\ n = xs.length := e
    rcases e' with ⟨xs, hx, e'⟩ | ⟨xs, hx, e'⟩
    · subst e'
      obtain ⟨its, r', pl, hz⟩ := I.list hx
      have hlen := r'.length
      exact Calls.call_len_list pl.isList (by simp only [List.size_toArray]; omega) ⟨.int xs.length, H, I.tok _, ⟨_, by simp only [List.size_toArray]; rw [hlen]⟩, q⟩
    · subst e'
      obtain ⟨its, r', pl, hz⟩ := I.tuple hx
      have hlen := r'.length
      exact len_tuple pl (by simp only [List.size_toArray]; omega) ⟨.int xs.length, H, I.tok _, ⟨_, by simp only [List.size_toArray]; rw [hlen]⟩, q⟩
  | _ => exact (show False from e).elim
end
end L2
namespace L2
open PySem PySem.Spec PyProof.Rows
structure ObjM (h : Heap) (x dx C : Addr) (mA : Str -> Option Value) : Prop where
  obj : h.get? x = some (PySem.W.instObj C dx)
  ns : h.Ns1 dx mA
  ne : dx ≠ x
theorem lookIn_ns {h : Heap} {dx : Addr} {mA : Str -> Option Value} (n : h.Ns1 dx mA) : ∃ od, h.get? dx = some od /\ ∀ name, PySem.W.lookIn name od = some (mA name) := by
  obtain ⟨o, es, ep, ho, hd, hk, _, hm⟩ := n
  refine ⟨o, ho, fun name => ?_⟩
  have e := hm name
  unfold nsFind findBy at e
  rw [← Array.find?_toList] at e
  unfold PySem.W.lookIn
  rw [hd]
  dsimp only
  split
  · rename_i y q
    rw [q] at e
    exact congrArg some e
  · rename_i q
    rw [q] at e
    have a : es.toList.any (·.refKey) = false := by
      rw [List.any_eq_false]
      intro y hy
      obtain ⟨z, t, hkey⟩ := hk y (Array.mem_toList_iff.mp hy)
      simp [DictEntry.refKey, hkey]
    have a' : ¬ es.toList.any (·.refKey) = true := by rw [a]; exact Bool.false_ne_true
    rw [if_neg a']
    exact congrArg some e
theorem ObjM.look {h : Heap} {x dx C : Addr} {mA : Str -> Option Value} (I : ObjM h x dx C mA) : ∃ od, PySem.W.InstAt h x (PySem.W.instObj C dx) C (some od) /\ ∀ name, PySem.W.lookIn name od = some (mA name) :=
  let ⟨od, ho, hl⟩ := lookIn_ns I.ns
  ⟨od, ⟨I.obj, rfl, rfl, ho⟩, hl⟩
section
variable {prog : Program} {w : World} {A : Around} {E : Value -> Shared -> Prop} {s : Shared} {K : PySem.W.Frag} {x dx C f : Addr} {mA : Str -> Option Value} {name : Str} {v : Value}
end
theorem RelO.some_of {v : V} {o : Option Value} (r : RelO (some v) o) : ∃ u, o = some u /\ RelV v u := by
  cases o with
  | none => exact (show False from r).elim
  | some u => exact ⟨u, rfl, r⟩
theorem RelO.none_of {o : Option Value} (r : RelO none o) : o = none := by
  cases o with
  | none => rfl
  | some u => exact (show False from r).elim
section
variable {P : Program} {w : World} {H H' : Hp} {h h' : Heap} {a C dx : Addr} {fs fs' : List (Str × V)}
theorem ins_get (hok : HOk P w H h) (e : H a = some (.ins C dx fs)) : ∃ mA, ObjM h a dx C mA /\ (∀ f, RelO (fs.lookup f) (mA f)) /\ PySem.Within mA (fs.map (·.1)) /\ fs.length <= 1000 /\ H dx = some (.own a) := by
  obtain ⟨d, z, ne, ob, mA, n, r, q⟩ := (show ObjOk P w H h a (.ins C dx fs) from hok a _ e)
  exact ⟨mA, ⟨ob, n, ne⟩, r, q, z, d⟩
end
structure Cls (K : PySem.W.Frag) (C : Addr) : Prop where
  pg : PySem.W.plainGet K C Str.empty = true
  hd : PySem.W.hasDictIn K C = true
  po : PySem.W.plainOver K C = true
  sa : PySem.W.findIn K (.ref C) "__setattr__" = some (some (.builtin "object.__setattr__"))
theorem Cls.get {K : PySem.W.Frag} {C : Addr} (c : Cls K C) (f : Str) : PySem.W.plainGet K C f = true := c.pg
def NoAttr (K : PySem.W.Frag) (C : Addr) (f : Str) : Prop := PySem.W.findIn K (.ref C) f = some none
structure Con (K : PySem.W.Frag) (C : Addr) (f : Str) (v : V) (u : Value) : Prop where
  at_ : PySem.W.findIn K (.ref C) f = some (some u)
  rel : RelV v u
  get : PySem.W.specialIn K u "__get__" = some none
  cp : PySem.W.copiedNames.contains f = false
structure Meth (K : PySem.W.Frag) (C : Addr) (m : Str) (f : Addr) : Prop where
  at_ : PySem.W.findIn K (.ref C) m = some (some (.ref f))
  fn : PySem.W.isFn K (.ref f) = true
  kp : PySem.W.keepIn K (.ref f) = true
section
variable {X : Cx} {pins : List (Addr × Obj)} {σ : St} {H : Hp} {s : Shared} {a C dx : Addr} {fs : List (Str × V)} {f : Str} {v : V} {A : Around} {E : Value -> Shared -> Prop}
end
section
variable {X : Cx} {o e value : Expr} {f : Str} {pos pos' tpos : Pos} {ta tv : TE}
end
section
variable {X : Cx} {pins : List (Addr × Obj)} {σ : St} {H : Hp} {s : Shared} {A : Around} {E : Value -> Shared -> Prop} {Q : Value -> Shared -> Prop} {c : Value} {b : Bool}
inductive TyOf (K : PySem.W.Frag) (H : Hp) : V -> Value -> Prop where
  | non : TyOf K H .non (.type "NoneType")
  | bl (x : Bool) : TyOf K H (.bl x) (.type "bool")
  | int (i : Int) : TyOf K H (.int i) (.type "int")
  | str (x : Str) : TyOf K H (.str x) (.type "str")
  | flt (x : UInt64) : TyOf K H (.flt x) (.type "float")
  | lst {a : Addr} {xs : List V} (e : H a = some (.lst xs)) : TyOf K H (.ref a) (.type "list")
  | frz {a : Addr} {o : Obj} {xs : List V} (e : H a = some (.frz o (.lst xs))) : TyOf K H (.ref a) (.type "list")
  | tup {a : Addr} {xs : List V} (e : H a = some (.tup xs)) : TyOf K H (.ref a) (.type "tuple")
  | dK {a : Addr} {kvs : List (Key × V)} (e : H a = some (.dK kvs)) : TyOf K H (.ref a) (.type "dict")
  | dT {a : Addr} {kvs : List (List Key × V)} (e : H a = some (.dT kvs)) : TyOf K H (.ref a) (.type "dict")
  | ins {a C dx : Addr} {fs : List (Str × V)} (e : H a = some (.ins C dx fs)) (cl : Cls K C) (ha : PySem.W.findIn K (.ref C) "__class__" = some (some (.builtin "object.__class__")))
      (hn : PySem.W.specialIn K (.builtin "object.__class__") "__get__" = some (some (.builtin "getset_descriptor.__get__"))) (htk : PySem.W.takesIn K (.builtin "object.__class__") = some true)
      (hm : PySem.W.mroIn K C (.type "object") = some true) : TyOf K H (.ref a) (.ref C)
theorem isinst_ok {x : V} {u t : Value} (I : Inv X pins σ H s) (rx : RelV x u) (ty : TyOf X.K H x t) (e : PySem.W.kitOne X.K t c = some b) (h : ∀ tk, Q (.bool b) { s with toks := tk }) :
    wpAny (model X.prog X.w) A (call (.builtin "isinstance") [u, c]) Q E s := by
  cases ty with
  | non => cases (show u = Value.none from rx); exact PySem.W.kia_one PySem.W.kitx_none I.kIn True.intro e (fun z => nomatch z) h
  | bl y => cases (show u = Value.bool y from rx); exact PySem.W.kia_one PySem.W.kitx_bool I.kIn True.intro e (fun z => nomatch z) h
  | int i => obtain ⟨t, q⟩ := (show ∃ t, u = Value.int i t from rx); cases q; exact PySem.W.kia_one PySem.W.kitx_int I.kIn True.intro e (fun z => nomatch z) h
  | str y => obtain ⟨t, q⟩ := (show ∃ t, u = Value.str y t from rx); cases q; exact PySem.W.kia_one PySem.W.kitx_str I.kIn True.intro e (fun z => nomatch z) h
  | flt y => obtain ⟨t, q⟩ := (show ∃ t, u = Value.float y t from rx); cases q; exact PySem.W.kia_one PySem.W.kitx_float I.kIn True.intro e (fun z => nomatch z) h
  | @lst a xs ea =>
    cases (show u = Value.ref a from rx)
    obtain ⟨_, _, n, _, h1⟩ := (show ObjOk X.prog X.w H s.heap a (.lst xs) from I.hok a _ ea)
    exact PySem.W.kia_one PySem.W.kitx_list I.kIn ⟨_, h1, rfl⟩ e (fun z => nomatch z) h
  | @frz a ob xs ea =>
    cases (show u = Value.ref a from rx)
    obtain ⟨_, _, _, n, _, h1⟩ := (show ObjOk X.prog X.w H s.heap a (.frz ob (.lst xs)) from I.hok a _ ea)
    exact PySem.W.kia_one PySem.W.kitx_list I.kIn ⟨_, h1, rfl⟩ e (fun z => nomatch z) h
  | @tup a xs ea =>
    cases (show u = Value.ref a from rx)
    obtain ⟨_, _, _, p⟩ := (show ObjOk X.prog X.w H s.heap a (.tup xs) from I.hok a _ ea)
    obtain ⟨o, h1, h2, _⟩ := p
    exact PySem.W.kia_one PySem.W.kitx_tuple I.kIn ⟨o, h1, h2⟩ e (fun z => nomatch z) h
  | @dK a kvs ea =>
    cases (show u = Value.ref a from rx)
    obtain ⟨_, _, vs, _, p⟩ := (show ObjOk X.prog X.w H s.heap a (.dK kvs) from I.hok a _ ea)
    obtain ⟨o, es, ep, h1, h2, _⟩ := p
    exact PySem.W.kia_one PySem.W.kitx_dict I.kIn ⟨o, h1, h2.1⟩ e (fun z => nomatch z) h
  | @dT a kvs ea =>
    cases (show u = Value.ref a from rx)
    obtain ⟨_, _, xs, _, o, es, ep, h1, h2, _⟩ := (show ObjOk X.prog X.w H s.heap a (.dT kvs) from I.hok a _ ea)
    exact PySem.W.kia_one PySem.W.kitx_dict I.kIn ⟨o, h1, h2.1⟩ e (fun z => nomatch z) h
  | @ins a C dx fs ea cl ha hn htk hm =>
    cases (show u = Value.ref a from rx)
    obtain ⟨mA, O, _⟩ := ins_get I.hok ea
    obtain ⟨od, J, _⟩ := O.look
    exact PySem.W.kia_one (PySem.W.kitx_own (cl.get _) cl.hd ha hn htk hm) I.kIn J e (fun z => nomatch z) h
end
end L2
namespace L2
open PySem PySem.Spec PyProof.Rows
structure Room (k : Nat) (A : Around) : Prop where
  hd : A.handled = none
  dp : A.depth + 3 * k + 5 < recursionLimit
  un : A.units + 16 * k + 200 < cLine
theorem Room.mono {j k : Nat} {A : Around} (r : Room k A) (h : j <= k) : Room j A := ⟨r.hd, by have := r.dp; omega, by have := r.un; omega⟩
theorem Room.deeper {k : Nat} {A : Around} (r : Room (k + 1) A) (env : Env) : Room k (A.deeper env) :=
  ⟨r.hd, by have := r.dp; show A.depth + 1 + 3 * k + 5 < _; omega, by have := r.un; show A.units + 3 + 16 * k + 200 < _; omega⟩
theorem Room.depth {k : Nat} {A : Around} (r : Room k A) : A.depth < recursionLimit := by have := r.dp; omega
def tNil : TA := fun _ H Q => Q [] H
def tCons (ta : TE) (tr : TA) : TA := fun σ H Q => ta σ H fun x H1 => tr σ H1 fun xs H2 => Q (x :: xs) H2
section
variable {X : Cx} {e : Expr} {es : List Expr} {te : TE} {t : TA} {pos : Pos}
theorem pa_nil : PA X [] tNil := fun _ _ _ _ H Q I h => Calls.spliced_nil ⟨[], H, I, .nil, h⟩
theorem pa_cons (ha : PE X e te) (hr : PA X es t) (hs : starEach (e :: es) X.env = (false, eval e X.env) :: starEach es X.env := by rfl) : PA X (e :: es) (tCons te t) := by
  intro pos pins s σ H Q I h
  rw [hs]
  show wpAny _ _ (spliced ((false, eval e X.env) :: backTo pos (starEach es X.env))) _ _ s
  refine Calls.spliced_cons (thn (ha pins s σ H _ I h) fun u s1 ⟨x, H1, I1, r1, q1⟩ => ?_)
  exact thn (hr pos pins s1 σ H1 _ I1 q1) fun us s2 ⟨xs, H2, I2, r2, q2⟩ => ⟨x :: xs, H2, I2, .cons r1 r2, q2⟩
def tTup (t : TA) : TE := fun σ H Q => t σ H fun xs H1 => xs.length <= sizeLine /\ ∀ p, H1 p = none -> Q (.ref p) (upd H1 p (.tup xs))
def tLst (t : TA) : TE := fun σ H Q => t σ H fun xs H1 => xs.length <= sizeLine /\ ∀ p, H1 p = none -> Q (.ref p) (upd H1 p (.lst xs))
theorem pe_tup {x1} (h : PA X es t) : PE X (.Tuple es x1 pos) (tTup t) := by
  intro pins s σ H Q I hq
  refine wpAny_Tuple_spliced (thn (h pos pins s σ H _ I hq) fun us s1 ⟨xs, H1, I1, r, z, q⟩ => ⟨by rw [← r.length]; exact z, ?_⟩)
  have hf : H1 s1.heap.objs.size = none := I1.hok.fresh (Nat.le_refl _)
  refine ⟨.ref s1.heap.objs.size, upd H1 s1.heap.objs.size (.tup xs), I1.laid (t' := s1.toks) (fun b u e => Heap.get?_push_of_some _ e) (Nat.le_refl _) ?_, rfl, q _ hf⟩
  exact ⟨z, us, r, ⟨_, Heap.get?_push_size _ rfl, rfl, _, rfl⟩⟩
theorem pe_lst (h : PA X es t) : PE X (.List es pos) (tLst t) := by
  intro pins s σ H Q I hq
  refine wpAny_List_spliced (thn (h pos pins s σ H _ I hq) fun us s1 ⟨xs, H1, I1, r, z, q⟩ => ⟨by rw [← r.length]; exact z, ?_⟩)
  have hf : H1 s1.heap.objs.size = none := I1.hok.fresh (Nat.le_refl _)
  refine ⟨.ref s1.heap.objs.size, upd H1 s1.heap.objs.size (.lst xs), I1.laid (t' := s1.toks) (fun b u e => Heap.get?_push_of_some _ e) (Nat.le_refl _) ?_, rfl, q _ hf⟩
  exact ⟨z, us, 0, r, Heap.get?_push_size _ rfl⟩
end
abbrev Sp := List V -> Hp -> VK -> XK -> Prop
abbrev CXT := List Env -> Hp -> Shared -> XK -> Value -> Shared -> Prop
structure Env0 (P : Program) (w : World) (K : PySem.W.Frag) (mg : Str -> Option Value) (base : Heap) (A : Around) (outer : List Env) (s : Shared) (H : Hp) : Prop where
  frames : A.frames = some outer
  mod : Mod K mg base
  bs : ∀ b o, base.get? b = some o -> s.heap.get? b = some o /\ H b = none
  bsz : base.objs.size <= s.heap.objs.size
  funs : s.heap.FunFrames base outer
  frf : ∀ b ∈ frs outer, H b = none
  hok : HOk P w H s.heap
  bare : AllBare s.gens
def CE (outer : List Env) (P : Program) (w : World) (H : Hp) (s : Shared) (Q : VK) (u : Value) (s' : Shared) : Prop :=
  ∃ v H', s'.os = s.os /\ AllBare s'.gens /\ Un (frs outer) [] H H' s.heap s'.heap /\ HOk P w H' s'.heap /\ RelV v u /\ Q v H'
def CR (CX : CXT) (outer : List Env) (P : Program) (w : World) (H : Hp) (s : Shared) (Q : VK) (E : XK) (r : Result) (s' : Shared) : Prop :=
  match r with
  | .ok (.ret u) => CE outer P w H s Q u s'
  | .ok _ => False
  | .error e => CX outer H s E e s'
structure FnOk (P : Program) (w : World) (K : PySem.W.Frag) (mg : Str -> Option Value) (base : Heap) (CX : CXT) (k : Nat) (f : Addr) (fd : FuncData) (ps : List Str) (sp : Sp) : Prop where
  len : ∀ vs H Q E, sp vs H Q E -> vs.length = ps.length
  run : ∀ (A : Around) (outer : List Env) (s : Shared) (H : Hp) (args : Args) (us : List Value) (vs : List V) (Q : VK) (E : XK), Room k A -> Env0 P w K mg base A outer s H -> BindsTo s fd args (ps.zip us) -> Vals vs us -> sp vs H Q E ->
    codeAny (model P w) A (.call (.ref f) args) (CR CX outer P w H s Q E) s
theorem FnOk.imp {P : Program} {w : World} {K : PySem.W.Frag} {mg : Str -> Option Value} {base : Heap} {CX : CXT} {k : Nat} {f : Addr} {fd : FuncData} {ps : List Str} {sp sp' : Sp} (F : FnOk P w K mg base CX k f fd ps sp)
    (h : ∀ vs H Q E, sp' vs H Q E -> sp vs H Q E) : FnOk P w K mg base CX k f fd ps sp' :=
  ⟨fun vs H Q E q => F.len vs H Q E (h _ _ _ _ q), fun A outer s H args us vs Q E hr he hb hv hs => F.run A outer s H args us vs Q E hr he hb hv (h _ _ _ _ hs)⟩
section
variable {X : Cx} {pins : List (Addr × Obj)} {σ : St} {H : Hp} {s s' : Shared}
theorem Inv.env0 (I : Inv X pins σ H s) : Env0 X.prog X.w X.K X.mg X.base X.A X.stack s H :=
  ⟨I.ok.frames, I.ok.mod, I.bs, Nat.le_trans I.ok.bsz I.sz, I.stack, I.stkFree, I.hok, I.bare⟩
theorem Inv.after {Q : VK} {u : Value} (I : Inv X pins σ H s) (h : CE X.stack X.prog X.w H s Q u s') : EP X pins σ Q u s' := by
  obtain ⟨v, H', os, bare, un, hok, r, q⟩ := h
  obtain ⟨hh, g, d, t, os'⟩ := s'
  obtain rfl : os' = s.os := os
  exact ⟨v, H', I.call (h' := hh) (g' := g) (d' := d) (t' := t) (ch := []) un hok bare (fun b z => absurd z (by simp)), r, q⟩
end
def tCall (sp : Sp) (dvs : List V) (E : XK) (t : TA) : TE := fun σ H Q => t σ H fun vs H1 => sp (vs ++ dvs) H1 Q E
def Binds (K : PySem.W.Frag) (fd : FuncData) (ps : List Str) (ds : List Value) : Prop :=
  ∀ (s : Shared) (us : List Value), K.In s.heap -> (us ++ ds).length = ps.length -> BindsTo s fd ⟨us, []⟩ (ps.zip (us ++ ds))
theorem Binds.all {K : PySem.W.Frag} {fd : FuncData} {ps : List Str} (h : ∀ us : List Value, us.length = ps.length -> bindArgs fd ⟨us, []⟩ = pure (ps.zip us)) : Binds K fd ps [] := fun s us _ hl => by
  rw [List.append_nil] at hl ⊢
  exact .of_eq (h us hl)
def Passes (CX : CXT) (X : Cx) (E : XK) : Prop := ∀ (pins : List (Addr × Obj)) (σ : St) (H : Hp) (s : Shared) (e : Value) (s' : Shared), Inv X pins σ H s -> CX X.stack H s E e s' -> X.xe e s'
section
variable {X : Cx} {CX : CXT} {k : Nat} {f C : Addr} {fd : FuncData} {ps : List Str} {sp : Sp} {dvs : List V} {ds : List Value} {E : XK} {x m : Str} {p pos apos : Pos} {e o : Expr} {es : List Expr} {ta : TE} {t : TA}
theorem run_fn {pins : List (Addr × Obj)} {σ : St} {H : Hp} {s : Shared} {Q : VK} {us : List Value} {vs : List V} (F : FnOk X.prog X.w X.K X.mg X.base CX k f fd ps sp) (hr : Room k X.A) (hb : Binds X.K fd ps ds) (hd : Vals dvs ds) (hx : Passes CX X E)
    (I : Inv X pins σ H s) (r : Vals vs us) (h : sp (vs ++ dvs) H Q E) : wpAny (model X.prog X.w) X.A (call (.ref f) us) (EP X pins σ Q) X.xe s := by
  have r2 : Vals (vs ++ dvs) (us ++ ds) := r.append hd
  have hl : (us ++ ds).length = ps.length := by rw [← r2.length]; exact F.len _ _ _ _ h
  refine wpAny_call (codeAny_mono (F.run X.A X.stack s H ⟨us, []⟩ (us ++ ds) (vs ++ dvs) Q E hr I.env0 (hb s us I.kIn hl) r2 h) fun r s' hq => ?_)
  cases r with
  | error e => exact hx pins σ H s e s' I hq
  | ok fl =>
    cases fl with
    | ret u => exact I.after hq
    | next => exact False.elim hq
    | brk => exact False.elim hq
    | cont => exact False.elim hq
theorem pe_call (F : FnOk X.prog X.w X.K X.mg X.base CX k f fd ps sp) (hr : Room k X.A) (hg : Gl X x) (hm : X.mg x = some (.ref f)) (hk : PySem.W.keepIn X.K (.ref f) = true) (hb : Binds X.K fd ps ds) (hd : Vals dvs ds) (hx : Passes CX X E)
    (ha : PA X (e :: es) t) (hdb : (x == ("__debug__" : Str)) = false := by decide) (he : starEach (e :: es) X.env = (false, eval e X.env) :: starEach es X.env := by rfl) (hpl : (backTo pos (starEach es X.env)).any (·.1) = false := by rfl) :
    PE X (.Call (.Name x p) (e :: es) [] pos) (tCall sp dvs E t) := by
  intro pins s σ H Q I h
  refine wpAny_Call_Name_kw (ld_glob I hg hm ?_ hdb)
  refine PySem.W.callWith_K (h₀ := X.base) I.ok.mod.kin hk (thn (ha pos pins s σ H _ I h) fun us s1 ⟨vs, H1, I1, r, q⟩ => ⟨I1.kIn, ?_⟩) he hpl
  exact run_fn F hr hb hd hx I1 r q
structure Mk (K : PySem.W.Frag) (C f : Addr) : Prop where
  makes : PySem.W.makesIn K C = true
  init : PySem.W.findIn K (.ref C) "__init__" = some (some (.ref f))
  fn : PySem.W.isFn K (.ref f) = true
  kp : PySem.W.keepIn K (.ref C) = true
end
section
variable {X : Cx} {CX : CXT} {k : Nat} {f C : Addr} {fd : FuncData} {ps ks : List Str} {sp : Sp} {E : XK} {x m : Str} {p pos apos kpos : Pos} {e o : Expr} {es : List Expr} {kws : List Keyword} {te ta : TE} {t tk : TA} {nm : Option Str}
structure KBinds (K : PySem.W.Frag) (fd : FuncData) (ps ks : List Str) (g : List Value -> List Value -> List Value) (gV : List V -> List V -> List V) : Prop where
  to : ∀ (s : Shared) (us ws : List Value), K.In s.heap -> (g us ws).length = ps.length -> BindsTo s fd ⟨us, ks.zip ws⟩ (ps.zip (g us ws))
  rel : ∀ {vs : List V} {us : List Value} {zs : List V} {ws : List Value}, Vals vs us -> Vals zs ws -> Vals (gV vs zs) (g us ws)
variable {g : List Value -> List Value -> List Value} {gV : List V -> List V -> List V}
end
structure FnScope (N P : List Str) (sc : Scope) : Prop where
  kind : sc.kind = .function
  co : sc.isCoroutine = false
  gen : sc.isGenerator = false
  nd : N.Nodup
  pre : N.take P.length = P
  par : ∀ x ∈ P, sc.names.lookup x = some .local \/ sc.names.lookup x = some .cell
  nofree : ∀ y ∈ sc.names, y.2 ≠ .free
theorem bindL_out {kindOf : Str -> Option NameKind} {x : Str} : ∀ {binds : List (Str × Value)} {m : Str -> Option Value}, (∀ v, (x, v) ∉ binds) -> bindL kindOf binds m x = m x
  | [], _, _ => rfl
  | (n, v) :: r, m, h => by
    unfold bindL
    rw [bindL_out fun w hw => h w (List.mem_cons_of_mem _ hw)]
    split
    · have : x ≠ n := by rintro rfl; exact h v List.mem_cons_self
      simp [this]
    · rfl
theorem bindC_out {kindOf : Str -> Option NameKind} {x : Str} : ∀ {binds : List (Str × Value)} {m : Str -> Option Value}, (∀ v, (x, v) ∉ binds) -> bindC kindOf binds m x = m x
  | [], _, _ => rfl
  | (n, v) :: r, m, h => by
    unfold bindC
    rw [bindC_out fun w hw => h w (List.mem_cons_of_mem _ hw)]
    split
    · rfl
    · have : x ≠ n := by rintro rfl; exact h v List.mem_cons_self
      simp [this]
theorem bindL_get {kindOf : Str -> Option NameKind} {x : Str} {v : Value} : ∀ {P : List Str} {vs : List Value} {i : Nat} {m : Str -> Option Value}, P.Nodup -> P[i]? = some x -> vs[i]? = some v -> kindOf x = some .local ->
    bindL kindOf (P.zip vs) m x = some v
  | [], _, _, _, _, h, _, _ => by simp at h
  | _ :: _, [], _, _, _, _, h, _ => by simp at h
  | p :: P, w :: vs, 0, m, nd, h1, h2, hk => by
    simp at h1 h2; subst h1; subst h2
    show bindL kindOf ((p, w) :: P.zip vs) m p = _
    unfold bindL
    rw [bindL_out fun v hv => (List.nodup_cons.mp nd).1 (List.of_mem_zip hv).1, if_pos hk]
    simp
  | p :: P, w :: vs, i + 1, m, nd, h1, h2, hk => by
    show bindL kindOf ((p, w) :: P.zip vs) m x = _
    unfold bindL
    exact bindL_get (i := i) (List.nodup_cons.mp nd).2 (by simpa using h1) (by simpa using h2) hk
theorem bindC_get {kindOf : Str -> Option NameKind} {x : Str} {v : Value} : ∀ {P : List Str} {vs : List Value} {i : Nat} {m : Str -> Option Value}, P.Nodup -> P[i]? = some x -> vs[i]? = some v -> kindOf x ≠ some .local ->
    bindC kindOf (P.zip vs) m x = some v
  | [], _, _, _, _, h, _, _ => by simp at h
  | _ :: _, [], _, _, _, _, h, _ => by simp at h
  | p :: P, w :: vs, 0, m, nd, h1, h2, hk => by
    simp at h1 h2; subst h1; subst h2
    show bindC kindOf ((p, w) :: P.zip vs) m p = _
    unfold bindC
    rw [bindC_out fun v hv => (List.nodup_cons.mp nd).1 (List.of_mem_zip hv).1, if_neg hk]
    simp
  | p :: P, w :: vs, i + 1, m, nd, h1, h2, hk => by
    show bindC kindOf ((p, w) :: P.zip vs) m x = _
    unfold bindC
    exact bindC_get (i := i) (List.nodup_cons.mp nd).2 (by simpa using h1) (by simpa using h2) hk
def start (N : List Str) (vs : List V) : St := vs.map some ++ List.replicate (N.length - vs.length) none
def cxOf (CX : CXT) (P : Program) (w : World) (K : PySem.W.Frag) (mg : Str -> Option Value) (base : Heap) (N : List Str) (qual : Str) (scope : Scope) (f : Addr) (cd : Value) (A : Around) (outer : List Env) (s : Shared) (H : Hp) (E : XK) : Cx where
  prog := P
  w := w
  K := K
  mg := mg
  base := base
  A := A.deeper (envOfC qual scope s.heap.objs.size f cd)
  N := N
  s₀ := s
  H₀ := H
  env := envOfC qual scope s.heap.objs.size f cd
  outer := outer
  stack := envOfC qual scope s.heap.objs.size f cd :: outer
  ex := []
  calm := true
  fn := fun _ => true
  pn := []
  xe := fun e s' => wpAny (model P w) (A.deeper (envOfC qual scope s.heap.objs.size f cd)) (leaving (envOfC qual scope s.heap.objs.size f cd) e) (fun _ s'' => CX outer H s E e s'') (fun e' s'' => CX outer H s E e' s'') s'
theorem cell_has {sc : Scope} {n : Nat} {x : Str} (h : sc.names.lookup x = some .cell) : ∃ c, (cellsFrom n sc.names []).lookup x = some c := by
  have q := PySem.W.cellsFrom_some sc.names n [] (.inl h)
  exact Option.isSome_iff_exists.mp q
theorem inv_start {CX : CXT} {P : Program} {w : World} {K : PySem.W.Frag} {mg : Str -> Option Value} {base : Heap} {N ps : List Str} {qual : Str} {scope : Scope} {f : Addr} {cd : Value} {A : Around} {outer : List Env} {s s1 : Shared} {H : Hp} {E : XK} {us : List Value} {vs : List V}
    (S : FnScope N ps scope) (hd : A.handled = none) (e0 : Env0 P w K mg base A outer s H) (hl : vs.length = ps.length) (r : Vals vs us)
    (x : InCallC s s.heap.objs.size (bindL (envOfC qual scope s.heap.objs.size f cd).kindOf (ps.zip us) fun _ => none) (cellsFrom (s.heap.objs.size + 1) scope.names []) (bindC (envOfC qual scope s.heap.objs.size f cd).kindOf (ps.zip us) fun _ => none) s1) :
    Inv (cxOf CX P w K mg base N qual scope f cd A outer s H E) [] (start N vs) H s1 := by
  have hpl : ps.length <= N.length := by have := congrArg List.length S.pre; rw [List.length_take] at this; omega
  obtain ⟨h1, tk, rfl, hk⟩ := x.done
  have noA : ∀ b : Addr, b ∉ (cxOf CX P w K mg base N qual scope f cd A outer s H E).ex := fun b z => absurd (show b ∈ ([] : List Addr) from z) (by simp)
  refine ⟨⟨e0.mod, S.kind, rfl, rfl, Nat.le_refl _, fun y z c h1 h2 => ?_, fun y hy => ?_, fun y c _ h => ?_, fun _ => hd, Around.frames_deeper e0.frames, .inr ⟨rfl, rfl⟩, fun b z => absurd z (noA b), e0.bs, e0.bsz, fun b _ _ => noA b, fun b z => absurd z (noA b), e0.funs, e0.frf⟩,
    rfl, e0.bare, Un.kept hk, ⟨_, x.toInCall.ns, fun i y v h1 h2 h3 => ?_⟩, fun y c h => ⟨_, x.cell y c h⟩, e0.hok.fresh (Nat.le_refl _), fun y c h => ?_, fun p hp => absurd (show p ∈ ([] : List (Addr × Obj)) from hp) (by simp), e0.hok.kept hk, ?_⟩
  · exact name_of_addr x.apart (PySem.mem_of_lookup h1) (PySem.mem_of_lookup h2)
  · have hy : scope.names.lookup y = some .cell \/ scope.names.lookup y = some .free := hy
    rcases hy with hy | hy
    · exact cell_has hy
    · exact absurd rfl (S.nofree _ (PySem.mem_of_lookup hy))
  · exact Nat.le_of_lt (x.above y c (PySem.mem_of_lookup h))
  · have hi : i < vs.length := by
      unfold start at h2
      by_cases hi : i < vs.length
      · exact hi
      · rw [List.getElem?_append_right (by simpa using hi)] at h2
        rw [List.getElem?_replicate] at h2
        split at h2 <;> cases h2
    have ha : vs[i]? = some v := by
      unfold start at h2
      rw [List.getElem?_append_left (by simpa using hi), List.getElem?_map] at h2
      cases e : vs[i]? with
      | none => rw [e] at h2; cases h2
      | some a => rw [e] at h2; cases h2; rfl
    obtain ⟨u, hu, rv⟩ := r.get ha
    have hp : ps[i]? = some y := by
      rw [← S.pre, List.getElem?_take_of_lt (by omega)]; exact h1
    have ndP : ps.Nodup := by rw [← S.pre]; exact S.nd.sublist (List.take_sublist _ _)
    refine ⟨u, rv, ?_⟩
    rcases S.par y (List.mem_of_getElem? hp) with k | k
    · exact .inl ⟨k, bindL_get ndP hp hu k⟩
    · obtain ⟨c, e⟩ := cell_has (n := s.heap.objs.size + 1) k
      refine .inr ⟨.inl k, c, e, ?_⟩
      have q := x.cell y c e
      rw [bindC_get ndP hp hu (by show scope.names.lookup y ≠ _; rw [k]; decide)] at q
      exact q
  · exact e0.hok.fresh (Nat.le_of_lt (x.above y c (PySem.mem_of_lookup h)))
  · unfold start
    show _ = N.length
    rw [List.length_append, List.length_map, List.length_replicate]
    omega
theorem fn_of {CX : CXT} {P : Program} {w : World} {K : PySem.W.Frag} {mg : Str -> Option Value} {base : Heap} {k : Nat} {f : Addr} {name qual : Str} {params : Arguments} {body : List Stmt} {scope : Scope} {dV kV doc pm cdv ct oc : Value} {an od : Option Addr}
    {osl : Array (Option Value)} {N ps : List Str} {sp : Sp} (lk : K.lookup f = some ⟨oc, od, .func (PySem.W.fnOf name qual params body scope dV kV doc pm an cdv ct), osl⟩) (hcd : PySem.W.codeIn K cdv qual = true) (S : FnScope N ps scope)
    (len : ∀ vs H Q E, sp vs H Q E -> vs.length = ps.length)
    (hbody : ∀ (A : Around) (outer : List Env) (s : Shared) (H : Hp) (vs : List V) (Q : VK) (E : XK), Room k (A.deeper (envOfC qual scope s.heap.objs.size f cdv)) -> sp vs H Q E ->
      ∃ t, PSs (cxOf CX P w K mg base N qual scope f cdv A outer s H E) body t /\ t { nx := fun _ H' => Q .non H', rt := Q } (start N vs) H) :
    FnOk P w K mg base CX (k + 1) f (PySem.W.fnOf name qual params body scope dV kV doc pm an cdv ct) ps sp := by
  refine ⟨len, fun A outer s H args us vs Q E hr e0 hb r hsp => ?_⟩
  have hl := len _ _ _ _ hsp
  have KX : K.In s.heap := e0.mod.kin.keeps fun b o e => (e0.bs b o e).1
  have lim : s.heap.NoLimit := e0.mod.nolimit.keeps fun b o e => (e0.bs b o e).1
  have hkind : ∀ y ∈ ps.zip us, scope.names.lookup y.1 = some .local \/ (scope.names.lookup y.1 = some .cell /\ ((cellsFrom (s.heap.objs.size + 1) scope.names []).lookup y.1).isSome = true) := fun ⟨n, v⟩ hy => by
    rcases S.par n (List.of_mem_zip hy).1 with q | q
    · exact .inl q
    · exact .inr ⟨q, PySem.W.cellsFrom_some _ _ _ (.inl q)⟩
  refine codeAny_call_function hr.depth (KX _ _ lk) rfl S.co S.gen rfl (PySem.W.codeRec_of KX hcd) (hb _ _ _ _ ?_)
  refine wpAny_newFunctionEnv_cells S.kind hkind fun env he s1 x => ?_
  subst he
  refine ⟨lim.keeps x.toInCall.keep, codeAny_func ?_⟩
  obtain ⟨t, ht, hq⟩ := hbody A outer s H vs Q E (hr.deeper _) hsp
  have I : Inv (cxOf CX P w K mg base N qual scope f cdv A outer s H E) [] (start N vs) H s1 := inv_start S hr.hd e0 hl r x
  refine wpAny_mono (ht [] s1 (start N vs) H _ I hq) (fun fl s' hs => ?_) fun e s' hs => hs
  have fin : ∀ {σ' : St} {H' : Hp} {v : V} {u : Value}, Inv (cxOf CX P w K mg base N qual scope f cdv A outer s H E) [] σ' H' s' -> RelV v u -> Q v H' -> CE outer P w H s Q u s' :=
    fun {σ' H' v u} J rv q => ⟨v, H', J.os, J.bare, J.base, J.hok, rv, q⟩
  cases fl with
  | ret u =>
    obtain ⟨v, σ', H', J, rv, q⟩ := hs
    exact fin J rv q
  | next =>
    obtain ⟨σ', H', J, q⟩ := hs
    exact fin (v := V.non) (u := Value.none) J rfl q
  | brk =>
    obtain ⟨_, _, _, q⟩ := hs
    exact False.elim q
  | cont =>
    obtain ⟨_, _, _, q⟩ := hs
    exact False.elim q
end L2
namespace L2
open PySem PySem.Spec PyProof.Rows
section
variable {X : Cx} {x : Str} {p pos : Pos} {e : Expr} {es : List Expr} {t : TA} {id T : String} {r : List V -> Hp -> VK -> Prop}
def tCB (r : List V -> Hp -> VK -> Prop) (t : TA) : TE := fun σ H Q => t σ H fun vs H1 => r vs H1 Q
theorem pe_callB (hc : CallR X (.builtin id) r) (hg : Gl X x) (hm : X.mg x = none) (hv : bootBuiltins x = some (.builtin id)) (ha : PA X (e :: es) t) (hn : x ≠ "__name__" := by decide) (hdb : (x == ("__debug__" : Str)) = false := by decide)
    (he : starEach (e :: es) X.env = (false, eval e X.env) :: starEach es X.env := by rfl) (hpl : (backTo pos (starEach es X.env)).any (·.1) = false := by rfl) : PE X (.Call (.Name x p) (e :: es) [] pos) (tCB r t) := by
  intro pins s σ H Q I h
  refine wpAny_Call_Name_kw (ld_blt I hg hm hv ?_ hn hdb)
  exact PyProof.Rows.callWith_builtin1 (thn (ha pos pins s σ H _ I h) fun us s1 ⟨vs, H1, I1, r1, q1⟩ => hc pins s1 σ H1 vs us Q I1 r1 q1) he hpl
theorem pe_callTy (hc : CallR X (.type T) r) (hg : Gl X x) (hm : X.mg x = none) (hv : bootBuiltins x = some (.type T)) (ha : PA X (e :: es) t) (hn : x ≠ "__name__" := by decide) (hdb : (x == ("__debug__" : Str)) = false := by decide)
    (he : starEach (e :: es) X.env = (false, eval e X.env) :: starEach es X.env := by rfl) (hpl : (backTo pos (starEach es X.env)).any (·.1) = false := by rfl) : PE X (.Call (.Name x p) (e :: es) [] pos) (tCB r t) := by
  intro pins s σ H Q I h
  refine wpAny_Call_Name_kw (ld_blt I hg hm hv ?_ hn hdb)
  exact PyProof.Rows.callWith_type1 (thn (ha pos pins s σ H _ I h) fun us s1 ⟨vs, H1, I1, r1, q1⟩ => hc pins s1 σ H1 vs us Q I1 r1 q1) he hpl
end
end L2
end
section
namespace HT
open PySem PyProof.Rows
section
open PySem.SeqAt
open PySem.AutoSeq1 (wpAny_loadPart')
open PySem.MeetsSeq PySem.MeetsSeq2 PySem.MeetsSeq3
end
section
variable {prog : Program} {w : World} {A : Around} {E : Value -> Shared -> Prop} {s : Shared}
def sIx (n d : Nat) : Option Int -> Nat
  | none => d
  | some v => if v < 0 then (v + (n : Int)).toNat else min v.toNat n
theorem sIx_none (n d : Nat) : sIx n d none = d := rfl
theorem sIx_nat (n d k : Nat) : sIx n d (some (k : Int)) = min k n := by
  show (if (k : Int) < 0 then ((k : Int) + (n : Int)).toNat else min (k : Int).toNat n) = min k n
  rw [if_neg (by omega), Int.toNat_natCast]
theorem sIx_le (n d : Nat) (hd : d <= n) (o : Option Int) : sIx n d o <= n := by
  cases o with
  | none => exact hd
  | some v =>
    show (if v < 0 then (v + (n : Int)).toNat else min v.toNat n) <= n
    by_cases hv : v < 0
    · rw [if_pos hv]; omega
    · rw [if_neg hv]; exact Nat.min_le_right _ _
theorem clip_eq (v : Int) (n d : Nat) : (if v < 0 then max (v + (n : Int)) 0 else min v (n : Int)) = ((sIx n d (some v) : Nat) : Int) := by
  show (if v < 0 then max (v + (n : Int)) 0 else min v (n : Int)) = (((if v < 0 then (v + (n : Int)).toNat else min v.toNat n) : Nat) : Int)
  by_cases hv : v < 0
  · simp only [if_pos hv]; omega
  · simp only [if_neg hv]; omega
theorem adjust_gen (lo hi : Option Int) (n : Nat) : Builtin.Slice.sliceAdjust lo hi 1 (n : Int) = (((sIx n 0 lo : Nat) : Int), ((sIx n n hi : Nat) : Int)) := by
  have h1 : ¬ ((1 : Int) < 0) := by omega
  unfold Builtin.Slice.sliceAdjust
  simp only [h1, if_false]
  refine Prod.ext ?_ ?_
  · cases lo with
    | none => rfl
    | some v => exact clip_eq v n 0
  · cases hi with
    | none => rfl
    | some v => exact clip_eq v n n
theorem places_gen (i j : Nat) : Builtin.Slice.slicePlaces (i : Int) (j : Int) 1 = j - i := by
  unfold Builtin.Slice.slicePlaces
  have h1 : (1 : Int) > 0 := by omega
  simp only [h1, if_true, Int.ediv_one]
  split <;> omega
theorem slicePart_ {v : Value} {o : Option Int} {Q : Option Int -> Shared -> Prop} (p : IsPart v o) (h : Q o s) : wpAny (model prog w) A (Builtin.Slice.slicePartIndex v) Q E s := by
  cases p with
  | none => exact slicePart_none h
  | int i t => exact slicePart_int h
theorem sliceApplied_gen {sl : Addr} {vl vu : Value} {lo hi : Option Int} {n : Nat} {Q : Int × Int × Nat -> Shared -> Prop} (hs : s.heap.IsSliceOf sl vl vu .none) (pl : IsPart vl lo) (pu : IsPart vu hi)
    (h : Q (((sIx n 0 lo : Nat) : Int), 1, sIx n n hi - sIx n 0 lo) s) : wpAny (model prog w) A (Builtin.Slice.sliceApplied (.ref sl) (pure (n : Int))) Q E s := by
  obtain ⟨os, hos, hcs, hds⟩ := id hs
  unfold Builtin.Slice.sliceApplied Builtin.Slice.sliceFields
  refine wpAny_bind (wpAny_bind (wpAny_field hos hds (x := vl) rfl (wpAny_bind (wpAny_field hos hds (x := vu) rfl (wpAny_bind (wpAny_field hos hds (x := .none) rfl (wpAny_pure ?_)))))))
  refine wpAny_bind (slicePart_none ?_)
  show wpAny _ _ (if ((1 : Int) == 0) = true then _ else _) _ _ s
  rw [if_neg (by decide)]
  refine wpAny_bind (slicePart_ pl (wpAny_bind (slicePart_ pu (wpAny_bind (wpAny_pure ?_)))))
  show wpAny _ _ (match Builtin.Slice.sliceAdjust lo hi 1 (n : Int) with | (lo, hi) => pure (lo, (1 : Int), Builtin.Slice.slicePlaces lo hi 1)) _ _ s
  rw [adjust_gen lo hi n]
  show wpAny _ _ (pure (((sIx n 0 lo : Nat) : Int), (1 : Int), Builtin.Slice.slicePlaces ((sIx n 0 lo : Nat) : Int) ((sIx n n hi : Nat) : Int) 1)) _ _ s
  rw [places_gen]
  exact wpAny_pure h
theorem pick_gen (xs : Array Value) (i k : Nat) : ((List.range k).filterMap fun (m : Nat) => xs[((i : Int) + (m : Int) * 1).toNat]?).toArray = ((xs.toList.drop i).take k).toArray := by
  have e : (fun (m : Nat) => xs[((i : Int) + (m : Int) * 1).toNat]?) = fun m => xs[i + m]? := by
    funext m
    have : ((i : Int) + (m : Int) * 1).toNat = i + m := by omega
    rw [this]
  rw [e]
  have := pick_run xs i k
  rw [List.filterMap_map] at this
  have e2 : ((fun x => xs[x]?) ∘ fun x => i + x) = fun m => xs[i + m]? := rfl
  rw [e2] at this
  rw [this]
theorem getItem_tuple_cut {t sl : Addr} {items : Array Value} {vl vu : Value} {lo hi : Option Int} {Q : Value -> Shared -> Prop} (ht : IsTup s.heap t items) (hs : s.heap.IsSliceOf sl vl vu .none) (pl : IsPart vl lo) (pu : IsPart vu hi)
    (hw : ¬ (sIx items.size 0 lo = 0 /\ sIx items.size items.size hi = items.size))
    (h : Q (.ref s.heap.objs.size) { s with heap := s.heap.push { cls := .type "tuple", data := .seq ((items.toList.drop (sIx items.size 0 lo)).take (sIx items.size items.size hi - sIx items.size 0 lo)).toArray } })
    (hsz : items.size <= sizeLine) : wpAny (model prog w) A (getItem (.ref t) (.ref sl)) Q E s := by
  have htake : sizeOk (.seq ((items.toList.drop (sIx items.size 0 lo)).take (sIx items.size items.size hi - sIx items.size 0 lo)).toArray) := by
    show ((items.toList.drop (sIx items.size 0 lo)).take (sIx items.size items.size hi - sIx items.size 0 lo)).toArray.size <= sizeLine
    rw [List.size_toArray, List.length_take, List.length_drop, Array.length_toList]
    omega
  have hj : sIx items.size items.size hi <= items.size := sIx_le _ _ (Nat.le_refl _) hi
  obtain ⟨os, hos, hcs, hds⟩ := id hs
  have hTs : s.TypeIs (.ref sl) "slice" := ⟨os, hos, hcs⟩
  unfold getItem
  try with_reducible refine wpAny_holding ?_
  first | refine wpAny_bind (wpAny_pure ?_) | skip
  refine wpAny_bind (wpAny_sequenceKey ht.typeIs (by decide) ?_)
  refine wpAny_bind (wpAny_callSpecial?_slot (name := Str.ofString "__getitem__") ht.typeIs PyProof.Rows.slot_tuple_getitem
    (wpAny_call_entry PyProof.Rows.slot_tuple_getitem ht.typeIs entry_tuple_getitem ?_ (args_tuple_getitem _ _)))
  show wpAny _ _ (Builtin.Tuple.tupleItemsOf (.ref t) >>= _) _ _ s
  refine wpAny_bind (tupleItemsOf_ ht ?_)
  refine wpAny_bind (wpAny_typeOf hTs ?_)
  rw [if_pos (by decide)]
  refine wpAny_bind (sliceApplied_gen hs pl pu ?_)
  have hno : ¬ ((((sIx items.size 0 lo : Nat) : Int) == 0 && (1 : Int) == 1 && (sIx items.size items.size hi - sIx items.size 0 lo) == items.size) = true) := by
    intro q
    rw [Bool.and_eq_true, Bool.and_eq_true] at q
    have q1 : ((sIx items.size 0 lo : Nat) : Int) = 0 := eq_of_beq q.1.1
    have q2 : sIx items.size items.size hi - sIx items.size 0 lo = items.size := eq_of_beq q.2
    exact hw ⟨by omega, by omega⟩
  show wpAny _ _ (if (((sIx items.size 0 lo : Nat) : Int) == 0 && (1 : Int) == 1 && (sIx items.size items.size hi - sIx items.size 0 lo) == items.size) = true then _ else _) _ _ s
  rw [if_neg hno, pick_gen]
  first
    | exact wpAny_bind (m := Builtin.Tuple.tupleExact _) (wpAny_newObj_type (wpAny_pure ⟨_, rfl, wpAny_pure h⟩) htake)
    | exact wpAny_bind (m := Builtin.Tuple.tupleExact _) (wpAny_newObj_type (wpAny_bind (wpAny_pure (wpAny_pure ⟨_, rfl, wpAny_pure h⟩))) htake)
    | exact wpAny_bind (wpAny_bind (m := Builtin.Tuple.tupleExact _) (wpAny_newObj_type (wpAny_pure (wpAny_pure ⟨_, rfl, wpAny_pure h⟩)) htake))
    | exact wpAny_bind (wpAny_bind (m := Builtin.Tuple.tupleExact _) (wpAny_newObj_type (wpAny_pure ⟨_, rfl, wpAny_pure h⟩) htake))
end
end HT
namespace L2
open PySem PySem.Spec PyProof.Rows
abbrev TO := St -> Hp -> (Option Int -> Hp -> Prop) -> Prop
def PO (X : Cx) (e : Option Expr) (t : TO) : Prop :=
  ∀ (pins : List (Addr × Obj)) (s : Shared) (σ : St) (H : Hp) (Q : Option Int -> Hp -> Prop), Inv X pins σ H s -> t σ H Q ->
    wpAny (model X.prog X.w) X.A (evalPart e X.env) (fun u s' => ∃ o H', Inv X pins σ H' s' /\ IsPart u o /\ Q o H') X.xe s
def tNoPart : TO := fun _ H Q => Q none H
def tPart (t : TE) : TO := fun σ H Q => t σ H fun x H1 => ∃ i, x = .int i /\ Q (some i) H1
section
variable {X : Cx} {e : Expr} {te : TE} {lo hi : Option Expr} {tl th : TO} {pos p2 : Pos}
theorem po_none : PO X none tNoPart := by
  intro pins s σ H Q I h
  rw [evalPart_none]
  exact wpAny_pure ⟨none, H, I, .none, h⟩
theorem po_some (h : PE X e te) : PO X (some e) (tPart te) := by
  intro pins s σ H Q I hw
  rw [evalPart_some]
  refine thn (h pins s σ H _ I hw) fun u s1 ⟨x, H1, I1, r1, q1⟩ => ?_
  obtain ⟨i, rfl, q⟩ := q1
  obtain ⟨t, rfl⟩ := r1
  exact ⟨some i, H1, I1, .int i t, q⟩
def SlR (X : Cx) (r : V -> Option Int -> Option Int -> Hp -> VK -> Prop) : Prop :=
  ∀ (pins : List (Addr × Obj)) (s : Shared) (σ : St) (H : Hp) (x : V) (v vl vu : Value) (lo hi : Option Int) (sl : Addr) (Q : VK), Inv X pins σ H s -> RelV x v -> s.heap.IsSliceOf sl vl vu .none -> IsPart vl lo -> IsPart vu hi -> r x lo hi H Q ->
    ∃ T id, typeLookup (.type T) "__getitem__" = pure (some (.builtin id)) /\ s.TypeIs v T /\ wpAny (model X.prog X.w) X.A (getItem v (.ref sl)) (EP X pins σ Q) X.xe s
theorem SlR.or {r r' : V -> Option Int -> Option Int -> Hp -> VK -> Prop} (h : SlR X r) (h' : SlR X r') : SlR X (fun x lo hi H Q => r x lo hi H Q \/ r' x lo hi H Q) := by
  intro pins s σ H x v vl vu lo hi sl Q I rx hs pl pu q
  rcases q with q | q
  · exact h pins s σ H x v vl vu lo hi sl Q I rx hs pl pu q
  · exact h' pins s σ H x v vl vu lo hi sl Q I rx hs pl pu q
def tSl (r : V -> Option Int -> Option Int -> Hp -> VK -> Prop) (te : TE) (tl th : TO) : TE := fun σ H Q => te σ H fun x H1 => tl σ H1 fun l H2 => th σ H2 fun u H3 => r x l u H3 Q
theorem pe_slice {r : V -> Option Int -> Option Int -> Hp -> VK -> Prop} (hr : SlR X r) (he : PE X e te) (hl : PO X lo tl) (hu : PO X hi th) : PE X (.Subscript e (.Slice lo hi none p2) pos) (tSl r te tl th) := by
  intro pins s σ H Q I h
  refine Subscript_ (thn (he pins s σ H _ I h) fun v s1 ⟨x, H1, I1, r1, q1⟩ => ?_)
  refine wpAny_Slice (thn (hl pins s1 σ H1 _ I1 q1) fun vl s2 ⟨l, H2, I2, pl, q2⟩ => thn (hu pins s2 σ H2 _ I2 q2) fun vu s3 ⟨u, H3, I3, pu, q3⟩ => ?_)
  rw [evalPart_none]
  refine wpAny_pure ?_
  have I4 : Inv X pins σ H3 { s3 with heap := s3.heap.push { cls := .type "slice", data := .fields #[vl, vu, .none] } } := I3.kept (t' := s3.toks) fun b ob q => Heap.get?_push_of_some _ q
  obtain ⟨T, id, hT, ht, hg⟩ := hr pins { s3 with heap := s3.heap.push { cls := .type "slice", data := .fields #[vl, vu, .none] } } σ H3 x v vl vu l u s3.heap.objs.size Q I4 r1 (Heap.IsSliceOf.new ..) pl pu q3
  show wpAny (model X.prog X.w) X.A (subscriptTail e (.Slice lo hi none p2) v (.ref s3.heap.objs.size)) (EP X pins σ Q) X.xe { s3 with heap := s3.heap.push { cls := .type "slice", data := .fields #[vl, vu, .none] } }
  exact tail_any (ops := [.ref s3.heap.objs.size, v]) ht hT hg (by with_unfolding_all rfl)
def cutV (xs : List V) (lo hi : Option Int) : List V := (xs.drop (HT.sIx xs.length 0 lo)).take (HT.sIx xs.length xs.length hi - HT.sIx xs.length 0 lo)
theorem cutV_length (xs : List V) (lo hi : Option Int) : (cutV xs lo hi).length <= xs.length := by
  unfold cutV
  rw [List.length_take, List.length_drop]
  omega
def rSlT (K : PySem.W.Frag) : V -> Option Int -> Option Int -> Hp -> VK -> Prop := fun x lo hi H Q => ∃ a xs, x = .ref a /\ SqT K H a xs /\
  ¬ (HT.sIx xs.length 0 lo = 0 /\ HT.sIx xs.length xs.length hi = xs.length) /\ ∀ p, H p = none -> Q (.ref p) (upd H p (.tup (cutV xs lo hi)))
theorem sl_tup : SlR X (rSlT X.K) := by
  intro pins s σ H x v vl vu lo hi sl Q I rx hs pl pu h
  obtain ⟨a, xs, rfl, hx, hw, q⟩ := h
  cases rx
  obtain ⟨its, r, ht, hz⟩ := I.tuple hx
  have hlen : its.toArray.size = xs.length := by rw [List.size_toArray]; exact r.length.symm
  refine ⟨"tuple", _, PyProof.Rows.slot_tuple_getitem.lookup, ht.typeIs, ?_⟩
  refine HT.getItem_tuple_cut ht hs pl pu (by rw [hlen]; exact hw) ?_ (by rw [hlen]; exact hz)
  rw [hlen]
  refine ⟨.ref s.heap.objs.size, _, I.laid (t' := s.toks) (o := .tup (cutV xs lo hi)) (fun b ob q => Heap.get?_push_of_some _ q) (Nat.le_refl _) ?_, rfl, q _ (I.hok.fresh (Nat.le_refl _))⟩
  exact ⟨Nat.le_trans (cutV_length xs lo hi) hz, _, (r.drop (HT.sIx xs.length 0 lo)).take (HT.sIx xs.length xs.length hi - HT.sIx xs.length 0 lo), IsTup.new _ _⟩
end
end L2
namespace L2
open PySem PySem.Spec PyProof.Rows
def ixN (n : Nat) (i : Int) : Option Nat := if 0 <= i then (if i < n then some i.toNat else none) else if -(n : Int) <= i then some (i + n).toNat else none
def atI {α : Type} (xs : List α) (i : Int) : Option α := (ixN xs.length i).bind fun j => xs[j]?
theorem ixN_seq {n : Nat} {i : Int} {j : Nat} (h : ixN n i = some j) : seqIndex? i n = some j /\ j < n /\ -(n : Int) <= i /\ i < n := by
  unfold ixN at h
  by_cases h0 : 0 <= i
  · rw [if_pos h0] at h
    by_cases h1 : i < n
    · rw [if_pos h1] at h
      have e : i.toNat = j := Option.some.inj h
      exact ⟨by rw [seqIndex_of h0 h1, e], by omega, by omega, h1⟩
    · rw [if_neg h1] at h; cases h
  · rw [if_neg h0] at h
    by_cases h1 : -(n : Int) <= i
    · rw [if_pos h1] at h
      have e : (i + n).toNat = j := Option.some.inj h
      exact ⟨by rw [seqIndex_neg (by omega) h1, e], by omega, h1, by omega⟩
    · rw [if_neg h1] at h; cases h
theorem atI_get {α : Type} {xs : List α} {i : Int} {v : α} (h : atI xs i = some v) : ∃ j, seqIndex? i xs.length = some j /\ xs[j]? = some v /\ j < xs.length /\ -(xs.length : Int) <= i /\ i < xs.length := by
  unfold atI at h
  cases e : ixN xs.length i with
  | none => rw [e] at h; cases h
  | some j =>
    rw [e] at h
    obtain ⟨h1, h2, h3, h4⟩ := ixN_seq e
    exact ⟨j, h1, h, h2, h3, h4⟩
theorem atI_nat {α : Type} {xs : List α} {j : Nat} {v : α} (h : xs[j]? = some v) : atI xs (j : Int) = some v := by
  have hj : j < xs.length := (List.getElem?_eq_some_iff.mp h).1
  have e : ixN xs.length (j : Int) = some j := by
    unfold ixN
    rw [if_pos (by omega), if_pos (by omega)]; simp
  unfold atI; rw [e]; exact h
def PlainIx (b : Expr) : Prop := ∀ o i, subscripted b false o i = operate [o, i] (getItem o i)
def IxR (X : Cx) (r : R2) : Prop :=
  ∀ (value slice : Expr) (pins : List (Addr × Obj)) (s : Shared) (σ : St) (H : Hp) (x y : V) (v u : Value) (Q : VK), Inv X pins σ H s -> RelV x v -> RelV y u -> r x y H Q ->
    subscripted slice false v u = operate [v, u] (getItem v u) -> wpAny (model X.prog X.w) X.A (subscriptTail value slice v u) (EP X pins σ Q) X.xe s
def MtR (X : Cx) (id : String) (r : V -> List V -> Hp -> VK -> Prop) : Prop :=
  ∀ (pins : List (Addr × Obj)) (s : Shared) (σ : St) (H : Hp) (x : V) (xs : List V) (v : Value) (us : List Value) (Q : VK), Inv X pins σ H s -> RelV x v -> Vals xs us -> r x xs H Q ->
    wpAny (model X.prog X.w) X.A (call (.builtin id) (v :: us)) (EP X pins σ Q) X.xe s
section
variable {X : Cx} {a b : Expr} {ta tb : TE} {pos : Pos}
theorem IxR.or {r r' : R2} (h : IxR X r) (h' : IxR X r') : IxR X (fun x y H Q => r x y H Q \/ r' x y H Q) := by
  intro value slice pins s σ H x y v u Q I rx ry q hs
  rcases q with q | q
  · exact h value slice pins s σ H x y v u Q I rx ry q hs
  · exact h' value slice pins s σ H x y v u Q I rx ry q hs
theorem pe_ix {r : R2} (hr : IxR X r) (ha : PE X a ta) (hb : PE X b tb) (hs : PlainIx b) : PE X (.Subscript a b pos) (tOp r ta tb) := by
  intro pins s σ H Q I h
  exact Subscript_ (binT ha hb I h fun v u s2 x y H2 I2 rx ry q => hr a b pins s2 σ H2 x y v u Q I2 rx ry q (hs _ _))
def rIxL (K : PySem.W.Frag) : R2 := fun x y H Q => ∃ p xs i v, x = .ref p /\ y = .int i /\ SqL K H p xs /\ atI xs i = some v /\ Q v H
def rIxT (K : PySem.W.Frag) : R2 := fun x y H Q => ∃ p xs i v, x = .ref p /\ y = .int i /\ SqT K H p xs /\ atI xs i = some v /\ Q v H
def rIxS : R2 := fun x y H Q => ∃ z i c, x = .str z /\ y = .int i /\ z.length <= sizeLine /\ atI z.cps.toList i = some c /\ Q (.str ⟨#[c]⟩) H
theorem ix_list : IxR X (rIxL X.K) := by
  intro value slice pins s σ H x y v u Q I rx ry h hs
  obtain ⟨p, xs, i, z, rfl, rfl, hq, he, q⟩ := h
  cases rx
  obtain ⟨t, rfl⟩ := ry
  obtain ⟨its, r, pl, hz⟩ := I.list hq
  obtain ⟨j, h1, h2, h3, h4, h5⟩ := atI_get he
  obtain ⟨w, ew, rw'⟩ := r.get h2
  have hl := r.length
  have hn := line63
  have fin : EP X pins σ Q w s := ⟨z, H, I, rw', q⟩
  by_cases h0 : 0 <= i
  · have hj : i.toNat = j := by
      rw [seqIndex_of h0 h5] at h1
      exact Option.some.inj h1
    exact item_listR pl.isList h0 (by omega) (by rw [hj]; simpa using ew) fin hs
  · have hj : (i + (its.toArray.size : Int)).toNat = j := by
      rw [seqIndex_neg (by omega) h4] at h1
      rw [List.size_toArray, ← hl]
      exact Option.some.inj h1
    exact subscriptTail_builtinR (x := w) pl.isList.typeIs slot_list_getitem.lookup
      (wpAny_getItem_list_neg (Q := fun r s' => r = w /\ EP X pins σ Q r s') pl.isList (by omega) (by rw [List.size_toArray] <;> omega) (by omega) (by rw [hj]; simpa using ew) ⟨rfl, fin⟩) hs
theorem ix_tup : IxR X (rIxT X.K) := by
  intro value slice pins s σ H x y v u Q I rx ry h hs
  obtain ⟨p, xs, i, z, rfl, rfl, hq, he, q⟩ := h
  cases rx
  obtain ⟨t, rfl⟩ := ry
  obtain ⟨its, r, pl, hz⟩ := I.tuple hq
  obtain ⟨j, h1, h2, h3, h4, h5⟩ := atI_get he
  obtain ⟨w, ew, rw'⟩ := r.get h2
  have hl := r.length
  have hn := line63
  have fin : EP X pins σ Q w s := ⟨z, H, I, rw', q⟩
  exact subscriptTail_builtinR (x := w) pl.typeIs slot_tuple_getitem.lookup
    (getItem_tuple (j := j) (Q := fun r s' => r = w /\ EP X pins σ Q r s') pl (by omega) (by omega) (by rw [List.size_toArray, ← hl]; exact h1) (by simpa using ew) ⟨rfl, fin⟩) hs
theorem ix_str : IxR X rIxS := by
  intro value slice pins s σ H x y v u Q I rx ry h hs
  obtain ⟨z, i, c, rfl, rfl, hz, he, q⟩ := h
  obtain ⟨t, rfl⟩ := rx
  obtain ⟨t', rfl⟩ := ry
  obtain ⟨j, h1, h2, h3, h4, h5⟩ := atI_get he
  have hl : z.cps.toList.length = z.length := by simp [Str.length]
  rw [hl] at h1 h4 h5
  have hn := line63
  exact tail_any (typeIs_str s z t) slot_str_getitem.lookup (getItem_str (c := c) (by
    have e1 : decide (i < -(2 ^ 63 : Int)) = false := decide_eq_false (by omega)
    have e2 : decide (i ≥ 2 ^ 63) = false := decide_eq_false (by omega)
    rw [e1, e2, Bool.or_false]) (by rw [h1]; simpa using h2) ⟨.str ⟨#[c]⟩, H, I.tok _, ⟨_, rfl⟩, q⟩) hs
def rIx (K : PySem.W.Frag) : R2 := fun x y H Q => rIxL K x y H Q \/ rIxT K x y H Q \/ rIxS x y H Q
theorem ix_seq : IxR X (rIx X.K) := ix_list.or (ix_tup.or ix_str)
theorem slice_bounds (lo hi : Option Int) (n : Nat) : (sliceBounds lo hi none n).1 = ((HT.sIx n 0 lo : Nat) : Int) /\ (sliceBounds lo hi none n).2.1 = ((HT.sIx n n hi : Nat) : Int) /\ (sliceBounds lo hi none n).2.2 = 1 := by
  refine ⟨?_, ?_, rfl⟩
  · cases lo with
    | none => simp [sliceBounds, HT.sIx]
    | some i =>
      simp only [sliceBounds, HT.sIx, Option.getD_none, show (1 : Int) > 0 by decide, if_true]
      by_cases h : i < 0
      · simp only [h, if_true] <;> omega
      · simp only [h, if_false] <;> omega
  · cases hi with
    | none => simp [sliceBounds, HT.sIx]
    | some i =>
      simp only [sliceBounds, HT.sIx, Option.getD_none, show (1 : Int) > 0 by decide, if_true]
      by_cases h : i < 0
      · simp only [h, if_true] <;> omega
      · simp only [h, if_false] <;> omega
theorem slicePick_cut (its : List Value) (lo hi : Option Int) : slicePick its.toArray lo hi none = ((its.drop (HT.sIx its.length 0 lo)).take (HT.sIx its.length its.length hi - HT.sIx its.length 0 lo)).toArray := by
  obtain ⟨h1, h2, h3⟩ := slice_bounds lo hi its.toArray.size
  unfold slicePick
  rw [h1, h2, h3]
  simp only [sliceRange_one, pick_run, List.size_toArray] <;> rfl
def rSlL (K : PySem.W.Frag) : V -> Option Int -> Option Int -> Hp -> VK -> Prop := fun x lo hi H Q => ∃ a xs, x = .ref a /\ SqL K H a xs /\ ∀ p, H p = none -> Q (.ref p) (upd H p (.lst (cutV xs lo hi)))
theorem sl_list : SlR X (rSlL X.K) := by
  intro pins s σ H x v vl vu lo hi sl Q I rx hs pl pu h
  obtain ⟨a, xs, rfl, hx, q⟩ := h
  cases rx
  obtain ⟨its, r, ht, hz⟩ := I.list hx
  have hlen := r.length
  refine ⟨"list", _, slot_list_getitem.lookup, ht.isList.typeIs, ?_⟩
  refine wpAny_getItem_list_slice ht.isList hs pl pu .none (by simp) ?_ (by rw [List.size_toArray] <;> omega)
  rw [slicePick_cut, ← hlen]
  refine ⟨.ref s.heap.objs.size, _, I.laid (t' := s.toks) (o := .lst (cutV xs lo hi)) (fun b ob q => Heap.get?_push_of_some _ q) (Nat.le_refl _) ?_, rfl, q _ (I.hok.fresh (Nat.le_refl _))⟩
  exact ⟨Nat.le_trans (cutV_length xs lo hi) hz, _, 0, (r.drop (HT.sIx xs.length 0 lo)).take (HT.sIx xs.length xs.length hi - HT.sIx xs.length 0 lo), Heap.get?_push_size _ rfl⟩
def tyV (K : PySem.W.Frag) (T : String) (x : V) (H : Hp) : Prop := match x with
  | .str _ => T = "str"
  | .int _ => T = "int"
  | .ref p => (T = "list" /\ ∃ xs, SqL K H p xs) \/ (T = "tuple" /\ ∃ o, K.lookup p = some o /\ o.cls = .type "tuple" /\ o.dict = none) \/
      (T = "dict" /\ ((∃ kvs, H p = some (.dK kvs)) \/ ∃ kvs, H p = some (.dT kvs))) \/ (T = "set" /\ ∃ S n, H p = some (.set S n))
  | _ => False
theorem tyV_is {pins : List (Addr × Obj)} {σ : St} {H : Hp} {s : Shared} {T : String} {x : V} {v : Value} (I : Inv X pins σ H s) (r : RelV x v) (ty : tyV X.K T x H) :
    s.TypeIs v T /\ ∀ a, v = .ref a -> ∃ ob, s.heap.get? a = some ob /\ ob.dict = none := by
  cases x with
  | str z =>
    obtain ⟨t, rfl⟩ := r
    cases (show T = "str" from ty)
    exact ⟨typeIs_str s z t, fun _ e => nomatch e⟩
  | int i =>
    obtain ⟨t, rfl⟩ := r
    cases (show T = "int" from ty)
    exact ⟨typeIs_int s i t, fun _ e => nomatch e⟩
  | ref p =>
    cases r
    rcases ty with ⟨rfl, xs, hq⟩ | ⟨rfl, o, hk, hc, hd⟩ | ⟨rfl, hk⟩ | ⟨rfl, S, n, hk⟩
    · obtain ⟨its, _, pl, _⟩ := I.list hq
      refine ⟨pl.isList.typeIs, fun a e => ?_⟩
      cases e
      obtain ⟨o, n, e, c, hd, _⟩ := pl
      exact ⟨o, e, hd⟩
    · refine ⟨⟨o, I.kIn p o hk, hc⟩, fun a e => ?_⟩
      cases e
      exact ⟨o, I.kIn _ o hk, hd⟩
    · have z : ∃ o, s.heap.get? p = some o /\ o.ExactDict := by
        rcases hk with ⟨kvs, hk⟩ | ⟨kvs, hk⟩
        · obtain ⟨_, _, _, _, o, _, _, e, ex, _⟩ := I.hok p _ hk
          exact ⟨o, e, ex⟩
        · obtain ⟨_, _, _, _, o, _, _, e, ex, _⟩ := I.hok p _ hk
          exact ⟨o, e, ex⟩
      obtain ⟨o, e, ex⟩ := z
      refine ⟨⟨o, e, ex.1⟩, fun a e2 => ?_⟩
      cases e2
      exact ⟨o, e, ex.2.1⟩
    · obtain ⟨o, _, _, _, e, ex, _⟩ := I.hok p _ hk
      refine ⟨⟨o, e, ex.1⟩, fun a e2 => ?_⟩
      cases e2
      exact ⟨o, e, ex.2.1⟩
  | _ => exact False.elim ty
def tBM0 (K : PySem.W.Frag) (T : String) (r : V -> List V -> Hp -> VK -> Prop) (to : TE) : TE := fun σ H Q => to σ H fun x H1 => tyV K T x H1 /\ r x [] H1 Q
def tBM (K : PySem.W.Frag) (T : String) (r : V -> List V -> Hp -> VK -> Prop) (to : TE) (t : TA) : TE := fun σ H Q => to σ H fun x H1 => tyV K T x H1 /\ t σ H1 fun xs H2 => r x xs H2 Q
variable {o e : Expr} {es : List Expr} {to : TE} {t : TA} {name : Str} {apos cpos : Pos} {T id : String} {r : V -> List V -> Hp -> VK -> Prop}
theorem pe_bm0 (pa : PlainAttrs T) (slot : Slot T name id) (hty : typeOf (.builtin id) = pure (.type "method_descriptor")) (hm : MtR X id r) (ho : PE X o to)
    (hbase : attributeBase o name X.env (eval o X.env) = eval o X.env := by rfl) (hline : (apos.endLine == cpos.line) = true := by rfl) : PE X (.Call (.Attribute o name apos) [] [] cpos) (tBM0 X.K T r to) := by
  intro pins s σ H Q I h
  refine wpAny_Call_method0_late hbase hline (thn (ho pins s σ H _ I h) fun v s1 ⟨x, H1, I1, r1, ty, q1⟩ => ?_)
  obtain ⟨h1, h2⟩ := tyV_is I1 r1 ty
  exact ⟨T, id, pa, slot, hty, h1, h2, Calls.callWith_builtin rfl (PySem.evalArgs_none (hm pins s1 σ H1 x [] v [] Q I1 r1 .nil q1))⟩
theorem pe_bm (pa : PlainAttrs T) (slot : Slot T name id) (hty : typeOf (.builtin id) = pure (.type "method_descriptor")) (hm : MtR X id r) (ho : PE X o to) (ha : PA X (e :: es) t)
    (hbase : attributeBase o name X.env (eval o X.env) = eval o X.env := by rfl)
    (hfew : ((backTo cpos (starEach (e :: es) X.env)).all (fun x => !x.1) && (backToKw cpos (keywordEach [] X.env)).all (fun x => x.1.isSome)
      && decide ((e :: es).length + ([] : List Keyword).length + (if ([] : List Keyword).isEmpty then 0 else 1) < 30)) = true := by rfl)
    (hline : (apos.endLine == cpos.line) = true := by rfl) (hs : starEach (e :: es) X.env = (false, eval e X.env) :: starEach es X.env := by rfl) (hplain : (backTo cpos (starEach es X.env)).any (·.1) = false := by rfl) :
    PE X (.Call (.Attribute o name apos) (e :: es) [] cpos) (tBM X.K T r to t) := by
  intro pins s σ H Q I h
  refine wpAny_Call_method_late hbase hfew hline rfl (thn (ho pins s σ H _ I h) fun v s1 ⟨x, H1, I1, r1, ty, q1⟩ => ?_)
  obtain ⟨h1, h2⟩ := tyV_is I1 r1 ty
  refine ⟨T, id, pa, slot, hty, h1, h2, ?_⟩
  have hA := ha cpos pins s1 σ H1 _ I1 q1
  rw [hs] at hA ⊢
  refine Calls.callWith_builtin (by show (false || (backTo cpos (starEach es X.env)).any (·.1)) = false; rw [hplain] <;> rfl) (Calls.evalArgs_plain ?_)
  exact thn hA fun us s2 ⟨vs, H2, I2, r2, q2⟩ => hm pins s2 σ H2 x vs v us Q I2 r1 r2 q2
end
end L2
namespace L2
open PySem PySem.Spec PyProof.Rows
def MtM (X : Cx) (id : String) (r : V -> List V -> Hp -> VK -> Prop) : Prop :=
  ∀ (pins : List (Addr × Obj)) (s : Shared) (σ : St) (H : Hp) (x : V) (xs : List V) (v : Value) (us : List Value) (Q : VK), Inv X pins σ H s -> RelV x v -> Vals xs us -> r x xs H Q ->
    wpAny (model X.prog X.w) X.A (call (.builtin id) (v :: us)) (EP X pins σ Q) X.xe s
theorem Vals.one : ∀ {x : V} {us : List Value}, Vals [x] us -> ∃ u, us = [u] /\ RelV x u
  | _, _, .cons r .nil => ⟨_, rfl, r⟩
theorem Vals.reverse {xs : List V} {us : List Value} (h : Vals xs us) : Vals xs.reverse us.reverse := by
  induction h with
  | nil => exact .nil
  | cons r t ih => rw [List.reverse_cons, List.reverse_cons]; exact Vals.append ih (.cons r .nil)
theorem Vals.rep {xs : List V} {us : List Value} (h : Vals xs us) : ∀ k : Nat, Vals (List.replicate k xs).flatten (List.replicate k us).flatten
  | 0 => .nil
  | k + 1 => by
    rw [List.replicate_succ, List.replicate_succ, List.flatten_cons, List.flatten_cons]
    exact Vals.append h (Vals.rep h k)
theorem foldl_rep (its : List Value) : ∀ (k : Nat) (acc : List Value),
    List.foldl (fun x1 x2 => x1 ++ x2) acc.toArray (List.replicate k its.toArray) = (acc ++ (List.replicate k its).flatten).toArray
  | 0, acc => by simp
  | k + 1, acc => by
    have e : acc.toArray ++ its.toArray = (acc ++ its).toArray := by simp
    have e2 : (acc ++ its) ++ (List.replicate k its).flatten = acc ++ (List.replicate (k + 1) its).flatten := by
      rw [List.replicate_succ, List.flatten_cons, List.append_assoc]
    rw [← e2, ← foldl_rep its k (acc ++ its), ← e, List.replicate_succ, List.foldl_cons]
section
variable {X : Cx} {pins : List (Addr × Obj)} {σ : St} {H : Hp} {s : Shared} {l b : Addr} {xs ys zs : List V}
theorem Inv.lset {its its' : List Value} {n : Nat} {f : Array Value -> Array Value} {t' : Nat} (I : Inv X pins σ H s) (hH : H l = some (.lst xs))
    (e : s.heap.get? l = some { cls := .type "list", data := .seq its.toArray n }) (hf : f its.toArray = its'.toArray) (hv : Vals ys its') (hz : ys.length <= sizeLine) :
    Inv X pins σ (upd H l (.lst ys)) { s with heap := s.heap.update l (Obj.mapSeq f), toks := t' } := by
  have q := PySem.IsL.update e f
  rw [hf] at q
  refine I.write (x := l) (e := l) (by rw [hH]; exact trivial) (.inl rfl) (fun b' u hb hu => (Heap.get?_update_other s.heap (Obj.mapSeq f) (Ne.symm hb)).trans hu) ⟨_, q⟩ ?_
  exact ⟨hz, its', _, hv, q⟩
theorem Inv.lnew {its : List Value} {t' : Nat} (I : Inv X pins σ H s) (hv : Vals ys its) (hz : ys.length <= sizeLine) :
    Inv X pins σ (upd H s.heap.objs.size (.lst ys)) { s with heap := s.heap.push { cls := .type "list", data := .seq its.toArray }, toks := t' } :=
  I.laid (fun _ _ q => Heap.get?_push_of_some _ q) (Nat.le_refl _) ⟨hz, its, 0, hv, Heap.get?_push_size _ rfl⟩
theorem Inv.fresh (I : Inv X pins σ H s) : H s.heap.objs.size = none := I.hok.fresh (Nat.le_refl _)
theorem Inv.lstM (I : Inv X pins σ H s) (hH : H l = some (.lst xs)) : xs.length <= sizeLine /\ ∃ (its : List Value) (n : Nat), Vals xs its /\ xs.length = its.length /\ s.heap.get? l = some { cls := .type "list", data := .seq its.toArray n } := by
  obtain ⟨z, its, n, r, e⟩ := I.hok l _ hH
  exact ⟨z, its, n, r, r.length, e⟩
theorem notLongL {n : Nat} (h : n <= sizeLine) : Builtin.List.listTooLong n = false := by
  unfold Builtin.List.listTooLong
  exact decide_eq_false (by omega)
end
section
variable {X : Cx}
def rAppend : V -> List V -> Hp -> VK -> Prop := fun x vs H Q => ∃ l xs y, x = .ref l /\ vs = [y] /\ H l = some (.lst xs) /\ xs.length < sizeLine /\ Q .non (upd H l (.lst (xs ++ [y])))
theorem mt_append : MtM X "list.append" rAppend := by
  intro pins s σ H x vs v us Q I rx rv h
  obtain ⟨l, xs, y, rfl, rfl, hH, hz, q⟩ := h
  cases rx
  obtain ⟨u, rfl, ru⟩ := rv.one
  obtain ⟨z, its, n, r, hl, e⟩ := I.lstM hH
  refine call_meets F.slot_list_append ⟨_, e, rfl⟩ F.entry_list_append (F.args_list_append_2 _ _) (PySem.list_append l its.toArray n u (by rw [List.size_toArray]; omega)) ⟨e, ?_⟩
  refine ⟨.non, _, I.lset (its' := its ++ [u]) hH e (by simp) (r.append (.cons ru .nil)) ?_, rfl, q⟩
  rw [List.length_append, List.length_singleton]
  omega
def rExtend : V -> List V -> Hp -> VK -> Prop := fun x vs H Q => ∃ l b xs zs, x = .ref l /\ vs = [.ref b] /\ H l = some (.lst xs) /\ H b = some (.lst zs) /\ xs.length + zs.length <= sizeLine /\ Q .non (upd H l (.lst (xs ++ zs)))
theorem mt_extend : MtM X "list.extend" rExtend := by
  intro pins s σ H x vs v us Q I rx rv h
  obtain ⟨l, b, xs, zs, rfl, rfl, hH, hB, hz, q⟩ := h
  cases rx
  obtain ⟨u, rfl, ru⟩ := rv.one
  cases ru
  obtain ⟨z, its, n, r, hl, e⟩ := I.lstM hH
  obtain ⟨z2, its2, n2, r2, hl2, e2⟩ := I.lstM hB
  have hsz : its.toArray.size + its2.toArray.size <= sizeLine := by rw [List.size_toArray, List.size_toArray]; omega
  have hlong : ¬ (!its.toArray.isEmpty && Builtin.List.listTooLong (its.toArray.size + its2.toArray.size)) = true := by
    rw [notLongL hsz, Bool.and_false]
    exact Bool.false_ne_true
  refine call_meets F.slot_list_extend ⟨_, e, rfl⟩ F.entry_list_extend (F.args_list_extend_2 _ _)
    (AutoSeq1.list_extend_list_list_0 l its.toArray n b its2.toArray n2 hlong (by rw [List.size_toArray]; omega) (by omega)) ⟨e, e2, ?_⟩
  refine ⟨.non, _, I.lset (its' := its ++ its2) hH e (by simp) (r.append r2) ?_, rfl, q⟩
  rw [List.length_append]
  omega
def rCat : R2 := fun x y H Q => ∃ l b xs zs, x = .ref l /\ y = .ref b /\ H l = some (.lst xs) /\ H b = some (.lst zs) /\ xs.length + zs.length <= sizeLine /\ ∀ p, H p = none -> Q (.ref p) (upd H p (.lst (xs ++ zs)))
theorem op_cat : OpR X (binaryOp .Add) rCat := by
  intro pins s σ H x y v u Q I rx ry h
  obtain ⟨l, b, xs, zs, rfl, rfl, hH, hB, hz, q⟩ := h
  cases rx
  cases ry
  obtain ⟨z, its, n, r, hl, e⟩ := I.lstM hH
  obtain ⟨z2, its2, n2, r2, hl2, e2⟩ := I.lstM hB
  refine PySem.P.add_list e e2 ?_ (by rw [List.size_toArray, List.size_toArray]; omega)
  have ea : its.toArray ++ its2.toArray = (its ++ its2).toArray := by simp
  rw [ea]
  exact ⟨.ref _, _, I.lnew (t' := s.toks) (r.append r2) (by rw [List.length_append]; omega), rfl, q _ I.fresh⟩
def rRep : R2 := fun x y H Q => ∃ l k xs, x = .ref l /\ y = .int k /\ H l = some (.lst xs) /\ -(2 ^ 63) <= k /\ k < 2 ^ 63 /\ xs.length * k.toNat <= sizeLine /\
  ∀ p, H p = none -> Q (.ref p) (upd H p (.lst (List.replicate k.toNat xs).flatten))
theorem len_rep {α : Type} (xs : List α) (k : Nat) : (List.replicate k xs).flatten.length = k * xs.length := by
  induction k with
  | zero => simp
  | succ k ih => rw [List.replicate_succ, List.flatten_cons, List.length_append, ih, Nat.succ_mul, Nat.add_comm]
theorem op_rep : OpR X (binaryOp .Mult) rRep := by
  intro pins s σ H x y v u Q I rx ry h
  obtain ⟨l, k, xs, rfl, rfl, hH, h1, h2, hz, q⟩ := h
  cases rx
  obtain ⟨t, rfl⟩ := ry
  obtain ⟨z, its, n, r, hl, e⟩ := I.lstM hH
  have hlen : its.toArray.size * k.toNat <= sizeLine := by rw [List.size_toArray, ← hl]; exact hz
  have hcap : ¬ its.toArray.size * k.toNat > (2 ^ 63 - 1) / 8 := by
    have : (sizeLine : Nat) <= (2 ^ 63 - 1) / 8 := by decide
    omega
  have hfit : ¬ (!Builtin.List.listFitsIndex k) = true := by
    rw [fitsIndex_both h1 h2]
    exact Bool.false_ne_true
  have hlong : ¬ Builtin.List.listTooLong (its.toArray.size * k.toNat) = true := by
    rw [notLongL hlen]
    exact Bool.false_ne_true
  have hnew : List.foldl (fun x1 x2 => x1 ++ x2) #[] (List.replicate (if its.toArray.isEmpty = true then 0 else k.toNat) its.toArray) = (List.replicate k.toNat its).flatten.toArray := by
    have f0 : ∀ m : Nat, List.foldl (fun x1 x2 => x1 ++ x2) #[] (List.replicate m its.toArray) = (List.replicate m its).flatten.toArray := fun m => by
      have := foldl_rep its m []
      rw [List.nil_append] at this
      exact this
    rw [f0]
    cases its with
    | nil => simp
    | cons a r' => rw [if_neg (by simp)]
  refine wpAny_binaryOp_repeat_ref (T := "list") (U := "int") (by decide) ⟨_, e, rfl⟩ (fun s' => typeIs_int s' k t) noFill_list_mul F.fills_int_mul F.slot_int_rmul repeat_list F.slot_int_index.lookup
    (call_meets F.slot_int_rmul (typeIs_int s k t) F.entry_int_rmul (F.args_int_rmul_2 _ _) (int___rmul___int_list k t l its.toArray n)
      ⟨e, rfl, ⟨_, e, rfl⟩, call_meets F.slot_list_mul ⟨_, e, rfl⟩ F.entry_list_mul (F.args_list_mul_2 _ _) (AutoListH.list___mul___list_int_3 l its.toArray n k t hfit hcap hlong) ⟨e, ?_⟩⟩)
  rw [hnew]
  exact ⟨.ref _, _, I.lnew (t' := s.toks) (r.rep k.toNat) (by rw [len_rep, Nat.mul_comm]; exact hz), rfl, q _ I.fresh⟩
end
section
variable {prog : Program} {w : World} {A : Around} {E : Value -> Shared -> Prop} {s : Shared}
end
section
variable {X : Cx}
end
end L2
end
section
namespace L2
open PySem PySem.Spec PyProof.Rows
section
variable {κ : Type} [DecidableEq κ]
def valV (kvs : List (κ × V)) (k : κ) : Option V := (kvs.find? fun kv => decide (kv.1 = k)).map (·.2)
def putK (kvs : List (κ × V)) (k : κ) (v : V) : List (κ × V) :=
  if (kvs.any fun kv => decide (kv.1 = k)) = true then kvs.map (fun kv => if kv.1 = k then (kv.1, v) else kv) else kvs ++ [(k, v)]
theorem valV_pos {p : κ × V} {r : List (κ × V)} {k : κ} (e : p.1 = k) : valV (p :: r) k = some p.2 := by simp [valV, List.find?_cons, e]
theorem valV_neg {p : κ × V} {r : List (κ × V)} {k : κ} (e : ¬ p.1 = k) : valV (p :: r) k = valV r k := by simp [valV, List.find?_cons, e]
theorem valV_any (k : κ) : ∀ kvs : List (κ × V), (kvs.any fun kv => decide (kv.1 = k)) = (valV kvs k).isSome
  | [] => rfl
  | p :: r => by
    rw [List.any_cons]
    by_cases e : p.1 = k
    · simp only [valV_pos e, decide_eq_true e, Bool.true_or, Option.isSome_some]
    · rw [valV_neg e, decide_eq_false e, Bool.false_or]; exact valV_any k r
theorem length_putK (kvs : List (κ × V)) (k : κ) (v : V) : (putK kvs k v).length <= kvs.length + 1 := by
  unfold putK
  split
  · rw [List.length_map]; omega
  · rw [List.length_append, List.length_cons, List.length_nil]; omega
theorem RelO.isSome_eq {o : Option V} {u : Option Value} (r : RelO o u) : o.isSome = u.isSome := by
  cases o with
  | none => cases u with
    | none => rfl
    | some _ => exact (show False from r).elim
  | some _ => cases u with
    | none => exact (show False from r).elim
    | some _ => rfl
theorem KV.val {kvs : List (κ × V)} {vs : List (κ × Value)} (r : KV kvs vs) (k : κ) : RelO (valV kvs k) (valueAt vs k) := by
  unfold KV at r
  induction r with
  | nil => exact True.intro
  | @cons p q ps qs h t ih =>
    obtain ⟨h1, h2⟩ := h
    by_cases e : p.1 = k
    · have e' : q.1 = k := h1.symm.trans e
      have b : valueAt (q :: qs) k = some q.2 := by simp [valueAt, List.find?_cons, e']
      rw [valV_pos e, b]; exact h2
    · have e' : ¬ q.1 = k := fun z => e (h1.trans z)
      have b : valueAt (q :: qs) k = valueAt qs k := by simp [valueAt, List.find?_cons, e']
      rw [valV_neg e, b]; exact ih
theorem KV.any {kvs : List (κ × V)} {vs : List (κ × Value)} (r : KV kvs vs) (k : κ) : (kvs.any fun kv => decide (kv.1 = k)) = vs.any fun kv => decide (kv.1 = k) := by
  unfold KV at r
  induction r with
  | nil => rfl
  | cons h t ih => rw [List.any_cons, List.any_cons, ih, h.1]
theorem KV.repl {kvs : List (κ × V)} {vs : List (κ × Value)} (r : KV kvs vs) (k : κ) {y : V} {u : Value} (ry : RelV y u) :
    KV (kvs.map fun kv => if kv.1 = k then (kv.1, y) else kv) (vs.map fun kv => if kv.1 = k then (kv.1, u) else kv) := by
  unfold KV at r ⊢
  induction r with
  | nil => exact .nil
  | @cons p q ps qs h t ih =>
    rw [List.map_cons, List.map_cons]
    refine .cons ?_ ih
    obtain ⟨h1, h2⟩ := h
    by_cases e : p.1 = k
    · rw [if_pos e, if_pos (h1.symm.trans e)]; exact ⟨h1, ry⟩
    · rw [if_neg e, if_neg (fun z => e (h1.trans z))]; exact ⟨h1, h2⟩
theorem KV.put {kvs : List (κ × V)} {vs : List (κ × Value)} (r : KV kvs vs) (k : κ) {y : V} {u : Value} (ry : RelV y u) : KV (putK kvs k y) (stored vs k u) := by
  unfold putK stored
  rw [r.any k]
  by_cases e : (vs.any fun kv => decide (kv.1 = k)) = true
  · rw [if_pos e, if_pos e]; exact r.repl k ry
  · rw [if_neg e, if_neg e]; exact Paired.snoc r ⟨rfl, ry⟩
theorem KV.keys {kvs : List (κ × V)} {vs : List (κ × Value)} (r : KV kvs vs) : kvs.map (·.1) = vs.map (·.1) := by
  unfold KV at r
  induction r with
  | nil => rfl
  | cons h t ih => rw [List.map_cons, List.map_cons, ih, h.1]
theorem KV.length {kvs : List (κ × V)} {vs : List (κ × Value)} (r : KV kvs vs) : kvs.length = vs.length := Paired.length r
end
theorem kV_is {P : Program} {w : World} {k : Key} {u : Value} (r : RelV (kV k) u) : (mixKind P w).is k u = true := by
  cases k with
  | inl i => obtain ⟨t, e⟩ := (show ∃ t, u = Value.int i t from r); subst e; exact mixKind_int P w i t
  | inr x => obtain ⟨t, e⟩ := (show ∃ t, u = Value.str x t from r); subst e; exact mixKind_str P w x t
theorem items_are {P : Program} {w : World} : ∀ {ks : List Key} {us : List Value}, Vals (ks.map kV) us -> ItemsAre (mixKind P w) ks us
  | [], _, r => by rw [List.map_nil] at r; cases r; exact .nil
  | k :: ks, _, r => by
    rw [List.map_cons] at r
    cases r with
    | cons h t => exact .cons (kV_is h) (items_are t)
abbrev KT (H : Hp) : List (List Key × V) -> List (List Key × Addr × Value) -> Prop := Paired fun p q => p.1 = q.1 /\ H q.2.1 = some (.tup (p.1.map kV)) /\ RelV p.2 q.2.2
theorem KT.val {H : Hp} {kvs : List (List Key × V)} {xs : List (List Key × Addr × Value)} (r : KT H kvs xs) (k : List Key) : RelO (valV kvs k) ((atKey xs k).map (·.2)) := by
  induction r with
  | nil => exact True.intro
  | @cons p q ps qs h t ih =>
    obtain ⟨h1, _, h2⟩ := h
    by_cases e : p.1 = k
    · have e' : q.1 = k := h1.symm.trans e
      have b : atKey (q :: qs) k = some q.2 := by simp [atKey, List.find?_cons, e']
      rw [valV_pos e, b]; exact h2
    · have e' : ¬ q.1 = k := fun z => e (h1.trans z)
      have b : atKey (q :: qs) k = atKey qs k := by simp [atKey, List.find?_cons, e']
      rw [valV_neg e, b]; exact ih
theorem KT.repl {H : Hp} {kvs : List (List Key × V)} {xs : List (List Key × Addr × Value)} (r : KT H kvs xs) (k : List Key) {y : V} {u : Value} (ry : RelV y u) :
    KT H (kvs.map fun kv => if kv.1 = k then (kv.1, y) else kv) (xs.map (putAt k u)) := by
  induction r with
  | nil => exact .nil
  | @cons p q ps qs h t ih =>
    rw [List.map_cons, List.map_cons]
    refine .cons ?_ ih
    obtain ⟨h1, h2, h3⟩ := h
    unfold putAt
    by_cases e : p.1 = k
    · rw [if_pos e, if_pos (h1.symm.trans e)]; exact ⟨h1, h2, ry⟩
    · rw [if_neg e, if_neg (fun z => e (h1.trans z))]; exact ⟨h1, h2, h3⟩
theorem KT.put {H : Hp} {kvs : List (List Key × V)} {xs : List (List Key × Addr × Value)} (r : KT H kvs xs) (k : List Key) {b : Addr} {y : V} {u : Value} (hb : H b = some (.tup (k.map kV))) (ry : RelV y u) :
    KT H (putK kvs k y) (storedH xs k b u) := by
  have e : (kvs.any fun kv => decide (kv.1 = k)) = (atKey xs k).isSome := by
    rw [valV_any, (r.val k).isSome_eq, Option.isSome_map]
  unfold putK storedH
  rw [e]
  by_cases q : (atKey xs k).isSome = true
  · rw [if_pos q, if_pos q]; exact r.repl k ry
  · rw [if_neg q, if_neg q]; exact Paired.snoc r ⟨rfl, hb, ry⟩
theorem KT.keeps {H H' : Hp} {kvs : List (List Key × V)} {xs : List (List Key × Addr × Value)} (r : KT H kvs xs) (ht : ∀ b ys, H b = some (.tup ys) -> H' b = some (.tup ys)) : KT H' kvs xs :=
  Paired.mapP r fun _ _ z => ⟨z.1, ht _ _ z.2.1, z.2.2⟩
section
variable {P : Program} {w : World} {H : Hp} {h : Heap} {a : Addr}
theorem rd_of {u : HO} (ok : HOk P w H h) (e : Rd H a u) : ObjOk P w H h a u := e.ok ok
theorem dk_rd {kvs : List (Key × V)} (ok : HOk P w H h) (e : Rd H a (.dK kvs)) : kvs.length <= sizeLine /\ (a == sysModules) = false /\ ∃ vs, KV kvs vs /\ h.DictOf (mixKind P w) a vs :=
  show ObjOk P w H h a (.dK kvs) from rd_of ok e
theorem dk_of {kvs : List (Key × V)} (ok : HOk P w H h) (e : H a = some (.dK kvs)) : kvs.length <= sizeLine /\ (a == sysModules) = false /\ ∃ vs, KV kvs vs /\ h.DictOf (mixKind P w) a vs := dk_rd ok (.inl e)
theorem key_of {ks : List Key} (ok : HOk P w H h) (e : H a = some (.tup (ks.map kV))) : (tupleKind (mixKind P w)).is h ks a := by
  obtain ⟨_, its, r, o, h1, h2, n, h3⟩ := (show ObjOk P w H h a (.tup (ks.map kV)) from ok a _ e)
  exact ⟨o, its.toArray, n, h1, h2, h3, by simpa using items_are r⟩
theorem dt_rd {kvs : List (List Key × V)} (ok : HOk P w H h) (e : Rd H a (.dT kvs)) : kvs.length <= sizeLine /\ (a == sysModules) = false /\
    ∃ xs, KT H kvs xs /\ h.DictOfH (tupleKind (mixKind P w)) a xs := by
  obtain ⟨z, y, xs, r, o, es, ep, h1, h2, h3, h4, h5⟩ := (show ObjOk P w H h a (.dT kvs) from rd_of ok e)
  refine ⟨z, y, xs, r, o, es, ep, h1, h2, h3, h4, fun x hx => ?_, h5⟩
  have all : ∀ {l : List (List Key × V)} {m : List (List Key × Addr × Value)}, KT H l m -> ∀ x ∈ m, (tupleKind (mixKind P w)).is h x.1 x.2.1 := by
    intro l m q
    induction q with
    | nil => intro x hx; exact nomatch hx
    | @cons p q ps qs hq t ih =>
      intro x hx
      rcases List.mem_cons.mp hx with e | hx
      · subst e
        exact key_of ok (by rw [← hq.1]; exact hq.2.1)
      · exact ih x hx
  exact all r x hx
theorem dt_of {kvs : List (List Key × V)} (ok : HOk P w H h) (e : H a = some (.dT kvs)) : kvs.length <= sizeLine /\ (a == sysModules) = false /\
    ∃ xs, KT H kvs xs /\ h.DictOfH (tupleKind (mixKind P w)) a xs := dt_rd ok (.inl e)
end
def DGet (H : Hp) (a : Addr) (y : V) (r : Option V) : Prop :=
  (∃ kvs k, Rd H a (.dK kvs) /\ y = kV k /\ r = valV kvs k) \/ ∃ kvs k b, Rd H a (.dT kvs) /\ y = .ref b /\ H b = some (.tup (k.map kV)) /\ r = valV kvs k
def DPut (H : Hp) (a : Addr) (y v : V) (H' : Hp) : Prop :=
  (∃ kvs k, H a = some (.dK kvs) /\ y = kV k /\ kvs.length < sizeLine /\ H' = upd H a (.dK (putK kvs k v))) \/
  ∃ kvs k b, H a = some (.dT kvs) /\ y = .ref b /\ H b = some (.tup (k.map kV)) /\ kvs.length < sizeLine /\ H' = upd H a (.dT (putK kvs k v))
theorem DGet.k {H : Hp} {a : Addr} {kvs : List (Key × V)} {k : Key} (e : H a = some (.dK kvs)) : DGet H a (kV k) (valV kvs k) := .inl ⟨kvs, k, .inl e, rfl, rfl⟩
theorem DGet.t {H : Hp} {a b : Addr} {kvs : List (List Key × V)} {k : List Key} (e : H a = some (.dT kvs)) (eb : H b = some (.tup (k.map kV))) : DGet H a (.ref b) (valV kvs k) := .inr ⟨kvs, k, b, .inl e, rfl, eb, rfl⟩
theorem DPut.k {H : Hp} {a : Addr} {kvs : List (Key × V)} {k : Key} {v : V} (e : H a = some (.dK kvs)) (hl : kvs.length < sizeLine) : DPut H a (kV k) v (upd H a (.dK (putK kvs k v))) := .inl ⟨kvs, k, e, rfl, hl, rfl⟩
theorem DPut.t {H : Hp} {a b : Addr} {kvs : List (List Key × V)} {k : List Key} {v : V} (e : H a = some (.dT kvs)) (eb : H b = some (.tup (k.map kV))) (hl : kvs.length < sizeLine) :
    DPut H a (.ref b) v (upd H a (.dT (putK kvs k v))) := .inr ⟨kvs, k, b, e, rfl, eb, hl, rfl⟩
section
variable {X : Cx} {pins : List (Addr × Obj)} {σ : St} {H : Hp} {s : Shared} {a : Addr} {y v : V} {u r : Value} {o : Option V} {A : Around} {E : Value -> Shared -> Prop}
theorem Inv.big (I : Inv X pins σ H s) : sysModules < s.heap.objs.size := by
  have h : mainGlobals < s.heap.objs.size := (I.mod.glob.keeps I.bk).lt
  exact Nat.lt_trans (by decide) h
theorem d_getItem {Q : Value -> Shared -> Prop} (hu : A.units + 1 < cLine) (I : Inv X pins σ H s) (g : DGet H a y (some v)) (ry : RelV y u) (h : ∀ w' s', Inv X pins σ H s' -> RelV v w' -> Q w' s') :
    wpAny (model X.prog X.w) A (getItem (.ref a) u) Q E s := by
  rcases g with ⟨kvs, k, e, ey, l⟩ | ⟨kvs, k, b, e, ey, eb, l⟩
  · subst ey
    obtain ⟨z, hd, vs, rel, dd⟩ := dk_rd I.hok e
    obtain ⟨w', hw, rw'⟩ := RelO.some_of (v := v) (o := valueAt vs k) (by rw [l]; exact rel.val k)
    exact wpAny_getItem_of (kV_is ry) dd.mapOf hw (h w' _ (I.tok _) rw')
  · subst ey
    cases (show u = Value.ref b from ry)
    obtain ⟨z, hd, xs, rel, dd⟩ := dt_rd I.hok e
    obtain ⟨w', hw, rw'⟩ := RelO.some_of (v := v) (o := (atKey xs k).map (·.2)) (by rw [l]; exact rel.val k)
    obtain ⟨p, hp, hp2⟩ := Option.map_eq_some_iff.mp hw
    refine wpAny_getItem_heap (tupleKind_room_in1 hu) (key_of I.hok eb) dd hp ?_
    rw [hp2]
    exact h w' _ (I.tok _) rw'
theorem d_write {h' : Heap} {t' : Nat} {ob : HO} (I : Inv X pins σ H s) (mu : Mut (H a)) (hs : Heap.SameBut a s.heap h') (he : ∃ q, h'.get? a = some q) (new : ObjOk X.prog X.w (upd H a ob) h' a ob) :
    Inv X pins σ (upd H a ob) { s with heap := h', toks := t' } :=
  I.write (x := a) (e := a) mu (.inl rfl) (fun b q hb z => (hs.2 b hb).trans z) he new
theorem dk_new {P : Program} {w : World} {H' : Hp} {h' : Heap} {kvs : List (Key × V)} {vs : List (Key × Value)} (z : kvs.length <= sizeLine) (hd : (a == sysModules) = false) (rel : KV kvs vs) (dd : h'.DictOf (mixKind P w) a vs) :
    ObjOk P w H' h' a (.dK kvs) := ⟨z, hd, vs, rel, dd⟩
theorem d_setItem {H' : Hp} {Q : Unit -> Shared -> Prop} (hu : A.units + 1 < cLine) (I : Inv X pins σ H s) (g : DPut H a y v H') (ry : RelV y u) (rv : RelV v r) (h : ∀ s', Inv X pins σ H' s' -> Q () s') :
    wpAny (model X.prog X.w) A (setItem (.ref a) u r) Q E s := by
  rcases g with ⟨kvs, k, e, ey, l, eH⟩ | ⟨kvs, k, b, e, ey, eb, l, eH⟩
  · subst ey eH
    obtain ⟨z, hd, vs, rel, dd⟩ := dk_of I.hok e
    have hz : vs.length <= sizeLine := by rw [← rel.length]; exact z
    have hl : (putK kvs k v).length <= sizeLine := by have := length_putK kvs k v; omega
    refine wpAny_setItem_pairs (hsz := hz) (kV_is ry) dd fun h' dd' hs => h _ ?_
    have he : ∃ q, h'.get? a = some q := let ⟨q, _, _, hq, _⟩ := dd'; ⟨q, hq⟩
    exact d_write I (by rw [e]; exact True.intro) hs he (dk_new hl hd (rel.put k rv) dd')
  · subst ey eH
    cases (show u = Value.ref b from ry)
    obtain ⟨z, hd, xs, rel, dd⟩ := dt_of I.hok e
    have hz : xs.length <= sizeLine := by rw [← Paired.length rel]; exact z
    have hl : (putK kvs k v).length <= sizeLine := by have := length_putK kvs k v; omega
    refine wpAny_setItem_heap (hsz := hz) (tupleKind_room_in1 hu) (key_of I.hok eb) dd fun h' dd' hs => h _ ?_
    obtain ⟨q, es, ep, hq, h2, h3, h4, _, h5⟩ := dd'
    refine d_write I (by rw [e]; exact True.intro) hs ⟨q, hq⟩ ⟨hl, hd, _, (rel.put k eb rv).keeps fun c ys ec => ?_, q, es, ep, hq, h2, h3, h4, h5⟩
    rw [upd_ne (ne_of ec e (fun z => nomatch z))]
    exact ec
end
section
variable {X : Cx} {pins : List (Addr × Obj)} {σ : St} {H : Hp} {s : Shared} {a : Addr} {kvs : List (Key × V)} {k : Key} {u : Value} {A : Around} {E : Value -> Shared -> Prop}
theorem d_clear {Q : Value -> Shared -> Prop} (I : Inv X pins σ H s) (e : H a = some (.dK kvs)) (h : ∀ s', Inv X pins σ (upd H a (.dK [])) s' -> Q .none s') : wpAny (model X.prog X.w) A (call (.builtin "dict.clear") [.ref a]) Q E s := by
  obtain ⟨z, hd, vs, rel, dd⟩ := dk_of I.hok e
  refine call_meetsIn PySem.F.slot_dict_clear dd.typeIs PySem.F.entry_dict_clear (PySem.F.args_dict_clear_1 _) (meets_dict_clear (mixKind X.prog X.w) a) ⟨vs, dd, by rw [← rel.length]; exact z, fun h' dd' hs => h _ ?_⟩
  have he : ∃ q, h'.get? a = some q := let ⟨q, _, _, hq, _⟩ := dd'; ⟨q, hq⟩
  exact d_write (t' := s.toks) I (by rw [e]; exact True.intro) hs he (dk_new (Nat.zero_le _) hd .nil dd')
end
def NoSl (i : Expr) : Prop := ∀ ov iv, subscripted i false ov iv = operate [ov, iv] (getItem ov iv)
theorem subD_of {prog : Program} {w : World} {A : Around} {E : Value -> Shared -> Prop} {s : Shared} {env : Env} {value slice : Expr} {pos : Pos} {T id : String} {Q : Value -> Shared -> Prop}
    (hl : typeLookup (.type T) "__getitem__" = pure (some (.builtin id))) (hs : NoSl slice)
    (h : wpAny (model prog w) A (eval value env) (fun o s₁ => wpAny (model prog w) A (eval slice env) (fun i s₂ => s₂.TypeIs o T /\ wpAny (model prog w) A (getItem o i) Q E s₂) E s₁) E s) :
    wpAny (model prog w) A (eval (.Subscript value slice pos) env) Q E s := by
  refine Subscript_ (wpAny_mono h (fun o s₁ h₁ => wpAny_mono h₁ (fun i s₂ h₂ => ?_) fun _ _ x => x) fun _ _ x => x)
  obtain ⟨hT, h₂⟩ := h₂
  unfold subscriptTail
  refine wpAny_bind ?_
  rw [getitemInPython_of_ne hT.not_modules]
  refine wpAny_bind (wpAny_specialOf hT hl ?_)
  have fin : wpAny (model prog w) A (subscripted slice false o i) (fun r s₃ => wpAny (model prog w) A (letTemporaryGo value o r >>= fun _ => pure r) Q E s₃) E s₂ := by
    rw [hs o i]
    exact wpAny_operating (wpAny_mono h₂ (fun r s₃ h₃ => wpAny_bind (wpAny_letTemporaryGo (wpAny_pure h₃))) fun _ _ x => x)
  first
    | exact wpAny_pure (wpAny_bind fin)
    | exact wpAny_bind (wpAny_pure (wpAny_bind fin))
    | exact wpAny_bind fin
theorem dict_typeIs {X : Cx} {pins : List (Addr × Obj)} {σ : St} {H : Hp} {s : Shared} {a : Addr} {y : V} {o : Option V} (I : Inv X pins σ H s) (g : DGet H a y o) : s.TypeIs (.ref a) "dict" := by
  rcases g with ⟨kvs, k, e, _, _⟩ | ⟨kvs, k, b, e, _, _, _⟩
  · obtain ⟨_, _, vs, _, dd⟩ := dk_rd I.hok e
    exact dd.typeIs
  · obtain ⟨_, _, xs, _, dd⟩ := dt_rd I.hok e
    exact dd.typeIs
def tDGet (td ty : TE) : TE := fun σ H Q => td σ H fun x H1 => ty σ H1 fun y H2 => ∃ a v, x = .ref a /\ DGet H2 a y (some v) /\ Q v H2
def sDPut (td ty tv : TE) : TS := fun D σ H => tv σ H fun v H1 => td σ H1 fun x H2 => ty σ H2 fun y H3 => ∃ a H4, x = .ref a /\ DPut H3 a y v H4 /\ D.nx σ H4
section
variable {X : Cx} {o i e value : Expr} {pos pos' tpos : Pos} {td ty tv : TE}
theorem pe_dget (hu : X.A.units + 1 < cLine) (ho : PE X o td) (hi : PE X i ty) (hs : NoSl i) : PE X (.Subscript o i pos) (tDGet td ty) := by
  intro pins s σ H Q I h
  refine subD_of PySem.F.slot_dict_getitem.lookup hs (thn (ho pins s σ H _ I h) fun u s1 ⟨x, H1, I1, rx, q1⟩ => thn (hi pins s1 σ H1 _ I1 q1) fun iv s2 ⟨y, H2, I2, ry, a, v, ex, g, q2⟩ => ?_)
  subst ex
  obtain rfl : u = Value.ref a := rx
  exact ⟨dict_typeIs I2 g, d_getItem hu I2 g ry fun w' s3 I3 rw' => ⟨v, H2, I3, rw', q2⟩⟩
theorem ps_dput (hu : X.A.units + 1 < cLine) (ho : PE X o td) (hi : PE X i ty) (hv : PE X value tv) (hs : swapsWith value (some (.Subscript o i pos')) pos.line X.env = pure false) :
    PS X (.Assign [.Subscript o i pos'] value pos) (sDPut td ty tv) := by
  intro pins s σ H D I h
  refine wpAny_Assign_Subscript (thn (hv pins s σ H _ I h) fun r s1 ⟨v, H1, I1, rv, q1⟩ => thn (ho pins s1 σ H1 _ I1 q1) fun u s2 ⟨x, H2, I2, rx, q2⟩ => thn (hi pins s2 σ H2 _ I2 q2) fun iv s3 ⟨y, H3, I3, ry, a, H4, ex, g, q3⟩ => ?_) hs
  subst ex
  obtain rfl : u = Value.ref a := rx
  exact d_setItem hu I3 g ry rv fun s4 I4 => ⟨σ, H4, I4, q3⟩
end
theorem dk_empty {P : Program} {w : World} {H : Hp} (h : Heap) (hb : sysModules < h.objs.size) : ObjOk P w H (h.push { cls := .type "dict", data := .dict #[] }) h.objs.size (.dK []) :=
  ⟨Nat.zero_le _, beq_eq_false_iff_ne.mpr (Ne.symm (Nat.ne_of_lt hb)), [], .nil, Heap.DictOf.new h⟩
def tDNewK : TE := fun _ H Q => ∀ p, H p = none -> Q (.ref p) (upd H p (.dK []))
section
variable {X : Cx} {pos : Pos}
theorem pe_dnewK : PE X (.Dict [] [] pos) tDNewK := fun pins s σ H Q I h =>
  wpAny_Dict_empty ⟨.ref s.heap.objs.size, _, I.laid (a := s.heap.objs.size) (o := .dK []) (t' := s.toks) (fun _ _ q => Heap.get?_push_of_some _ q) (Nat.le_refl _) (dk_empty s.heap I.big), rfl, h _ (I.hok.fresh (Nat.le_refl _))⟩
end
structure M1 (X : Cx) (o : Expr) (m : Str) (apos : Pos) (e : Expr) (cpos : Pos) : Prop where
  base : attributeBase o m X.env (eval o X.env) = eval o X.env
  few : ((backTo cpos (starEach [e] X.env)).all (fun x => !x.1) && (backToKw cpos (keywordEach [] X.env)).all (fun x => x.1.isSome)
    && decide (([e] : List Expr).length + ([] : List Keyword).length + (if ([] : List Keyword).isEmpty then 0 else 1) < 30)) = true
  line : (apos.endLine == cpos.line) = true
  trees : backTo cpos (starEach [e] X.env) = [(false, eval e X.env)]
structure M2 (X : Cx) (o : Expr) (m : Str) (apos : Pos) (e f : Expr) (cpos : Pos) : Prop where
  base : attributeBase o m X.env (eval o X.env) = eval o X.env
  few : ((backTo cpos (starEach [e, f] X.env)).all (fun x => !x.1) && (backToKw cpos (keywordEach [] X.env)).all (fun x => x.1.isSome)
    && decide (([e, f] : List Expr).length + ([] : List Keyword).length + (if ([] : List Keyword).isEmpty then 0 else 1) < 30)) = true
  line : (apos.endLine == cpos.line) = true
  trees : backTo cpos (starEach [e, f] X.env) = [(false, eval e X.env), (false, eval f X.env)]
section
variable {X : Cx} {pins : List (Addr × Obj)} {σ : St} {H : Hp} {s : Shared} {a : Addr} {y d : V} {u r : Value} {o : Option V} {A : Around} {E : Value -> Shared -> Prop}
end
section
variable {X : Cx} {o e f : Expr} {apos cpos : Pos} {td ty tx : TE}
end
section
variable {X : Cx} {pins : List (Addr × Obj)} {σ : St} {H : Hp} {s : Shared} {a : Addr} {kvs : List (Key × V)} {A : Around} {E : Value -> Shared -> Prop}
end
section
variable {X : Cx} {pins : List (Addr × Obj)} {σ : St} {H : Hp} {s : Shared} {a : Addr} {y : V} {u : Value} {A : Around} {E : Value -> Shared -> Prop}
end
end L2
end
section
namespace Att
open PySem PySem.W PySem.Calls PyProof.Rows
theorem ints_of_wellAll {P : Params} {h : Heap} : ∀ (ns : List Int) (vs : List Value), WellAll P h vs (ns.map WData.int) -> IntsAre vs ns := by
  intro ns
  induction ns with
  | nil =>
    intro vs w
    rw [List.map_nil] at w
    cases w
    exact .nil
  | cons n ns ih =>
    intro vs w
    rw [List.map_cons] at w
    cases w with
    | cons a b =>
      cases a
      exact .cons _ _ (ih _ b)
theorem script_of {l : OpenLaw} {n : Nat} (hn : l.most = some n) {P : Params} {h : Heap} {args : List WData} {vals : List Value}
    (hpre : l.row.toRowW.claim.pre args = true) (hwl : WellAll P h vals args) :
    ∃ a vs ns, vals = [Value.ref a] /\ args = [WData.list (ns.map WData.int)] /\ h.get? a = some { cls := .type "list", data := .seq vs.toArray } /\ IntsAre vs ns /\ ns.length <= n := by
  have hsh : WShape.hasAll [] args [.list .int] = true := (pre_splitW hpre).1
  have hc : l.pre.holds [] { args := args } = true := (pre_splitW hpre).2
  obtain ⟨d, r, rfl, h1, h2⟩ := hasAllW_cons hsh
  obtain rfl := hasAllW_nil h2
  obtain ⟨xs, rfl, h3⟩ := hasW_list h1
  obtain ⟨ns, rfl⟩ := items_int h3
  have hlen : ns.length <= n := by
    unfold OpenLaw.pre at hc
    have h4 : (WTm.not (.lt (.lit (.int (n : Int))) (.len (.arg 0)))).holds [] { args := [.list (ns.map .int)] } = true := by
      have h4 := (holds_andW hc).1
      rw [hn] at h4
      exact h4
    have h5 := condW_of h4 (w_not (w_lt w_lit (w_len_list (w_arg rfl))))
    rw [List.length_map] at h5
    refine Nat.le_of_not_lt fun q => ?_
    have q' : (n : Int) < ((ns.length : Nat) : Int) := by omega
    first
      | (rw [decide_eq_true q'] at h5; exact absurd h5 (by decide))
      | (simp at h5; omega)
  cases hwl with
  | cons w1 w2 =>
    cases w2
    cases w1 with
    | list ho hall => exact ⟨_, _, ns, rfl, rfl, ho, ints_of_wellAll ns _ hall, hlen⟩
theorem post_true (l : OpenLaw) (args : List WData) : l.row.toRowW.claim.post args (.bool true) args = true :=
  postW_of (r := l.row.toRowW) (X := (true == true))
    (show WShape.has [] (.bool true) .bool = true by first | rfl | decide | simp [WShape.has, WShape.arms, WShape.armsAll])
    (show (WTm.eq .res (.lit (.bool true))).value [] { args := args, res := some (.bool true), after := args } = some (.bool (true == true)) from w_eq_bool (w_res rfl) w_lit) rfl
theorem attach {l : OpenLaw} {n : Nat} {q : Program} {loose : List Str} {XP : (Str -> Option Value) -> Heap -> Prop} {YP : World -> Heap -> Prop} {d : DefRec} {x : Str}
    (hn : l.most = some n) (hdf : d.params.defaults = [])
    (hbind : ∀ pm cd doc v : Value, bindArgs (docDef d.name d.params d.body d.scope pm cd doc) ⟨[v], []⟩ = pure [(x, v)])
    (hx : d.scope.names.lookup x = some .local \/ d.scope.names.lookup x = some .cell)
    (hk : d.scope.kind = .function) (hco : d.scope.isCoroutine = false) (hgen : d.scope.isGenerator = false)
    (body : ∀ (w : World) (s₀ s₁ s : Shared) (mg mb : Str -> Option Value) (fa : Addr) (o : Obj) (pm cd doc : Value) (a : Addr) (vs : List Value) (ns : List Int),
      Ground q loose [] XP w s₀ mg mb s₁.heap -> YP w s₁.heap ->
      s₁.heap.get? fa = some o -> o.data = .func (docDef d.name d.params d.body d.scope pm cd doc) -> s₁.heap.CodeRec cd d.name -> mg d.name = some (.ref fa) ->
      s₁.heap.get? a = some { cls := .type "list", data := .seq vs.toArray } -> IntsAre vs ns -> ns.length <= n ->
      s.gens = #[] -> s.os = s₁.os ->
      Fr s₁.heap s₁.heap.objs.size s.heap (bindL (envOfC d.name d.scope s₁.heap.objs.size fa cd).kindOf [(x, .ref a)] fun _ => none) ->
      Cl s₁.heap.objs.size (cellsFrom (s₁.heap.objs.size + 1) d.scope.names []) s.heap (bindC (envOfC d.name d.scope s₁.heap.objs.size fa cd).kindOf [(x, .ref a)] fun _ => none) ->
      wpAny (model l.prog w) (callerA.deeper (envOfC d.name d.scope s₁.heap.objs.size fa cd)) (execs d.body (envOfC d.name d.scope s₁.heap.objs.size fa cd))
        (fun f s' => f = .ret (.bool true) /\ OldK s₁.heap s'.heap /\ s'.os = s₁.os /\ AllBare s'.gens) (fun _ _ => False) s) :
    WalkO q loose XP YP l.row.toRowW d [] (fun f vs => PySem.call f vs) := by
  intro w s₀ s₁ mg mb G Y fa o pm cd doc dV kV ho hd hcd hD hmg hg args vals as hpre hlay hrd hwl hlo
  obtain rfl : dV = .none := Dflts.none hD hdf
  obtain rfl : kV = .none := Dflts.noKw hD
  obtain ⟨a, vs, ns, rfl, rfl, hobj, hints, hlen⟩ := script_of hn hpre hwl
  refine enter_call ?_
  refine call_cells_ret (o := o) (by rw [depth_caller]; decide) ho (fd_plain hd) G.T.nolimit hcd (hbind pm cd doc (.ref a)) (fun y hy => ?_) (fun h₁ tk F X => ?_) hco hgen hk
  · obtain rfl : y = (x, Value.ref a) := List.mem_singleton.mp hy
    rcases hx with e | e
    · exact .inl e
    · exact .inr ⟨e, cellsFrom_some _ _ _ (.inl e)⟩
  · refine wpAny_mono (body w s₀ s₁ { s₁ with heap := h₁, toks := tk } mg mb fa o pm cd doc a vs ns G Y ho (fd_plain hd) hcd hmg hobj hints hlen hg rfl F X) (fun f s' hq => ?_) (fun _ _ hq => hq)
    obtain ⟨rfl, h2, h3, h4⟩ := hq
    exact ⟨.inl ⟨.bool true, .bool true, [], rfl, fun _ => rfl, .bool true, post_true l _, fun _ => ⟨List.Pairwise.nil, fun _ hm => (nomatch hm)⟩⟩, h2, h3, h4⟩
theorem attach_call {l : OpenLaw} {n : Nat} {q : Program} {loose : List Str} {XP : (Str -> Option Value) -> Heap -> Prop} {YP : World -> Heap -> Prop} {d : DefRec}
    (hn : l.most = some n) (hdf : d.params.defaults = [])
    (call : ∀ (w : World) (s₀ s₁ : Shared) (mg mb : Str -> Option Value) (fa : Addr) (o : Obj) (pm cd doc : Value) (a : Addr) (vs : List Value) (ns : List Int),
      Ground q loose [] XP w s₀ mg mb s₁.heap -> YP w s₁.heap ->
      s₁.heap.get? fa = some o -> o.data = .func (docDef d.name d.params d.body d.scope pm cd doc) -> s₁.heap.CodeRec cd d.name -> mg d.name = some (.ref fa) ->
      s₁.heap.get? a = some { cls := .type "list", data := .seq vs.toArray } -> IntsAre vs ns -> ns.length <= n -> s₁.gens = #[] ->
      codeAny (model l.prog w) callerA (.call (.ref fa) ⟨[.ref a], []⟩) (fun r s' => r = .ok (.ret (.bool true)) /\ OldK s₁.heap s'.heap /\ s'.os = s₁.os /\ AllBare s'.gens) s₁) :
    WalkO q loose XP YP l.row.toRowW d [] (fun f vs => PySem.call f vs) := by
  intro w s₀ s₁ mg mb G Y fa o pm cd doc dV kV ho hd hcd hD hmg hg args vals as hpre hlay hrd hwl hlo
  obtain rfl : dV = .none := Dflts.none hD hdf
  obtain rfl : kV = .none := Dflts.noKw hD
  obtain ⟨a, vs, ns, rfl, rfl, hobj, hints, hlen⟩ := script_of hn hpre hwl
  refine enter_call (codeAny_mono (call w s₀ s₁ mg mb fa o pm cd doc a vs ns G Y ho (fd_plain hd) hcd hmg hobj hints hlen hg) fun r s' hq => ?_)
  obtain ⟨rfl, h2, h3, h4⟩ := hq
  exact ⟨.inl ⟨.bool true, .bool true, [], rfl, fun _ => rfl, .bool true, post_true l _, fun _ => ⟨List.Pairwise.nil, fun _ hm => (nomatch hm)⟩⟩, h2, h3, h4⟩
section
variable {prog : Program} {w : World} {A : Around} {E : Value -> Shared -> Prop} {s : Shared} {K : Frag}
def ledger (h : Heap) (L d : Addr) : List (Addr × Obj) := (List.range h.objs.size).filterMap fun a => if a = L \/ a = d then none else (h.get? a).map fun o => (a, o)
end
end Att
namespace L2
open PySem PySem.Spec PyProof.Rows
theorem vals_ints : ∀ {vs : List Value} {ns : List Int}, IntsAre vs ns -> Vals (ns.map V.int) vs
  | _, _, .nil => .nil
  | _, _, .cons n t h => .cons ⟨t, rfl⟩ (vals_ints h)
def Only (H : Hp) : Prop := ∀ b, H b = none \/ ∃ o xs, H b = some (.frz o (.lst xs))
theorem law_call {P : Program} {w : World} {K : PySem.W.Frag} {mg mb : Str -> Option Value} {CX : CXT} {k : Nat} {fa a : Addr} {fd : FuncData} {x : Str} {sp : Sp} {s₁ : Shared} {vs : List Value} {ns : List Int}
    (KX : K.In s₁.heap) (hns : s₁.heap.Ns mainGlobals mg) (hb : s₁.heap.Ns builtinsNs mb) (hbb : ∀ x : Str, x ≠ "__name__" -> mb x = bootBuiltins x) (hlim : s₁.heap.NoLimit) (hg : s₁.gens = #[])
    (ha : s₁.heap.get? a = some { cls := .type "list", data := .seq vs.toArray }) (hi : IntsAre vs ns) (hl : ns.length <= sizeLine) (hr : Room k callerA)
    (F : ∀ base : Heap, K.In base -> base.Ns mainGlobals mg -> FnOk P w K mg base CX k fa fd [x] sp) (hbind : ∀ (s : Shared) (u : Value), BindsTo s fd ⟨[u], []⟩ [(x, u)])
    (hsp : ∀ H : Hp, Only H -> SqL K H a (ns.map V.int) -> sp [.ref a] H (fun v _ => v = .bl true) fun _ _ _ => False)
    (hCX : ∀ H e s', CX [] H s₁ (fun _ _ _ => False) e s' -> False) :
    codeAny (model P w) callerA (.call (.ref fa) ⟨[.ref a], []⟩) (fun r s' => r = .ok (.ret (.bool true)) /\ OldK s₁.heap s'.heap /\ s'.os = s₁.os /\ AllBare s'.gens) s₁ := by
  have rv := vals_ints hi
  have lenV := hi.length
  have core : ∀ H : Hp, Only H -> SqL K H a (ns.map V.int) -> HOk P w H s₁.heap -> (∀ b, H b ≠ none -> b = a) -> (H a ≠ none -> K.lookup a = none) ->
      codeAny (model P w) callerA (.call (.ref fa) ⟨[.ref a], []⟩) (fun r s' => r = .ok (.ret (.bool true)) /\ OldK s₁.heap s'.heap /\ s'.os = s₁.os /\ AllBare s'.gens) s₁ := by
    intro H hO hS hok hA hK
    have base_of : ∀ {b : Addr} {o : Obj}, s₁.heap.get? b = some o -> H b = none -> (hidT s₁.heap H).get? b = some o := fun e n => hidT_get e n
    have noA : ∀ {b : Addr} {o : Obj} {es : Array DictEntry} {ep : Nat}, s₁.heap.get? b = some o -> o.data = .dict es ep -> H b = none := fun {b o es ep} e d => by
      cases q : H b with
      | none => rfl
      | some u =>
        have e' : b = a := hA b (by rw [q]; simp)
        subst e'
        rw [ha] at e; cases e
        have d' : Data.seq vs.toArray _ = Data.dict es ep := d
        cases d'
    have nsK : ∀ {b : Addr} {m : Str -> Option Value}, s₁.heap.Ns b m -> (hidT s₁.heap H).Ns b m := fun {b m} ⟨o, es, ep, e, d, r⟩ => ⟨o, es, ep, base_of e (noA e d), d, r⟩
    have hKb : K.In (hidT s₁.heap H) := fun b o e => base_of (KX b o e) (by
      cases q : H b with
      | none => rfl
      | some u =>
        have e' : b = a := hA b (by rw [q]; simp)
        subst e'
        rw [hK (by rw [q]; simp)] at e; cases e)
    have hM : Mod K mg (hidT s₁.heap H) := ⟨hKb, nsK hns, ⟨mb, nsK hb, hbb⟩, let ⟨mc, h1, h2⟩ := hlim; ⟨mc, nsK h1, h2⟩⟩
    have e0 : Env0 P w K mg (hidT s₁.heap H) callerA [] s₁ H := ⟨rfl, hM, fun b o e => of_hidT e, Nat.le_of_eq (hidT_size _ _), trivial, fun b hb => absurd (show b ∈ ([] : List Addr) from hb) (by simp), hok, .of_eq hg⟩
    refine codeAny_mono ((F _ hKb (nsK hns)).run callerA [] s₁ H ⟨[.ref a], []⟩ [.ref a] [.ref a] _ _ hr e0 (hbind s₁ (.ref a)) (.cons rfl .nil) (hsp H hO hS)) fun r s' h => ?_
    cases r with
    | error e => exact (hCX H e s' h).elim
    | ok fl =>
      cases fl with
      | next => exact False.elim h
      | brk => exact False.elim h
      | cont => exact False.elim h
      | ret u =>
        obtain ⟨v, H', os, bare, un, hok', r', q⟩ := h
        have q' : v = .bl true := q
        subst q'
        obtain rfl : u = Value.bool true := r'
        refine ⟨rfl, OldK.of_keep fun b o e => ?_, os, bare⟩
        cases q : H b with
        | none => exact un.keep b o e q (by intro z; exact absurd (show b ∈ ([] : List Addr) from z) (by simp)) (by simp)
        | some u =>
          rcases hO b with z | ⟨ob, xs, z⟩
          · rw [q] at z; cases z
          · have z2 := un.frzs b ob _ z
            obtain ⟨e1, _⟩ := hok b _ z
            obtain ⟨e2, _⟩ := hok' b _ z2
            rw [e] at e1; cases e1
            exact e2
  cases hk : K.lookup a with
  | some o =>
    have e := KX a o hk
    rw [ha] at e
    cases e
    refine core (fun _ => none) (fun _ => .inl rfl) (.inr ⟨_, vs.toArray, _, hk, rfl, rfl, rfl, by rw [List.size_toArray, lenV]; exact hl, by simpa using rv⟩) (fun b u z => by have z' : (none : Option HO) = some u := z; cases z') (fun b z => absurd rfl z) fun z => absurd rfl z
  | none =>
    refine core (fun b => if b = a then some (.frz { cls := .type "list", data := .seq vs.toArray } (.lst (ns.map V.int))) else none) (fun b => ?_) (.inl (.inr ⟨{ cls := .type "list", data := .seq vs.toArray }, if_pos rfl⟩)) (fun b u z => ?_) (fun b z => ?_) fun _ => hk
    · by_cases hb : b = a
      · exact .inr ⟨_, _, if_pos hb⟩
      · exact .inl (if_neg hb)
    · by_cases hb : b = a
      · have z' := (if_pos hb).symm.trans z
        cases z'
        subst hb
        exact ⟨ha, by rw [List.length_map]; exact hl, vs, _, rv, ha⟩
      · have z' := (if_neg hb).symm.trans z
        cases z'
    · by_cases hb : b = a
      · exact hb
      · exact absurd (if_neg hb) z
end L2
namespace L2
open PySem PySem.Spec PyProof.Rows
abbrev KOf {K : PySem.W.Frag} {h : Heap} (_ : K.In h) : PySem.W.Frag := K
theorem walk_of {l : PySem.W.OpenLaw} {n k : Nat} {q : Program} {loose : List Str} {XP : (Str -> Option Value) -> Heap -> Prop} {YP : World -> Heap -> Prop} {d : DefRec} {K : Params -> PySem.W.Frag} {CX : World -> CXT} {sp : World -> Sp} {x : Str}
    (hn : l.most = some n) (hn2 : n <= sizeLine) (hdf : d.params.defaults = []) (hr : Room k callerA)
    (hY : ∀ (w : World) (h : Heap), YP w h -> (K w.params).In h)
    (F : ∀ (w : World) (mg : Str -> Option Value) (fa : Addr) (h : Heap), (K w.params).In h -> h.Ns mainGlobals mg -> mg d.name = some (.ref fa) ->
      ∃ fd : FuncData, (∀ (s : Shared) (u : Value), BindsTo s fd ⟨[u], []⟩ [(x, u)]) /\
        ∀ base : Heap, (K w.params).In base -> base.Ns mainGlobals mg -> FnOk l.prog w (K w.params) mg base (CX w) k fa fd [x] (sp w))
    (hsp : ∀ (w : World) (H : Hp) (a : Addr) (ns : List Int), ns.length <= n -> Only H -> SqL (K w.params) H a (ns.map V.int) -> sp w [.ref a] H (fun v _ => v = .bl true) fun _ _ _ => False)
    (hCX : ∀ (w : World) (H : Hp) (s : Shared) (e : Value) (s' : Shared), CX w [] H s (fun _ _ _ => False) e s' -> False) :
    PySem.W.WalkO q loose XP YP l.row.toRowW d [] (fun f vs => PySem.call f vs) := by
  refine Att.attach_call hn hdf fun w s₀ s₁ mg mb fa o pm cd doc a vs ns G Y ho hd hcd hmg hobj hints hlen hg => ?_
  have KX := hY w _ Y
  obtain ⟨fd, hb, hF⟩ := F w mg fa _ KX G.T.g hmg
  exact law_call KX G.T.g G.T.b G.T.builtins G.T.nolimit hg hobj hints (Nat.le_trans hlen hn2) hr hF hb (fun H hO hS => hsp w H a ns hlen hO hS) fun H e s' => hCX w H s₁ e s'
end L2
namespace L2
open PySem PySem.Spec PyProof.Rows
def defArgs (s : Stmt) : Arguments := match s with
  | .FunctionDef _ a _ _ _ _ _ _ _ _ => a
  | _ => { posonlyargs := [], args := [], vararg := none, kwonlyargs := [], kw_defaults := [], kwarg := none, defaults := [] }
def defBody (s : Stmt) : List Stmt := match s with
  | .FunctionDef _ _ b _ _ _ _ _ _ _ => b
  | _ => []
def defScope (s : Stmt) : Scope := match s with
  | .FunctionDef _ _ _ _ _ _ sc _ _ _ => sc
  | _ => { kind := .function, names := [], isGenerator := false, isCoroutine := false }
abbrev CX0 : CXT := fun _ _ _ _ _ _ => False
abbrev E0 : XK := fun _ _ _ => False
theorem pass0 {X : Cx} : Passes CX0 X E0 := fun _ _ _ _ _ _ _ h => h.elim
structure Fun (K : PySem.W.Frag) (x qual : Str) (st : Stmt) (f : Addr) (fd : FuncData) : Prop where
  ex : ∃ (oc : Value) (od : Option Addr) (kV doc pm : Value) (an : Option Addr) (cdv ct : Value) (osl : Array (Option Value)),
    fd = PySem.W.fnOf x qual (defArgs st) (defBody st) (defScope st) .none kV doc pm an cdv ct /\ K.lookup f = some ⟨oc, od, .func fd, osl⟩ /\ PySem.W.codeIn K cdv qual = true
  kp : PySem.W.keepIn K (.ref f) = true
section
variable {P : Program} {w : World} {K : PySem.W.Frag} {mg : Str -> Option Value} {base : Heap}
theorem Fun.ok {x qual : Str} {st : Stmt} {f : Addr} {fd : FuncData} {N ps : List Str} {k : Nat} {sp : Sp} (F : Fun K x qual st f fd) (S : FnScope N ps (defScope st)) (len : ∀ vs H Q E, sp vs H Q E -> vs.length = ps.length)
    (hbody : ∀ (cdv : Value) (A : Around) (outer : List Env) (s : Shared) (H : Hp) (vs : List V) (Q : VK) (E : XK), Room k (A.deeper (envOfC qual (defScope st) s.heap.objs.size f cdv)) -> sp vs H Q E ->
      ∃ t, PSs (cxOf CX0 P w K mg base N qual (defScope st) f cdv A outer s H E).nox (defBody st) t /\ t { nx := fun _ H' => Q .non H', rt := Q } (start N vs) H) : FnOk P w K mg base CX0 (k + 1) f fd ps sp := by
  obtain ⟨oc, od, kV, doc, pm, an, cdv, ct, osl, rfl, lk, hcd⟩ := F.ex
  refine fn_of lk hcd S len fun A outer s H vs Q E hr hsp => ?_
  obtain ⟨t, h, q⟩ := hbody cdv A outer s H vs Q E hr hsp
  exact ⟨t, h.nox, q⟩
theorem Fun.binds {x qual : Str} {st : Stmt} {f : Addr} {fd : FuncData} {ps : List Str} (F : Fun K x qual st f fd)
    (h : ∀ (kV doc pm : Value) (an : Option Addr) (cdv ct : Value) (us : List Value), us.length = ps.length -> bindArgs (PySem.W.fnOf x qual (defArgs st) (defBody st) (defScope st) .none kV doc pm an cdv ct) ⟨us, []⟩ = pure (ps.zip us)) : Binds K fd ps [] := by
  obtain ⟨oc, od, kV, doc, pm, an, cdv, ct, osl, rfl, lk, hcd⟩ := F.ex
  exact .all (h kV doc pm an cdv ct)
theorem fun_mk {x qual : Str} {st : Stmt} {f : Addr} {oc : Value} {od an : Option Addr} {osl : Array (Option Value)} {kV doc pm cdv ct : Value} (l : K.lookup f = some ⟨oc, od, .func (PySem.W.fnOf x qual (defArgs st) (defBody st) (defScope st) .none kV doc pm an cdv ct), osl⟩)
    (c : PySem.W.codeIn K cdv qual = true) (k : PySem.W.keepIn K (.ref f) = true) : Fun K x qual st f (PySem.W.fnOf x qual (defArgs st) (defBody st) (defScope st) .none kV doc pm an cdv ct) := ⟨⟨oc, od, kV, doc, pm, an, cdv, ct, osl, rfl, l, c⟩, k⟩
end
section
variable {X : Cx}
end
theorem iteF {A B : Prop} (h : B) : if false = true then A else B := by
  rw [if_neg Bool.false_ne_true]
  exact h
theorem iteT {A B : Prop} (h : A) : if true = true then A else B := by
  rw [if_pos rfl]
  exact h
def Same (H H' : Hp) : Prop := ∀ b o, H b = some o -> H' b = some o
theorem Same.refl (H : Hp) : Same H H := fun _ _ h => h
theorem Same.trans {H H1 H2 : Hp} (a : Same H H1) (b : Same H1 H2) : Same H H2 := fun c o h => b c o (a c o h)
theorem Same.free {H H' : Hp} (e : Same H H') {l : Addr} (h : H' l = Option.none) : H l = Option.none := by
  cases q : H l with
  | none => rfl
  | some o =>
    rw [e l o q] at h
    cases h
theorem Same.seq {K : PySem.W.Frag} {H H' : Hp} {a : Addr} {xs : List V} (e : Same H H') (h : SqL K H a xs) : SqL K H' a xs := by
  rcases h with (h | ⟨o, h⟩) | h
  · exact .inl (.inl (e _ _ h))
  · exact .inl (.inr ⟨o, e _ _ h⟩)
  · exact .inr h
section
variable {κ : Type} [DecidableEq κ]
end
end L2
end
section
namespace L2
open PySem PySem.Spec PyProof.Rows
theorem codeAny_compLoop_gen {prog : Program} {w : World} {A : Around} {R : Result -> Shared -> Prop} {s : Shared} {elt target iter : Expr} {ifs : List Expr} {scope : Scope} {pos : Pos} {it acc : Value} {env : Env} (I : Nat -> Shared -> Prop)
    (turn : ∀ n s, I n s -> wpAny (model prog w) A (pyNext it) (fun r s₁ => match r with
      | none => R (.ok .next) s₁
      | some v => wpAny (model prog w) A (letOwnedTupleGo target it v) (fun _ s₁' => wpAny (model prog w) A (assign target env v) (fun _ s₂ =>
          wpAny (model prog w) A (forIn ifs true fun c r => if r = true then do let ok ← isTrue c env (eval c env); pure (ForInStep.yield ok) else pure (ForInStep.yield r)) (fun ok s₃ =>
            if ok = true then wpAny (model prog w) A (eval elt env) (fun x s₄ =>
              wpAny (model prog w) A (call (.builtin "list.append") [acc, x]) (fun _ s₅ => ∃ m, m < n /\ I m s₅) (fun _ _ => False) s₄) (fun _ _ => False) s₃
            else ∃ m, m < n /\ I m s₃) (fun _ _ => False) s₂) (fun _ _ => False) s₁') (fun _ _ => False) s₁) (fun _ _ => False) s)
    (n : Nat) (h : I n s) :
    codeAny (model prog w) A (.compLoop (.ListComp elt [⟨target, iter, ifs, 0⟩] scope pos) 0 it acc env) R s := by
  refine codeAny_loop rfl I (fun n s hI => ?_) n h
  show wpAny _ A ((compTurn (.ListComp elt [⟨target, iter, ifs, 0⟩] scope pos) 0 it acc env).onRaise (fun x => do noteFrame x env; theTreesLotGoes x)) _ _ s
  refine wpAny_noted ?_
  rw [compTurn_list]
  refine wpAny_bind (wpAny_standAt (wpAny_bind (wpAny_mono (turn n s hI) (fun r s₁ h₁ => ?_) fun _ _ h' => h'.elim)))
  cases r with
  | none => exact wpAny_pure h₁
  | some v =>
    refine wpAny_bind (wpAny_mono h₁ (fun _ s₁' h₁' => ?_) fun _ _ h' => h'.elim)
    refine wpAny_bind (wpAny_mono h₁' (fun _ s₂ h₂ => wpAny_bind (wpAny_mono h₂ (fun ok s₃ h₃ => ?_) fun _ _ h' => h'.elim)) fun _ _ h' => h'.elim)
    cases ok with
    | false => exact wpAny_pure ⟨rfl, h₃⟩
    | true =>
      exact wpAny_bind (wpAny_bind (wpAny_mono h₃ (fun x s₄ h₄ => wpAny_bind (wpAny_mono h₄ (fun _ s₅ h₅ => wpAny_pure (wpAny_pure ⟨rfl, h₅⟩)) fun _ _ h' => h'.elim)) fun _ _ h' => h'.elim))
def compCx (X : Cx) (N' : List Str) (scope : Scope) (cl : List (Str × Addr)) (C : Addr) (s₀ : Shared) (H₀ : Hp) (fp : List Addr) : Cx :=
  { X with N := N', s₀ := s₀, H₀ := H₀, env := compEnvC scope cl C X.env, outer := X.stack, stack := X.stack, ex := fp, fn := fun _ => false, pn := [], xe := fun _ _ => False }
def closL (env : Env) : List (Str × NameKind) -> List (Str × Addr) -> List (Str × Addr)
  | [], acc => acc
  | (n, k) :: r, acc => closL env r (if k == .free then (match env.cells.lookup n with | some c => (n, c) :: acc | none => acc) else acc)
theorem closureFor_eq {env : Env} {scope : Scope} (h : ∀ y ∈ scope.names, y.2 = .free -> ∃ c, env.cells.lookup y.1 = some c) : closureFor scope env = pure (closL env scope.names []) := by
  have all : ∀ (l : List (Str × NameKind)) (acc : List (Str × Addr)), (∀ y ∈ l, y.2 = .free -> ∃ c, env.cells.lookup y.1 = some c) ->
      (forIn l acc fun x r => match x with
        | (name, kind) => if kind == .free then do let c ← cellOf env name; pure (ForInStep.yield ((name, c) :: r)) else pure (ForInStep.yield r) : Sem (List (Str × Addr))) = pure (closL env l acc) := by
    intro l
    induction l with
    | nil => intro acc _; rfl
    | cons y r ih =>
      intro acc hl
      obtain ⟨n, k⟩ := y
      rw [List.forIn_cons]
      have hr : ∀ y ∈ r, y.2 = .free -> ∃ c, env.cells.lookup y.1 = some c := fun y hy => hl y (List.mem_cons_of_mem _ hy)
      unfold closL
      cases hk : (k == NameKind.free) with
      | false =>
        simp only [hk, Bool.false_eq_true, if_false, pure_bind]
        exact ih acc hr
      | true =>
        obtain ⟨c, hc⟩ := hl (n, k) List.mem_cons_self (by simpa using hk)
        have hc' : env.cells.lookup n = some c := hc
        simp only [hk, if_true, cellOf, hc', pure_bind]
        exact ih _ hr
  have e := all scope.names [] h
  exact Eq.trans (bind_pure _) e
theorem closL_sub {env : Env} : ∀ (l : List (Str × NameKind)) (acc : List (Str × Addr)), (∀ x c, acc.lookup x = some c -> env.cells.lookup x = some c) -> ∀ x c, (closL env l acc).lookup x = some c -> env.cells.lookup x = some c
  | [], _, h => h
  | (n, k) :: r, acc, h => by
    unfold closL
    refine closL_sub r _ ?_
    split
    · split
      · rename_i c hc
        intro x d hx
        rw [List.lookup_cons] at hx
        cases e : x == n with
        | true =>
          rw [e] at hx
          have e' : x = n := by simpa using e
          have e2 : c = d := Option.some.inj hx
          rw [e', ← e2]; exact hc
        | false => rw [e] at hx; exact h x d hx
      · exact h
    · exact h
theorem closL_keep {env : Env} : ∀ (l : List (Str × NameKind)) (acc : List (Str × Addr)) (x : Str), (acc.lookup x).isSome = true -> ((closL env l acc).lookup x).isSome = true
  | [], _, _, h => h
  | (n, k) :: r, acc, x, h => by
    unfold closL
    refine closL_keep r _ x ?_
    split
    · split
      · rw [List.lookup_cons]
        split
        · rfl
        · exact h
      · exact h
    · exact h
theorem closL_has {env : Env} : ∀ (l : List (Str × NameKind)) (acc : List (Str × Addr)) (x : Str) (c : Addr), (x, NameKind.free) ∈ l -> env.cells.lookup x = some c -> ((closL env l acc).lookup x).isSome = true
  | [], _, _, _, h, _ => nomatch h
  | (n, k) :: r, acc, x, c, h, hc => by
    unfold closL
    rcases List.mem_cons.mp h with e | h
    · injection e with e1 e2
      subst e1; subst e2
      refine closL_keep r _ _ ?_
      rw [if_pos (by rfl), hc]
      simp
    · exact closL_has r _ x c h hc
theorem lookup_relabel {env : Env} : ∀ (names : List (Str × NameKind)) (x : Str) (k' : NameKind),
    (names.map fun (n, k) => if (k == NameKind.free && env.scope.kind == .function && env.kindOf n == some .cell) then (n, NameKind.cell) else (n, k)).lookup x = some k' ->
    names.lookup x = some k' \/ (k' = .cell /\ names.lookup x = some .free)
  | [], _, _, h => by simp at h
  | (n, k) :: r, x, k', h => by
    have ih := @lookup_relabel env r x k'
    have h' : List.lookup x ((if (k == NameKind.free && env.scope.kind == .function && env.kindOf n == some .cell) = true then (n, NameKind.cell) else (n, k)) :: (r.map fun (n, k) => if (k == NameKind.free && env.scope.kind == .function && env.kindOf n == some .cell) then (n, NameKind.cell) else (n, k))) = some k' := h
    cases hx : x == n with
    | true =>
      by_cases hc : (k == NameKind.free && env.scope.kind == .function && env.kindOf n == some .cell) = true
      · rw [if_pos hc] at h'
        simp only [List.lookup_cons, hx] at h' ⊢
        have hk : k = .free := by
          simp only [Bool.and_eq_true, beq_iff_eq] at hc
          exact hc.1.1
        right
        exact ⟨(Option.some.inj h').symm, by rw [hk]⟩
      · rw [if_neg hc] at h'
        simp only [List.lookup_cons, hx] at h' ⊢
        exact .inl h'
    | false =>
      have h2 : List.lookup x (r.map fun (n, k) => if (k == NameKind.free && env.scope.kind == .function && env.kindOf n == some .cell) then (n, NameKind.cell) else (n, k)) = some k' := by
        by_cases hc : (k == NameKind.free && env.scope.kind == .function && env.kindOf n == some .cell) = true
        · rw [if_pos hc] at h'
          simpa only [List.lookup_cons, hx] using h'
        · rw [if_neg hc] at h'
          simpa only [List.lookup_cons, hx] using h'
      simp only [List.lookup_cons, hx]
      exact ih h2
structure CompScope (X : Cx) (scope : Scope) : Prop where
  kind : scope.kind = .function
  nocell : ∀ y ∈ scope.names, y.2 ≠ .cell
  names : ∀ y ∈ scope.names, y.2 = .local -> scope.names.lookup y.1 = some .local
  free : ∀ y ∈ scope.names, y.2 = .free -> X.env.kindOf y.1 = some .cell \/ X.env.kindOf y.1 = some .free
def fvSt (fv : List (Option Nat)) (σ : St) : St := fv.map fun o => o.bind fun j => (σ[j]?).join
section
variable {X : Cx} {pins : List (Addr × Obj)} {σ : St} {H : Hp} {s : Shared}
theorem comp_closure (I : Inv X pins σ H s) {scope : Scope} (S : CompScope X scope) : closureFor scope X.env = pure (closL X.env scope.names []) :=
  closureFor_eq fun y hy hf => I.ok.has y.1 (S.free y hy hf)
theorem comp_ok (I : Inv X pins σ H s) {N' : List Str} {scope : Scope} (S : CompScope X scope) {fp : List Addr} (hf : ∀ b ∈ fp, FpOk X pins H b) (hlt : ∀ b ∈ fp, b < s.heap.objs.size) {C : Addr} (hC : s.heap.objs.size <= C) :
    (compCx X N' scope (closL X.env scope.names []) C s H fp).Ok := by
  have sub := closL_sub (env := X.env) scope.names [] (fun x c h => by simp at h)
  refine ⟨I.ok.mod, S.kind, I.ok.glob, I.ok.blt, hC, fun x y c h1 h2 => I.ok.inj x y c (sub x c h1) (sub y c h2), fun x hx => ?_, fun x c h _ => by simp [compCx] at h, I.ok.hd, I.ok.frames, .inl rfl, fun b hb => ⟨?_, fun x c e => ?_⟩, I.bs, Nat.le_trans I.ok.bsz I.sz,
    fun b o e hb => ?_, fun b hb => ?_, I.stack, I.stkFree⟩
  · have hx' : ((relabel scope X.env).names.lookup x = some .cell \/ (relabel scope X.env).names.lookup x = some .free) := hx
    have hfr : scope.names.lookup x = some .free := by
      rcases hx' with h | h
      · rcases lookup_relabel _ _ _ h with h | ⟨_, h⟩
        · exact absurd rfl (S.nocell _ (PySem.mem_of_lookup h))
        · exact h
      · rcases lookup_relabel _ _ _ h with h | ⟨h, _⟩
        · exact h
        · cases h
    have hm := PySem.mem_of_lookup hfr
    obtain ⟨c, hc⟩ := I.ok.has x (S.free _ hm rfl)
    exact Option.isSome_iff_exists.mp (closL_has _ _ x c hm hc)
  · exact Nat.ne_of_lt (Nat.lt_of_lt_of_le (hlt b hb) hC)
  · exact (hf b hb).2.2.2.2.1 x c (sub x c e)
  · rcases (hf b hb).2.2.2.1 with z | z
    · exact I.ok.noex b o e z
    · exact absurd (Nat.lt_of_lt_of_le (Heap.lt_size e) I.ok.bsz) (Nat.not_lt.mpr z)
  · intro z
    rcases List.mem_cons.mp (I.stkSub b z) with e | e
    · exact (hf b hb).2.1 e
    · exact (hf b hb).2.2.1 e
theorem comp_start (I : Inv X pins σ H s) {N' : List Str} {scope : Scope} (S : CompScope X scope) {fp : List Addr} (hf : ∀ b ∈ fp, FpOk X pins H b) (hlt : ∀ b ∈ fp, b < s.heap.objs.size) {C : Addr} (hC : C = s.heap.objs.size) {fv : List (Option Nat)} (hlen : fv.length = N'.length)
    (hfv : ∀ (i j : Nat) x, N'[i]? = some x -> fv[i]? = some (some j) -> X.N[j]? = some x /\ (X.env.kindOf x = some .cell \/ X.env.kindOf x = some .free) /\ scope.names.lookup x = some .free) {h' : Heap} {t' : Nat} {m : Str -> Option Value} (hn : h'.Ns C m) (hk : ∀ b o, s.heap.get? b = some o -> h'.get? b = some o) :
    Inv (compCx X N' scope (closL X.env scope.names []) C s H fp) [] (fvSt fv σ) H { s with heap := h', toks := t' } := by
  have ok := comp_ok (N' := N') I S hf hlt (C := C) (Nat.le_of_eq hC.symm)
  have sub := closL_sub (env := X.env) scope.names [] (fun x c h => by simp at h)
  refine ⟨ok, rfl, I.bare, Un.kept hk, ⟨m, hn, fun i x v e1 e2 e3 => ?_⟩, fun x c e => ?_, ?_, fun x c e => I.freeC x c (sub x c e), fun p hp => ?_, I.hok.kept hk, ?_⟩
  · have e1' : N'[i]? = some x := e1
    have e2' : (fvSt fv σ)[i]? = some (some v) := e2
    unfold fvSt at e2'
    rw [List.getElem?_map] at e2'
    cases q : fv[i]? with
    | none => rw [q] at e2'; cases e2'
    | some o =>
      rw [q] at e2'
      cases o with
      | none => cases e2'
      | some j =>
        have e2'' : (σ[j]?).join = some v := by simpa using e2'
        obtain ⟨hN, hkk, hfree⟩ := hfv i j x e1' q
        have hσ : σ[j]? = some (some v) := by
          cases z : σ[j]? with
          | none => rw [z] at e2''; cases e2''
          | some w => rw [z] at e2''; cases w with
            | none => cases e2''
            | some w' => simp at e2''; rw [e2'']
        obtain ⟨m0, hn0, hl⟩ := I.loc
        obtain ⟨u, r, l⟩ := hl j x v hN hσ (.inr hkk)
        refine ⟨u, r, .inr ⟨?_, ?_⟩⟩
        · rcases e3 with z | z | z
          · have z' : (relabel scope X.env).names.lookup x = some .local := z
            rcases lookup_relabel _ _ _ z' with y | ⟨y, _⟩
            · rw [hfree] at y; cases y
            · cases y
          · exact .inl z
          · exact .inr z
        · rcases l with ⟨k, _⟩ | ⟨_, c, hc, hcell⟩
          · rcases hkk with y | y
            · rw [k] at y; cases y
            · rw [k] at y; cases y
          · obtain ⟨c', hc'⟩ := Option.isSome_iff_exists.mp (closL_has scope.names [] x c (PySem.mem_of_lookup hfree) hc)
            have e := sub x c' hc'
            rw [hc] at e
            cases e
            obtain ⟨oc, ho, hd⟩ := hcell
            exact ⟨c, hc', oc, hk _ _ ho, hd⟩
  · obtain ⟨v, oc, ho, hd⟩ := I.cell x c (sub x c e)
    exact ⟨v, oc, hk _ _ ho, hd⟩
  · exact I.hok.fresh (Nat.le_of_eq hC.symm)
  · exact absurd (show p ∈ ([] : List (Addr × Obj)) from hp) (by simp)
  · show (fvSt fv σ).length = N'.length
    unfold fvSt
    rw [List.length_map, hlen]
theorem comp_end (I : Inv X pins σ H s) {N' : List Str} {scope : Scope} {cl : List (Str × Addr)} {fp : List Addr} (hf : ∀ b ∈ fp, FpOk X pins H b) {C : Addr} (hC : s.heap.objs.size <= C) {σ' : St} {H' : Hp} {s' : Shared} {pl : List (Addr × Obj)}
    (J : Inv (compCx X N' scope cl C s H fp) pl σ' H' s') {h' : Heap} (hs : Heap.SameBut C s'.heap h') : Inv X pins σ H' { s' with heap := h' } := by
  have hCn : H' C = none := J.free
  refine I.call' (ch := fp) (s' := { s' with heap := h' }) J.os ?_ ?_ J.bare fun b hb => ⟨(hf b hb).2.2.2.1, (hf b hb).2.1, (hf b hb).2.2.2.2.1, (hf b hb).2.2.2.2.2⟩
  · have U : Un (frs X.stack) fp H H' s.heap s'.heap := J.base
    have neC : ∀ b o, s.heap.get? b = some o -> b ≠ C := fun b o e => Nat.ne_of_lt (Nat.lt_of_lt_of_le (Heap.lt_size e) hC)
    refine ⟨fun b o e n h1 h2 => ?_, fun b o e n h1 h2 => ?_, U.free, fun b o e h2 => ?_, U.tups, U.frzs, U.tbls⟩
    · exact (hs.2 b (neC b o e)).trans (U.keep b o e n h1 h2)
    · obtain ⟨sl, q⟩ := U.slot b o e n h1 h2
      exact ⟨sl, (hs.2 b (neC b o e)).trans q⟩
    · obtain ⟨o', q⟩ := U.there b o e h2
      exact ⟨o', (hs.2 b (neC b o e)).trans q⟩
  · intro b u e
    refine (J.hok b u e).stay (fun c v hc q => (hs.2 c ?_).trans q) (fun _ q => q) fun _ _ q => q
    rintro rfl
    rcases hc with z | z
    · rw [← z, hCn] at e; cases e
    · rw [hCn] at z; cases z
end
end L2
end
section
namespace L2
open PySem PySem.Spec PyProof.Rows
def PTs (X : Cx) (es : List Expr) (t : TT) : Prop :=
  ∀ (pins : List (Addr × Obj)) (s : Shared) (σ : St) (H : Hp) (Q : Bool -> Hp -> Prop), Inv X pins σ H s -> t σ H Q ->
    wpAny (model X.prog X.w) X.A (forIn es true fun c r => if r = true then do let ok ← isTrue c X.env (eval c X.env); pure (ForInStep.yield ok) else pure (ForInStep.yield r)) (TP X pins σ Q) X.xe s
def tTrue : TT := fun _ H Q => Q true H
theorem pts_nil {X : Cx} : PTs X [] tTrue := fun _ _ _ H _ I h => wpAny_tests_nil ⟨H, I, h⟩
def LcW (J : It) (g : TG) (tc : TT) (te : TE) (acc : Addr) (Q : V -> Hp -> Prop) (σ0 : St) (H1 : Hp) : Prop :=
  ∃ W : Nat -> Nat -> List V -> St -> Hp -> Prop, (∃ m, W 0 m [] σ0 (upd H1 acc (.lst []))) /\ ∀ i m ys σ' H', W i m ys σ' H' -> H' acc = some (.lst ys) /\
    ((J.stop i H' /\ Q (.ref acc) H') \/ (J.go i H' /\ ∀ x H2, J.yld i H' x H2 -> g x σ' H2 fun σ2 H3 => tc σ2 H3 fun b H4 =>
      if b = true then te σ2 H4 fun v H5 => H5 acc = some (.lst ys) /\ ys.length < sizeLine /\ ∃ m', m' < m /\ W (i + 1) m' (ys ++ [v]) σ2 (upd H5 acc (.lst (ys ++ [v])))
      else ∃ m', m' < m /\ W (i + 1) m' ys σ2 H4))
def tLC (wi : TI) (g : TG) (tc : TT) (te : TE) (fv : List (Option Nat)) : TE := fun σ H Q => wi σ H fun J H1 => ∀ acc, H1 acc = none -> LcW J g tc te acc Q (fvSt fv σ) H1
def PB (X : Cx) (N' : List Str) (scope : Scope) (tg : Expr) (ifs : List Expr) (elt : Expr) (g : TG) (tc : TT) (te : TE) : Prop :=
  ∀ (cl : List (Str × Addr)) (C : Addr) (s₀ : Shared) (H₀ : Hp) (fp : List Addr), PG (compCx X N' scope cl C s₀ H₀ fp) tg g /\ PTs (compCx X N' scope cl C s₀ H₀ fp) ifs tc /\ PE (compCx X N' scope cl C s₀ H₀ fp) elt te
structure FvOk (X : Cx) (N' : List Str) (scope : Scope) (fv : List (Option Nat)) : Prop where
  len : fv.length = N'.length
  at' : ∀ (i j : Nat) x, N'[i]? = some x -> fv[i]? = some (some j) -> X.N[j]? = some x /\ (X.env.kindOf x = some .cell \/ X.env.kindOf x = some .free) /\ scope.names.lookup x = some .free
section
variable {X : Cx} {elt tg iter : Expr} {ifs : List Expr} {scope : Scope} {pos : Pos} {N' : List Str} {fv : List (Option Nat)} {g : TG} {tc : TT} {te : TE}
theorem comp_run {pins : List (Addr × Obj)} {σ : St} {H1 : Hp} {s2 : Shared} {it : Addr} {fp : List Addr} {tn : Nat -> Heap -> Prop} {J : It} {Q : VK} {RR : Value -> Addr -> Result -> Shared -> Prop} (hc : X.calm = true) (S : CompScope X scope) (F : FvOk X N' scope fv) (hb : PB X N' scope tg ifs elt g tc te)
    (I2 : Inv X pins σ H1 s2) (T : Turn X.prog X.w X.K tg J fp it tn) (st2 : tn 0 s2.heap) (f2 : ∀ b ∈ fp, FpOk X pins H1 b) (q : ∀ acc, H1 acc = none -> LcW J g tc te acc Q (fvSt fv σ) H1)
    (hRR : ∀ (a C : Addr) (H' : Hp) (s' : Shared) (m : Str -> Option Value), s'.heap.Ns C m -> (∀ h', Heap.SameBut C s'.heap h' -> Inv X pins σ H' { s' with heap := h' }) -> FpOk X pins H' C -> Q (.ref a) H' -> RR (.ref a) C (.ok .next) s') :
    wpAny (model X.prog X.w) X.A (newList []) (fun acc s₃ => wpAny (model X.prog X.w) X.A (newFunctionEnv scope X.env.globals (closL X.env scope.names []) [] X.env.qual none .none (some X.env)) (fun cenv s₄ =>
      codeAny (model X.prog X.w) X.A (.compStart (.ListComp elt [⟨tg, iter, ifs, 0⟩] scope pos) 0 (.ref it) acc { cenv with scope := relabel scope X.env }) (RR acc cenv.locals) s₄) X.xe s₃) X.xe s2 := by
  refine wpAny_newObj_type ?_
  have hacc : H1 s2.heap.objs.size = none := I2.fresh
  have I3 : Inv X pins σ (upd H1 s2.heap.objs.size (.lst [])) { s2 with heap := s2.heap.push { cls := .type "list", data := .seq ([] : List Value).toArray } } := I2.lnew (t' := s2.toks) .nil (Nat.zero_le _)
  generalize hs3 : ({ s2 with heap := s2.heap.push { cls := .type "list", data := .seq ([] : List Value).toArray } } : Shared) = s3 at I3 ⊢
  have up : ∀ b o, s2.heap.get? b = some o -> s3.heap.get? b = some o := fun b o e => by rw [← hs3]; exact Heap.get?_push_of_some _ e
  have lt2 : ∀ b ∈ fp, b < s2.heap.objs.size := fun b hb => by
    obtain ⟨o, e, _⟩ := T.obj 0 _ st2 b hb
    exact Heap.lt_size e
  have sz3 : s2.heap.objs.size < s3.heap.objs.size := by rw [← hs3]; show _ < (s2.heap.push _).objs.size; rw [Heap.size_push]; exact Nat.lt_succ_self _
  have lt3 : ∀ b ∈ fp, b < s3.heap.objs.size := fun b hb => Nat.lt_trans (lt2 b hb) sz3
  have f3 : ∀ b ∈ fp, FpOk X pins (upd H1 s2.heap.objs.size (.lst [])) b := fun b hb => ⟨by rw [upd_ne (Nat.ne_of_lt (lt2 b hb))]; exact (f2 b hb).1, (f2 b hb).2⟩
  have st3 : tn 0 s3.heap := T.keep _ _ _ st2 fun b _ o e => up b o e
  refine wpAny_newFunctionEnv S.nocell (by intro y hy; simp at hy) (fun h4 hn4 sb4 => ?_) S.kind
  have k4 : ∀ b o, s3.heap.get? b = some o -> h4.get? b = some o := fun b o e => (sb4.2 b (Nat.ne_of_lt (Heap.lt_size e))).trans (Heap.get?_push_of_some _ e)
  have st4 : tn 0 h4 := T.keep _ _ _ st3 fun b _ o e => k4 b o e
  have I4 := comp_start I3 S f3 lt3 (C := s3.heap.objs.size) rfl F.len F.at' hn4 k4 (t' := s3.toks + ([] : List (Str × Value)).length)
  generalize hX : compCx X N' scope (closL X.env scope.names []) s3.heap.objs.size s3 (upd H1 s2.heap.objs.size (.lst [])) fp = X' at I4
  obtain ⟨bg, bt, be⟩ := hb (closL X.env scope.names []) s3.heap.objs.size s3 (upd H1 s2.heap.objs.size (.lst [])) fp
  rw [hX] at bg bt be
  have hprog : X'.prog = X.prog := by rw [← hX]; rfl
  have hw : X'.w = X.w := by rw [← hX]; rfl
  have hK : X'.K = X.K := by rw [← hX]; rfl
  have hA : X'.A = X.A := by rw [← hX]; rfl
  have hcalm : X'.calm = true := by rw [← hX]; exact hc
  have hxe : X'.xe = fun _ _ => False := by rw [← hX]; rfl
  have henv : X'.env = compEnvC scope (closL X.env scope.names []) s3.heap.objs.size X.env := by rw [← hX]; rfl
  have stat : ∀ {H' : Hp}, (∀ b ∈ fp, H' b = none) -> ∀ b ∈ fp, FpOk X' [] H' b := fun {H'} hn b hb => by
    have f := f3 b hb
    have ok := I4.ok
    refine ⟨hn b hb, (ok.exf b (by rw [← hX]; exact hb)).1, ok.exfs b (by rw [← hX]; exact hb), .inl (by rw [← hX]; exact hb), fun x c e => (ok.exf b (by rw [← hX]; exact hb)).2 x c e, fun p hp => ?_⟩
    rw [← hX] at hp
    exact absurd (show p ∈ ([] : List (Addr × Obj)) from hp) (by simp)
  obtain ⟨W, ⟨m0, w0⟩, turn⟩ := q s2.heap.objs.size hacc
  have loop : ∀ s5 : Shared, s5 = { s3 with heap := h4, toks := s3.toks + ([] : List (Str × Value)).length } ->
      codeAny (model X.prog X.w) X.A (.compLoop (.ListComp elt [⟨tg, iter, ifs, 0⟩] scope pos) 0 (.ref it) (.ref s2.heap.objs.size) (compEnvC scope (closL X.env scope.names []) s3.heap.objs.size X.env))
        (RR (.ref s2.heap.objs.size) s3.heap.objs.size) s5 := by
    intro s5 hs5
    refine codeAny_compLoop_gen (fun n s' => ∃ i ys σ' H', Inv X' [] σ' H' s' /\ tn i s'.heap /\ (∀ b ∈ fp, H' b = none) /\ W i n ys σ' H') ?_ m0 ⟨0, [], fvSt fv σ, _, hs5 ▸ I4, hs5 ▸ st4, fun b hb => (f3 b hb).1, w0⟩
    rintro n s6 ⟨i, ys, σ6, H6, I6, st6, fr6, w6⟩
    obtain ⟨ha6, turn6⟩ := turn i n ys σ6 H6 w6
    rw [← henv]
    rcases turn6 with ⟨stop, qn⟩ | ⟨go, step⟩
    · have d := T.done X' hprog hw hK hcalm i [] s6 σ6 H6 (fun _ _ => False) I6 (stat fr6) st6 stop
      rw [hA] at d
      refine thn d fun r s7 ⟨hr, I7⟩ => ?_
      subst hr
      obtain ⟨m7, hn7, _⟩ := I7.loc
      have hl : X'.env.locals = s3.heap.objs.size := by rw [henv]; rfl
      refine hRR _ _ H6 s7 m7 (hl ▸ hn7) (fun h' hs' => ?_) ?_ qn
      · rw [← hX] at I7
        exact comp_end I3 f3 (Nat.le_refl _) I7 hs'
      · exact I3.fpOk (Nat.le_refl _) (by have := I7.free; rw [hl] at this; exact this)
    · have d := T.item X' hprog hw hK hcalm i [] s6 σ6 H6 (fun _ _ => False) I6 (stat fr6) st6 go
      rw [hA] at d
      refine thn d fun r s7 ⟨u, hr, h7⟩ => ?_
      subst hr
      refine thn h7 fun _ s8 ⟨x, H8, I8, r8, y8, st8, fr8⟩ => ?_
      have I8' := I8.pinned (stat fr8) (T.obj _ _ st8)
      have dg := bg _ s8 σ6 H8 x u _ I8' r8 (step x H8 y8)
      rw [hprog, hw, hA, hxe] at dg
      refine thn dg fun _ s9 ⟨σ9, H9, I9, q9⟩ => ?_
      have dt := bt _ s9 σ9 H9 _ I9 q9
      rw [hprog, hw, hA, hxe] at dt
      refine thn dt fun b s10 ⟨H10, I10, q10⟩ => ?_
      have again : ∀ {σ7 : St} {H7 : Hp} {s7 : Shared} {ys' : List V}, Inv X' ([] ++ pinsAt fp s8.heap) σ7 H7 s7 -> (∃ m', m' < n /\ W (i + 1) m' ys' σ7 H7) -> ∃ m, m < n /\ ∃ i ys σ' H', Inv X' [] σ' H' s7 /\ tn i s7.heap /\ (∀ b ∈ fp, H' b = none) /\ W i m ys σ' H' := fun {σ7 H7 s7 ys'} I7 n7 => by
        obtain ⟨m', hm, w7⟩ := n7
        refine ⟨m', hm, i + 1, ys', σ7, H7, I7.unpinned, T.keep _ _ _ st8 fun b hb o e => (I7.pin (b, o) (List.mem_append_right _ (List.mem_append_right _ (mem_pinsAt hb e)))).1, fun b hb => ?_, w7⟩
        obtain ⟨o, e, _⟩ := T.obj _ _ st8 b hb
        exact (I7.pin (b, o) (List.mem_append_right _ (List.mem_append_right _ (mem_pinsAt hb e)))).2.1
      cases b with
      | false =>
        rw [if_neg Bool.false_ne_true] at q10 ⊢
        exact again I10 q10
      | true =>
        rw [if_pos rfl] at q10 ⊢
        have de := be _ s10 σ9 H10 _ I10 q10
        rw [hprog, hw, hA, hxe] at de
        refine thn de fun v s11 ⟨y, H11, I11, r11, ha11, hz11, n11⟩ => ?_
        have da := mt_append _ s11 σ9 H11 (.ref s2.heap.objs.size) [y] (.ref s2.heap.objs.size) [v] (fun _ H' => H' = upd H11 s2.heap.objs.size (.lst (ys ++ [y]))) I11 rfl (.cons r11 .nil) ⟨_, ys, y, rfl, rfl, ha11, hz11, rfl⟩
        rw [hprog, hw, hA, hxe] at da
        refine thn da fun _ s12 ⟨_, H12, I12, _, e12⟩ => ?_
        subst e12
        exact again I12 n11
  exact codeAny_compStart_list (loop _ rfl) (T.self _ 0 _ _ _ st4 (loop _ rfl))
theorem pe_lc {wi : TI} (hc : X.calm = true) (S : CompScope X scope) (F : FvOk X N' scope fv) (hi : PI X tg iter wi) (hb : PB X N' scope tg ifs elt g tc te) (hs : ∀ x, foldedSetIterable iter X.env x = pure x := by intro _; rfl) :
    PE X (.ListComp elt [⟨tg, iter, ifs, 0⟩] scope pos) (tLC wi g tc te fv) := by
  intro pins s σ H Q I h
  rw [eval_ListComp]
  refine wpAny_comprehension_free (use := none) rfl hs (comp_closure I S) S.kind S.names (thn (hi pins s σ H _ I h) fun x s1 h1 => thn h1 fun itv s2 h2 => ?_)
  obtain ⟨it, fp, tn, J, H1, e, I2, T, st2, f2, q⟩ := h2
  subst e
  refine comp_run (RR := fun acc C => compPost (model X.prog X.w) X.A X.xe none (EP X pins σ Q) acc C) hc S F hb I2 T st2 f2 q ?_
  intro a C H' s' m hn hI hCL hq
  exact ⟨m, hn, fun h' hs' => ⟨.ref a, H', hI h' hs', rfl, hq⟩⟩
end
end L2
end
section
namespace L2
open PySem PySem.Spec PyProof.Rows
def Its (x : Str) : It := ⟨fun i _ => i < x.cps.size, fun i H v H' => H' = H /\ ∃ c, x.cps[i]? = some c /\ v = .str ⟨#[c]⟩, fun i _ => i = x.cps.size⟩
theorem go_name {M : Model} {A : Around} {E : Value -> Shared -> Prop} {s : Shared} {n : Str} {p : Pos} {it : Value} {u : Value} {Q : Unit -> Shared -> Prop} (hQ : Q () s) : wpAny M A (letOwnedTupleGo (.Name n p) it u) Q E s := wpAny_pure hQ
theorem turn_str {P : Program} {w : World} {K : PySem.W.Frag} {n : Str} {p : Pos} {ty : String} (it : Addr) (x : Str) (t : Tok)
    (W : ∀ A : Around, A.handled = none -> Walks P w A it [it] [it] x.cps.size (SignAt x) (fun i h => h.IsStrIter it ty x t i))
    (sf : ∀ (A : Around) (i : Nat) (s : Shared) (Q : Value -> Shared -> Prop) (E : Value -> Shared -> Prop), s.heap.IsStrIter it ty x t i -> Q (.ref it) s -> wpAny (model P w) A (pyIter (.ref it)) Q E s) : Turn P w K (.Name n p) (Its x) [it] it (fun i h => h.IsStrIter it ty x t i) where
  mem := by simp
  obj := fun i h st b hb => by
    have e : b = it := by simpa using hb
    subst e
    obtain ⟨o, e, c, d⟩ := st
    exact ⟨o, e, fun v z => by rw [d] at z; cases z⟩
  keep := fun i h h' st k => by
    obtain ⟨o, e, r⟩ := st
    exact ⟨o, k it (by simp) o e, r⟩
  item := by
    intro X hP hw hK hc i pins s σ H E I hf st hg
    subst hP hw hK
    obtain ⟨f0, f1, f2, f3, f4, f5⟩ := hf it (by simp)
    refine (W X.A (I.ok.hd hc)).item i s _ _ hg st fun v h' tk hv st' kk => ?_
    obtain ⟨c, u, hcc, rfl⟩ := hv
    have I1 : Inv X pins σ H { s with heap := h', toks := tk } := I.turned (fun b o hb e => kk b o (by simpa using hb) e) f0 f1 f3 f4 f5
    exact ⟨_, rfl, go_name ⟨.str ⟨#[c]⟩, H, I1, ⟨_, rfl⟩, ⟨rfl, c, hcc, rfl⟩, st', fun b hb => (hf b hb).1⟩⟩
  done := by
    intro X hP hw hK hc i pins s σ H E I hf st hg
    subst hP hw hK
    obtain ⟨f0, f1, f2, f3, f4, f5⟩ := hf it (by simp)
    have hi : i = x.cps.size := hg
    subst hi
    exact (W X.A (I.ok.hd hc)).done s _ _ st fun h' tk kk => ⟨rfl, I.turned (fun b o hb e => kk b o (by simpa using hb) e) f0 f1 f3 f4 f5⟩
  self := sf
def iStr (te : TE) : TI := fun σ H R => te σ H fun v H1 => ∃ x, v = .str x /\ R (Its x) H1
theorem pi_str {X : Cx} {e : Expr} {te : TE} {n : Str} {p : Pos} (he : PE X e te) : PI X (.Name n p) e (iStr te) := by
  intro pins s σ H R I h
  refine thn (he pins s σ H _ I h) fun v s1 ⟨y, H1, I1, r1, q1⟩ => ?_
  obtain ⟨x, e, q⟩ := q1
  subst e
  obtain ⟨t, rfl⟩ := r1
  have fin : ∀ (ty : String) (o : Obj), (s1.heap.push o).IsStrIter s1.heap.objs.size ty x t 0 -> Turn X.prog X.w X.K (.Name n p) (Its x) [s1.heap.objs.size] s1.heap.objs.size (fun i h => h.IsStrIter s1.heap.objs.size ty x t i) ->
      PIE X pins σ (.Name n p) R (.ref s1.heap.objs.size) { s1 with heap := s1.heap.push o } := fun ty o st T => by
    refine ⟨s1.heap.objs.size, [s1.heap.objs.size], _, _, H1, rfl, I1.kept (t' := s1.toks) fun b o e => Heap.get?_push_of_some _ e, T, st, fun b hb => ?_, q⟩
    have e : b = s1.heap.objs.size := by simpa using hb
    subst e
    exact I1.fpOk (Nat.le_refl _) (I1.hok.fresh (Nat.le_refl _))
  cases ha : x.cps.all (· < 128)
  · exact wpAny_pyIter_wide ha (fin _ _ ⟨_, Heap.get?_push_size _ rfl, rfl, rfl⟩ (turn_str _ x t (fun A' hA => Walks.strWide hA _ x t) fun _ _ _ _ _ st h => wpAny_pyIter_striter_wide st h))
  · exact wpAny_pyIter_ascii ha (fin _ _ ⟨_, Heap.get?_push_size _ rfl, rfl, rfl⟩ (turn_str _ x t (fun A' hA => Walks.strAscii hA _ x t) fun _ _ _ _ _ st h => wpAny_pyIter_striter_ascii st h))
def Ite (K : PySem.W.Frag) (a : Addr) : It :=
  ⟨fun i H => ∃ xs x, SqL K H a xs /\ xs[i]? = some x, fun i H v H' => ∃ T x, v = .ref T /\ H T = none /\ H' = upd H T (.tup [.int i, x]) /\ ∀ xs, SqL K H a xs -> xs[i]? = some x, fun i H => ∃ xs, SqL K H a xs /\ xs.length <= i⟩
theorem turn_enum {P : Program} {w : World} {K : PySem.W.Frag} {elts : List Expr} {k1 : Nat} {pos : Pos} (e it a : Addr) (hei : e ≠ it) :
    Turn P w K (.Tuple elts k1 pos) (Ite K a) [e, it] e (fun i h => (∃ old, IsEnum h e it i old) /\ h.IsListIter it a i) where
  mem := by simp
  obj := fun i h st b hb => by
    obtain ⟨⟨old, he⟩, o, ho, c, d⟩ := st
    rcases List.mem_cons.mp hb with z | z
    · subst z
      exact ⟨_, he, fun v z => by cases z⟩
    · have z' : b = it := by simpa using z
      subst z'
      exact ⟨o, ho, fun v z => by rw [d] at z; cases z⟩
  keep := fun i h h' st k => by
    obtain ⟨⟨old, he⟩, hi⟩ := st
    exact ⟨⟨old, k e (by simp) _ he⟩, hi.at fun o x => k it (by simp) o x⟩
  item := by
    intro X hP hw hK hc i pins s σ H E I hf st hg
    subst hP hw hK
    obtain ⟨xs, x, hq, hx⟩ := hg
    obtain ⟨its, rv, p, hz⟩ := I.list hq
    obtain ⟨u, hu, ru⟩ := rv.get hx
    obtain ⟨⟨old, he⟩, hit⟩ := st
    obtain ⟨e0, e1, e2, e3, e4, e5⟩ := hf e (by simp)
    obtain ⟨f0, f1, f2, f3, f4, f5⟩ := hf it (by simp)
    have helt : e < s.heap.objs.size := Heap.lt_size he
    have hilt : it < s.heap.objs.size := by obtain ⟨_, x, _⟩ := hit; exact Heap.lt_size x
    refine wpAny_pyNext_enum_item he hit p.isList (x := u) (by simpa using hu) hei fun h' ho hit' hT hsz hk => ?_
    refine ⟨_, rfl, wpAny_letOwnedTupleGo_enum ho fun h2 he2 hs2 => ?_⟩
    have hs2' : Heap.SameBut e h' h2 := hs2
    have kk : ∀ b o, b ≠ e -> b ≠ it -> s.heap.get? b = some o -> h2.get? b = some o := fun b o h1 h3 q => (hs2'.2 b h1).trans (hk b o h1 h3 q)
    have hT2 : h2.get? s.heap.objs.size = some { cls := .type "tuple", data := .seq #[.int i s.toks, u] } := (hs2'.2 _ (Nat.ne_of_gt helt)).trans hT
    have nH : H s.heap.objs.size = none := I.fresh
    have I1 : Inv X pins σ (upd H s.heap.objs.size (.tup [.int i, x])) { s with heap := h2, toks := s.toks + 1 } := by
      have ne : ∀ b o, H b = some o -> b ≠ e /\ b ≠ it := fun b o q => ⟨fun z => (by rw [z, e0] at q; cases q), fun z => (by rw [z, f0] at q; cases q)⟩
      refine I.step (g' := s.gens) (d' := s.drawn) (ch := [e, it]) (fun b hb => ?_) (fun b o _ _ hc q _ => kk b o (fun z => hc (by simp [z])) (fun z => hc (by simp [z])) q) (fun b o _ _ hc q _ => ⟨o.slots, kk b o (fun z => hc (by simp [z])) (fun z => hc (by simp [z])) q⟩) (fun b o _ q n => ?_)
        (fun b o hc q => ⟨o, kk b o (fun z => hc (by simp [z])) (fun z => hc (by simp [z])) q⟩) (fun b ys q => ?_) (fun b o y q => ?_) (fun b ps q => ⟨#[], ?_⟩) (fun m hm => ?_) (fun b v q => ?_) I.bare
      · rcases List.mem_cons.mp hb with z | z
        · subst z; exact ⟨e3, e1, e4, e5⟩
        · have z' : b = it := by simpa using z
          subst z'; exact ⟨f3, f1, f4, f5⟩
      · rw [upd_ne (Nat.ne_of_lt (Heap.lt_size q))]; exact n
      · rw [upd_ne (ne_of_none q nH)]; exact q
      · rw [upd_ne (ne_of_none q nH)]; exact q
      · rw [upd_ne (ne_of_none q nH), q]; simp
      · obtain ⟨o, es, ep, q, r⟩ := hm
        exact ⟨o, es, ep, kk _ o (Ne.symm e1) (Ne.symm f1) q, r⟩
      · by_cases hb : b = s.heap.objs.size
        · subst hb
          rw [upd_same] at q
          cases q
          exact ⟨by show 2 <= sizeLine; decide, [.int i s.toks, u], .cons ⟨_, rfl⟩ (.cons ru .nil), ⟨_, hT2, rfl, _, rfl⟩⟩
        · rw [upd_ne hb] at q
          refine (I.hok b v q).stay (fun c v hc r => ?_) (fun c r => by rw [upd_ne (ne_of_none r nH)]; exact r) fun c ys r => by rw [upd_ne (ne_of_none r nH)]; exact r
          rcases hc with z | z
          · rw [z] at r ⊢; exact kk b v (ne b _ q).1 (ne b _ q).2 r
          · exact kk c v (ne c _ z).1 (ne c _ z).2 r
    refine ⟨.ref s.heap.objs.size, _, I1, rfl, ⟨_, x, rfl, nH, rfl, fun ys hy => by rw [I.list_inj hy hq]; exact hx⟩, ⟨⟨_, by simpa using he2⟩, hit'.at fun o y => (hs2'.2 it hei.symm).trans y⟩, fun b hb => ?_⟩
    rcases List.mem_cons.mp hb with z | z
    · subst z; rw [upd_ne (Nat.ne_of_lt helt)]; exact e0
    · have z' : b = it := by simpa using z
      subst z'; rw [upd_ne (Nat.ne_of_lt hilt)]; exact f0
  done := by
    intro X hP hw hK hc i pins s σ H E I hf st hg
    subst hP hw hK
    obtain ⟨xs, hq, hx⟩ := hg
    obtain ⟨its, rv, p, hz⟩ := I.list hq
    obtain ⟨⟨old, he⟩, hit⟩ := st
    obtain ⟨f0, f1, f2, f3, f4, f5⟩ := hf it (by simp)
    have hl := rv.length
    exact wpAny_pyNext_enum_end (I.ok.hd hc) he hit p.isList (by simp; omega) fun h' eb => ⟨rfl, I.turned (t' := s.toks) (fun b o hb e => eb b o hb e) f0 f1 f3 f4 f5⟩
  self := fun A i s Q E st h => by
    obtain ⟨⟨old, he⟩, _⟩ := st
    exact wpAny_pyIter_enum he h
def iEnum (K : PySem.W.Frag) (ta : TA) : TI := fun σ H R => ta σ H fun vs H1 => ∃ a, vs = [.ref a] /\ (∃ xs, SqL K H1 a xs) /\ R (Ite K a) H1
theorem pi_enum {X : Cx} {a : Expr} {ta : TA} {p pos : Pos} {elts : List Expr} {k1 : Nat} {tpos : Pos} (hg : Gl X "enumerate") (hm : X.mg "enumerate" = none) (ha : PA X [a] ta) (hs : starEach [a] X.env = [(false, eval a X.env)] := by rfl) :
    PI X (.Tuple elts k1 tpos) (.Call (.Name "enumerate" p) [a] [] pos) (iEnum X.K ta) := by
  intro pins s σ H R I h
  refine Call_ (ld_blt I hg hm PyProof.Rows.boot_enumerate (PyProof.Rows.callWith_type1 (thn (ha pos pins s σ H _ I h) fun us s1 ⟨vs, H1, I1, r1, q1⟩ => ?_) hs rfl))
  obtain ⟨l, e, ⟨xs, hq⟩, q⟩ := q1
  subst e
  obtain ⟨u, rfl, r2⟩ := vals1 r1
  cases r2
  obtain ⟨its, rv, pl, hz⟩ := I1.list hq
  refine call_enumerate_list pl.isList fun h' he hit hsz hk => ?_
  have I2 : Inv X pins σ H1 { s1 with heap := h' } := I1.kept (t' := s1.toks) hk
  refine wpAny_pyIter_enum he ?_
  refine ⟨s1.heap.objs.size + 1, [s1.heap.objs.size + 1, s1.heap.objs.size], _, _, H1, rfl, I2, turn_enum _ _ l (Nat.succ_ne_self _), ⟨⟨_, he⟩, hit⟩, fun b hb => ?_, q⟩
  rcases List.mem_cons.mp hb with z | z
  · subst z; exact I1.fpOk (Nat.le_succ _) (I1.hok.fresh (Nat.le_succ _))
  · have z' : b = s1.heap.objs.size := by simpa using z
    subst z'; exact I1.fpOk (Nat.le_refl _) (I1.hok.fresh (Nat.le_refl _))
end L2
end
section
namespace L2
open PySem PySem.Spec PyProof.Rows
inductive D where
  | non | bl (b : Bool) | int (i : Int) | str (x : Str) | tup (l : List D) | lst (l : List D) | scr (ns : List Int)
  | dk (l : List (Key × D)) | dt (l : List (List Key × D)) | ins (c : Str) (fs : List (Str × D)) | ty (n : String)
def keyD : Key -> D
  | .inl i => .int i
  | .inr x => .str x
structure Cn where
  cls : Str -> Option Addr
  self : Option Addr := none
mutual
inductive Rep (Γ : Cn) (K : PySem.W.Frag) (G : Hp) : V -> D -> Prop where
  | non : Rep Γ K G .non .non
  | bl (b : Bool) : Rep Γ K G (.bl b) (.bl b)
  | int (i : Int) : Rep Γ K G (.int i) (.int i)
  | str (x : Str) : Rep Γ K G (.str x) (.str x)
  | ty (n : String) : Rep Γ K G (.ty n) (.ty n)
  | tup {a : Addr} {vs : List V} {ds : List D} : G a = some (.tup vs) -> Reps Γ K G vs ds -> Rep Γ K G (.ref a) (.tup ds)
  | lst {a : Addr} {vs : List V} {ds : List D} : G a = some (.lst vs) -> Reps Γ K G vs ds -> Rep Γ K G (.ref a) (.lst ds)
  | scr {a : Addr} {ns : List Int} : SqL K G a (ns.map V.int) -> Rep Γ K G (.ref a) (.scr ns)
  | dk {a : Addr} {us : List (Key × V)} {kvs : List (Key × D)} : G a = some (.dK us) -> us.map (·.1) = kvs.map (·.1) -> Reps Γ K G (us.map (·.2)) (kvs.map (·.2)) -> Rep Γ K G (.ref a) (.dk kvs)
  | dt {a : Addr} {us : List (List Key × V)} {kvs : List (List Key × D)} : G a = some (.dT us) -> us.map (·.1) = kvs.map (·.1) -> Reps Γ K G (us.map (·.2)) (kvs.map (·.2)) -> Rep Γ K G (.ref a) (.dt kvs)
  | ins {a C dx : Addr} {c : Str} {us : List (Str × V)} {fs : List (Str × D)} : G a = some (.ins C dx us) -> Γ.cls c = some C -> us.map (·.1) = fs.map (·.1) -> Reps Γ K G (us.map (·.2)) (fs.map (·.2)) -> Rep Γ K G (.ref a) (.ins c fs)
inductive Reps (Γ : Cn) (K : PySem.W.Frag) (G : Hp) : List V -> List D -> Prop where
  | nil : Reps Γ K G [] []
  | cons {v : V} {d : D} {vs : List V} {ds : List D} : Rep Γ K G v d -> Reps Γ K G vs ds -> Reps Γ K G (v :: vs) (d :: ds)
end
section
variable {Γ : Cn} {K : PySem.W.Frag} {G G' G1 H H' H1 H2 G2 : Hp}
mutual
theorem Rep.mono : ∀ {v : V} {d : D}, Rep Γ K G v d -> Same G G' -> Rep Γ K G' v d
  | _, _, .non, _ => .non
  | _, _, .bl b, _ => .bl b
  | _, _, .int i, _ => .int i
  | _, _, .str x, _ => .str x
  | _, _, .ty x, _ => .ty x
  | _, _, .tup h r, s => .tup (s _ _ h) (r.mono s)
  | _, _, .lst h r, s => .lst (s _ _ h) (r.mono s)
  | _, _, .scr h, s => .scr (s.seq h)
  | _, _, .dk h e r, s => .dk (s _ _ h) e (r.mono s)
  | _, _, .dt h e r, s => .dt (s _ _ h) e (r.mono s)
  | _, _, .ins h c e r, s => .ins (s _ _ h) c e (r.mono s)
theorem Reps.mono : ∀ {vs : List V} {ds : List D}, Reps Γ K G vs ds -> Same G G' -> Reps Γ K G' vs ds
  | _, _, .nil, _ => .nil
  | _, _, .cons h r, s => .cons (h.mono s) (r.mono s)
end
mutual
theorem Rep.re {Γ' : Cn} (hc : Γ'.cls = Γ.cls) : ∀ {v : V} {d : D}, Rep Γ K G v d -> Rep Γ' K G v d
  | _, _, .non => .non
  | _, _, .bl b => .bl b
  | _, _, .int i => .int i
  | _, _, .str x => .str x
  | _, _, .ty x => .ty x
  | _, _, .tup h r => .tup h (r.re hc)
  | _, _, .lst h r => .lst h (r.re hc)
  | _, _, .scr h => .scr h
  | _, _, .dk h e r => .dk h e (r.re hc)
  | _, _, .dt h e r => .dt h e (r.re hc)
  | _, _, .ins h c e r => .ins h (by rw [hc]; exact c) e (r.re hc)
theorem Reps.re {Γ' : Cn} (hc : Γ'.cls = Γ.cls) : ∀ {vs : List V} {ds : List D}, Reps Γ K G vs ds -> Reps Γ' K G vs ds
  | _, _, .nil => .nil
  | _, _, .cons h r => .cons (h.re hc) (r.re hc)
end
theorem Reps.length : ∀ {vs : List V} {ds : List D}, Reps Γ K G vs ds -> vs.length = ds.length
  | _, _, .nil => rfl
  | _, _, .cons _ r => by rw [List.length_cons, List.length_cons, r.length]
theorem Reps.get : ∀ {vs : List V} {ds : List D} {i : Nat} {d : D}, Reps Γ K G vs ds -> ds[i]? = some d -> ∃ v, vs[i]? = some v /\ Rep Γ K G v d
  | _, _, _, _, .nil, e => by simp at e
  | _, _, 0, _, .cons r _, e => by simp at e; subst e; exact ⟨_, rfl, r⟩
  | _, _, i + 1, d, .cons _ t, e => by
    obtain ⟨u, h1, h2⟩ := Reps.get (i := i) (d := d) t (by simpa using e)
    exact ⟨u, by simpa using h1, h2⟩
theorem Reps.append : ∀ {vs ws : List V} {ds es : List D}, Reps Γ K G vs ds -> Reps Γ K G ws es -> Reps Γ K G (vs ++ ws) (ds ++ es)
  | _, _, _, _, .nil, s => s
  | _, _, _, _, .cons r t, s => .cons r (t.append s)
theorem Reps.take : ∀ {vs : List V} {ds : List D} (n : Nat), Reps Γ K G vs ds -> Reps Γ K G (vs.take n) (ds.take n)
  | _, _, 0, _ => .nil
  | _, _, _ + 1, .nil => .nil
  | _, _, n + 1, .cons r t => .cons r (t.take n)
theorem Reps.drop : ∀ {vs : List V} {ds : List D} (n : Nat), Reps Γ K G vs ds -> Reps Γ K G (vs.drop n) (ds.drop n)
  | _, _, 0, r => r
  | _, _, _ + 1, .nil => .nil
  | _, _, n + 1, .cons _ t => t.drop n
theorem Reps.ints : ∀ (ns : List Int), Reps Γ K G (ns.map V.int) (ns.map D.int)
  | [] => .nil
  | n :: r => .cons (.int n) (Reps.ints r)
theorem Reps.rep {vs : List V} {ds : List D} (h : Reps Γ K G vs ds) : ∀ k : Nat, Reps Γ K G (List.replicate k vs).flatten (List.replicate k ds).flatten
  | 0 => .nil
  | k + 1 => by
    rw [List.replicate_succ, List.replicate_succ, List.flatten_cons, List.flatten_cons]
    exact h.append (Reps.rep h k)
structure Step (G H G' H' : Hp) : Prop where
  hh : Same H H'
  gg : Same G G'
  gh : Same G' H'
  out : ∀ a o, H a = some o -> G' a = G a
theorem Step.refl (gh : Same G H) : Step G H G H := ⟨.refl _, .refl _, gh, fun _ _ _ => rfl⟩
theorem Step.trans (a : Step G H G1 H1) (b : Step G1 H1 G2 H2) : Step G H G2 H2 :=
  ⟨a.hh.trans b.hh, a.gg.trans b.gg, b.gh, fun c o e => (b.out c o (a.hh c o e)).trans (a.out c o e)⟩
theorem Step.new {p : Addr} {o : HO} (gh : Same G H) (hp : H p = none) : Step G H (upd G p o) (upd H p o) := by
  have gp : G p = none := gh.free hp
  refine ⟨fun b u e => ?_, fun b u e => ?_, fun b u e => ?_, fun b u e => ?_⟩
  · rw [upd_ne (ne_of_none e hp)]; exact e
  · rw [upd_ne (ne_of_none e gp)]; exact e
  · by_cases hb : b = p
    · subst hb; rw [upd_same] at e ⊢; exact e
    · rw [upd_ne hb] at e ⊢; exact gh b u e
  · rw [upd_ne (ne_of_none e hp)]
theorem Step.newOwn {p : Addr} {o : HO} (gh : Same G H) (hp : H p = none) : Step G H G (upd H p o) := by
  refine ⟨fun b u e => ?_, .refl _, fun b u e => ?_, fun _ _ _ => rfl⟩
  · rw [upd_ne (ne_of_none e hp)]; exact e
  · rw [upd_ne (ne_of_none (gh b u e) hp)]; exact gh b u e
end
inductive Slot where
  | sh (d : D)
  | own (ds : List D)
  | obj (c : Str) (fs : List (Str × D))
  | objd (c : Str) (fs : List (Str × D)) (n : Str) (kvs : List (Key × D))
  | odk (kvs : List (Key × D))
  | odt (kvs : List (List Key × D))
  | tlo (ds es : List D)
  | pin (a : Addr)
abbrev Env' := List (Option Slot)
def flatD : D -> Bool
  | .non => true
  | .bl _ => true
  | .int _ => true
  | .str _ => true
  | _ => false
inductive SR (Γ : Cn) (K : PySem.W.Frag) (H₀ G H : Hp) : Slot -> V -> List Addr -> Prop where
  | sh {d : D} {v : V} : Rep Γ K G v d -> SR Γ K H₀ G H (.sh d) v []
  | own {a : Addr} {vs : List V} {ds : List D} : H₀ a = none -> G a = none -> H a = some (.lst vs) -> Reps Γ K G vs ds -> SR Γ K H₀ G H (.own ds) (.ref a) [a]
  | obj {c : Str} {a C dx : Addr} {vs : List (Str × V)} {fs : List (Str × D)} : Γ.cls c = some C -> H₀ a = none -> G a = none -> H a = some (.ins C dx vs) -> vs.map (·.1) = fs.map (·.1) -> Reps Γ K G (vs.map (·.2)) (fs.map (·.2)) -> Γ.self = some a -> SR Γ K H₀ G H (.obj c fs) (.ref a) [a]
  | objd {c n : Str} {a C dx p : Addr} {vs : List (Str × V)} {fs : List (Str × D)} {us : List (Key × V)} {kvs : List (Key × D)} : Γ.cls c = some C -> H₀ a = none -> G a = none -> H a = some (.ins C dx (vs ++ [(n, .ref p)])) -> vs.map (·.1) = fs.map (·.1) -> Reps Γ K G (vs.map (·.2)) (fs.map (·.2)) ->
      H₀ p = none -> G p = none -> H p = some (.dK us) -> us.map (·.1) = kvs.map (·.1) -> Reps Γ K G (us.map (·.2)) (kvs.map (·.2)) -> Γ.self = some a -> SR Γ K H₀ G H (.objd c fs n kvs) (.ref a) [a, p]
  | odk {a : Addr} {us : List (Key × V)} {kvs : List (Key × D)} : H₀ a = none -> G a = none -> H a = some (.dK us) -> us.map (·.1) = kvs.map (·.1) -> Reps Γ K G (us.map (·.2)) (kvs.map (·.2)) -> SR Γ K H₀ G H (.odk kvs) (.ref a) [a]
  | odt {a : Addr} {us : List (List Key × V)} {kvs : List (List Key × D)} : H₀ a = none -> G a = none -> H a = some (.dT us) -> us.map (·.1) = kvs.map (·.1) -> Reps Γ K G (us.map (·.2)) (kvs.map (·.2)) -> SR Γ K H₀ G H (.odt kvs) (.ref a) [a]
  | tlo {t p : Addr} {vs ws : List V} {ds es : List D} : H₀ p = none -> G p = none -> H p = some (.lst ws) -> G t = some (.tup (vs ++ [.ref p])) -> Reps Γ K G vs ds -> Reps Γ K G ws es -> SR Γ K H₀ G H (.tlo ds es) (.ref t) [p]
  | pin (a : Addr) : SR Γ K H₀ G H (.pin a) (.ref a) []
section
variable {Γ : Cn} {K : PySem.W.Frag} {H₀ G G' H H' : Hp} {s : Slot} {v : V} {fp : List Addr}
theorem SR.fpt (r : SR Γ K H₀ G H s v fp) : ∀ b ∈ fp, H₀ b = none /\ G b = none /\ ∃ o, H b = some o := by
  cases r with
  | sh r => intro b hb; cases hb
  | own h1 h2 h3 _ => intro b hb; rw [List.mem_singleton.mp hb]; exact ⟨h1, h2, _, h3⟩
  | obj _ h1 h2 h3 _ _ _ => intro b hb; rw [List.mem_singleton.mp hb]; exact ⟨h1, h2, _, h3⟩
  | objd _ h1 h2 h3 _ _ q1 q2 q3 _ _ _ =>
    intro b hb
    rcases List.mem_cons.mp hb with rfl | hb
    · exact ⟨h1, h2, _, h3⟩
    · rw [List.mem_singleton.mp hb]; exact ⟨q1, q2, _, q3⟩
  | odk h1 h2 h3 _ _ => intro b hb; rw [List.mem_singleton.mp hb]; exact ⟨h1, h2, _, h3⟩
  | odt h1 h2 h3 _ _ => intro b hb; rw [List.mem_singleton.mp hb]; exact ⟨h1, h2, _, h3⟩
  | tlo h1 h2 h3 _ _ _ => intro b hb; rw [List.mem_singleton.mp hb]; exact ⟨h1, h2, _, h3⟩
  | pin a => intro b hb; cases hb
theorem SR.stay (r : SR Γ K H₀ G H s v fp) (gg : Same G G') (hg : ∀ b ∈ fp, G' b = none) (hh : ∀ b ∈ fp, H' b = H b) : SR Γ K H₀ G' H' s v fp := by
  cases r with
  | sh r => exact .sh (r.mono gg)
  | own h1 h2 h3 h4 => exact .own h1 (hg _ (List.mem_singleton.mpr rfl)) ((hh _ (List.mem_singleton.mpr rfl)).trans h3) (h4.mono gg)
  | obj c h1 h2 h3 h4 h5 hs => exact .obj c h1 (hg _ (List.mem_singleton.mpr rfl)) ((hh _ (List.mem_singleton.mpr rfl)).trans h3) h4 (h5.mono gg) hs
  | objd c h1 h2 h3 h4 h5 q1 q2 q3 q4 q5 hs =>
    exact .objd c h1 (hg _ List.mem_cons_self) ((hh _ List.mem_cons_self).trans h3) h4 (h5.mono gg) q1 (hg _ (List.mem_cons_of_mem _ List.mem_cons_self)) ((hh _ (List.mem_cons_of_mem _ List.mem_cons_self)).trans q3) q4 (q5.mono gg) hs
  | odk h1 h2 h3 h4 h5 => exact .odk h1 (hg _ (List.mem_singleton.mpr rfl)) ((hh _ (List.mem_singleton.mpr rfl)).trans h3) h4 (h5.mono gg)
  | odt h1 h2 h3 h4 h5 => exact .odt h1 (hg _ (List.mem_singleton.mpr rfl)) ((hh _ (List.mem_singleton.mpr rfl)).trans h3) h4 (h5.mono gg)
  | pin a => exact .pin a
  | tlo h1 h2 h3 h4 h5 h6 => exact .tlo h1 (hg _ (List.mem_singleton.mpr rfl)) ((hh _ (List.mem_singleton.mpr rfl)).trans h3) (gg _ _ h4) (h5.mono gg) (h6.mono gg)
theorem SR.stepS (r : SR Γ K H₀ G H s v fp) (t : Step G H G' H') : SR Γ K H₀ G' H' s v fp := r.stay t.gg (fun b hb => by
  obtain ⟨_, h2, o, h3⟩ := r.fpt b hb
  exact (t.out b o h3).trans h2) (fun b hb => by
  obtain ⟨_, _, o, h3⟩ := r.fpt b hb
  rw [h3]; exact t.hh b o h3)
end
theorem SR.uniq {Γ : Cn} {K : PySem.W.Frag} {H₀ G H : Hp} {s : Slot} {v : V} {fp fq : List Addr} (r : SR Γ K H₀ G H s v fp) (q : SR Γ K H₀ G H s v fq) : fp = fq := by
  cases r with
  | sh r => cases q; rfl
  | own h1 h2 h3 _ => cases q; rfl
  | obj _ h1 h2 h3 _ _ _ => cases q; rfl
  | objd _ h1 h2 h3 _ _ q1 q2 q3 _ _ _ =>
    cases q with
    | objd _ _ _ k3 _ _ _ _ _ _ _ _ =>
      rw [h3] at k3
      have z := (HO.ins.inj (Option.some.inj k3)).2.2
      have z2 := (List.append_inj' z rfl).2
      cases z2
      rfl
  | odk h1 h2 h3 _ _ => cases q; rfl
  | odt h1 h2 h3 _ _ => cases q; rfl
  | pin a => cases q; rfl
  | tlo _ _ _ h4 _ _ =>
    cases q with
    | tlo _ _ _ k4 _ _ =>
      rw [h4] at k4
      have z := HO.tup.inj (Option.some.inj k4)
      have z2 := (List.append_inj' z rfl).2
      cases z2
      rfl
structure EnvRel (Γ : Cn) (K : PySem.W.Frag) (H₀ G H : Hp) (ρ : Env') (σ : St) : Prop where
  len : ρ.length = σ.length
  sl : ∃ fps : Nat -> List Addr, (∀ (i : Nat) s, ρ[i]? = some (some s) -> ∃ v, σ[i]? = some (some v) /\ SR Γ K H₀ G H s v (fps i)) /\
    ∀ (i j : Nat) s t, i ≠ j -> ρ[i]? = some (some s) -> ρ[j]? = some (some t) -> ∀ b ∈ fps i, b ∉ fps j
structure At (Γ : Cn) (K : PySem.W.Frag) (G₀ H₀ G H : Hp) (ρ : Env') (σ : St) : Prop where
  st : Step G₀ H₀ G H
  env : EnvRel Γ K H₀ G H ρ σ
def NoOwn (ρ : Env') : Prop := ∀ (i : Nat) s, ρ[i]? = some (some s) -> ∃ d, s = .sh d
section
variable {Γ : Cn} {K : PySem.W.Frag} {G₀ H₀ G G' H H' : Hp} {ρ : Env'} {σ : St}
theorem EnvRel.ofSh (len : ρ.length = σ.length) (no : NoOwn ρ) (sh : ∀ (i : Nat) d, ρ[i]? = some (some (.sh d)) -> ∃ v, σ[i]? = some (some v) /\ Rep Γ K G v d) : EnvRel Γ K H₀ G H ρ σ :=
  ⟨len, fun _ => [], fun i s e => by
    obtain ⟨d, rfl⟩ := no i s e
    obtain ⟨v, h1, h2⟩ := sh i d e
    exact ⟨v, h1, .sh h2⟩, fun _ _ _ _ _ _ _ b hb => by cases hb⟩
theorem EnvRel.sh (E : EnvRel Γ K H₀ G H ρ σ) (i : Nat) (d : D) (e : ρ[i]? = some (some (.sh d))) : ∃ v, σ[i]? = some (some v) /\ Rep Γ K G v d := by
  obtain ⟨fps, h, _⟩ := E.sl
  obtain ⟨v, h1, h2⟩ := h i _ e
  generalize fps i = fp at h2
  cases h2 with
  | sh r => exact ⟨v, h1, r⟩
theorem EnvRel.own (E : EnvRel Γ K H₀ G H ρ σ) (i : Nat) (ds : List D) (e : ρ[i]? = some (some (.own ds))) : ∃ a vs, σ[i]? = some (some (.ref a)) /\ H₀ a = none /\ G a = none /\ H a = some (.lst vs) /\ Reps Γ K G vs ds := by
  obtain ⟨fps, h, _⟩ := E.sl
  obtain ⟨v, h1, h2⟩ := h i _ e
  generalize fps i = fp at h2
  cases h2 with
  | own q1 q2 q3 q4 => exact ⟨_, _, h1, q1, q2, q3, q4⟩
theorem At.gh (A : At Γ K G₀ H₀ G H ρ σ) : Same G H := A.st.gh
theorem At.step (A : At Γ K G₀ H₀ G H ρ σ) (s : Step G H G' H') : At Γ K G₀ H₀ G' H' ρ σ := by
  obtain ⟨fps, h, ap⟩ := A.env.sl
  exact ⟨A.st.trans s, A.env.len, fps, fun i t e => by
    obtain ⟨v, h1, h2⟩ := h i t e
    exact ⟨v, h1, h2.stepS s⟩, ap⟩
theorem At.put (A : At Γ K G₀ H₀ G H ρ σ) {i : Nat} {s' : Slot} {v' : V} {fp fp' : List Addr}
    (hfp : fp = [] \/ ∃ s v, ρ[i]? = some (some s) /\ σ[i]? = some (some v) /\ SR Γ K H₀ G H s v fp)
    (hH : ∀ b o, H b = some o -> b ∉ fp -> H' b = some o) (hS : SR Γ K H₀ G' H' s' v' fp') (hn : ∀ b ∈ fp', b ∈ fp \/ H b = none)
    (gg : Same G G') (gh : Same G' H') (out : ∀ b o, H b = some o -> b ∉ fp -> G' b = G b) (out2 : ∀ b ∈ fp, H₀ b = none) : At Γ K G₀ H₀ G' H' (ρ.set i (some s')) (σ.set i (some v')) := by
  obtain ⟨fps, h, ap⟩ := A.env.sl
  have hl := A.env.len
  have old : ∀ b ∈ fp, ∀ j t, j ≠ i -> ρ[j]? = some (some t) -> b ∉ fps j := fun b hb j t hj e => by
    rcases hfp with rfl | ⟨s, v, h1, h2, h3⟩
    · cases hb
    · obtain ⟨v2, h4, h5⟩ := h i s h1
      rw [h2] at h4
      cases h4
      have efp : fp = fps i := h3.uniq h5
      subst efp
      exact ap i j s t (Ne.symm hj) h1 e b hb
  have slj : ∀ (j : Nat) t, j ≠ i -> ρ[j]? = some (some t) -> ∃ v, σ[j]? = some (some v) /\ SR Γ K H₀ G' H' t v (fps j) := fun j t hj e => by
    obtain ⟨v, h1, h2⟩ := h j t e
    refine ⟨v, h1, h2.stay gg (fun b hb => ?_) (fun b hb => ?_)⟩
    · obtain ⟨_, q2, o, q3⟩ := h2.fpt b hb
      exact (out b o q3 fun z => old b z j t hj e hb).trans q2
    · obtain ⟨_, _, o, q3⟩ := h2.fpt b hb
      rw [q3]; exact hH b o q3 fun z => old b z j t hj e hb
  have no2 : ∀ b o, H₀ b = some o -> b ∉ fp := fun b o e z => by rw [out2 b z] at e; cases e
  have hst : Step G₀ H₀ G' H' := ⟨fun b o e => hH b o (A.st.hh b o e) (no2 b o e), A.st.gg.trans gg, gh, fun b o e => (out b o (A.st.hh b o e) (no2 b o e)).trans (A.st.out b o e)⟩
  refine ⟨hst, by simp [hl], fun j => if j = i then fp' else fps j, fun j t e => ?_, fun j k t u hjk e1 e2 b hb => ?_⟩
  · by_cases hj : j = i
    · subst hj
      have hlt : j < ρ.length := by
        rcases Nat.lt_or_ge j ρ.length with q | q
        · exact q
        · rw [List.getElem?_eq_none (by simp; omega)] at e; cases e
      rw [List.getElem?_set_self hlt] at e
      cases e
      show ∃ v, _ /\ SR _ _ _ _ _ _ v (if j = j then fp' else fps j)
      rw [if_pos rfl]
      exact ⟨v', by rw [List.getElem?_set_self (by omega)], hS⟩
    · rw [List.getElem?_set_ne (Ne.symm hj)] at e ⊢
      show ∃ v, _ /\ SR _ _ _ _ _ _ v (if j = i then fp' else fps j)
      rw [if_neg hj]
      exact slj j t hj e
  · have cross : ∀ {k : Nat} {u : Slot}, k ≠ i -> ρ[k]? = some (some u) -> ∀ b ∈ fp', b ∉ fps k := fun {k u} hk e b hb hb2 => by
      rcases hn b hb with z | z
      · exact old b z k u hk e hb2
      · obtain ⟨v, _, q⟩ := h k u e
        obtain ⟨_, _, o, q3⟩ := q.fpt b hb2
        rw [z] at q3; cases q3
    replace hb : b ∈ (if j = i then fp' else fps j) := hb
    show b ∉ (if k = i then fp' else fps k)
    by_cases hj : j = i
    · subst hj
      have hk : k ≠ j := Ne.symm hjk
      rw [if_pos rfl] at hb
      rw [if_neg hk]
      rw [List.getElem?_set_ne hjk] at e2
      exact cross hk e2 b hb
    · rw [if_neg hj] at hb
      rw [List.getElem?_set_ne (Ne.symm hj)] at e1
      by_cases hk : k = i
      · subst hk
        rw [if_pos rfl]
        exact fun z => cross hj e1 b z hb
      · rw [if_neg hk]
        rw [List.getElem?_set_ne (Ne.symm hk)] at e2
        exact ap j k t u hjk e1 e2 b hb
theorem At.setSh (A : At Γ K G₀ H₀ G H ρ σ) {i : Nat} {v : V} {d : D} (r : Rep Γ K G v d) : At Γ K G₀ H₀ G H (ρ.set i (some (.sh d))) (σ.set i (some v)) :=
  A.put (fp := []) (fp' := []) (.inl rfl) (fun b o e _ => e) (.sh r) (fun b hb => by cases hb) (.refl _) A.gh (fun _ _ _ _ => rfl) (fun b hb => by cases hb)
theorem At.setOwn (A : At Γ K G₀ H₀ G H ρ σ) {i : Nat} {a : Addr} {vs : List V} {ds : List D} (ha : H a = none) (r : Reps Γ K G vs ds) : At Γ K G₀ H₀ G (upd H a (.lst vs)) (ρ.set i (some (.own ds))) (σ.set i (some (.ref a))) := by
  have h0 : H₀ a = none := A.st.hh.free ha
  have hg : G a = none := A.gh.free ha
  refine A.put (fp := []) (fp' := [a]) (.inl rfl) (fun b o e _ => by rw [upd_ne (ne_of_none e ha)]; exact e) (.own h0 hg upd_same r) (fun b hb => .inr (by rw [List.mem_singleton.mp hb]; exact ha)) (.refl _) (fun b o e => ?_) (fun _ _ _ _ => rfl) (fun b hb => by cases hb)
  rw [upd_ne (ne_of_none e hg)]; exact A.gh b o e
theorem set_get_self {α : Type} {l : List α} {i : Nat} {x : α} (h : l[i]? = some x) : l.set i x = l := by
  apply List.ext_getElem?
  intro j
  by_cases hj : j = i
  · subst hj
    rw [List.getElem?_set_self (List.getElem?_eq_some_iff.mp h).1, h]
  · rw [List.getElem?_set_ne (Ne.symm hj)]
theorem At.ch (A : At Γ K G₀ H₀ G H ρ σ) {i : Nat} {s s' : Slot} {v : V} {fp fp' : List Addr} (hi : ρ[i]? = some (some s)) (hv : σ[i]? = some (some v)) (hs : SR Γ K H₀ G H s v fp)
    (hH : ∀ b o, H b = some o -> b ∉ fp -> H' b = some o) (hS : SR Γ K H₀ G' H' s' v fp') (hn : ∀ b ∈ fp', b ∈ fp \/ H b = none)
    (gg : Same G G') (gh : Same G' H') (out : ∀ b o, H b = some o -> b ∉ fp -> G' b = G b) : At Γ K G₀ H₀ G' H' (ρ.set i (some s')) σ := by
  have := A.put (i := i) (.inr ⟨s, v, hi, hv, hs⟩) hH hS hn gg gh out fun b hb => (hs.fpt b hb).1
  rwa [set_get_self hv] at this
theorem At.get (A : At Γ K G₀ H₀ G H ρ σ) {i : Nat} {s : Slot} (hi : ρ[i]? = some (some s)) : ∃ v fp, σ[i]? = some (some v) /\ SR Γ K H₀ G H s v fp := by
  obtain ⟨fps, h, _⟩ := A.env.sl
  obtain ⟨v, h1, h2⟩ := h i s hi
  exact ⟨v, _, h1, h2⟩
theorem At.chOwn (A : At Γ K G₀ H₀ G H ρ σ) {i : Nat} {a : Addr} {ds es : List D} {ws : List V} (hi : ρ[i]? = some (some (.own ds))) (ha : σ[i]? = some (some (.ref a))) (r : Reps Γ K G ws es) : At Γ K G₀ H₀ G (upd H a (.lst ws)) (ρ.set i (some (.own es))) σ := by
  obtain ⟨v, fp, h1, h2⟩ := A.get hi
  rw [ha] at h1
  cases h1
  cases h2 with
  | own q1 q2 q3 q4 =>
    refine A.ch hi ha (.own q1 q2 q3 q4) (fun b o e hb => ?_) (.own q1 q2 upd_same r) (fun b hb => .inl hb) (.refl _) (fun b o e => ?_) (fun _ _ _ _ => rfl)
    · rw [upd_ne (fun z => hb (List.mem_singleton.mpr z))]; exact e
    · rw [upd_ne (ne_of_none e q2)]; exact A.gh b o e
theorem At.freeze (A : At Γ K G₀ H₀ G H ρ σ) {i : Nat} {ds : List D} (hi : ρ[i]? = some (some (.own ds))) : ∃ G', Same G G' /\ At Γ K G₀ H₀ G' H (ρ.set i (some (.sh (.lst ds)))) σ := by
  obtain ⟨v, fp, h1, h2⟩ := A.get hi
  cases h2 with
  | own q1 q2 q3 q4 =>
    rename_i a vs
    have sm : Same G (upd G a (.lst vs)) := fun b o e => by rw [upd_ne (ne_of_none e q2)]; exact e
    refine ⟨upd G a (.lst vs), sm, A.ch hi h1 (.own q1 q2 q3 q4) (fun b o e hb => e) (.sh (.lst upd_same (q4.mono sm))) (fun b hb => by cases hb) sm (fun b o e => ?_) (fun b o e hb => ?_)⟩
    · by_cases hb : b = a
      · subst hb; rw [upd_same] at e; cases e; exact q3
      · rw [upd_ne hb] at e; exact A.gh b o e
    · rw [upd_ne (fun z => hb (List.mem_singleton.mpr z))]
end
end L2
end
section
namespace L2
open PySem PySem.Spec PyProof.Rows
mutual
inductive NewL (H G : Hp) : V -> D -> Prop where
  | flat {v : V} {d : D} : flatD d = true -> NewL H G v d
  | tup {a : Addr} {vs : List V} {ds : List D} : G a = some (.tup vs) -> NewLs H G vs ds -> NewL H G (.ref a) (.tup ds)
  | lst {a : Addr} {vs : List V} {ds : List D} : G a = some (.lst vs) -> H a = none -> NewLs H G vs ds -> NewL H G (.ref a) (.lst ds)
inductive NewLs (H G : Hp) : List V -> List D -> Prop where
  | nil : NewLs H G [] []
  | cons {v : V} {d : D} {vs : List V} {ds : List D} : NewL H G v d -> NewLs H G vs ds -> NewLs H G (v :: vs) (d :: ds)
end
section
variable {H H' G G' : Hp}
mutual
theorem NewL.mono : ∀ {v : V} {d : D}, NewL H G v d -> Same G G' -> Same H' H -> NewL H' G' v d
  | _, _, .flat h, _, _ => .flat h
  | _, _, .tup h r, s, t => .tup (s _ _ h) (r.mono s t)
  | _, _, .lst h n r, s, t => .lst (s _ _ h) (t.free n) (r.mono s t)
theorem NewLs.mono : ∀ {vs : List V} {ds : List D}, NewLs H G vs ds -> Same G G' -> Same H' H -> NewLs H' G' vs ds
  | _, _, .nil, _, _ => .nil
  | _, _, .cons h r, s, t => .cons (h.mono s t) (r.mono s t)
end
end
inductive Fl where
  | nx | bk | ct | rt (d : D) | ow (ds : List D) | nw (d : D) | od (kvs : List (Key × D))
abbrev FE := Env' -> Option D
abbrev FT := Env' -> Option Bool
abbrev FA := Env' -> Option (List D)
abbrev FS := Env' -> Option (Fl × Env')
def TD (Γ : Cn) (K : PySem.W.Frag) (f : FE) : TE := fun σ H Q => ∃ G₀ H₀ G ρ d, At Γ K G₀ H₀ G H ρ σ /\ f ρ = some d /\ ∀ v G' H', Step G H G' H' -> Rep Γ K G' v d -> Q v H'
def TDt (Γ : Cn) (K : PySem.W.Frag) (f : FT) : TT := fun σ H Q => ∃ G₀ H₀ G ρ b, At Γ K G₀ H₀ G H ρ σ /\ f ρ = some b /\ ∀ G' H', Step G H G' H' -> Q b H'
def TDa (Γ : Cn) (K : PySem.W.Frag) (f : FA) : TA := fun σ H Q => ∃ G₀ H₀ G ρ ds, At Γ K G₀ H₀ G H ρ σ /\ f ρ = some ds /\ ∀ vs G' H', Step G H G' H' -> Reps Γ K G' vs ds -> Q vs H'
def Cont (Γ : Cn) (K : PySem.W.Frag) (E : Ends) (H₀ G' H' : Hp) (σ' : St) : Fl -> Prop
  | .nx => E.nx σ' H'
  | .bk => E.bk σ' H'
  | .ct => E.ct σ' H'
  | .rt d => ∀ v, Rep Γ K G' v d -> E.rt v H'
  | .ow ds => ∀ p vs, H₀ p = none -> G' p = none -> H' p = some (.lst vs) -> Reps Γ K G' vs ds -> E.rt (.ref p) H'
  | .nw d => ∀ v, Rep Γ K G' v d -> NewL H₀ G' v d -> E.rt v H'
  | .od kvs => ∀ p us, H₀ p = none -> G' p = none -> H' p = some (.dK us) -> us.map (·.1) = kvs.map (·.1) -> Reps Γ K G' (us.map (·.2)) (kvs.map (·.2)) -> E.rt (.ref p) H'
def TDs (Γ : Cn) (K : PySem.W.Frag) (g : FS) : TS := fun E σ H => ∃ G₀ H₀ G ρ fl ρ', At Γ K G₀ H₀ G H ρ σ /\ g ρ = some (fl, ρ') /\ ∀ σ' G' H', Same G G' -> At Γ K G₀ H₀ G' H' ρ' σ' -> Cont Γ K E H₀ G' H' σ' fl
def TDo (Γ : Cn) (K : PySem.W.Frag) (f : FA) : TE := fun σ H Q => ∃ G₀ H₀ G ρ ds, At Γ K G₀ H₀ G H ρ σ /\ f ρ = some ds /\ ∀ p vs G' H', Step G H G' H' -> H' p = none -> Reps Γ K G' vs ds -> Q (.ref p) (upd H' p (.lst vs))
structure DE (Γ : Cn) (X : Cx) (e : Expr) (f : FE) : Prop where
  out : PE X e (TD Γ X.K f)
structure DT (Γ : Cn) (X : Cx) (e : Expr) (f : FT) : Prop where
  out : PT X e (TDt Γ X.K f)
structure DW (Γ : Cn) (X : Cx) (e : Expr) (f : FT) : Prop where
  out : PW X e (TDt Γ X.K f)
structure DA (Γ : Cn) (X : Cx) (es : List Expr) (f : FA) : Prop where
  out : PA X es (TDa Γ X.K f)
structure DS (Γ : Cn) (X : Cx) (st : Stmt) (g : FS) : Prop where
  out : PS X st (TDs Γ X.K g)
structure DSs (Γ : Cn) (X : Cx) (st : List Stmt) (g : FS) : Prop where
  out : PSs X st (TDs Γ X.K g)
structure DO (Γ : Cn) (X : Cx) (e : Expr) (f : FA) : Prop where
  out : PE X e (TDo Γ X.K f)
section
variable {Γ : Cn} {X : Cx} {a b c e : Expr} {es : List Expr} {fa fb fc f : FE} {pos : Pos}
theorem PE.imp {t t' : TE} (h : PE X e t) (i : ∀ σ H Q, t' σ H Q -> t σ H Q) : PE X e t' := fun pins s σ H Q I q => h pins s σ H Q I (i _ _ _ q)
theorem PT.imp {t t' : TT} (h : PT X e t) (i : ∀ σ H Q, t' σ H Q -> t σ H Q) : PT X e t' := fun pins s σ H Q I q => h pins s σ H Q I (i _ _ _ q)
theorem PW.imp {t t' : TT} (h : PW X e t) (i : ∀ σ H Q, t' σ H Q -> t σ H Q) : PW X e t' := fun wh pins s σ H Q I q => h wh pins s σ H Q I (i _ _ _ q)
theorem PA.imp {t t' : TA} (h : PA X es t) (i : ∀ σ H Q, t' σ H Q -> t σ H Q) : PA X es t' := fun p pins s σ H Q I q => h p pins s σ H Q I (i _ _ _ q)
theorem PS.imp {st : Stmt} {t t' : TS} (h : PS X st t) (i : ∀ E σ H, t' E σ H -> t E σ H) : PS X st t' := fun pins s σ H E I q => h pins s σ H E I (i _ _ _ q)
theorem PSs.imp {st : List Stmt} {t t' : TS} (h : PSs X st t) (i : ∀ E σ H, t' E σ H -> t E σ H) : PSs X st t' := fun pins s σ H E I q => h pins s σ H E I (i _ _ _ q)
def vSh (i : Nat) : FE := fun ρ => match ρ[i]? with
  | some (some (.sh d)) => some d
  | _ => none
theorem vSh_some {i : Nat} {ρ : Env'} {d : D} (h : vSh i ρ = some d) : ρ[i]? = some (some (.sh d)) := by
  unfold vSh at h
  split at h
  · rename_i e; cases h; exact e
  · cases h
theorem de_var (i : Nat) {x : Str} (hN : X.N[i]? = some x := by rfl) (hv : Vis X.env.scope x := by first | exact Or.inl rfl | exact Or.inr (Or.inl rfl) | exact Or.inr (Or.inr rfl)) (hd : (x == ("__debug__" : Str)) = false := by decide)
    (hcd : (x == ("__classdict__" : Str)) = false := by decide) : DE Γ X (.Name x pos) (vSh i) := ⟨(pe_var hN hv hd hcd).imp fun σ H Q ⟨G₀, H₀, G, ρ, d, A, h, k⟩ => by
  obtain ⟨v, h1, h2⟩ := A.env.sh i d (vSh_some h)
  exact ⟨v, h1, k v G H (.refl A.gh) h2⟩⟩
def vC (d : D) : FE := fun _ => some d
theorem TD.const {d : D} {v : V} (r : ∀ G, Rep Γ X.K G v d) (h : PE X e (tC v)) : DE Γ X e (vC d) := ⟨h.imp fun σ H Q ⟨G₀, H₀, G, ρ, d', A, h, k⟩ => by
  cases h
  exact k v G H (.refl A.gh) (r G)⟩
theorem de_int {i j} : DE Γ X (.Constant (.int i) j pos) (vC (.int i)) := TD.const (fun _ => .int i) pe_int
theorem de_bl {i j} : DE Γ X (.Constant (.bool i) j pos) (vC (.bl i)) := TD.const (fun _ => .bl i) pe_bl
theorem de_str {i j} : DE Γ X (.Constant (.str i) j pos) (vC (.str i)) := TD.const (fun _ => .str i) pe_str
theorem de_globI {x : Str} {i : Int} {t : Tok} (hg : Gl X x) (hm : X.mg x = some (.int i t)) (hd : (x == ("__debug__" : Str)) = false := by decide) : DE Γ X (.Name x pos) (vC (.int i)) := TD.const (fun _ => .int i) (pe_glob hg hm ⟨t, rfl⟩ hd)
def b2 (g : D -> D -> Option D) (fa fb : FE) : FE := fun ρ => (fa ρ).bind fun x => (fb ρ).bind fun y => g x y
def b1 (g : D -> Option D) (fa : FE) : FE := fun ρ => (fa ρ).bind g
def Does (Γ : Cn) (K : PySem.W.Frag) (g : D -> D -> Option D) (r : R2) : Prop :=
  ∀ {G H v u x y z}, Same G H -> Rep Γ K G v x -> Rep Γ K G u y -> g x y = some z -> ∀ Q : VK, (∀ w G' H', Step G H G' H' -> Rep Γ K G' w z -> Q w H') -> r v u H Q
theorem TD.two {g : D -> D -> Option D} {r : R2} (hr : Does Γ X.K g r) : ∀ σ H Q, TD Γ X.K (b2 g fa fb) σ H Q -> tOp r (TD Γ X.K fa) (TD Γ X.K fb) σ H Q := by
  rintro σ H Q ⟨G₀, H₀, G, ρ, d, A, h, k⟩
  unfold b2 at h
  cases ha : fa ρ with
  | none => rw [ha] at h; cases h
  | some x =>
    cases hb : fb ρ with
    | none => rw [ha] at h; simp only [Option.bind_some, hb, Option.bind_none] at h; cases h
    | some y =>
      simp only [ha, hb, Option.bind_some] at h
      refine ⟨G₀, H₀, G, ρ, x, A, ha, fun v G1 H1 s1 r1 => ⟨G₀, H₀, G1, ρ, y, A.step s1, hb, fun u G2 H2 s2 r2 => ?_⟩⟩
      exact hr s2.gh (r1.mono s2.gg) r2 h Q fun w G' H' s r => k w G' H' ((s1.trans s2).trans s) r
theorem de_op {op : Operator} {g : D -> D -> Option D} {r : R2} (ho : OpR X (binaryOp op) r) (hr : Does Γ X.K g r) (ha : DE Γ X a fa) (hb : DE Γ X b fb) : DE Γ X (.BinOp a op b pos) (b2 g fa fb) := ⟨(pe_op ho ha.1 hb.1).imp (TD.two hr)⟩
def addD : D -> D -> Option D
  | .int i, .int j => some (.int (i + j))
  | .str x, .str y => if x.length + y.length <= sizeLine then some (.str (x ++ y)) else none
  | .lst x, .lst y => if x.length + y.length <= sizeLine then some (.lst (x ++ y)) else none
  | _, _ => none
def subD : D -> D -> Option D
  | .int i, .int j => some (.int (i - j))
  | _, _ => none
def repS (x : Str) (n : Nat) : Str := ⟨(List.replicate n x.cps.toList).flatten.toArray⟩
def mulD : D -> D -> Option D
  | .int i, .int j => if (-(2 ^ 64) < i /\ i < 2 ^ 64) \/ (-(2 ^ 64) < j /\ j < 2 ^ 64) then some (.int (i * j)) else none
  | .lst x, .int j => if -(2 ^ 63) <= j /\ j < 2 ^ 63 /\ x.length * j.toNat <= sizeLine then some (.lst (List.replicate j.toNat x).flatten) else none
  | .str x, .int j => if 0 <= j /\ j < 1000 /\ x.length < 1000 then some (.str (repS x j.toNat)) else none
  | _, _ => none
def fdivD : D -> D -> Option D
  | .int i, .int j => if 0 < j /\ j < 1073741824 then some (.int (i / j)) else none
  | _, _ => none
def modD : D -> D -> Option D
  | .int i, .int j => if 0 < j then some (.int (i % j)) else none
  | _, _ => none
def powD : D -> D -> Option D
  | .int i, .int j => if 0 <= j /\ j <= 1000000 /\ i.natAbs < 2 ^ 64 then some (.int (i ^ j.toNat)) else none
  | _, _ => none
theorem Rep.int_inv {K : PySem.W.Frag} {G : Hp} {v : V} {i : Int} (r : Rep Γ K G v (.int i)) : v = .int i := by cases r; rfl
theorem Rep.str_inv {K : PySem.W.Frag} {G : Hp} {v : V} {i : Str} (r : Rep Γ K G v (.str i)) : v = .str i := by cases r; rfl
theorem Rep.bl_inv {K : PySem.W.Frag} {G : Hp} {v : V} {i : Bool} (r : Rep Γ K G v (.bl i)) : v = .bl i := by cases r; rfl
theorem Rep.lst_inv {K : PySem.W.Frag} {G : Hp} {v : V} {ds : List D} (r : Rep Γ K G v (.lst ds)) : ∃ a vs, v = .ref a /\ G a = some (.lst vs) /\ Reps Γ K G vs ds := by cases r; exact ⟨_, _, rfl, by assumption, by assumption⟩
theorem Rep.tup_inv {K : PySem.W.Frag} {G : Hp} {v : V} {ds : List D} (r : Rep Γ K G v (.tup ds)) : ∃ a vs, v = .ref a /\ G a = some (.tup vs) /\ Reps Γ K G vs ds := by cases r; exact ⟨_, _, rfl, by assumption, by assumption⟩
theorem Rep.scr_inv {K : PySem.W.Frag} {G : Hp} {v : V} {ns : List Int} (r : Rep Γ K G v (.scr ns)) : ∃ a, v = .ref a /\ SqL K G a (ns.map V.int) := by cases r; exact ⟨_, rfl, by assumption⟩
theorem new_lst {K : PySem.W.Frag} {G H : Hp} {vs : List V} {ds : List D} {Q : VK} (gh : Same G H) (r : Reps Γ K G vs ds) (k : ∀ w G' H', Step G H G' H' -> Rep Γ K G' w (.lst ds) -> Q w H') : ∀ p, H p = none -> Q (.ref p) (upd H p (.lst vs)) := fun p hp => by
  have s := Step.new (o := .lst vs) gh hp
  exact k _ _ _ s (.lst upd_same (r.mono s.gg))
theorem new_tup {K : PySem.W.Frag} {G H : Hp} {vs : List V} {ds : List D} {Q : VK} (gh : Same G H) (r : Reps Γ K G vs ds) (k : ∀ w G' H', Step G H G' H' -> Rep Γ K G' w (.tup ds) -> Q w H') : ∀ p, H p = none -> Q (.ref p) (upd H p (.tup vs)) := fun p hp => by
  have s := Step.new (o := .tup vs) gh hp
  exact k _ _ _ s (.tup upd_same (r.mono s.gg))
theorem does_add {K : PySem.W.Frag} : Does Γ K addD (fun x y H Q => (rI0 (fun i j => V.int (i + j)) x y H Q \/ (∃ i j, x = .str i /\ y = .str j /\ i.length + j.length <= sizeLine /\ Q (.str (i ++ j)) H)) \/ rCat x y H Q) := by
  intro G H v u x y z gh r1 r2 h Q k
  unfold addD at h
  split at h
  · cases h
    cases r1.int_inv; cases r2.int_inv
    exact .inl (.inl ⟨_, _, rfl, rfl, k _ G H (.refl gh) (.int _)⟩)
  · split at h
    · cases h
      cases r1.str_inv; cases r2.str_inv
      exact .inl (.inr ⟨_, _, rfl, rfl, by assumption, k _ G H (.refl gh) (.str _)⟩)
    · cases h
  · split at h
    · rename_i hz
      cases h
      obtain ⟨a, vs, rfl, ha, ra⟩ := r1.lst_inv
      obtain ⟨b, us, rfl, hb, rb⟩ := r2.lst_inv
      exact .inr ⟨a, b, vs, us, rfl, rfl, gh _ _ ha, gh _ _ hb, by rw [ra.length, rb.length]; exact hz, new_lst gh (ra.append rb) k⟩
    · cases h
  · cases h
theorem op_addA : OpR X (binaryOp .Add) (fun x y H Q => (rI0 (fun i j => V.int (i + j)) x y H Q \/ (∃ i j, x = .str i /\ y = .str j /\ i.length + j.length <= sizeLine /\ Q (.str (i ++ j)) H)) \/ rCat x y H Q) := (op_add.or op_add_str).or op_cat
theorem de_add (ha : DE Γ X a fa) (hb : DE Γ X b fb) : DE Γ X (.BinOp a .Add b pos) (b2 addD fa fb) := de_op op_addA does_add ha hb
theorem does_intC {K : PySem.W.Frag} {g : D -> D -> Option D} {C : Int -> Int -> Prop} {o : Int -> Int -> Int} (hg : ∀ x y z, g x y = some z -> ∃ i j, x = .int i /\ y = .int j /\ C i j /\ z = .int (o i j)) : Does Γ K g (rI C fun i j => V.int (o i j)) := by
  intro G H v u x y z gh r1 r2 h Q k
  obtain ⟨i, j, rfl, rfl, hc, rfl⟩ := hg x y z h
  cases r1.int_inv; cases r2.int_inv
  exact ⟨_, _, rfl, rfl, hc, k _ G H (.refl gh) (.int _)⟩
theorem de_fdiv (ha : DE Γ X a fa) (hb : DE Γ X b fb) : DE Γ X (.BinOp a .FloorDiv b pos) (b2 fdivD fa fb) := de_op op_fdiv (does_intC fun x y z h => by
  unfold fdivD at h; split at h
  · split at h <;> cases h; exact ⟨_, _, rfl, rfl, by assumption, rfl⟩
  · cases h) ha hb
theorem de_mod (ha : DE Γ X a fa) (hb : DE Γ X b fb) : DE Γ X (.BinOp a .Mod b pos) (b2 modD fa fb) := de_op op_mod (does_intC fun x y z h => by
  unfold modD at h; split at h
  · split at h <;> cases h; exact ⟨_, _, rfl, rfl, by assumption, rfl⟩
  · cases h) ha hb
theorem de_pow (ha : DE Γ X a fa) (hb : DE Γ X b fb) : DE Γ X (.BinOp a .Pow b pos) (b2 powD fa fb) := de_op op_pow (does_intC fun x y z h => by
  unfold powD at h; split at h
  · split at h <;> cases h; exact ⟨_, _, rfl, rfl, by assumption, rfl⟩
  · cases h) ha hb
theorem fold_rep (a : Array Nat) : ∀ (k : Nat) (acc : List Nat), (List.replicate k a).foldl (· ++ ·) acc.toArray = (acc ++ (List.replicate k a.toList).flatten).toArray
  | 0, acc => by simp
  | k + 1, acc => by
    rw [List.replicate_succ, List.foldl_cons, List.replicate_succ, List.flatten_cons, ← List.append_assoc, ← fold_rep a k (acc ++ a.toList)]
    congr 1
    simp
def rMulS : R2 := fun x y H Q => ∃ z n, x = .str z /\ y = .int n /\ 0 <= n /\ n < 1000 /\ z.length < 1000 /\ Q (.str (repS z n.toNat)) H
theorem op_mulS : OpR X (binaryOp .Mult) rMulS := by
  intro pins s σ H x y v u Q I rx ry h
  obtain ⟨z, n, rfl, rfl, h0, h1, h2, q⟩ := h
  obtain ⟨t, rfl⟩ := rx
  obtain ⟨t', rfl⟩ := ry
  have hl : z.length * n.toNat <= 1000000 := Nat.le_trans (Nat.mul_le_mul (Nat.le_of_lt h2) (show n.toNat <= 1000 by omega)) (by decide)
  have e0 : (List.replicate n.toNat z.cps).foldl (· ++ ·) #[] = (repS z n.toNat).cps := by
    have := fold_rep z.cps n.toNat []
    simpa [repS] using this
  refine PySem.P.mul_str ?_ (fun h _ => ?_) (fun _ _ => ?_) ?_
  · rw [decide_eq_false (by omega), decide_eq_false (by omega)]; rfl
  · have e : (z.length : Int) * n = ((z.length * n.toNat : Nat) : Int) := by rw [Int.natCast_mul]; congr 1; omega
    have : (z.length : Int) <= (2 ^ 63 - 1 : Int) / n := Int.le_ediv_of_mul_le (by omega) (by rw [e]; omega)
    omega
  · unfold Builtin.Str.tooLong
    exact decide_eq_false (by have := sizeLine_eq; omega)
  · split
    · have : n = 0 := by omega
      subst this
      exact ⟨by decide, ⟨.str _, H, I.tok _, ⟨_, rfl⟩, by simpa [repS, Str.empty] using q⟩⟩
    · split
      · rename_i hc
        have ez : repS z n.toNat = z := by
          rcases Bool.or_eq_true _ _ ▸ hc with e | e
          · have : n = 1 := by simpa using e
            subst this
            simp [repS]
          · have hz : z.cps = #[] := by
              have : z.cps.size = 0 := by simpa [Str.length] using e
              exact Array.eq_empty_of_size_eq_zero this
            cases z
            simp only at hz
            subst hz
            simp [repS]
        exact ⟨.str _, H, I, ⟨_, rfl⟩, by rw [← ez]; exact q⟩
      · rw [e0]
        refine ⟨?_, ⟨.str _, H, I.tok _, ⟨_, rfl⟩, q⟩⟩
        have e1 : (repS z n.toNat).length = n.toNat * z.length := by
          show (List.replicate n.toNat z.cps.toList).flatten.toArray.size = _
          rw [List.size_toArray, len_rep]
          simp [Str.length]
        show (repS z n.toNat).length <= sizeLine
        rw [e1, Nat.mul_comm]
        have := sizeLine_eq
        omega
theorem does_mul {K : PySem.W.Frag} : Does Γ K mulD (fun x y H Q => (rI CMul (fun i j => V.int (i * j)) x y H Q \/ rRep x y H Q) \/ rMulS x y H Q) := by
  intro G H v u x y z gh r1 r2 h Q k
  unfold mulD at h
  split at h
  · split at h
    · cases h
      cases r1.int_inv; cases r2.int_inv
      exact .inl (.inl ⟨_, _, rfl, rfl, by assumption, k _ G H (.refl gh) (.int _)⟩)
    · cases h
  · split at h
    · rename_i hz
      cases h
      obtain ⟨a, vs, rfl, ha, ra⟩ := r1.lst_inv
      cases r2.int_inv
      exact .inl (.inr ⟨a, _, vs, rfl, rfl, gh _ _ ha, hz.1, hz.2.1, by rw [ra.length]; exact hz.2.2, new_lst gh (ra.rep _) k⟩)
    · cases h
  · split at h
    · rename_i hz
      cases h
      cases r1.str_inv
      cases r2.int_inv
      exact .inr ⟨_, _, rfl, rfl, hz.1, hz.2.1, hz.2.2, k _ G H (.refl gh) (.str _)⟩
    · cases h
  · cases h
theorem de_mul (ha : DE Γ X a fa) (hb : DE Γ X b fb) : DE Γ X (.BinOp a .Mult b pos) (b2 mulD fa fb) := de_op ((op_mul.or op_rep).or op_mulS) does_mul ha hb
end
end L2
end
section
namespace L2
open PySem PySem.Spec PyProof.Rows
section
variable {Γ : Cn} {X : Cx} {a b c e : Expr} {es : List Expr} {fa fb fc f : FE} {pos : Pos}
theorem Rep.non_inv {K : PySem.W.Frag} {G : Hp} {v : V} (r : Rep Γ K G v .non) : v = .non := by cases r; rfl
def ltS (x y : Str) : Bool := decide (x.cps.toList < y.cps.toList)
def ltD : D -> D -> Option D
  | .int i, .int j => some (.bl (decide (i < j)))
  | .str x, .str y => some (.bl (ltS x y))
  | _, _ => none
def leD : D -> D -> Option D
  | .int i, .int j => some (.bl (decide (i <= j)))
  | .str x, .str y => some (.bl (!ltS y x))
  | _, _ => none
def eqS : D -> D -> Option Bool
  | .int i, .int j => some (decide (i = j))
  | .bl i, .bl j => some (decide (i = j))
  | .str i, .str j => some (decide (i = j))
  | .non, .non => some true
  | .non, .int _ => some false | .int _, .non => some false | .non, .bl _ => some false | .bl _, .non => some false | .non, .str _ => some false | .str _, .non => some false
  | .int _, .str _ => some false | .str _, .int _ => some false | .bl _, .str _ => some false | .str _, .bl _ => some false
  | _, _ => none
def eqD (x y : D) : Option D := (eqS x y).map D.bl
def neD (x y : D) : Option D := (eqS x y).map fun b => D.bl (!b)
theorem eqS_ok {K : PySem.W.Frag} {G : Hp} {v u : V} {x y : D} {k : Bool} (r1 : Rep Γ K G v x) (r2 : Rep Γ K G u y) (h : eqS x y = some k) : scal v u = true /\ decide (v = u) = k := by
  unfold eqS at h
  split at h <;> cases h
  · cases r1.int_inv; cases r2.int_inv; exact ⟨rfl, by simp⟩
  · cases r1.bl_inv; cases r2.bl_inv; exact ⟨rfl, by simp⟩
  · cases r1.str_inv; cases r2.str_inv; exact ⟨rfl, by simp⟩
  · cases r1.non_inv; cases r2.non_inv; exact ⟨rfl, by simp⟩
  · cases r1.non_inv; cases r2.int_inv; exact ⟨rfl, by simp⟩
  · cases r1.int_inv; cases r2.non_inv; exact ⟨rfl, by simp⟩
  · cases r1.non_inv; cases r2.bl_inv; exact ⟨rfl, by simp⟩
  · cases r1.bl_inv; cases r2.non_inv; exact ⟨rfl, by simp⟩
  · cases r1.non_inv; cases r2.str_inv; exact ⟨rfl, by simp⟩
  · cases r1.str_inv; cases r2.non_inv; exact ⟨rfl, by simp⟩
  · cases r1.int_inv; cases r2.str_inv; exact ⟨rfl, by simp⟩
  · cases r1.str_inv; cases r2.int_inv; exact ⟨rfl, by simp⟩
  · cases r1.bl_inv; cases r2.str_inv; exact ⟨rfl, by simp⟩
  · cases r1.str_inv; cases r2.bl_inv; exact ⟨rfl, by simp⟩
theorem does_eq {K : PySem.W.Frag} : Does Γ K eqD rEq := by
  intro G H v u x y z gh r1 r2 h Q k
  unfold eqD at h
  cases e : eqS x y with
  | none => rw [e] at h; cases h
  | some b =>
    rw [e] at h
    cases h
    obtain ⟨h1, h2⟩ := eqS_ok r1 r2 e
    exact ⟨h1, by rw [h2]; exact k _ G H (.refl gh) (.bl _)⟩
theorem does_ne {K : PySem.W.Frag} : Does Γ K neD rNe := by
  intro G H v u x y z gh r1 r2 h Q k
  unfold neD at h
  cases e : eqS x y with
  | none => rw [e] at h; cases h
  | some b =>
    rw [e] at h
    cases h
    obtain ⟨h1, h2⟩ := eqS_ok r1 r2 e
    exact ⟨h1, by rw [h2]; exact k _ G H (.refl gh) (.bl _)⟩
theorem op_le_str : OpR X (compareOp .LtE) (fun x y H Q => ∃ i j, x = .str i /\ y = .str j /\ Q (.bl (!ltS j i)) H) := by
  intro pins s σ H x y v u Q I rx ry h
  obtain ⟨i, j, rfl, rfl, q⟩ := h
  obtain ⟨t, rfl⟩ := rx
  obtain ⟨t', rfl⟩ := ry
  exact PySem.P.le_str (fin_bl I q (by simp [ltS]))
theorem does_le {K : PySem.W.Frag} : Does Γ K leD (fun x y H Q => rI0 (fun i j => V.bl (decide (i <= j))) x y H Q \/ ∃ i j, x = .str i /\ y = .str j /\ Q (.bl (!ltS j i)) H) := by
  intro G H v u x y z gh r1 r2 h Q k
  unfold leD at h
  split at h <;> cases h
  · cases r1.int_inv; cases r2.int_inv; exact .inl ⟨_, _, rfl, rfl, k _ G H (.refl gh) (.bl _)⟩
  · cases r1.str_inv; cases r2.str_inv; exact .inr ⟨_, _, rfl, rfl, k _ G H (.refl gh) (.bl _)⟩
structure CmpD (Γ : Cn) (X : Cx) (op : CmpOp) (g : D -> D -> Option D) : Prop where
  ex : ∃ r, OpR X (compareOp op) r /\ Does Γ X.K g r
theorem cd_le : CmpD Γ X .LtE leD := ⟨_, op_le.or op_le_str, does_le⟩
theorem cd_eq : CmpD Γ X .Eq eqD := ⟨_, op_eq, does_eq⟩
theorem cd_ne : CmpD Γ X .NotEq neD := ⟨_, op_ne, does_ne⟩
theorem de_cmp {op : CmpOp} {g : D -> D -> Option D} (h : CmpD Γ X op g) (ha : DE Γ X a fa) (hb : DE Γ X b fb) (hm : behindInMarks op b = false) : DE Γ X (.Compare a [op] [b] pos) (b2 g fa fb) := ⟨by
  obtain ⟨r, ho, hr⟩ := h.ex
  exact (pe_cmpR ho ha.1 hb.1 hm).imp (TD.two hr)⟩
def chD (g g' : D -> D -> Option D) (fa fb fc : FE) : FE := fun ρ => (fa ρ).bind fun x => (fb ρ).bind fun y => (g x y).bind fun z => match z with
  | .bl true => (fc ρ).bind fun w => g' y w
  | .bl false => some (.bl false)
  | _ => none
theorem TD.chain {g g' : D -> D -> Option D} {r r' : R2} (hr : Does Γ X.K g r) (hr' : Does Γ X.K g' r') : ∀ σ H Q, TD Γ X.K (chD g g' fa fb fc) σ H Q -> tChain r r' (TD Γ X.K fa) (TD Γ X.K fb) (TD Γ X.K fc) σ H Q := by
  rintro σ H Q ⟨G₀, H₀, G, ρ, d, A, h, k⟩
  unfold chD at h
  obtain ⟨x, ha, h⟩ := Option.bind_eq_some_iff.mp h
  obtain ⟨y, hb, h⟩ := Option.bind_eq_some_iff.mp h
  obtain ⟨z, hz, h⟩ := Option.bind_eq_some_iff.mp h
  refine ⟨G₀, H₀, G, ρ, x, A, ha, fun v G1 H1 s1 r1 => ⟨G₀, H₀, G1, ρ, y, A.step s1, hb, fun u G2 H2 s2 r2 => ?_⟩⟩
  refine hr s2.gh (r1.mono s2.gg) r2 hz _ fun w G3 H3 s3 r3 => ?_
  split at h
  · cases r3.bl_inv
    obtain ⟨w, hc, h⟩ := Option.bind_eq_some_iff.mp h
    refine ⟨true, rfl, iteT ⟨G₀, H₀, G3, ρ, w, ((A.step s1).step s2).step s3, hc, fun q G4 H4 s4 r4 => ?_⟩⟩
    exact hr' s4.gh ((r2.mono s3.gg).mono s4.gg) r4 h Q fun w' G' H' s r => k w' G' H' ((((s1.trans s2).trans s3).trans s4).trans s) r
  · cases r3.bl_inv
    cases h
    exact ⟨false, rfl, iteF (k _ G3 H3 ((s1.trans s2).trans s3) (.bl _))⟩
  · cases h
theorem de_chain {op op' : CmpOp} {g g' : D -> D -> Option D} (h : CmpD Γ X op g) (h' : CmpD Γ X op' g') (ha : DE Γ X a fa) (hb : DE Γ X b fb) (hc : DE Γ X c fc) (hm : lastMarks [op, op'] [b, c] = false := by with_unfolding_all rfl) :
    DE Γ X (.Compare a [op, op'] [b, c] pos) (chD g g' fa fb fc) := ⟨by
  obtain ⟨r, ho, hr⟩ := h.ex
  obtain ⟨r', ho', hr'⟩ := h'.ex
  exact (pe_chain ho ho' ha.1 hb.1 hc.1 hm).imp (TD.chain hr hr')⟩
def toB (f : FE) : FT := fun ρ => (f ρ).bind fun d => match d with
  | .bl b => some b
  | _ => none
theorem TDt.val {f : FE} : ∀ σ H Q, TDt Γ X.K (toB f) σ H Q -> TD Γ X.K f σ H fun x H' => ∃ k, x = .bl k /\ Q k H' := by
  rintro σ H Q ⟨G₀, H₀, G, ρ, b, A, h, k⟩
  unfold toB at h
  obtain ⟨d, hd, h⟩ := Option.bind_eq_some_iff.mp h
  split at h <;> cases h
  exact ⟨G₀, H₀, G, ρ, _, A, hd, fun v G' H' s r => ⟨b, r.bl_inv, k G' H' s⟩⟩
theorem dt_cmp {op : CmpOp} {g : D -> D -> Option D} (h : CmpD Γ X op g) (ha : DE Γ X a fa) (hb : DE Γ X b fb) (hm : behindInMarks op b = false) : DT Γ X (.Compare a [op] [b] pos) (toB (b2 g fa fb)) := ⟨by
  obtain ⟨r, ho, hr⟩ := h.ex
  exact (pt_cmpR ho ha.1 hb.1 hm).imp fun σ H Q q => TD.two hr σ H _ (TDt.val σ H Q q)⟩
theorem dt_chain {op op' : CmpOp} {g g' : D -> D -> Option D} (h : CmpD Γ X op g) (h' : CmpD Γ X op' g') (ha : DE Γ X a fa) (hb : DE Γ X b fb) (hc : DE Γ X c fc) (hm : lastMarks [op, op'] [b, c] = false := by with_unfolding_all rfl) :
    DT Γ X (.Compare a [op, op'] [b, c] pos) (toB (chD g g' fa fb fc)) := ⟨by
  obtain ⟨r, ho, hr⟩ := h.ex
  obtain ⟨r', ho', hr'⟩ := h'.ex
  exact (pt_chain ho ho' ha.1 hb.1 hc.1 hm).imp fun σ H Q q => TD.chain hr hr' σ H _ (TDt.val σ H Q q)⟩
theorem dt_val (h : DE Γ X e f) (he : ∀ whole, isTrue e X.env whole = (do let v ← whole; standAt e.pos; holding [v] (truthy v)) := by intro _; rfl) : DT Γ X e (toB f) := ⟨(pt_val h.1 he).imp TDt.val⟩
def notT (f : FT) : FT := fun ρ => (f ρ).map (!·)
def andT (f g : FT) : FT := fun ρ => (f ρ).bind fun b => if b = true then g ρ else some false
def orT (f g : FT) : FT := fun ρ => (f ρ).bind fun b => if b = true then some true else g ρ
variable {ft gt : FT} {rest : List Expr}
theorem DW.dt {e : Expr} (h : DW Γ X e ft) : DT Γ X e ft := ⟨h.1.pt⟩
theorem dt_not (h : DT Γ X a ft) : DT Γ X (.UnaryOp .Not a pos) (notT ft) := ⟨(pt_not h.1).imp fun σ H Q => by
  rintro ⟨G₀, H₀, G, ρ, b, A, h, k⟩
  unfold notT at h
  obtain ⟨c, hc, h⟩ := Option.map_eq_some_iff.mp h
  exact ⟨G₀, H₀, G, ρ, c, A, hc, fun G' H' s => by show Q (!c) H'; rw [h]; exact k G' H' s⟩⟩
theorem dw_and1 (h : DT Γ X a ft) : DW Γ X (.BoolOp .And [a] pos) ft := ⟨pw_and1 h.1⟩
theorem dw_or1 (h : DT Γ X a ft) : DW Γ X (.BoolOp .Or [a] pos) ft := ⟨pw_or1 h.1⟩
theorem dw_and (h : DT Γ X a ft) (h' : DW Γ X (.BoolOp .And (b :: rest) pos) gt) : DW Γ X (.BoolOp .And (a :: b :: rest) pos) (andT ft gt) := ⟨(pw_and h.1 h'.1).imp fun σ H Q => by
  rintro ⟨G₀, H₀, G, ρ, r, A, h, k⟩
  unfold andT at h
  obtain ⟨c, hc, h⟩ := Option.bind_eq_some_iff.mp h
  refine ⟨G₀, H₀, G, ρ, c, A, hc, fun G1 H1 s1 => ?_⟩
  cases c with
  | true => exact iteT ⟨G₀, H₀, G1, ρ, r, A.step s1, by simpa using h, fun G' H' s => k G' H' (s1.trans s)⟩
  | false =>
    rw [if_neg Bool.false_ne_true] at h
    cases h
    exact iteF (k _ _ s1)⟩
theorem dw_or (h : DT Γ X a ft) (h' : DW Γ X (.BoolOp .Or (b :: rest) pos) gt) : DW Γ X (.BoolOp .Or (a :: b :: rest) pos) (orT ft gt) := ⟨(pw_or h.1 h'.1).imp fun σ H Q => by
  rintro ⟨G₀, H₀, G, ρ, r, A, h, k⟩
  unfold orT at h
  obtain ⟨c, hc, h⟩ := Option.bind_eq_some_iff.mp h
  refine ⟨G₀, H₀, G, ρ, c, A, hc, fun G1 H1 s1 => ?_⟩
  cases c with
  | false => exact iteF ⟨G₀, H₀, G1, ρ, r, A.step s1, by simpa using h, fun G' H' s => k G' H' (s1.trans s)⟩
  | true =>
    rw [if_pos rfl] at h
    cases h
    exact iteT (k _ _ s1)⟩
def andD (fa fb : FE) : FE := fun ρ => (fa ρ).bind fun d => match d with
  | .bl true => fb ρ
  | .bl false => some (.bl false)
  | _ => none
theorem de_one {op} (h : DE Γ X a fa) : DE Γ X (.BoolOp op [a] pos) fa := ⟨pe_one h.1⟩
theorem de_and (ha : DE Γ X a fa) (hb : DE Γ X (.BoolOp .And (b :: rest) pos) fb) : DE Γ X (.BoolOp .And (a :: b :: rest) pos) (andD fa fb) := ⟨(pe_and ha.1 hb.1).imp fun σ H Q => by
  rintro ⟨G₀, H₀, G, ρ, d, A, h, k⟩
  unfold andD at h
  obtain ⟨x, hx, h⟩ := Option.bind_eq_some_iff.mp h
  refine ⟨G₀, H₀, G, ρ, x, A, hx, fun v G1 H1 s1 r1 => ?_⟩
  split at h
  · cases r1.bl_inv
    exact ⟨true, rfl, iteT ⟨G₀, H₀, G1, ρ, d, A.step s1, h, fun w G' H' s r => k w G' H' (s1.trans s) r⟩⟩
  · cases r1.bl_inv
    cases h
    exact ⟨false, rfl, iteF (k _ G1 H1 s1 (.bl _))⟩
  · cases h⟩
def aNil : FA := fun _ => some []
def aCons (fa : FE) (fr : FA) : FA := fun ρ => (fa ρ).bind fun x => (fr ρ).map (x :: ·)
variable {fr : FA}
theorem da_nil : DA Γ X [] aNil := ⟨pa_nil.imp fun σ H Q => by
  rintro ⟨G₀, H₀, G, ρ, d, A, h, k⟩
  cases h
  exact k _ G H (.refl A.gh) .nil⟩
theorem da_cons (ha : DE Γ X e fa) (hr : DA Γ X es fr) (hs : starEach (e :: es) X.env = (false, eval e X.env) :: starEach es X.env := by rfl) : DA Γ X (e :: es) (aCons fa fr) := ⟨(pa_cons ha.1 hr.1 hs).imp fun σ H Q => by
  rintro ⟨G₀, H₀, G, ρ, d, A, h, k⟩
  unfold aCons at h
  obtain ⟨x, hx, h⟩ := Option.bind_eq_some_iff.mp h
  obtain ⟨xs, hxs, h⟩ := Option.map_eq_some_iff.mp h
  subst h
  exact ⟨G₀, H₀, G, ρ, x, A, hx, fun v G1 H1 s1 r1 => ⟨G₀, H₀, G1, ρ, xs, A.step s1, hxs, fun vs G2 H2 s2 r2 => k _ G2 H2 (s1.trans s2) (.cons (r1.mono s2.gg) r2)⟩⟩⟩
def szF (fr : FA) : FA := fun ρ => (fr ρ).bind fun l => if l.length <= sizeLine then some l else none
def lstF (fr : FA) : FE := fun ρ => (fr ρ).map D.lst
def tupF (fr : FA) : FE := fun ρ => (fr ρ).map D.tup
theorem DO.de (h : DO Γ X e fr) : DE Γ X e (lstF fr) := ⟨h.1.imp fun σ H Q => by
  rintro ⟨G₀, H₀, G, ρ, d, A, h, k⟩
  unfold lstF at h
  obtain ⟨ds, hd, rfl⟩ := Option.map_eq_some_iff.mp h
  exact ⟨G₀, H₀, G, ρ, ds, A, hd, fun p vs G' H' s hp r => new_lst s.gh r (fun w G2 H2 s2 r2 => k w G2 H2 (s.trans s2) r2) p hp⟩⟩
theorem do_lst (h : DA Γ X es fr) : DO Γ X (.List es pos) (szF fr) := ⟨(pe_lst h.1).imp fun σ H Q => by
  rintro ⟨G₀, H₀, G, ρ, d, A, h, k⟩
  unfold szF at h
  obtain ⟨ds, hd, h⟩ := Option.bind_eq_some_iff.mp h
  split at h
  · rename_i hz
    cases h
    exact ⟨G₀, H₀, G, ρ, d, A, hd, fun vs G' H' s r => ⟨by rw [r.length]; exact hz, fun p hp => k p vs G' H' s hp r⟩⟩
  · cases h⟩
theorem de_tup {x1} (h : DA Γ X es fr) : DE Γ X (.Tuple es x1 pos) (tupF (szF fr)) := ⟨(pe_tup h.1).imp fun σ H Q => by
  rintro ⟨G₀, H₀, G, ρ, d, A, h, k⟩
  unfold tupF szF at h
  obtain ⟨ds', hd', rfl⟩ := Option.map_eq_some_iff.mp h
  obtain ⟨ds, hd, h⟩ := Option.bind_eq_some_iff.mp hd'
  split at h
  · rename_i hz
    cases h
    exact ⟨G₀, H₀, G, ρ, ds', A, hd, fun vs G' H' s r => ⟨by rw [r.length]; exact hz, new_tup s.gh r fun w G2 H2 s2 r2 => k w G2 H2 (s.trans s2) r2⟩⟩
  · cases h⟩
def DoesC (Γ : Cn) (K : PySem.W.Frag) (g : List D -> Option D) (r : List V -> Hp -> VK -> Prop) : Prop :=
  ∀ {G H vs ds z}, Same G H -> Reps Γ K G vs ds -> g ds = some z -> ∀ Q : VK, (∀ w G' H', Step G H G' H' -> Rep Γ K G' w z -> Q w H') -> r vs H Q
def cF (g : List D -> Option D) (fr : FA) : FE := fun ρ => (fr ρ).bind g
theorem TD.call {g : List D -> Option D} {r : List V -> Hp -> VK -> Prop} (hr : DoesC Γ X.K g r) : ∀ σ H Q, TD Γ X.K (cF g fr) σ H Q -> tCB r (TDa Γ X.K fr) σ H Q := by
  rintro σ H Q ⟨G₀, H₀, G, ρ, d, A, h, k⟩
  unfold cF at h
  obtain ⟨ds, hd, h⟩ := Option.bind_eq_some_iff.mp h
  exact ⟨G₀, H₀, G, ρ, ds, A, hd, fun vs G1 H1 s1 r1 => hr s1.gh r1 h Q fun w G' H' s r => k w G' H' (s1.trans s) r⟩
structure BltD (Γ : Cn) (X : Cx) (id : String) (g : List D -> Option D) : Prop where
  ex : ∃ r, CallR X (.builtin id) r /\ DoesC Γ X.K g r
structure TyD (Γ : Cn) (X : Cx) (id : String) (g : List D -> Option D) : Prop where
  ex : ∃ r, CallR X (.type id) r /\ DoesC Γ X.K g r
variable {x : Str} {p : Pos}
theorem de_callB {id : String} {g : List D -> Option D} (hc : BltD Γ X id g) (hg : Gl X x) (hm : X.mg x = none) (hv : bootBuiltins x = some (.builtin id)) (ha : DA Γ X (e :: es) fr) (hn : x ≠ "__name__" := by decide) (hdb : (x == ("__debug__" : Str)) = false := by decide)
    (he : starEach (e :: es) X.env = (false, eval e X.env) :: starEach es X.env := by rfl) (hpl : (backTo pos (starEach es X.env)).any (·.1) = false := by rfl) : DE Γ X (.Call (.Name x p) (e :: es) [] pos) (cF g fr) := ⟨by
  obtain ⟨r, h1, h2⟩ := hc.ex
  exact (pe_callB h1 hg hm hv ha.1 hn hdb he hpl).imp (TD.call h2)⟩
theorem de_callTy {id : String} {g : List D -> Option D} (hc : TyD Γ X id g) (hg : Gl X x) (hm : X.mg x = none) (hv : bootBuiltins x = some (.type id)) (ha : DA Γ X (e :: es) fr) (hn : x ≠ "__name__" := by decide) (hdb : (x == ("__debug__" : Str)) = false := by decide)
    (he : starEach (e :: es) X.env = (false, eval e X.env) :: starEach es X.env := by rfl) (hpl : (backTo pos (starEach es X.env)).any (·.1) = false := by rfl) : DE Γ X (.Call (.Name x p) (e :: es) [] pos) (cF g fr) := ⟨by
  obtain ⟨r, h1, h2⟩ := hc.ex
  exact (pe_callTy h1 hg hm hv ha.1 hn hdb he hpl).imp (TD.call h2)⟩
theorem de_ty {n : String} (hg : Gl X x) (hm : X.mg x = none) (hv : bootBuiltins x = some (.type n)) (hn : x ≠ "__name__" := by decide) (hd : (x == ("__debug__" : Str)) = false := by decide) : DE Γ X (.Name x pos) (vC (.ty n)) := TD.const (fun _ => .ty n) (pe_bltn hg hm hv rfl hn hd)
theorem Reps.one {K : PySem.W.Frag} {G : Hp} {vs : List V} {d : D} (r : Reps Γ K G vs [d]) : ∃ v, vs = [v] /\ Rep Γ K G v d := by
  cases r with
  | cons h t => cases t; exact ⟨_, rfl, h⟩
theorem Reps.two {K : PySem.W.Frag} {G : Hp} {vs : List V} {d d' : D} (r : Reps Γ K G vs [d, d']) : ∃ v u, vs = [v, u] /\ Rep Γ K G v d /\ Rep Γ K G u d' := by
  cases r with
  | cons h t => cases t with
    | cons h2 t2 => cases t2; exact ⟨_, _, rfl, h, h2⟩
def absD : List D -> Option D
  | [.int i] => some (.int (if i < 0 then -i else i))
  | _ => none
theorem bd_abs : BltD Γ X "abs" absD := ⟨_, call_abs, fun {G H vs ds z} gh r h Q k => by
  unfold absD at h
  split at h <;> cases h
  obtain ⟨v, rfl, r1⟩ := r.one
  cases r1.int_inv
  exact ⟨_, rfl, k _ G H (.refl gh) (.int _)⟩⟩
def lenD : List D -> Option D
  | [.str x] => if x.length <= sizeLine then some (.int (x.length : Nat)) else none
  | [.lst l] => some (.int (l.length : Nat))
  | [.tup l] => some (.int (l.length : Nat))
  | [.scr l] => some (.int (l.length : Nat))
  | _ => none
theorem bd_len : BltD Γ X "len" lenD := ⟨_, call_len, fun {G H vs ds z} gh r h Q k => by
  unfold lenD at h
  split at h
  · split at h
    · cases h
      obtain ⟨v, rfl, r1⟩ := r.one
      cases r1.str_inv
      exact ⟨_, _, rfl, ⟨by assumption, rfl⟩, k _ G H (.refl gh) (.int _)⟩
    · cases h
  · cases h
    obtain ⟨v, rfl, r1⟩ := r.one
    obtain ⟨a, vs, rfl, ha, rv⟩ := r1.lst_inv
    exact ⟨_, _, rfl, .inl ⟨vs, .inl (.inl (gh _ _ ha)), rfl⟩, k _ G H (.refl gh) (by rw [rv.length]; exact .int _)⟩
  · cases h
    obtain ⟨v, rfl, r1⟩ := r.one
    obtain ⟨a, vs, rfl, ha, rv⟩ := r1.tup_inv
    exact ⟨_, _, rfl, .inr ⟨vs, .inl (.inl (gh _ _ ha)), rfl⟩, k _ G H (.refl gh) (by rw [rv.length]; exact .int _)⟩
  · cases h
    obtain ⟨v, rfl, r1⟩ := r.one
    obtain ⟨a, rfl, ha⟩ := r1.scr_inv
    exact ⟨_, _, rfl, .inl ⟨_, gh.seq ha, rfl⟩, k _ G H (.refl gh) (by rw [List.length_map]; exact .int _)⟩
  · cases h⟩
def tyD : D -> Option String
  | .non => some "NoneType"
  | .bl _ => some "bool"
  | .int _ => some "int"
  | .str _ => some "str"
  | .lst _ => some "list"
  | .tup _ => some "tuple"
  | .dk _ => some "dict"
  | .dt _ => some "dict"
  | _ => none
def isiT (t c : String) : Option Bool := if (Value.type t == Value.type c) = true then some true else if PySem.W.kitMeta c = true then Option.map (fun x => x.contains (Value.type c)) (PySem.fastBuiltinMro t) else none
def isiD : List D -> Option D
  | [d, .ty c] => (tyD d).bind fun t => (isiT t c).map D.bl
  | _ => none
theorem tyOf_ok {K : PySem.W.Frag} {G H : Hp} {v : V} {d : D} {t : String} (gh : Same G H) (r : Rep Γ K G v d) (h : tyD d = some t) : TyOf K H v (.type t) := by
  unfold tyD at h
  split at h <;> cases h
  · cases r.non_inv; exact .non
  · cases r.bl_inv; exact .bl _
  · cases r.int_inv; exact .int _
  · cases r.str_inv; exact .str _
  · obtain ⟨a, vs, rfl, ha, _⟩ := r.lst_inv; exact .lst (gh _ _ ha)
  · obtain ⟨a, vs, rfl, ha, _⟩ := r.tup_inv; exact .tup (gh _ _ ha)
  · cases r with
    | dk h _ _ => exact .dK (gh _ _ h)
  · cases r with
    | dt h _ _ => exact .dT (gh _ _ h)
theorem bd_isi : BltD Γ X "isinstance" isiD := by
  refine ⟨fun vs H Q => ∃ v t c b, vs = [v, .ty c] /\ TyOf X.K H v (.type t) /\ PySem.W.kitOne X.K (.type t) (.type c) = some b /\ Q (.bl b) H, ?_, ?_⟩
  · intro pins s σ H xs us Q I r h
    obtain ⟨v, t, c, b, rfl, ty, hk, q⟩ := h
    obtain ⟨u, w', rfl, r1, r2⟩ := vals2 r
    cases r2
    exact isinst_ok I r1 ty hk fun tk => ⟨.bl b, H, I.tok tk, rfl, q⟩
  · intro G H vs ds z gh r h Q k
    unfold isiD at h
    split at h
    · obtain ⟨t, ht, h⟩ := Option.bind_eq_some_iff.mp h
      obtain ⟨b, hb, rfl⟩ := Option.map_eq_some_iff.mp h
      obtain ⟨v, u, rfl, r1, r2⟩ := r.two
      cases r2
      exact ⟨v, t, _, b, rfl, tyOf_ok gh r1 ht, hb, k _ G H (.refl gh) (.bl _)⟩
    · cases h
end
end L2
end
section
namespace L2
open PySem PySem.Spec PyProof.Rows
section
variable {Γ : Cn} {X : Cx} {a b c e : Expr} {es : List Expr} {fa fb fc f : FE} {fr : FA} {pos p2 : Pos}
theorem Reps.atI {K : PySem.W.Frag} {G : Hp} {vs : List V} {ds : List D} {i : Int} {d : D} (r : Reps Γ K G vs ds) (h : L2.atI ds i = some d) : ∃ v, L2.atI vs i = some v /\ Rep Γ K G v d := by
  unfold L2.atI at h ⊢
  rw [r.length]
  cases e : ixN ds.length i with
  | none => rw [e] at h; cases h
  | some j =>
    rw [e] at h
    obtain ⟨v, h1, h2⟩ := r.get (i := j) (d := d) h
    exact ⟨v, h1, h2⟩
theorem atI_map {α β : Type} (g : α -> β) (xs : List α) (i : Int) : L2.atI (xs.map g) i = (L2.atI xs i).map g := by
  unfold L2.atI
  rw [List.length_map]
  cases ixN xs.length i with
  | none => rfl
  | some j => simp
def ixD : D -> D -> Option D
  | .lst l, .int i => atI l i
  | .tup l, .int i => atI l i
  | .scr l, .int i => (atI l i).map D.int
  | .str x, .int i => if x.length <= sizeLine then (atI x.cps.toList i).map fun c => D.str ⟨#[c]⟩ else none
  | _, _ => none
theorem does_ix {K : PySem.W.Frag} : Does Γ K ixD (rIx K) := by
  intro G H v u x y z gh r1 r2 h Q k
  unfold ixD at h
  split at h
  · obtain ⟨a, vs, rfl, ha, rv⟩ := r1.lst_inv
    cases r2.int_inv
    obtain ⟨w, hw, rw'⟩ := rv.atI h
    exact .inl ⟨a, vs, _, w, rfl, rfl, .inl (.inl (gh _ _ ha)), hw, k w G H (.refl gh) rw'⟩
  · obtain ⟨a, vs, rfl, ha, rv⟩ := r1.tup_inv
    cases r2.int_inv
    obtain ⟨w, hw, rw'⟩ := rv.atI h
    exact .inr (.inl ⟨a, vs, _, w, rfl, rfl, .inl (.inl (gh _ _ ha)), hw, k w G H (.refl gh) rw'⟩)
  · obtain ⟨a, rfl, ha⟩ := r1.scr_inv
    cases r2.int_inv
    obtain ⟨n, hn, rfl⟩ := Option.map_eq_some_iff.mp h
    exact .inl ⟨a, _, _, .int n, rfl, rfl, gh.seq ha, by rw [atI_map, hn]; rfl, k _ G H (.refl gh) (.int _)⟩
  · split at h
    · cases r1.str_inv
      cases r2.int_inv
      obtain ⟨n, hn, rfl⟩ := Option.map_eq_some_iff.mp h
      exact .inr (.inr ⟨_, _, n, rfl, rfl, by assumption, hn, k _ G H (.refl gh) (.str _)⟩)
    · cases h
  · cases h
theorem de_ix (ha : DE Γ X a fa) (hb : DE Γ X b fb) (hs : PlainIx b := by intro _ _; rfl) : DE Γ X (.Subscript a b pos) (b2 ixD fa fb) := ⟨(pe_ix ix_seq ha.1 hb.1 hs).imp (TD.two does_ix)⟩
def cutL {α : Type} (xs : List α) (lo hi : Option Int) : List α := (xs.drop (HT.sIx xs.length 0 lo)).take (HT.sIx xs.length xs.length hi - HT.sIx xs.length 0 lo)
theorem cutL_map {α β : Type} (g : α -> β) (xs : List α) (lo hi : Option Int) : cutL (xs.map g) lo hi = (cutL xs lo hi).map g := by
  unfold cutL
  simp
theorem Reps.cut {K : PySem.W.Frag} {G : Hp} {vs : List V} {ds : List D} (r : Reps Γ K G vs ds) (lo hi : Option Int) : Reps Γ K G (cutV vs lo hi) (cutL ds lo hi) := by
  unfold cutV cutL
  rw [r.length]
  exact (r.drop _).take _
def cutS (x : Str) (lo hi : Option Int) : Str := ⟨(cutL x.cps.toList lo hi).toArray⟩
theorem strIdx_eq (lo hi : Option Int) (n : Nat) : Builtin.Str.strSliceIndices lo hi 1 n = (List.range (HT.sIx n n hi - HT.sIx n 0 lo)).map (HT.sIx n 0 lo + ·) := by
  rw [← sliceRange_one]
  unfold Builtin.Str.strSliceIndices
  have h1 : ∀ (o : Option Int) (d : Nat), d <= n -> (match o with | none => (d : Int) | some i => if (1 : Int) > 0 then max 0 (min (if i < 0 then i + (n : Int) else i) n) else max (-1) (min (if i < 0 then i + (n : Int) else i) ((n : Int) - 1))) = ((HT.sIx n d o : Nat) : Int) := fun o d hd => by
    cases o with
    | none => simp [HT.sIx]
    | some i =>
      simp only [HT.sIx, show (1 : Int) > 0 by decide, if_true]
      by_cases h : i < 0
      · simp only [h, if_true]; omega
      · simp only [h, if_false]; omega
  have e0 := h1 lo 0 (Nat.zero_le _)
  have e1 := h1 hi n (Nat.le_refl _)
  rw [← e0, ← e1]
  rfl
theorem slice_eq (x : Str) (lo hi : Option Int) : Txt.slice x lo hi = cutS x lo hi := by
  have key : (Builtin.Str.strSliceIndices lo hi 1 x.length).filterMap (x.cps[·]?) = cutL x.cps.toList lo hi := by
    rw [strIdx_eq, pick_run]
    unfold cutL
    rw [show x.cps.toList.length = x.length by simp [Str.length]]
  unfold Txt.slice cutS
  split
  · rename_i h
    rw [← key]
    have hl : (Builtin.Str.strSliceIndices lo hi 1 x.length).length = x.length := by simpa using h
    rw [strIdx_eq] at hl ⊢
    rw [pick_run]
    rw [List.length_map, List.length_range] at hl
    have hb : HT.sIx x.length x.length hi <= x.length := by
      cases hi with
      | none => simp [HT.sIx]
      | some i => simp only [HT.sIx]; split <;> omega
    have h0 : HT.sIx x.length 0 lo = 0 \/ x.length = 0 := by omega
    have hx : x.cps.toList.length = x.length := by simp [Str.length]
    have e : (x.cps.toList.drop (HT.sIx x.length 0 lo)).take (HT.sIx x.length x.length hi - HT.sIx x.length 0 lo) = x.cps.toList := by
      rcases h0 with h0 | h0
      · rw [h0, List.drop_zero]
        rw [h0] at hl
        exact List.take_of_length_le (by omega)
      · have : x.cps.toList = [] := List.length_eq_zero_iff.mp (by omega)
        rw [this]; simp
    rw [e]
  · rw [key]
def pN : Env' -> Option (Option Int) := fun _ => some none
def pS (f : FE) : Env' -> Option (Option Int) := fun ρ => (f ρ).bind fun d => match d with
  | .int i => some (some i)
  | _ => none
def TDp (Γ : Cn) (K : PySem.W.Frag) (f : Env' -> Option (Option Int)) : TO := fun σ H Q => ∃ G₀ H₀ G ρ o, At Γ K G₀ H₀ G H ρ σ /\ f ρ = some o /\ ∀ G' H', Step G H G' H' -> Q o H'
structure DP (Γ : Cn) (X : Cx) (e : Option Expr) (f : Env' -> Option (Option Int)) : Prop where
  out : PO X e (TDp Γ X.K f)
theorem dp_none : DP Γ X none pN := ⟨fun pins s σ H Q I ⟨G₀, H₀, G, ρ, o, A, h, k⟩ => by
  cases h
  exact po_none pins s σ H Q I (k G H (.refl A.gh))⟩
theorem dp_some (h : DE Γ X e f) : DP Γ X (some e) (pS f) := ⟨fun pins s σ H Q I ⟨G₀, H₀, G, ρ, o, A, q, k⟩ => by
  unfold pS at q
  obtain ⟨d, hd, q⟩ := Option.bind_eq_some_iff.mp q
  split at q <;> cases q
  exact po_some h.1 pins s σ H Q I ⟨G₀, H₀, G, ρ, _, A, hd, fun v G' H' s r => ⟨_, r.int_inv, k G' H' s⟩⟩⟩
theorem sl_str : SlR X (fun x lo hi H Q => ∃ z, x = .str z /\ z.length <= sizeLine /\ Q (.str (cutS z lo hi)) H) := by
  intro pins s σ H x v vl vu lo hi sl Q I rx hs pl pu h
  obtain ⟨z, rfl, hz, q⟩ := h
  obtain ⟨t, rfl⟩ := rx
  refine ⟨"str", _, PySem.F.slot_str_getitem.lookup, typeIs_str _ _ _, ?_⟩
  obtain ⟨l, rfl, el⟩ : ∃ l : Option (Int × Tok), vl = partValue l /\ l.map (·.1) = lo := by
    cases pl with
    | none => exact ⟨none, rfl, rfl⟩
    | int i t => exact ⟨some (i, t), rfl, rfl⟩
  obtain ⟨u, rfl, eu⟩ : ∃ l : Option (Int × Tok), vu = partValue l /\ l.map (·.1) = hi := by
    cases pu with
    | none => exact ⟨none, rfl, rfl⟩
    | int i t => exact ⟨some (i, t), rfl, rfl⟩
  refine wpAny_getItem_str_slice (l := l) (u := u) (st := none) hs rfl ?_
  have e : (if ((Option.map (fun x => x.fst) (none : Option (Int × Tok))).getD 1 == 1 && (slicePicked z l u none).length == z.length) = true then z else { cps := (List.filterMap (fun x => z.cps[x]?) (slicePicked z l u none)).toArray }) = cutS z lo hi := by
    have e0 : Txt.slice z (l.map (·.1)) (u.map (·.1)) = cutS z lo hi := by
      rw [el, eu]
      exact slice_eq z lo hi
    exact e0
  refine post_val_or_str ⟨?_, fun t' k => ?_⟩
  · rw [e, ← slice_eq]
    exact Nat.le_trans (Txt.slice_le z _ _) hz
  · rw [e]
    exact ⟨.str _, H, I.tok k, ⟨_, rfl⟩, q⟩
def sliceD (lo hi : Option Int) : D -> Option D
  | .lst l => some (.lst (cutL l lo hi))
  | .scr l => some (.lst ((cutL l lo hi).map D.int))
  | .tup l => if HT.sIx l.length 0 lo = 0 /\ HT.sIx l.length l.length hi = l.length then none else some (.tup (cutL l lo hi))
  | .str x => if x.length <= sizeLine then some (.str (cutS x lo hi)) else none
  | _ => none
def slF (f : FE) (fl fh : Env' -> Option (Option Int)) : FE := fun ρ => (f ρ).bind fun d => (fl ρ).bind fun l => (fh ρ).bind fun h => sliceD l h d
variable {fl fh : Env' -> Option (Option Int)} {lo hi : Option Expr}
theorem de_slice (he : DE Γ X e f) (hl : DP Γ X lo fl) (hh : DP Γ X hi fh) : DE Γ X (.Subscript e (.Slice lo hi none p2) pos) (slF f fl fh) := ⟨(pe_slice (sl_list.or (sl_tup.or sl_str)) he.1 hl.1 hh.1).imp fun σ H Q => by
  rintro ⟨G₀, H₀, G, ρ, d, A, h, k⟩
  unfold slF at h
  obtain ⟨x, hx, h⟩ := Option.bind_eq_some_iff.mp h
  obtain ⟨l, hl, h⟩ := Option.bind_eq_some_iff.mp h
  obtain ⟨u, hu, h⟩ := Option.bind_eq_some_iff.mp h
  refine ⟨G₀, H₀, G, ρ, x, A, hx, fun v G1 H1 s1 r1 => ⟨G₀, H₀, G1, ρ, l, A.step s1, hl, fun G2 H2 s2 => ⟨G₀, H₀, G2, ρ, u, (A.step s1).step s2, hu, fun G3 H3 s3 => ?_⟩⟩⟩
  have s := (s1.trans s2).trans s3
  have r := r1.mono (s2.gg.trans s3.gg)
  have gh := s3.gh
  unfold sliceD at h
  split at h
  · cases h
    obtain ⟨a, vs, rfl, ha, rv⟩ := r.lst_inv
    exact .inl ⟨a, vs, rfl, .inl (.inl (gh _ _ ha)), new_lst gh (rv.cut l u) fun w G4 H4 s4 r4 => k w G4 H4 (s.trans s4) r4⟩
  · cases h
    obtain ⟨a, rfl, ha⟩ := r.scr_inv
    refine .inl ⟨a, _, rfl, gh.seq ha, new_lst gh ?_ fun w G4 H4 s4 r4 => k w G4 H4 (s.trans s4) r4⟩
    show Reps Γ X.K G3 (cutL _ l u) _
    rw [cutL_map]
    exact Reps.ints _
  · split at h
    · cases h
    · rename_i hw
      cases h
      obtain ⟨a, vs, rfl, ha, rv⟩ := r.tup_inv
      exact .inr (.inl ⟨a, vs, rfl, .inl (.inl (gh _ _ ha)), by rw [rv.length]; exact hw, new_tup gh (rv.cut l u) fun w G4 H4 s4 r4 => k w G4 H4 (s.trans s4) r4⟩)
  · split at h
    · cases h
      cases r.str_inv
      exact .inr (.inr ⟨_, rfl, by assumption, k _ _ _ s (.str _)⟩)
    · cases h
  · cases h⟩
structure MtD (Γ : Cn) (X : Cx) (T id : String) (g : D -> List D -> Option D) : Prop where
  ex : ∃ r, MtR X id r /\ ∀ {G H v x vs ds z}, Same G H -> Rep Γ X.K G v x -> Reps Γ X.K G vs ds -> g x ds = some z -> ∀ Q : VK, (∀ w G' H', Step G H G' H' -> Rep Γ X.K G' w z -> Q w H') -> r v vs H Q
  ty : ∀ {G H v x ds z}, Same G H -> Rep Γ X.K G v x -> g x ds = some z -> tyV X.K T v H
def mF (g : D -> List D -> Option D) (f : FE) (fr : FA) : FE := fun ρ => (f ρ).bind fun d => (fr ρ).bind fun ds => g d ds
variable {name : Str} {apos cpos : Pos} {o : Expr} {fo : FE}
theorem de_bm {T id : String} {g : D -> List D -> Option D} (pa : PlainAttrs T) (slot : PySem.Slot T name id) (hty : typeOf (.builtin id) = pure (.type "method_descriptor")) (hm : MtD Γ X T id g) (ho : DE Γ X o fo) (ha : DA Γ X (e :: es) fr)
    (hbase : attributeBase o name X.env (eval o X.env) = eval o X.env := by rfl)
    (hfew : ((backTo cpos (starEach (e :: es) X.env)).all (fun x => !x.1) && (backToKw cpos (keywordEach [] X.env)).all (fun x => x.1.isSome)
      && decide ((e :: es).length + ([] : List Keyword).length + (if ([] : List Keyword).isEmpty then 0 else 1) < 30)) = true := by rfl)
    (hline : (apos.endLine == cpos.line) = true := by rfl) (hs : starEach (e :: es) X.env = (false, eval e X.env) :: starEach es X.env := by rfl) (hplain : (backTo cpos (starEach es X.env)).any (·.1) = false := by rfl) :
    DE Γ X (.Call (.Attribute o name apos) (e :: es) [] cpos) (mF g fo fr) := ⟨by
  obtain ⟨r, h1, h2⟩ := hm.ex
  refine (pe_bm pa slot hty h1 ho.1 ha.1 hbase hfew hline hs hplain).imp fun σ H Q => ?_
  rintro ⟨G₀, H₀, G, ρ, d, A, h, k⟩
  unfold mF at h
  obtain ⟨x, hx, h⟩ := Option.bind_eq_some_iff.mp h
  obtain ⟨ds, hd, h⟩ := Option.bind_eq_some_iff.mp h
  exact ⟨G₀, H₀, G, ρ, x, A, hx, fun v G1 H1 s1 r1 => ⟨hm.ty s1.gh r1 h, G₀, H₀, G1, ρ, ds, A.step s1, hd, fun vs G2 H2 s2 r2 => h2 s2.gh (r1.mono s2.gg) r2 h Q fun w G3 H3 s3 r3 => k w G3 H3 ((s1.trans s2).trans s3) r3⟩⟩⟩
def strsD : List D -> Option (List Str)
  | [] => some []
  | .str x :: r => (strsD r).map (x :: ·)
  | _ :: _ => none
def joinD : D -> List D -> Option D
  | .str sep, [.lst l] => (strsD l).bind fun ys => if (ys.map (·.length)).sum + ys.length * sep.length <= 16777216 then some (.str (Txt.join sep ys)) else none
  | _, _ => none
theorem strsD_ok {K : PySem.W.Frag} {G : Hp} : ∀ {vs : List V} {ds : List D} {ys : List Str}, Reps Γ K G vs ds -> strsD ds = some ys -> vs = ys.map V.str
  | _, [], ys, r, h => by cases r; cases h; rfl
  | _, d :: ds, ys, .cons h1 h2, h => by
    cases d with
    | str x =>
      obtain ⟨zs, hz, rfl⟩ := Option.map_eq_some_iff.mp (show (strsD ds).map (x :: ·) = some ys from h)
      rw [h1.str_inv, strsD_ok h2 hz]; rfl
    | _ => cases h
theorem strsAre_of : ∀ {ys : List Str} {us : List Value}, Vals (ys.map V.str) us -> StrsAre us ys
  | [], _, r => by rw [List.map_nil] at r; cases r; exact .nil
  | y :: ys, _, r => by
    rw [List.map_cons] at r
    cases r with
    | cons r1 r2 =>
      obtain ⟨t, e⟩ := r1
      subst e
      exact .cons y t (strsAre_of r2)
theorem md_join : MtD Γ X "str" "str.join" joinD := by
  refine ⟨⟨fun v vs H Q => ∃ sep a ys, v = .str sep /\ vs = [.ref a] /\ H a = some (.lst (ys.map V.str)) /\ (ys.map (·.length)).sum + ys.length * sep.length <= 16777216 /\ Q (.str (Txt.join sep ys)) H, ?_, ?_⟩, ?_⟩
  · intro pins s σ H x xs v us Q I rx rs h
    obtain ⟨sep, a, ys, rfl, rfl, ha, hz, q⟩ := h
    obtain ⟨t, rfl⟩ := rx
    obtain ⟨u, rfl, ru⟩ := vals1 rs
    cases ru
    obtain ⟨its, rv, pl, _⟩ := I.list (.inl (.inl ha))
    exact join_list pl.isList (strsAre_of rv) hz fun t' k => ⟨.str _, H, I.tok k, ⟨_, rfl⟩, q⟩
  · intro G H v x vs ds z gh r1 r2 h Q k
    unfold joinD at h
    split at h
    · obtain ⟨ys, hy, h⟩ := Option.bind_eq_some_iff.mp h
      split at h
      · cases h
        cases r1.str_inv
        obtain ⟨v, rfl, r3⟩ := r2.one
        obtain ⟨a, ws, rfl, ha, rw'⟩ := r3.lst_inv
        refine ⟨_, a, ys, rfl, rfl, ?_, by assumption, k _ G H (.refl gh) (.str _)⟩
        rw [← strsD_ok rw' hy]
        exact gh _ _ ha
      · cases h
    · cases h
  · intro G H v x ds z gh r h
    unfold joinD at h
    split at h
    · cases r.str_inv; exact rfl
    · cases h
def blsD : List D -> Option (List Bool)
  | [] => some []
  | .bl x :: r => (blsD r).map (x :: ·)
  | _ :: _ => none
theorem blsD_ok {K : PySem.W.Frag} {G : Hp} : ∀ {vs : List V} {ds : List D} {ys : List Bool}, Reps Γ K G vs ds -> blsD ds = some ys -> vs = ys.map V.bl
  | _, [], ys, r, h => by cases r; cases h; rfl
  | _, d :: ds, ys, .cons h1 h2, h => by
    cases d with
    | bl x =>
      obtain ⟨zs, hz, rfl⟩ := Option.map_eq_some_iff.mp (show (blsD ds).map (x :: ·) = some ys from h)
      rw [h1.bl_inv, blsD_ok h2 hz]; rfl
    | _ => cases h
def allD : List D -> Option D
  | [.lst l] => (blsD l).map fun bs => D.bl (bs.all id)
  | _ => none
theorem vals_bl : ∀ {bs : List Bool} {us : List Value}, Vals (bs.map V.bl) us -> us = bs.map Value.bool
  | [], _, r => by rw [List.map_nil] at r; cases r; rfl
  | y :: ys, _, r => by
    rw [List.map_cons] at r
    cases r with
    | cons r1 r2 => cases r1; rw [vals_bl r2]; rfl
theorem all_range (bs : List Bool) : (List.range bs.length).all (fun i => bs.getD i false) = bs.all id := by
  rw [Bool.eq_iff_iff, List.all_eq_true, List.all_eq_true]
  constructor
  · intro h x hx
    obtain ⟨i, hi, e⟩ := List.mem_iff_getElem.mp hx
    have := h i (List.mem_range.mpr hi)
    simp [List.getD, hi] at this
    rw [← e]; exact this
  · intro h i hi
    have hi' := List.mem_range.mp hi
    have := h (bs[i]) (List.getElem_mem hi')
    simp [List.getD, hi']
    exact this
theorem truth_bl {prog : Program} {w : World} {A : Around} {bs : List Bool} : TruthOf prog w A (fun i v => (bs.map Value.bool).toArray[i]? = some v) (fun i => bs.getD i false) := fun i v s Q E hP hQ => by
  have hP' : (bs.map Value.bool)[i]? = some v := by simpa using hP
  rw [List.getElem?_map] at hP'
  obtain ⟨b, hb, rfl⟩ := Option.map_eq_some_iff.mp hP'
  have : bs.getD i false = b := by simp [List.getD, hb]
  have hQ' : Q (bs.getD i false) s := hQ
  rw [this] at hQ'
  exact wpAny_truthy_bool hQ'
theorem bd_all (hc : X.calm = true) : BltD Γ X "all" allD := by
  refine ⟨fun vs H Q => ∃ (a : Addr) (bs : List Bool), vs = [.ref a] /\ H a = some (.lst (bs.map V.bl)) /\ Q (.bl (bs.all id)) H, ?_, ?_⟩
  · intro pins s σ H xs us Q I r h
    obtain ⟨a, bs, rfl, ha, q⟩ := h
    obtain ⟨u, rfl, ru⟩ := vals1 r
    cases ru
    obtain ⟨its, rv, pl, _⟩ := I.list (.inl (.inl ha))
    have e := vals_bl rv
    subst e
    refine call_all_walk (wpAny_pyIter_list pl.isList ?_)
    have ne : a ≠ s.heap.objs.size := by obtain ⟨o, _, h1, _⟩ := pl; exact Nat.ne_of_lt (Heap.lt_size h1)
    refine ⟨s.heap.objs.size, _, _, _, _, _, fun i => bs.getD i false, rfl, Walks.list (A := X.A.in1) (show X.A.in1.handled = none from I.ok.hd hc) s.heap.objs.size a ne (bs.map Value.bool).toArray, ⟨⟨_, Heap.get?_push_size _ rfl, rfl, rfl⟩, pl.isList.at fun o q => Heap.get?_push_of_some _ q⟩, truth_bl, fun h' tk hk => ?_⟩
    have e2 : (bs.map Value.bool).toArray.size = bs.length := by simp
    rw [e2, all_range]
    refine ⟨.bl _, H, I.kept fun b o z => hk b o ?_ (Heap.get?_push_of_some _ z), rfl, q⟩
    intro z'
    have : b = s.heap.objs.size := by simpa using z'
    exact absurd (Heap.lt_size z) (by rw [this]; exact Nat.lt_irrefl _)
  · intro G H vs ds z gh r h Q k
    unfold allD at h
    split at h
    · obtain ⟨bs, hb, rfl⟩ := Option.map_eq_some_iff.mp h
      obtain ⟨v, rfl, r1⟩ := r.one
      obtain ⟨a, ws, rfl, ha, rw'⟩ := r1.lst_inv
      refine ⟨a, bs, rfl, ?_, k _ G H (.refl gh) (.bl _)⟩
      rw [← blsD_ok rw' hb]
      exact gh _ _ ha
    · cases h
end
end L2
end
section
namespace L2
open PySem PySem.Spec PyProof.Rows
structure Yd (Γ : Cn) (K : PySem.W.Frag) (J : It) (G : Hp) (ds : List D) : Prop where
  go : ∀ (i : Nat) d G2 H2, ds[i]? = some d -> Same G G2 -> Same G2 H2 -> J.go i H2 /\ ∀ x H3, J.yld i H2 x H3 -> ∃ G3, Step G2 H2 G3 H3 /\ Rep Γ K G3 x d
  stop : ∀ G2 H2, Same G G2 -> Same G2 H2 -> J.stop ds.length H2
def TDi (Γ : Cn) (K : PySem.W.Frag) (f : FA) : TI := fun σ H R => ∃ G₀ H₀ G ρ ds, At Γ K G₀ H₀ G H ρ σ /\ f ρ = some ds /\ ∀ J G' H', Step G H G' H' -> Yd Γ K J G' ds -> R J H'
structure DI (Γ : Cn) (X : Cx) (tg e : Expr) (f : FA) : Prop where
  out : PI X tg e (TDi Γ X.K f)
theorem PI.imp {X : Cx} {tg e : Expr} {t t' : TI} (h : PI X tg e t) (i : ∀ σ H R, t' σ H R -> t σ H R) : PI X tg e t' := fun pins s σ H R I q => h pins s σ H R I (i _ _ _ q)
section
variable {Γ : Cn} {X : Cx} {a b c e tg iter : Expr} {es : List Expr} {fa fb fc f : FE} {fr fi : FA} {pos p2 p : Pos}
theorem yd_tup {K : PySem.W.Frag} {G : Hp} {a : Addr} {vs : List V} {ds : List D} (h : G a = some (.tup vs)) (r : Reps Γ K G vs ds) : Yd Γ K (Itt K a) G ds := by
  refine ⟨fun i d G2 H2 hd g1 g2 => ?_, fun G2 H2 g1 g2 => ⟨vs, .inl (.inl (g2 _ _ (g1 _ _ h))), by rw [r.length]; exact Nat.le_refl _⟩⟩
  obtain ⟨v, hv, rv⟩ := r.get hd
  refine ⟨⟨vs, v, .inl (.inl (g2 _ _ (g1 _ _ h))), hv⟩, fun x H3 ⟨e1, e2⟩ => ?_⟩
  subst e1
  have := e2 vs (.inl (.inl (g2 _ _ (g1 _ _ h))))
  rw [hv] at this
  cases this
  exact ⟨G2, .refl g2, rv.mono g1⟩
theorem yd_enum {K : PySem.W.Frag} {G : Hp} {a : Addr} {vs : List V} {ds : List D} (h : SqL K G a vs) (r : Reps Γ K G vs ds) : Yd Γ K (Ite K a) G (ds.mapIdx fun i d => D.tup [.int i, d]) := by
  refine ⟨fun i d G2 H2 hd g1 g2 => ?_, fun G2 H2 g1 g2 => ⟨vs, g2.seq (g1.seq h), by rw [List.length_mapIdx, r.length]; exact Nat.le_refl _⟩⟩
  rw [List.getElem?_mapIdx] at hd
  obtain ⟨d', hd', rfl⟩ := Option.map_eq_some_iff.mp hd
  obtain ⟨v, hv, rv⟩ := r.get hd'
  refine ⟨⟨vs, v, g2.seq (g1.seq h), hv⟩, fun x H3 ⟨T, y, e0, hT, e1, e2⟩ => ?_⟩
  subst e0
  have := e2 vs (g2.seq (g1.seq h))
  rw [hv] at this
  cases this
  subst e1
  have s := Step.new (o := .tup [.int i, v]) g2 hT
  exact ⟨_, s, .tup upd_same (.cons (.int _) (.cons ((rv.mono g1).mono s.gg) .nil))⟩
def itemsD : D -> Option (List D)
  | .lst l => some l
  | .tup l => some l
  | .scr l => some (l.map D.int)
  | _ => none
def itF (f : FE) : FA := fun ρ => (f ρ).bind itemsD
theorem pi_seq {l : Expr} {tl : TE} (hl : PE X l tl) : PI X tg l (fun σ H R => tl σ H fun x H1 => (∃ a, x = .ref a /\ (∃ xs, SqL X.K H1 a xs) /\ R (Itl X.K a) H1) \/ (∃ a, x = .ref a /\ (∃ xs, SqT X.K H1 a xs) /\ R (Itt X.K a) H1)) := by
  intro pins s σ H R I h
  refine thn (hl pins s σ H _ I h) fun v s1 ⟨x, H1, I1, r1, q1⟩ => ?_
  rcases q1 with ⟨a, e, ⟨xs, hq⟩, q⟩ | ⟨a, e, ⟨xs, hq⟩, q⟩
  · subst e
    cases r1
    obtain ⟨its, rv, p, hz⟩ := I1.list hq
    refine wpAny_pyIter_list p.isList ?_
    refine ⟨s1.heap.objs.size, [s1.heap.objs.size], _, _, H1, rfl, I1.kept (t' := s1.toks) fun b o e => Heap.get?_push_of_some _ e, turn_list a _, ⟨_, Heap.get?_push_size _ rfl, rfl, rfl⟩, fun b hb => ?_, q⟩
    have e : b = s1.heap.objs.size := by simpa using hb
    subst e
    exact I1.fpOk (Nat.le_refl _) (I1.hok.fresh (Nat.le_refl _))
  · subst e
    cases r1
    obtain ⟨its, rv, p, hz⟩ := I1.tuple hq
    refine wpAny_pyIter_tuple (show s1.heap.IsTuple a its.toArray from p) ?_
    refine ⟨s1.heap.objs.size, [s1.heap.objs.size], _, _, H1, rfl, I1.kept (t' := s1.toks) fun b o e => Heap.get?_push_of_some _ e, turn_tuple a _, ⟨_, Heap.get?_push_size _ rfl, rfl, rfl⟩, fun b hb => ?_, q⟩
    have e : b = s1.heap.objs.size := by simpa using hb
    subst e
    exact I1.fpOk (Nat.le_refl _) (I1.hok.fresh (Nat.le_refl _))
theorem di_seq (h : DE Γ X iter f) : DI Γ X tg iter (itF f) := ⟨(pi_seq h.1).imp fun σ H R => by
  rintro ⟨G₀, H₀, G, ρ, ds, A, h, k⟩
  unfold itF at h
  obtain ⟨d, hd, h⟩ := Option.bind_eq_some_iff.mp h
  refine ⟨G₀, H₀, G, ρ, d, A, hd, fun v G' H' s r => ?_⟩
  unfold itemsD at h
  split at h
  · cases h
    obtain ⟨a, vs, rfl, ha, rv⟩ := r.lst_inv
    refine .inl ⟨a, rfl, ⟨vs, .inl (.inl (s.gh _ _ ha))⟩, k _ G' H' s ?_⟩
    refine ⟨fun i d G2 H2 hd g1 g2 => ?_, fun G2 H2 g1 g2 => ⟨vs, .inl (.inl (g2 _ _ (g1 _ _ ha))), by rw [rv.length]; exact Nat.le_refl _⟩⟩
    obtain ⟨v, hv, rv'⟩ := rv.get hd
    refine ⟨⟨vs, v, .inl (.inl (g2 _ _ (g1 _ _ ha))), hv⟩, fun x H3 ⟨e1, e2⟩ => ?_⟩
    subst e1
    have := e2 vs (.inl (.inl (g2 _ _ (g1 _ _ ha))))
    rw [hv] at this
    cases this
    exact ⟨G2, .refl g2, rv'.mono g1⟩
  · cases h
    obtain ⟨a, vs, rfl, ha, rv⟩ := r.tup_inv
    exact .inr ⟨a, rfl, ⟨vs, .inl (.inl (s.gh _ _ ha))⟩, k _ G' H' s (yd_tup ha rv)⟩
  · rename_i l
    cases h
    obtain ⟨a, rfl, ha⟩ := r.scr_inv
    refine .inl ⟨a, rfl, ⟨_, s.gh.seq ha⟩, k _ G' H' s ?_⟩
    refine ⟨fun i d G2 H2 hd g1 g2 => ?_, fun G2 H2 g1 g2 => ⟨_, g2.seq (g1.seq ha), by simp⟩⟩
    rw [List.getElem?_map] at hd
    obtain ⟨n, hn, rfl⟩ := Option.map_eq_some_iff.mp hd
    have hv : (List.map V.int l)[i]? = some (V.int n) := by rw [List.getElem?_map, hn]; rfl
    refine ⟨⟨_, _, g2.seq (g1.seq ha), hv⟩, fun x H3 ⟨e1, e2⟩ => ?_⟩
    subst e1
    have := e2 _ (g2.seq (g1.seq ha))
    rw [hv] at this
    cases this
    exact ⟨G2, .refl g2, .int _⟩
  · cases h⟩
def signsD : D -> Option (List D)
  | .str x => some (x.cps.toList.map fun c => D.str ⟨#[c]⟩)
  | _ => none
def itS (f : FE) : FA := fun ρ => (f ρ).bind signsD
theorem di_str {n : Str} {q : Pos} (h : DE Γ X iter f) : DI Γ X (.Name n q) iter (itS f) := ⟨(pi_str h.1).imp fun σ H R => by
  rintro ⟨G₀, H₀, G, ρ, ds, A, h, k⟩
  unfold itS at h
  obtain ⟨d, hd, h⟩ := Option.bind_eq_some_iff.mp h
  refine ⟨G₀, H₀, G, ρ, d, A, hd, fun v G' H' s r => ?_⟩
  unfold signsD at h
  split at h <;> cases h
  cases r.str_inv
  rename_i x
  refine ⟨x, rfl, k _ G' H' s ⟨fun i d G2 H2 hd g1 g2 => ?_, fun G2 H2 g1 g2 => ?_⟩⟩
  · rw [List.getElem?_map] at hd
    obtain ⟨c, hc, rfl⟩ := Option.map_eq_some_iff.mp hd
    have hc' : x.cps[i]? = some c := by simpa using hc
    refine ⟨(Array.getElem?_eq_some_iff.mp hc').1, fun y H3 ⟨e1, c2, h2, e2⟩ => ?_⟩
    subst e1
    subst e2
    rw [hc'] at h2
    cases h2
    exact ⟨G2, .refl g2, .str _⟩
  · show _ = x.cps.size
    simp⟩
def enumD : D -> Option (List D)
  | .lst l => some (l.mapIdx fun i d => D.tup [.int i, d])
  | .scr l => some ((l.map D.int).mapIdx fun i d => D.tup [.int i, d])
  | _ => none
def itE (f : FE) : FA := fun ρ => (f ρ).bind enumD
theorem di_enum {elts : List Expr} {k1 : Nat} {tpos : Pos} (hg : Gl X "enumerate") (hm : X.mg "enumerate" = none) (h : DE Γ X a f) (hs : starEach [a] X.env = [(false, eval a X.env)] := by rfl) (hs0 : starEach ([a] : List Expr) X.env = (false, eval a X.env) :: starEach [] X.env := by rfl) :
    DI Γ X (.Tuple elts k1 tpos) (.Call (.Name "enumerate" p) [a] [] pos) (itE f) := ⟨(pi_enum hg hm (pa_cons h.1 pa_nil hs0) hs).imp fun σ H R => by
  rintro ⟨G₀, H₀, G, ρ, ds, A, h, k⟩
  unfold itE at h
  obtain ⟨d, hd, h⟩ := Option.bind_eq_some_iff.mp h
  refine ⟨G₀, H₀, G, ρ, d, A, hd, fun v G' H' s r => ?_⟩
  unfold enumD at h
  split at h
  · cases h
    obtain ⟨a, vs, rfl, ha, rv⟩ := r.lst_inv
    exact ⟨a, rfl, ⟨vs, .inl (.inl (s.gh _ _ ha))⟩, k _ G' H' s (yd_enum (.inl (.inl ha)) rv)⟩
  · cases h
    obtain ⟨a, rfl, ha⟩ := r.scr_inv
    exact ⟨a, rfl, ⟨_, s.gh.seq ha⟩, k _ G' H' s (yd_enum ha (Reps.ints _))⟩
  · cases h⟩
theorem yd_range {K : PySem.W.Frag} {G : Hp} {lo : Int} {n : Nat} : Yd Γ K (Itr lo n) G ((List.range n).map fun i : Nat => D.int (lo + i)) := by
  refine ⟨fun i d G2 H2 hd g1 g2 => ?_, fun G2 H2 g1 g2 => ?_⟩
  · rw [List.getElem?_map] at hd
    obtain ⟨j, hj, rfl⟩ := Option.map_eq_some_iff.mp hd
    have hi : i < n := by
      have := (List.getElem?_eq_some_iff.mp hj).1
      simpa using this
    have e : j = i := by simpa [hi] using hj.symm
    subst e
    refine ⟨hi, fun x H3 ⟨e1, e2⟩ => ?_⟩
    subst e1
    subst e2
    exact ⟨G2, .refl g2, .int _⟩
  · show n <= _
    simp
def rng1 : List D -> Option (List D)
  | [.int j] => if -(2 ^ 62) <= j /\ j < 2 ^ 62 then some ((List.range j.toNat).map fun i : Nat => D.int (0 + i)) else none
  | _ => none
def itR (g : List D -> Option (List D)) (fr : FA) : FA := fun ρ => (fr ρ).bind g
theorem di_range1 (hg : Gl X "range") (hm : X.mg "range" = none) (h : DA Γ X [a] fr) (hs : starEach [a] X.env = [(false, eval a X.env)] := by rfl) : DI Γ X tg (.Call (.Name "range" p) [a] [] pos) (itR rng1 fr) := ⟨(pi_range1 hg hm h.1 hs).imp fun σ H R => by
  rintro ⟨G₀, H₀, G, ρ, ds, A, h, k⟩
  unfold itR at h
  obtain ⟨d, hd, h⟩ := Option.bind_eq_some_iff.mp h
  refine ⟨G₀, H₀, G, ρ, d, A, hd, fun v G' H' s r => ?_⟩
  unfold rng1 at h
  split at h
  · split at h
    · rename_i hz
      cases h
      obtain ⟨v, rfl, r1⟩ := r.one
      cases r1.int_inv
      exact ⟨_, rfl, hz.1, hz.2, k _ G' H' s yd_range⟩
    · cases h
  · cases h⟩
abbrev FG := D -> Env' -> Option Env'
abbrev FGs := List D -> Env' -> Option Env'
def TDg (Γ : Cn) (K : PySem.W.Frag) (g : FG) : TG := fun v σ H Q => ∃ G₀ H₀ G ρ d ρ', At Γ K G₀ H₀ G H ρ σ /\ Rep Γ K G v d /\ g d ρ = some ρ' /\ ∀ σ', At Γ K G₀ H₀ G H ρ' σ' -> Q σ' H
def TDgs (Γ : Cn) (K : PySem.W.Frag) (g : FGs) : TGs := fun vs σ H Q => ∃ G₀ H₀ G ρ ds ρ', At Γ K G₀ H₀ G H ρ σ /\ Reps Γ K G vs ds /\ g ds ρ = some ρ' /\ ∀ σ', At Γ K G₀ H₀ G H ρ' σ' -> Q σ' H
structure DG (Γ : Cn) (X : Cx) (tg : Expr) (g : FG) : Prop where
  pg : PG X tg (TDg Γ X.K g)
  no : ∀ d ρ ρ', g d ρ = some ρ' -> NoOwn ρ -> NoOwn ρ'
structure DGs (Γ : Cn) (X : Cx) (ts : List Expr) (g : FGs) : Prop where
  pg : PGs X ts (TDgs Γ X.K g)
  no : ∀ d ρ ρ', g d ρ = some ρ' -> NoOwn ρ -> NoOwn ρ'
theorem PG.imp {t t' : TG} (h : PG X tg t) (i : ∀ v σ H Q, t' v σ H Q -> t v σ H Q) : PG X tg t' := fun pins s σ H v u Q I r q => h pins s σ H v u Q I r (i _ _ _ _ q)
theorem PGs.imp {ts : List Expr} {t t' : TGs} (h : PGs X ts t) (i : ∀ v σ H Q, t' v σ H Q -> t v σ H Q) : PGs X ts t' := fun pins s σ H v u Q I r q => h pins s σ H v u Q I r (i _ _ _ _ q)
def gSet (i : Nat) : FG := fun d ρ => some (ρ.set i (some (.sh d)))
theorem noOwn_set {ρ : Env'} {i : Nat} {d : D} (h : NoOwn ρ) : NoOwn (ρ.set i (some (.sh d))) := fun j ds e => by
  by_cases hj : j = i
  · subst hj
    rw [List.getElem?_set, if_pos rfl] at e
    split at e <;> cases e
    exact ⟨_, rfl⟩
  · rw [List.getElem?_set_ne (Ne.symm hj)] at e
    exact h j ds e
theorem dg_name (i : Nat) {x : Str} (hN : X.N.Nodup) (hi : X.N[i]? = some x := by rfl) (hx : Loc X.env.scope x := by first | exact Or.inl rfl | exact Or.inr rfl) (hf : X.fn x = true \/ X.env.scope.names.lookup x = some .local := by first | exact .inl rfl | exact .inr rfl | assumption) : DG Γ X (.Name x pos) (gSet i) := by
  refine ⟨(pg_name hN hi hx hf).imp fun v σ H Q => ?_, fun d ρ ρ' e h => ?_⟩
  · rintro ⟨G₀, H₀, G, ρ, d, ρ', A, r, h, k⟩
    cases h
    exact k _ (A.setSh r)
  · cases e
    exact noOwn_set h
def gsNil : FGs := fun ds ρ => match ds with
  | [] => some ρ
  | _ => none
def gsCons (g : FG) (gs : FGs) : FGs := fun ds ρ => match ds with
  | d :: r => (g d ρ).bind fun ρ' => gs r ρ'
  | _ => none
theorem dgs_nil : DGs Γ X [] gsNil := by
  refine ⟨pgs_nil.imp fun vs σ H Q => ?_, fun d ρ ρ' e h => ?_⟩
  · rintro ⟨G₀, H₀, G, ρ, ds, ρ', A, r, h, k⟩
    unfold gsNil at h
    split at h <;> cases h
    cases r
    exact ⟨rfl, k σ A⟩
  · unfold gsNil at e
    split at e <;> cases e
    exact h
theorem dgs_cons {ts : List Expr} {g : FG} {gs : FGs} (h1 : DG Γ X e g) (h2 : DGs Γ X ts gs) (hs : (assignEach (e :: ts) X.env).map (·.2) = assign e X.env :: (assignEach ts X.env).map (·.2) := by rfl) : DGs Γ X (e :: ts) (gsCons g gs) := by
  refine ⟨(pgs_cons h1.pg h2.pg hs).imp fun vs σ H Q => ?_, fun ds ρ ρ' e h => ?_⟩
  · rintro ⟨G₀, H₀, G, ρ, ds, ρ', A, r, h, k⟩
    unfold gsCons at h
    split at h
    · obtain ⟨ρ1, h1, h⟩ := Option.bind_eq_some_iff.mp h
      cases r with
      | cons r1 r2 => exact ⟨_, _, rfl, G₀, H₀, G, ρ, _, ρ1, A, r1, h1, fun σ1 A1 => ⟨G₀, H₀, G, ρ1, _, ρ', A1, r2, h, k⟩⟩
    · cases h
  · unfold gsCons at e
    split at e
    · obtain ⟨ρ1, e1, e⟩ := Option.bind_eq_some_iff.mp e
      exact h2.no _ _ _ e (h1.no _ _ _ e1 h)
    · cases e
def gTupD (n : Nat) (gs : FGs) : FG := fun d ρ => match d with
  | .tup ds => if ds.length = n then gs ds ρ else none
  | _ => none
theorem dg_tup {ts : List Expr} {k : Nat} {gs : FGs} {n : Nat} (hc : X.calm = true) (h : DGs Γ X ts gs) (hn : (assignEach ts X.env).length = n := by rfl) (hst : (assignEach ts X.env).findIdx? (·.1) = none := by rfl) : DG Γ X (.Tuple ts k pos) (gTupD n gs) := by
  refine ⟨(pg_tup hc h.pg hn hst).imp fun v σ H Q => ?_, fun ds ρ ρ' e q => ?_⟩
  · rintro ⟨G₀, H₀, G, ρ, d, ρ', A, r, h, k⟩
    unfold gTupD at h
    split at h
    · split at h
      · rename_i hl
        obtain ⟨a, vs, rfl, ha, rv⟩ := r.tup_inv
        exact ⟨a, vs, rfl, .inl (.inl (A.gh _ _ ha)), by rw [rv.length]; exact hl, G₀, H₀, G, ρ, _, ρ', A, rv, h, k⟩
      · cases h
    · cases h
  · unfold gTupD at e
    split at e
    · split at e
      · exact h.no _ _ _ e q
      · cases e
    · cases e
def compL (g : FG) (ft : FT) (fe : FE) : List D -> Env' -> Option (List D)
  | [], _ => some []
  | x :: xs, ρ => (g x ρ).bind fun ρ1 => (ft ρ1).bind fun b => if b = true then (fe ρ1).bind fun d => (compL g ft fe xs ρ1).map (d :: ·) else compL g ft fe xs ρ1
def fvEnv (fv : List (Option Nat)) (ρ : Env') : Env' := fv.map fun o => o.bind fun j => match ρ[j]? with
  | some (some (.sh d)) => some (.sh d)
  | _ => none
def compF (fi : FA) (g : FG) (ft : FT) (fe : FE) (fv : List (Option Nat)) : FA := fun ρ => (fi ρ).bind fun xs => if xs.length <= sizeLine then compL g ft fe xs (fvEnv fv ρ) else none
structure DTs (Γ : Cn) (X : Cx) (es : List Expr) (f : FT) : Prop where
  out : PTs X es (TDt Γ X.K f)
theorem PTs.imp {t t' : TT} (h : PTs X es t) (i : ∀ σ H Q, t' σ H Q -> t σ H Q) : PTs X es t' := fun pins s σ H Q I q => h pins s σ H Q I (i _ _ _ q)
def tT : FT := fun _ => some true
theorem dts_nil : DTs Γ X [] tT := ⟨pts_nil.imp fun σ H Q => by
  rintro ⟨G₀, H₀, G, ρ, b, A, h, k⟩
  cases h
  exact k G H (.refl A.gh)⟩
variable {scope : Scope} {N' : List Str} {fv : List (Option Nat)} {g : FG} {ft : FT} {fe : FE} {ifs : List Expr} {elt : Expr}
structure DB (Γ : Cn) (X : Cx) (N' : List Str) (scope : Scope) (tg : Expr) (ifs : List Expr) (elt : Expr) (g : FG) (ft : FT) (fe : FE) : Prop where
  out : ∀ (cl : List (Str × Addr)) (C : Addr) (s₀ : Shared) (H₀ : Hp) (fp : List Addr), DG Γ (compCx X N' scope cl C s₀ H₀ fp) tg g /\ DTs Γ (compCx X N' scope cl C s₀ H₀ fp) ifs ft /\ DE Γ (compCx X N' scope cl C s₀ H₀ fp) elt fe
theorem DB.pb (h : DB Γ X N' scope tg ifs elt g ft fe) : PB X N' scope tg ifs elt (TDg Γ X.K g) (TDt Γ X.K ft) (TD Γ X.K fe) := fun cl C s₀ H₀ fp => ⟨(h.1 cl C s₀ H₀ fp).1.pg, (h.1 cl C s₀ H₀ fp).2.1.1, (h.1 cl C s₀ H₀ fp).2.2.1⟩
theorem fv_rel {K : PySem.W.Frag} {G₀ H₀ G H : Hp} {ρ : Env'} {σ : St} (A : At Γ K G₀ H₀ G H ρ σ) : At Γ K G H G H (fvEnv fv ρ) (fvSt fv σ) /\ NoOwn (fvEnv fv ρ) := by
  have no : NoOwn (fvEnv fv ρ) := fun i ds e => by
    unfold fvEnv at e
    rw [List.getElem?_map] at e
    obtain ⟨o, ho, e⟩ := Option.map_eq_some_iff.mp e
    cases o with
    | none => cases e
    | some j =>
      simp only [Option.bind_some] at e
      split at e <;> cases e
      exact ⟨_, rfl⟩
  refine ⟨⟨.refl A.gh, .ofSh (by simp [fvEnv, fvSt]) no fun i d e => ?_⟩, no⟩
  unfold fvEnv at e
  unfold fvSt
  rw [List.getElem?_map] at e ⊢
  obtain ⟨o, ho, e⟩ := Option.map_eq_some_iff.mp e
  rw [ho]
  cases o with
  | none => cases e
  | some j =>
    simp only [Option.bind_some] at e
    split at e
    · rename_i d' hd'
      cases e
      obtain ⟨v, h1, h2⟩ := A.env.sh j d hd'
      exact ⟨v, by simp [h1], h2⟩
    · cases e
theorem comp_tdo (no : ∀ d ρ ρ', g d ρ = some ρ' -> NoOwn ρ -> NoOwn ρ') : ∀ σ H Q, TDo Γ X.K (compF fi g ft fe fv) σ H Q -> tLC (TDi Γ X.K fi) (TDg Γ X.K g) (TDt Γ X.K ft) (TD Γ X.K fe) fv σ H Q := by
  rintro σ H Q ⟨G₀, H₀, G, ρ, ds, A, h, k⟩
  unfold compF at h
  obtain ⟨xs, hx, h⟩ := Option.bind_eq_some_iff.mp h
  split at h
  case isFalse => cases h
  rename_i hz
  refine ⟨G₀, H₀, G, ρ, xs, A, hx, fun J G1 H1 s1 Y acc hacc => ?_⟩
  have gacc : G1 acc = none := s1.gh.free hacc
  obtain ⟨A0, no0⟩ := fv_rel (fv := fv) (A.step s1)
  refine ⟨fun i m ys σ' H' => m = xs.length - i /\ i <= xs.length /\ ys.length <= i /\ ∃ G' ρ' done rest, At Γ X.K G1 H1 G' H' ρ' σ' /\ NoOwn ρ' /\ H' acc = some (.lst ys) /\ G' acc = none /\ Reps Γ X.K G' ys done /\ compL g ft fe (xs.drop i) ρ' = some rest /\ done ++ rest = ds, ?_, ?_⟩
  · refine ⟨xs.length, rfl, Nat.zero_le _, Nat.le_refl _, G1, fvEnv fv ρ, [], ds, ?_, no0, upd_same, gacc, .nil, by rw [List.drop_zero]; exact h, rfl⟩
    have sn := Step.newOwn (o := .lst []) s1.gh hacc
    exact ⟨sn, .ofSh A0.env.len no0 A0.env.sh⟩
  · rintro i m ys σ' H' ⟨hm, hi, hyi, G', ρ', done, rest, A', no', hacc', gacc', ry, hr, hd⟩
    subst hm
    refine ⟨hacc', ?_⟩
    by_cases hlt : i < xs.length
    · right
      have hxi : xs[i]? = some xs[i] := by simp [hlt]
      obtain ⟨go, yl⟩ := Y.go i _ G' H' hxi A'.st.gg A'.gh
      refine ⟨go, fun x H2 hy => ?_⟩
      obtain ⟨G2, s2, r2⟩ := yl x H2 hy
      have A2 := A'.step s2
      have hdr : xs.drop i = xs[i] :: xs.drop (i + 1) := List.drop_eq_getElem_cons hlt
      rw [hdr] at hr
      unfold compL at hr
      obtain ⟨ρ1, h1, hr⟩ := Option.bind_eq_some_iff.mp hr
      obtain ⟨b, h2, hr⟩ := Option.bind_eq_some_iff.mp hr
      refine ⟨G1, H1, G2, ρ', _, ρ1, A2, r2, h1, fun σ2 A3 => ⟨G1, H1, G2, ρ1, b, A3, h2, fun G4 H4 s4 => ?_⟩⟩
      have no1 := no _ _ _ h1 no'
      have hH4 : H4 acc = some (.lst ys) := s4.hh _ _ (s2.hh _ _ hacc')
      have hG4 : G4 acc = none := (s4.out _ _ (s2.hh _ _ hacc')).trans ((s2.out _ _ hacc').trans gacc')
      cases b with
      | false =>
        rw [if_neg Bool.false_ne_true] at hr
        refine iteF ⟨xs.length - (i + 1), by omega, rfl, hlt, by omega, G4, ρ1, done, rest, A3.step s4, no1, hH4, hG4, (ry.mono s2.gg).mono s4.gg, hr, hd⟩
      | true =>
        rw [if_pos rfl] at hr
        obtain ⟨d, h3, hr⟩ := Option.bind_eq_some_iff.mp hr
        obtain ⟨zs, h5, rfl⟩ := Option.map_eq_some_iff.mp hr
        refine iteT ⟨G1, H1, G4, ρ1, d, A3.step s4, h3, fun v G5 H5 s5 r5 => ?_⟩
        have A5 := (A3.step s4).step s5
        have hH5 : H5 acc = some (.lst ys) := s5.hh _ _ hH4
        have hG5 : G5 acc = none := (s5.out _ _ hH4).trans hG4
        refine ⟨hH5, by omega, xs.length - (i + 1), by omega, rfl, hlt, by rw [List.length_append, List.length_singleton]; omega, G5, ρ1, done ++ [d], zs, ?_, no1, upd_same, hG5, ((((ry.mono s2.gg).mono s4.gg).mono s5.gg).append (.cons r5 .nil)), h5, by rw [List.append_assoc]; exact hd⟩
        refine ⟨⟨fun b o e => ?_, A5.st.gg, fun b o e => ?_, A5.st.out⟩, .ofSh A5.env.len no1 A5.env.sh⟩
        · rw [upd_ne (ne_of_none e hacc)]; exact A5.st.hh b o e
        · rw [upd_ne (ne_of_none e hG5)]; exact A5.st.gh b o e
    · left
      have e : i = xs.length := by omega
      subst e
      rw [List.drop_length] at hr
      cases hr
      rw [List.append_nil] at hd
      subst hd
      refine ⟨Y.stop G' H' A'.st.gg A'.gh, ?_⟩
      have hf : H' = upd (fun b => if b = acc then none else H' b) acc (.lst ys) := by
        funext b
        by_cases hb : b = acc
        · subst hb; rw [upd_same]; exact hacc'
        · rw [upd_ne hb, if_neg hb]
      rw [hf]
      refine k acc ys G' (fun b => if b = acc then none else H' b) (s1.trans ⟨fun b o e => ?_, A'.st.gg, fun b o e => ?_, A'.st.out⟩) (if_pos rfl) ry
      · show (if b = acc then none else H' b) = some o
        rw [if_neg (ne_of_none e hacc)]; exact A'.st.hh b o e
      · show (if b = acc then none else H' b) = some o
        rw [if_neg (ne_of_none e gacc')]; exact A'.st.gh b o e
theorem do_lc (hc : X.calm = true) (S : CompScope X scope) (F : FvOk X N' scope fv) (hi : DI Γ X tg iter fi) (hb : DB Γ X N' scope tg ifs elt g ft fe) (hs : ∀ x, foldedSetIterable iter X.env x = pure x := by intro _; rfl) :
    DO Γ X (.ListComp elt [⟨tg, iter, ifs, 0⟩] scope pos) (compF fi g ft fe fv) := ⟨(pe_lc hc S F hi.1 hb.pb hs).imp (comp_tdo (hb.1 [] 0 X.s₀ X.H₀ []).1.no)⟩
end
end L2
end
section
namespace L2
open PySem PySem.Spec PyProof.Rows
section
variable {Γ : Cn} {X : Cx} {a b c e tg iter : Expr} {es : List Expr} {fa fb fc f : FE} {fr fi : FA} {pos p2 p : Pos} {g g' : FS} {st : Stmt} {sts : List Stmt} {ft : FT}
def sNil : FS := fun ρ => some (.nx, ρ)
def sSeq (g g' : FS) : FS := fun ρ => (g ρ).bind fun r => match r.1 with
  | .nx => g' r.2
  | fl => some (fl, r.2)
theorem dss_nil : DSs Γ X [] sNil := ⟨pss_nil.imp fun E σ H => by
  rintro ⟨G₀, H₀, G, ρ, fl, ρ', A, h, k⟩
  cases h
  exact k σ G H (.refl _) A⟩
theorem dss_one (h : DS Γ X st g) : DSs Γ X [st] g := ⟨pss_one h.1⟩
theorem dss_cons (h1 : DS Γ X st g) (h2 : DSs Γ X sts g') : DSs Γ X (st :: sts) (sSeq g g') := ⟨(pss_cons h1.1 h2.1).imp fun E σ H => by
  rintro ⟨G₀, H₀, G, ρ, fl, ρ', A, h, k⟩
  unfold sSeq at h
  obtain ⟨⟨fl1, ρ1⟩, h1, h⟩ := Option.bind_eq_some_iff.mp h
  refine ⟨G₀, H₀, G, ρ, fl1, ρ1, A, h1, fun σ1 G1 H1 sm A1 => ?_⟩
  cases fl1 with
  | nx => exact ⟨G₀, H₀, G1, ρ1, fl, ρ', A1, h, fun σ' G' H' sm' A' => k σ' G' H' (sm.trans sm') A'⟩
  | bk => cases h; exact k σ1 G1 H1 sm A1
  | ct => cases h; exact k σ1 G1 H1 sm A1
  | rt d => cases h; exact k σ1 G1 H1 sm A1
  | ow d => cases h; exact k σ1 G1 H1 sm A1
  | nw d => cases h; exact k σ1 G1 H1 sm A1
  | od d => cases h; exact k σ1 G1 H1 sm A1⟩
def sRet (f : FE) : FS := fun ρ => (f ρ).map fun d => (.rt d, ρ)
theorem ds_ret (h : DE Γ X e f) : DS Γ X (.Return (some e) pos) (sRet f) := ⟨(ps_ret h.1).imp fun E σ H => by
  rintro ⟨G₀, H₀, G, ρ, fl, ρ', A, h, k⟩
  unfold sRet at h
  obtain ⟨d, hd, h⟩ := Option.map_eq_some_iff.mp h
  cases h
  exact ⟨G₀, H₀, G, ρ, d, A, hd, fun v G' H' s r => k σ G' H' s.gg (A.step s) v r⟩⟩
def sSet (i : Nat) (f : FE) : FS := fun ρ => (f ρ).map fun d => (.nx, ρ.set i (some (.sh d)))
theorem ds_set (i : Nat) {x : Str} {pos' : Pos} (hN : X.N.Nodup) (h : DE Γ X e f) (hi : X.N[i]? = some x := by rfl) (hx : Loc X.env.scope x := by first | exact Or.inl rfl | exact Or.inr rfl) (hs : swapsWith e (some (.Name x pos')) pos.line X.env = pure false := by rfl) (hf : X.fn x = true \/ X.env.scope.names.lookup x = some .local := by first | exact .inl rfl | exact .inr rfl | assumption) :
    DS Γ X (.Assign [.Name x pos'] e pos) (sSet i f) := ⟨(ps_set hN hi hx h.1 hs hf).imp fun E σ H => by
  rintro ⟨G₀, H₀, G, ρ, fl, ρ', A, h, k⟩
  unfold sSet at h
  obtain ⟨d, hd, h⟩ := Option.map_eq_some_iff.mp h
  cases h
  exact ⟨G₀, H₀, G, ρ, d, A, hd, fun v G' H' s r => k _ G' H' s.gg ((A.step s).setSh r)⟩⟩
def sOwn (i : Nat) (f : FA) : FS := fun ρ => (f ρ).map fun d => (.nx, ρ.set i (some (.own d)))
theorem own_td {i : Nat} : ∀ E σ H, TDs Γ X.K (sOwn i fr) E σ H -> tAsg (TDo Γ X.K fr) (gName i) E σ H := by
  rintro E σ H ⟨G₀, H₀, G, ρ, fl, ρ', A, h, k⟩
  unfold sOwn at h
  obtain ⟨d, hd, h⟩ := Option.map_eq_some_iff.mp h
  cases h
  exact ⟨G₀, H₀, G, ρ, d, A, hd, fun p vs G' H' s hp r => k _ G' _ s.gg ((A.step s).setOwn hp r)⟩
theorem ds_own (i : Nat) {x : Str} {pos' : Pos} (hN : X.N.Nodup) (h : DO Γ X e fr) (hi : X.N[i]? = some x := by rfl) (hx : Loc X.env.scope x := by first | exact Or.inl rfl | exact Or.inr rfl) (hs : swapsWith e (some (.Name x pos')) pos.line X.env = pure false := by rfl) (hf : X.fn x = true \/ X.env.scope.names.lookup x = some .local := by first | exact .inl rfl | exact .inr rfl | assumption) :
    DS Γ X (.Assign [.Name x pos'] e pos) (sOwn i fr) := ⟨(ps_set hN hi hx h.1 hs hf).imp own_td⟩
variable {scope : Scope} {N' : List Str} {fv : List (Option Nat)} {gg : FG} {fe : FE} {ifs : List Expr} {elt : Expr}
def sApp (i : Nat) (f : FE) : FS := fun ρ => match ρ[i]? with
  | some (some (.own ds)) => (f ρ).bind fun d => if ds.length < sizeLine then some (.nx, ρ.set i (some (.own (ds ++ [d])))) else none
  | _ => none
theorem ds_append (i : Nat) {x : Str} {vp apos cpos : Pos} (h : DE Γ X e f) (hN : X.N[i]? = some x := by rfl) (hv : Vis X.env.scope x := by first | exact Or.inl rfl | exact Or.inr (Or.inl rfl) | exact Or.inr (Or.inr rfl)) (hd : (x == ("__debug__" : Str)) = false := by decide)
    (hcd : (x == ("__classdict__" : Str)) = false := by decide)
    (hbase : attributeBase (.Name x vp) "append" X.env (eval (.Name x vp) X.env) = eval (.Name x vp) X.env := by rfl)
    (hfew : ((backTo cpos (starEach [e] X.env)).all (fun x => !x.1) && (backToKw cpos (keywordEach [] X.env)).all (fun x => x.1.isSome)
      && decide ([e].length + ([] : List Keyword).length + (if ([] : List Keyword).isEmpty then 0 else 1) < 30)) = true := by rfl)
    (hline : (apos.endLine == cpos.line) = true := by rfl) (hs : starEach [e] X.env = (false, eval e X.env) :: starEach [] X.env := by rfl) (hplain : (backTo cpos (starEach [] X.env)).any (·.1) = false := by rfl)
    (hsw : swapsWith (.Call (.Attribute (.Name x vp) "append" apos) [e] [] cpos) none pos.line X.env = pure false := by rfl) :
    DS Γ X (.Expr (.Call (.Attribute (.Name x vp) "append" apos) [e] [] cpos) pos) (sApp i f) := ⟨(ps_expr (pe_bm PySem.F.plainAttrs_list PySem.F.slot_list_append PySem.F.type_list_append mt_append (pe_var hN hv hd hcd) (pa_cons h.1 pa_nil hs) hbase hfew hline hs hplain) hsw).imp fun E σ H => by
    rintro ⟨G₀, H₀, G, ρ, fl, ρ', A, h, k⟩
    unfold sApp at h
    split at h
    · rename_i ds hi
      obtain ⟨d, hd, h⟩ := Option.bind_eq_some_iff.mp h
      split at h
      · rename_i hz
        cases h
        obtain ⟨a, vs, h1, h2, h3, h4, h5⟩ := A.env.own i ds hi
        refine ⟨.ref a, h1, .inl ⟨rfl, vs, .inl (.inl h4)⟩, G₀, H₀, G, ρ, d, A, hd, fun v G1 H1 s1 r1 => ?_⟩
        have A1 := A.step s1
        refine ⟨a, vs, v, rfl, rfl, s1.hh _ _ h4, by rw [h5.length]; exact hz, ?_⟩
        exact k σ G1 _ s1.gg (A1.chOwn hi h1 ((h5.mono s1.gg).append (.cons r1 .nil)))
      · cases h
    · cases h⟩
def sFrz (i : Nat) (g : FS) : FS := fun ρ => match ρ[i]? with
  | some (some (.own ds)) => g (ρ.set i (some (.sh (.lst ds))))
  | _ => none
theorem TDs.frz (i : Nat) : ∀ E σ H, TDs Γ X.K (sFrz i g) E σ H -> TDs Γ X.K g E σ H := by
  rintro E σ H ⟨G₀, H₀, G, ρ, fl, ρ', A, h, k⟩
  unfold sFrz at h
  split at h
  · rename_i ds hi
    obtain ⟨G', sm, A'⟩ := A.freeze hi
    exact ⟨G₀, H₀, G', _, fl, ρ', A', h, fun σ1 G1 H1 sm1 A1 => k σ1 G1 H1 (sm.trans sm1) A1⟩
  · cases h
theorem dss_frz (i : Nat) (h : DSs Γ X sts g) : DSs Γ X sts (sFrz i g) := ⟨h.1.imp (TDs.frz i)⟩
def sIf (ft : FT) (g g' : FS) : FS := fun ρ => (ft ρ).bind fun c => if c = true then g ρ else g' ρ
theorem ds_if {sa sb : List Stmt} (hc : DT Γ X c ft) (ha : DSs Γ X sa g) (hb : DSs Γ X sb g') : DS Γ X (.If c sa sb pos) (sIf ft g g') := ⟨(ps_if hc.1 ha.1 hb.1).imp fun E σ H => by
  rintro ⟨G₀, H₀, G, ρ, fl, ρ', A, h, k⟩
  unfold sIf at h
  obtain ⟨x, hx, h⟩ := Option.bind_eq_some_iff.mp h
  refine ⟨G₀, H₀, G, ρ, x, A, hx, fun G1 H1 s1 => ?_⟩
  cases x with
  | true => exact iteT ⟨G₀, H₀, G1, ρ, fl, ρ', A.step s1, by simpa using h, fun σ2 G2 H2 sm2 A2 => k σ2 G2 H2 (s1.gg.trans sm2) A2⟩
  | false => exact iteF ⟨G₀, H₀, G1, ρ, fl, ρ', A.step s1, by simpa using h, fun σ2 G2 H2 sm2 A2 => k σ2 G2 H2 (s1.gg.trans sm2) A2⟩⟩
def forL (gg : FG) (body : FS) : List D -> FS
  | [], ρ => some (.nx, ρ)
  | x :: xs, ρ => (gg x ρ).bind fun ρ1 => (body ρ1).bind fun r => match r.1 with
    | .nx => forL gg body xs r.2
    | .ct => forL gg body xs r.2
    | .bk => some (.nx, r.2)
    | .rt d => some (.rt d, r.2)
    | .ow d => some (.ow d, r.2)
    | .nw d => some (.nw d, r.2)
    | .od d => some (.od d, r.2)
def sFor (fi : FA) (gg : FG) (body : FS) : FS := fun ρ => (fi ρ).bind fun xs => forL gg body xs ρ
theorem ds_for {body : List Stmt} (hp : PassesOwn (model X.prog X.w) X.A X.env X.xe) (hc : X.calm = true) (hi : DI Γ X tg iter fi) (hg : DG Γ X tg gg) (hb : DSs Γ X body g) (hs : ∀ x, foldedSetIterable iter X.env x = pure x := by intro _; rfl) :
    DS Γ X (.For tg iter body [] pos) (sFor fi gg g) := ⟨(ps_for hp hc hi.1 hg.pg hb.1 hs).imp fun E σ H => by
  rintro ⟨G₀, H₀, G, ρ, fl, ρ', A, h, k⟩
  unfold sFor at h
  obtain ⟨xs, hx, h⟩ := Option.bind_eq_some_iff.mp h
  refine ⟨G₀, H₀, G, ρ, xs, A, hx, fun J G1 H1 s1 Y => ?_⟩
  refine ⟨fun i m σ' H' => m = xs.length - i /\ i <= xs.length /\ ∃ G' ρ1, Same G1 G' /\ At Γ X.K G₀ H₀ G' H' ρ1 σ' /\ forL gg g (xs.drop i) ρ1 = some (fl, ρ'), ⟨xs.length, rfl, Nat.zero_le _, G1, ρ, .refl _, A.step s1, by rw [List.drop_zero]; exact h⟩, ?_⟩
  rintro i m σ' H' ⟨rfl, hi, G', ρ1, sm, A', hr⟩
  by_cases hlt : i < xs.length
  · right
    have hxi : xs[i]? = some xs[i] := by simp [hlt]
    obtain ⟨go, yl⟩ := Y.go i _ G' H' hxi sm A'.gh
    have hdr : xs.drop i = xs[i] :: xs.drop (i + 1) := List.drop_eq_getElem_cons hlt
    rw [hdr] at hr
    unfold forL at hr
    obtain ⟨ρ2, h2, hr⟩ := Option.bind_eq_some_iff.mp hr
    obtain ⟨⟨fl3, ρ3⟩, h3, hr⟩ := Option.bind_eq_some_iff.mp hr
    refine ⟨go, fun σ3 H3 => (fl3 = .nx \/ fl3 = .ct) /\ ∃ G3, Same G1 G3 /\ At Γ X.K G₀ H₀ G3 H3 ρ3 σ3, fun σ3 H3 ⟨hfl, G3, sm3, A3⟩ => ?_, fun x H2 hy => ?_⟩
    · refine ⟨xs.length - (i + 1), by omega, rfl, hlt, G3, ρ3, sm3, A3, ?_⟩
      rcases hfl with e | e <;> subst e <;> exact hr
    · obtain ⟨G2, s2, r2⟩ := yl x H2 hy
      refine ⟨G₀, H₀, G2, ρ1, _, ρ2, A'.step s2, r2, h2, fun σ2 A2 => ⟨G₀, H₀, G2, ρ2, fl3, ρ3, A2, h3, fun σ3 G3 H3 sm3 A3 => ?_⟩⟩
      have smm : Same G1 G3 := (sm.trans s2.gg).trans sm3
      cases fl3 with
      | nx => exact ⟨.inl rfl, G3, smm, A3⟩
      | ct => exact ⟨.inr rfl, G3, smm, A3⟩
      | bk => cases hr; exact k σ3 G3 H3 (s1.gg.trans smm) A3
      | rt d => cases hr; exact k σ3 G3 H3 (s1.gg.trans smm) A3
      | ow d => cases hr; exact k σ3 G3 H3 (s1.gg.trans smm) A3
      | nw d => cases hr; exact k σ3 G3 H3 (s1.gg.trans smm) A3
      | od d => cases hr; exact k σ3 G3 H3 (s1.gg.trans smm) A3
  · left
    have e : i = xs.length := by omega
    subst e
    rw [List.drop_length] at hr
    cases hr
    exact ⟨Y.stop G' H' sm A'.gh, k σ' G' H' (s1.gg.trans sm) A'⟩⟩
end
end L2
end
section
namespace L2
open PySem PySem.Spec PyProof.Rows
section
variable {Γ : Cn} {X : Cx} {a b c e tg iter : Expr} {es : List Expr} {fa fb fc f fk fw : FE} {fr fi : FA} {pos p2 p : Pos}
def spF (Γ : Cn) (K : PySem.W.Frag) (n : Nat) (F : List D -> Option D) : Sp := fun vs H Q _ => ∃ G ds d, Same G H /\ Reps Γ K G vs ds /\ ds.length = n /\ F ds = some d /\ ∀ v G' H', Step G H G' H' -> Rep Γ K G' v d -> Q v H'
def runD (n : Nat) (g : FS) : List D -> Option D := fun ds => (g (ds.map (fun d => some (Slot.sh d)) ++ List.replicate n none)).bind fun r => match r.1 with
  | .rt d => some d
  | .nx => some .non
  | _ => none
theorem start_rel {K : PySem.W.Frag} {G H : Hp} {vs : List V} {ds : List D} {N : List Str} {m : Nat} (gh : Same G H) (r : Reps Γ K G vs ds) (hm : m = N.length - vs.length) : At Γ K G H G H (ds.map (fun d => some (Slot.sh d)) ++ List.replicate m none) (start N vs) := by
  have no : NoOwn (ds.map (fun d => some (Slot.sh d)) ++ List.replicate m none) := fun i es e => by
    by_cases hi : i < ds.length
    · rw [List.getElem?_append_left (by simpa using hi), List.getElem?_map] at e
      obtain ⟨d, _, e⟩ := Option.map_eq_some_iff.mp e
      cases e
      exact ⟨_, rfl⟩
    · rw [List.getElem?_append_right (by simpa using hi), List.getElem?_replicate] at e
      split at e <;> cases e
  refine ⟨.refl gh, .ofSh (by simp [start, r.length, hm]) no fun i d e => ?_⟩
  by_cases hi : i < ds.length
  · rw [List.getElem?_append_left (by simpa using hi), List.getElem?_map] at e
    obtain ⟨d', hd, e⟩ := Option.map_eq_some_iff.mp e
    cases e
    obtain ⟨v, hv, rv⟩ := r.get hd
    refine ⟨v, ?_, rv⟩
    unfold start
    rw [List.getElem?_append_left (by rw [List.length_map, r.length]; exact hi), List.getElem?_map, hv]
    rfl
  · rw [List.getElem?_append_right (by simpa using hi), List.getElem?_replicate] at e
    split at e <;> cases e
theorem Fun.okD {P : Program} {w : World} {K : PySem.W.Frag} {mg : Str -> Option Value} {base : Heap} {x qual : Str} {st : Stmt} {f : Addr} {fd : FuncData} {N ps : List Str} {k : Nat} {g : FS} (F : Fun K x qual st f fd) (S : FnScope N ps (defScope st))
    (hbody : ∀ (cdv : Value) (A : Around) (outer : List Env) (s : Shared) (H : Hp) (E : XK), Room k (A.deeper (envOfC qual (defScope st) s.heap.objs.size f cdv)) ->
      DSs Γ (cxOf CX0 P w K mg base N qual (defScope st) f cdv A outer s H E).nox (defBody st) g) : FnOk P w K mg base CX0 (k + 1) f fd ps (spF Γ K ps.length (runD (N.length - ps.length) g)) := by
  refine F.ok S (fun vs H Q E h => ?_) (fun cdv A outer s H vs Q E hr h => ?_)
  · obtain ⟨G, ds, d, _, r, hl, _⟩ := h
    rw [r.length, hl]
  · obtain ⟨G, ds, d, gh, r, hl, hd, k⟩ := h
    refine ⟨_, (hbody cdv A outer s H E hr).1, ?_⟩
    unfold runD at hd
    obtain ⟨⟨fl, ρ'⟩, hg, hd⟩ := Option.bind_eq_some_iff.mp hd
    refine ⟨G, H, G, _, fl, ρ', start_rel gh r (by rw [r.length, hl]), hg, fun σ' G' H' sm A' => ?_⟩
    cases fl with
    | rt d' => cases hd; exact fun v rv => k v G' H' A'.st rv
    | nx => cases hd; exact k .non G' H' A'.st .non
    | bk => cases hd
    | ct => cases hd
    | ow d => cases hd
    | nw d => cases hd
    | od d => cases hd
theorem de_call {k : Nat} {fx : Addr} {fd : FuncData} {ps : List Str} {n : Nat} {F : List D -> Option D} {x : Str} (Fo : FnOk X.prog X.w X.K X.mg X.base CX0 k fx fd ps (spF Γ X.K n F)) (hr : Room k X.A) (hg : Gl X x) (hm : X.mg x = some (.ref fx)) (hk : PySem.W.keepIn X.K (.ref fx) = true) (hb : Binds X.K fd ps [])
    (ha : DA Γ X (e :: es) fr) (hn : ∀ ρ ds, fr ρ = some ds -> ds.length = n) (hdb : (x == ("__debug__" : Str)) = false := by decide) (he : starEach (e :: es) X.env = (false, eval e X.env) :: starEach es X.env := by rfl) (hpl : (backTo pos (starEach es X.env)).any (·.1) = false := by rfl) :
    DE Γ X (.Call (.Name x p) (e :: es) [] pos) (cF F fr) := ⟨(pe_call Fo hr hg hm hk hb .nil pass0 ha.1 hdb he hpl).imp fun σ H Q => by
  rintro ⟨G₀, H₀, G, ρ, d, A, h, k⟩
  unfold cF at h
  obtain ⟨ds, hd, h⟩ := Option.bind_eq_some_iff.mp h
  refine ⟨G₀, H₀, G, ρ, ds, A, hd, fun vs G1 H1 s1 r1 => ?_⟩
  show spF Γ X.K n F (vs ++ []) H1 Q E0
  rw [List.append_nil]
  exact ⟨G1, ds, d, s1.gh, r1, hn ρ ds hd, h, fun v G' H' s r => k v G' H' (s1.trans s) r⟩⟩
theorem aNil_len {ρ : Env'} {ds : List D} (h : aNil ρ = some ds) : ds.length = 0 := by cases h; rfl
theorem aCons_len {n : Nat} (hn : ∀ ρ ds, fr ρ = some ds -> ds.length = n) : ∀ ρ ds, aCons fa fr ρ = some ds -> ds.length = n + 1 := fun ρ ds h => by
  unfold aCons at h
  obtain ⟨x, hx, h⟩ := Option.bind_eq_some_iff.mp h
  obtain ⟨xs, hxs, rfl⟩ := Option.map_eq_some_iff.mp h
  rw [List.length_cons, hn ρ xs hxs]
end
end L2
end
section
namespace L2
open PySem PySem.Spec PyProof.Rows
structure Cal (Γ : Cn) (P : Program) (w : World) (K : PySem.W.Frag) (mg : Str -> Option Value) (base : Heap) (x : Str) (n k : Nat) (F : List D -> Option D) : Prop where
  ex : ∃ f fd ps, FnOk P w K mg base CX0 k f fd ps (spF Γ K n F) /\ mg x = some (.ref f) /\ PySem.W.keepIn K (.ref f) = true /\ Binds K fd ps []
structure Dfn (K : PySem.W.Frag) (mg : Str -> Option Value) (x : Str) (st : Stmt) : Prop where
  ex : ∃ f fd, Fun K x x st f fd /\ mg x = some (.ref f)
section
variable {Γ : Cn} {X : Cx} {e : Expr} {es : List Expr} {fr : FA} {pos p : Pos}
theorem de_cal {x : Str} {n k : Nat} {F : List D -> Option D} (C : Cal Γ X.prog X.w X.K X.mg X.base x n k F) {j : Nat} (hr : Room j X.A) (hk : k <= j) (hg : Gl X x) (ha : DA Γ X (e :: es) fr) (hn : ∀ ρ ds, fr ρ = some ds -> ds.length = n)
    (hdb : (x == ("__debug__" : Str)) = false := by decide) (he : starEach (e :: es) X.env = (false, eval e X.env) :: starEach es X.env := by rfl) (hpl : (backTo pos (starEach es X.env)).any (·.1) = false := by rfl) :
    DE Γ X (.Call (.Name x p) (e :: es) [] pos) (cF F fr) := by
  obtain ⟨f, fd, ps, h1, h2, h3, h4⟩ := C.ex
  exact de_call h1 (hr.mono hk) hg h2 h3 h4 ha hn hdb he hpl
theorem Dfn.cal {P : Program} {w : World} {K : PySem.W.Frag} {mg : Str -> Option Value} {base : Heap} {x : Str} {st : Stmt} {N ps : List Str} {k : Nat} {g : FS} (F : Dfn K mg x st) (S : FnScope N ps (defScope st))
    (hb : ∀ (kV doc pm : Value) (an : Option Addr) (cdv ct : Value) (us : List Value), us.length = ps.length -> bindArgs (PySem.W.fnOf x x (defArgs st) (defBody st) (defScope st) .none kV doc pm an cdv ct) ⟨us, []⟩ = pure (ps.zip us))
    (hbody : ∀ (f : Addr) (cdv : Value) (A : Around) (outer : List Env) (s : Shared) (H : Hp) (E : XK), Room k (A.deeper (envOfC x (defScope st) s.heap.objs.size f cdv)) ->
      DSs Γ (cxOf CX0 P w K mg base N x (defScope st) f cdv A outer s H E).nox (defBody st) g) : Cal Γ P w K mg base x ps.length (k + 1) (runD (N.length - ps.length) g) := by
  obtain ⟨f, fd, h1, h2⟩ := F.ex
  exact ⟨f, fd, ps, h1.okD S (hbody f), h2, h1.kp, h1.binds hb⟩
theorem Dfn.mk' {K : PySem.W.Frag} {h : Heap} {mg : Str -> Option Value} {x : Str} {st : Stmt} {f : Addr} {oc : Value} {od an : Option Addr} {osl : Array (Option Value)} {kV doc pm cdv ct : Value} (X : K.In h) (G : h.Ns mainGlobals mg) (a : PySem.W.nsIn K mainGlobals x = some (some (.ref f)))
    (l : K.lookup f = some ⟨oc, od, .func (PySem.W.fnOf x x (defArgs st) (defBody st) (defScope st) .none kV doc pm an cdv ct), osl⟩) (c : PySem.W.codeIn K cdv x = true) (k : PySem.W.keepIn K (.ref f) = true) : Dfn K mg x st :=
  ⟨f, _, fun_mk l c k, PySem.W.mg_of X G a⟩
def csChk (names : List (Str × NameKind)) (outer : List (Str × NameKind)) : Bool :=
  names.all fun y => y.2 != .cell && (y.2 != .local || names.lookup y.1 == some .local) && (y.2 != .free || outer.lookup y.1 == some .cell || outer.lookup y.1 == some .free)
theorem CompScope.of {X : Cx} {scope : Scope} (hk : scope.kind = .function) (h : csChk scope.names X.env.scope.names = true) : CompScope X scope := by
  unfold csChk at h
  rw [List.all_eq_true] at h
  refine ⟨hk, fun y hy e => ?_, fun y hy e => ?_, fun y hy e => ?_⟩
  · have := h y hy
    rw [e] at this
    simp at this
  · have := h y hy
    rw [e] at this
    simpa using this
  · have := h y hy
    rw [e] at this
    simpa [Env.kindOf] using this
def fvChk (N' : List Str) (fv : List (Option Nat)) (N : List Str) (outer names : List (Str × NameKind)) : Bool :=
  fv.length == N'.length && (N'.zip fv).all fun y => match y.2 with
    | none => true
    | some j => N[j]? == some y.1 && (outer.lookup y.1 == some .cell || outer.lookup y.1 == some .free) && names.lookup y.1 == some .free
theorem FvOk.of {X : Cx} {N' : List Str} {scope : Scope} {fv : List (Option Nat)} (h : fvChk N' fv X.N X.env.scope.names scope.names = true) : FvOk X N' scope fv := by
  unfold fvChk at h
  rw [Bool.and_eq_true, List.all_eq_true] at h
  obtain ⟨h1, h2⟩ := h
  refine ⟨by simpa using h1, fun i j x e1 e2 => ?_⟩
  have hm : (x, some j) ∈ N'.zip fv := by
    refine List.mem_iff_getElem?.mpr ⟨i, ?_⟩
    rw [List.getElem?_zip_eq_some]
    exact ⟨e1, e2⟩
  have := h2 _ hm
  simp only [Bool.and_eq_true, Bool.or_eq_true, beq_iff_eq] at this
  exact ⟨this.1.1, this.1.2, this.2⟩
end
end L2
end
section
namespace L2
open PySem PySem.Spec PyProof.Rows
mutual
def pdD : D -> Option PyData
  | .non => some .none
  | .bl b => some (.bool b)
  | .int i => some (.int i)
  | .str x => some (.str x)
  | .tup l => (pdDs l).map PyData.tuple
  | .lst l => (pdDs l).map PyData.list
  | .scr ns => some (.list (ns.map PyData.int))
  | _ => none
def pdDs : List D -> Option (List PyData)
  | [] => some []
  | d :: r => (pdD d).bind fun p => (pdDs r).map (p :: ·)
end
section
variable {Γ : Cn} {X : Cx} {pins : List (Addr × Obj)} {σ : St} {G H : Hp} {s : Shared}
theorem reads_ints {h : Heap} : ∀ {ns : List Int} {us : List Value}, Vals (ns.map V.int) us -> ∃ as, ReadsAll h us (ns.map PyData.int) as
  | [], _, r => by rw [List.map_nil] at r; cases r; exact ⟨_, .nil⟩
  | n :: ns, _, r => by
    rw [List.map_cons] at r
    cases r with
    | cons r1 r2 =>
      obtain ⟨t, e⟩ := r1
      subst e
      obtain ⟨as, q⟩ := reads_ints r2
      exact ⟨_, .cons (.int n t) q⟩
mutual
theorem Rep.reads (I : Inv X pins σ H s) (gh : Same G H) : ∀ {v : V} {d : D} {u : Value} {p : PyData}, Rep Γ X.K G v d -> RelV v u -> pdD d = some p -> ∃ as, Reads s.heap u p as
  | _, _, u, p, .non, r, h => by cases r; rw [pdD] at h; cases h; exact ⟨_, .none⟩
  | _, _, u, p, .bl b, r, h => by cases r; rw [pdD] at h; cases h; exact ⟨_, .bool b⟩
  | _, _, u, p, .int i, r, h => by obtain ⟨t, rfl⟩ := r; rw [pdD] at h; cases h; exact ⟨_, .int i t⟩
  | _, _, u, p, .str x, r, h => by obtain ⟨t, rfl⟩ := r; rw [pdD] at h; cases h; exact ⟨_, .str x t⟩
  | _, _, u, p, .ty n, r, h => by rw [pdD] at h; cases h; all_goals (intros; contradiction)
  | _, _, u, p, .tup ha rs, r, h => by
    cases r
    rw [pdD] at h
    obtain ⟨ps, hp, rfl⟩ := Option.map_eq_some_iff.mp h
    obtain ⟨its, rv, ⟨o, e1, e2, n, e3⟩, _⟩ := I.tuple (.inl (.inl (gh _ _ ha)))
    obtain ⟨as, q⟩ := Reps.reads I gh rs rv hp
    exact ⟨_, .tuple e1 e2 e3 (by simpa using q)⟩
  | _, _, u, p, .lst ha rs, r, h => by
    cases r
    rw [pdD] at h
    obtain ⟨ps, hp, rfl⟩ := Option.map_eq_some_iff.mp h
    obtain ⟨its, rv, ⟨o, n, e1, e2, _, e3⟩, _⟩ := I.list (.inl (.inl (gh _ _ ha)))
    obtain ⟨as, q⟩ := Reps.reads I gh rs rv hp
    exact ⟨_, .list e1 e2 e3 (by simpa using q)⟩
  | _, _, u, p, .scr hs, r, h => by
    cases r
    rw [pdD] at h
    cases h
    obtain ⟨its, rv, ⟨o, n, e1, e2, _, e3⟩, _⟩ := I.list (gh.seq hs)
    obtain ⟨as, q⟩ := reads_ints (h := s.heap) rv
    exact ⟨_, .list e1 e2 e3 (by simpa using q)⟩
  | _, _, u, p, .dk ha _ _, r, h => by rw [pdD] at h; cases h; all_goals (intros; contradiction)
  | _, _, u, p, .dt ha _ _, r, h => by rw [pdD] at h; cases h; all_goals (intros; contradiction)
  | _, _, u, p, .ins ha _ _ _, r, h => by rw [pdD] at h; cases h; all_goals (intros; contradiction)
theorem Reps.reads (I : Inv X pins σ H s) (gh : Same G H) : ∀ {vs : List V} {ds : List D} {us : List Value} {ps : List PyData}, Reps Γ X.K G vs ds -> Vals vs us -> pdDs ds = some ps -> ∃ as, ReadsAll s.heap us ps as
  | _, _, _, _, .nil, r, h => by cases r; rw [pdDs] at h; cases h; exact ⟨_, .nil⟩
  | _, _, _, _, .cons r1 r2, r, h => by
    cases r with
    | cons q1 q2 =>
      rw [pdDs] at h
      obtain ⟨p, hp, h⟩ := Option.bind_eq_some_iff.mp h
      obtain ⟨ps, hps, rfl⟩ := Option.map_eq_some_iff.mp h
      obtain ⟨as, a1⟩ := Rep.reads I gh r1 q1 hp
      obtain ⟨bs, a2⟩ := Reps.reads I gh r2 q2 hps
      exact ⟨_, .cons a1 a2⟩
end
end
section
variable {Γ : Cn} {X : Cx} {a b c e : Expr} {es : List Expr} {fa fb fc f : FE} {fr : FA} {pos : Pos}
def eqX (x y : D) : Option Bool := (pdD x).bind fun p => (pdD y).bind fun q => if SeqAt.shaped p = true /\ SeqAt.shaped q = true then some (PyData.eqv p q) else none
def neXD (x y : D) : Option D := (eqX x y).map fun b => D.bl (!b)
def rX (Γ : Cn) (K : PySem.W.Frag) (neg : Bool) : R2 := fun x y H Q => ∃ G d e b, Same G H /\ Rep Γ K G x d /\ Rep Γ K G y e /\ eqX d e = some b /\ Q (.bl (if neg then !b else b)) H
theorem eqX_some {x y : D} {b : Bool} (h : eqX x y = some b) : ∃ p q, pdD x = some p /\ pdD y = some q /\ SeqAt.shaped p = true /\ SeqAt.shaped q = true /\ b = PyData.eqv p q := by
  unfold eqX at h
  obtain ⟨p, hp, h⟩ := Option.bind_eq_some_iff.mp h
  obtain ⟨q, hq, h⟩ := Option.bind_eq_some_iff.mp h
  split at h
  · rename_i hz
    cases h
    exact ⟨p, q, hp, hq, hz.1, hz.2, rfl⟩
  · cases h
theorem op_neX (hu : X.A.units + 64 < cLine) : OpR X (compareOp .NotEq) (rX Γ X.K true) := by
  intro pins s σ H x y v u Q I rx ry h
  obtain ⟨G, d, e, b, gh, r1, r2, hb, q⟩ := h
  obtain ⟨p, q', hp, hq, s1, s2, rfl⟩ := eqX_some hb
  obtain ⟨as, a1⟩ := r1.reads I gh rx hp
  obtain ⟨bs, a2⟩ := r2.reads I gh ry hq
  exact ne_dataH a1 a2 s1 s2 hu ⟨.bl _, H, I, rfl, q⟩
theorem cd_neX (hu : X.A.units + 64 < cLine) : CmpD Γ X .NotEq neXD := ⟨_, op_neX (Γ := Γ) hu, fun {G H v u x y z} gh r1 r2 h Q k => by
  unfold neXD at h
  obtain ⟨b, hb, rfl⟩ := Option.map_eq_some_iff.mp h
  exact ⟨G, x, y, b, gh, r1, r2, hb, k _ G H (.refl gh) (.bl _)⟩⟩
theorem hu66 {k : Nat} (hr : Room k X.A) : X.A.units + 66 < cLine := by have := hr.un; omega
theorem hu64 {k : Nat} (hr : Room k X.A) : X.A.units + 64 < cLine := by have := hr.un; omega
end
end L2
end
section
namespace L2
open PySem PySem.Spec PyProof.Rows
section
variable {Γ : Cn} {X : Cx} {a b c e o i : Expr} {es : List Expr} {fa fb fc f fo fk fx : FE} {fr fi : FA} {pos p apos cpos : Pos} {ft : FT} {g : FS} {x : Str}
theorem Step.back {G G1 G' H H' : Hp} (gh : Same G H) (s1 : Same G G1) (s : Step G1 H G' H') : Step G H G H' := ⟨s.hh, .refl _, (s1.trans s.gg).trans s.gh, fun _ _ _ => rfl⟩
def valG {κ α : Type} [DecidableEq κ] (kvs : List (κ × α)) (k : κ) : Option α := (kvs.find? fun kv => decide (kv.1 = k)).map (·.2)
def putG {κ α : Type} [DecidableEq κ] (kvs : List (κ × α)) (k : κ) (v : α) : List (κ × α) :=
  if (kvs.any fun kv => decide (kv.1 = k)) = true then kvs.map (fun kv => if kv.1 = k then (kv.1, v) else kv) else kvs ++ [(k, v)]
theorem kr_val {κ : Type} [DecidableEq κ] {K : PySem.W.Frag} {G : Hp} {k : κ} : ∀ {us : List (κ × V)} {kvs : List (κ × D)}, us.map (·.1) = kvs.map (·.1) -> Reps Γ K G (us.map (·.2)) (kvs.map (·.2)) ->
    (valG kvs k = none /\ valV us k = none) \/ ∃ d v, valG kvs k = some d /\ valV us k = some v /\ Rep Γ K G v d
  | [], [], _, _ => .inl ⟨rfl, rfl⟩
  | [], _ :: _, e, _ => by cases e
  | _ :: _, [], e, _ => by cases e
  | (k1, v) :: us, (k2, d) :: kvs, e, r => by
    have e1 : k1 = k2 := (List.cons.inj e).1
    have e2 : us.map (·.1) = kvs.map (·.1) := (List.cons.inj e).2
    subst e1
    have r : Reps Γ K G (v :: us.map (·.2)) (d :: kvs.map (·.2)) := r
    cases r with
    | cons r1 r2 =>
      by_cases h : k1 = k
      · exact .inr ⟨d, v, by simp [valG, List.find?_cons, h], valV_pos h, r1⟩
      · have := kr_val (k := k) e2 r2
        rw [valV_neg (p := (k1, v)) h]
        simpa [valG, List.find?_cons, h] using this
theorem kr_any {κ : Type} [DecidableEq κ] {k : κ} {α β : Type} : ∀ {us : List (κ × α)} {kvs : List (κ × β)}, us.map (·.1) = kvs.map (·.1) -> (us.any fun kv => decide (kv.1 = k)) = (kvs.any fun kv => decide (kv.1 = k))
  | [], [], _ => rfl
  | [], _ :: _, e => by cases e
  | _ :: _, [], e => by cases e
  | (k1, v) :: us, (k2, d) :: kvs, e => by
    have e1 : k1 = k2 := (List.cons.inj e).1
    subst e1
    rw [List.any_cons, List.any_cons, kr_any (us := us) (kvs := kvs) (List.cons.inj e).2]
theorem kr_map {κ : Type} [DecidableEq κ] {K : PySem.W.Frag} {G : Hp} {k : κ} {v : V} {d : D} (rv : Rep Γ K G v d) : ∀ {us : List (κ × V)} {kvs : List (κ × D)}, us.map (·.1) = kvs.map (·.1) -> Reps Γ K G (us.map (·.2)) (kvs.map (·.2)) ->
    (us.map fun kv => if kv.1 = k then (kv.1, v) else kv).map (·.1) = (kvs.map fun kv => if kv.1 = k then (kv.1, d) else kv).map (·.1) /\ Reps Γ K G ((us.map fun kv => if kv.1 = k then (kv.1, v) else kv).map (·.2)) ((kvs.map fun kv => if kv.1 = k then (kv.1, d) else kv).map (·.2))
  | [], [], _, _ => ⟨rfl, .nil⟩
  | [], _ :: _, e, _ => by cases e
  | _ :: _, [], e, _ => by cases e
  | (k1, u) :: us, (k2, x) :: kvs, e, r => by
    have e1 : k1 = k2 := (List.cons.inj e).1
    have e2 : us.map (·.1) = kvs.map (·.1) := (List.cons.inj e).2
    subst e1
    have r : Reps Γ K G (u :: us.map (·.2)) (x :: kvs.map (·.2)) := r
    cases r with
    | cons r1 r2 =>
      obtain ⟨h1, h2⟩ := kr_map (k := k) rv e2 r2
      by_cases h : k1 = k
      · subst h
        simp only [List.map_cons, if_true]
        exact ⟨by rw [h1], .cons rv h2⟩
      · simp only [List.map_cons, if_neg h]
        exact ⟨by rw [h1], .cons r1 h2⟩
theorem kr_put {κ : Type} [DecidableEq κ] {K : PySem.W.Frag} {G : Hp} {k : κ} {v : V} {d : D} (rv : Rep Γ K G v d) {us : List (κ × V)} {kvs : List (κ × D)} (e : us.map (·.1) = kvs.map (·.1)) (r : Reps Γ K G (us.map (·.2)) (kvs.map (·.2))) :
    (putK us k v).map (·.1) = (putG kvs k d).map (·.1) /\ Reps Γ K G ((putK us k v).map (·.2)) ((putG kvs k d).map (·.2)) := by
  unfold putK putG
  rw [kr_any (k := k) e]
  split
  · exact kr_map rv e r
  · simp only [List.map_append, List.map_cons, List.map_nil]
    exact ⟨by rw [e], r.append (.cons rv .nil)⟩
def dkey : D -> Option Key
  | .int i => some (.inl i)
  | .str x => some (.inr x)
  | _ => none
def dkeys : List D -> Option (List Key)
  | [] => some []
  | d :: r => (dkey d).bind fun k => (dkeys r).map (k :: ·)
theorem dkey_ok {K : PySem.W.Frag} {G : Hp} {v : V} {d : D} {k : Key} (r : Rep Γ K G v d) (h : dkey d = some k) : v = kV k := by
  unfold dkey at h
  split at h <;> cases h
  · exact r.int_inv
  · exact r.str_inv
theorem dkeys_ok {K : PySem.W.Frag} {G : Hp} : ∀ {vs : List V} {ds : List D} {ks : List Key}, Reps Γ K G vs ds -> dkeys ds = some ks -> vs = ks.map kV
  | _, [], ks, r, h => by cases r; cases h; rfl
  | _, d :: ds, ks, .cons h1 h2, h => by
    unfold dkeys at h
    obtain ⟨k, hk, h⟩ := Option.bind_eq_some_iff.mp h
    obtain ⟨zs, hz, rfl⟩ := Option.map_eq_some_iff.mp h
    rw [dkey_ok h1 hk, dkeys_ok h2 hz]; rfl
def lookD (d k : D) : Option (Option D) := match d, k with
  | .dk l, k => (dkey k).map (valG l)
  | .dt l, .tup t => (dkeys t).map (valG l)
  | _, _ => none
theorem dget_of {K : PySem.W.Frag} {G H : Hp} {v y : V} {d k : D} {r : Option D} (gh : Same G H) (rv : Rep Γ K G v d) (ry : Rep Γ K G y k) (h : lookD d k = some r) :
    ∃ a o, v = .ref a /\ DGet H a y o /\ ((r = none /\ o = none) \/ ∃ w z, r = some z /\ o = some w /\ Rep Γ K G w z) := by
  unfold lookD at h
  split at h
  · obtain ⟨kk, hk, rfl⟩ := Option.map_eq_some_iff.mp h
    cases rv with
    | dk h1 h2 h3 =>
      have ey := dkey_ok ry hk
      subst ey
      refine ⟨_, _, rfl, DGet.k (gh _ _ h1), ?_⟩
      rcases kr_val (k := kk) h2 h3 with ⟨q1, q2⟩ | ⟨z, w, q1, q2, q3⟩
      · exact .inl ⟨q1, q2⟩
      · exact .inr ⟨w, z, q1, q2, q3⟩
  · obtain ⟨kk, hk, rfl⟩ := Option.map_eq_some_iff.mp h
    cases rv with
    | dt h1 h2 h3 =>
      obtain ⟨b, ys, rfl, hb, rb⟩ := ry.tup_inv
      have ey := dkeys_ok rb hk
      subst ey
      refine ⟨_, _, rfl, DGet.t (gh _ _ h1) (gh _ _ hb), ?_⟩
      rcases kr_val (k := kk) h2 h3 with ⟨q1, q2⟩ | ⟨z, w, q1, q2, q3⟩
      · exact .inl ⟨q1, q2⟩
      · exact .inr ⟨w, z, q1, q2, q3⟩
  · cases h
def dgetD (d k : D) : Option D := (lookD d k).bind id
theorem de_dget (hu : X.A.units + 66 < cLine) (ho : DE Γ X o fo) (hi : DE Γ X i fi') (hs : NoSl i := by intro _ _; rfl) : DE Γ X (.Subscript o i pos) (b2 dgetD fo fi') := ⟨(pe_dget (by omega) ho.1 hi.1 hs).imp fun σ H Q => by
  rintro ⟨G₀, H₀, G, ρ, d, A, h, k⟩
  unfold b2 at h
  obtain ⟨x, hx, h⟩ := Option.bind_eq_some_iff.mp h
  obtain ⟨y, hy, h⟩ := Option.bind_eq_some_iff.mp h
  refine ⟨G₀, H₀, G, ρ, x, A, hx, fun v G1 H1 s1 r1 => ⟨G₀, H₀, G1, ρ, y, A.step s1, hy, fun u G2 H2 s2 r2 => ?_⟩⟩
  unfold dgetD at h
  obtain ⟨r, hr, h⟩ := Option.bind_eq_some_iff.mp h
  obtain ⟨a, ov, rfl, hg, hc⟩ := dget_of s2.gh (r1.mono s2.gg) r2 hr
  rcases hc with ⟨rfl, _⟩ | ⟨w, z, rfl, rfl, rw'⟩
  · cases h
  · cases h
    exact ⟨a, w, rfl, hg, k w G2 H2 (s1.trans s2) rw'⟩⟩
def b3 (g : D -> D -> D -> Option D) (fa fb fc : FE) : FE := fun ρ => (fa ρ).bind fun x => (fb ρ).bind fun y => (fc ρ).bind fun z => g x y z
def sNo : FS := fun _ => none
theorem ds_no {st : Stmt} : DS Γ X st sNo := ⟨fun pins s σ H E I q => by
  obtain ⟨G₀, H₀, G, ρ, fl, ρ', A, h, k⟩ := q
  cases h⟩
end
end L2
end
section
namespace L2
open PySem PySem.Spec PyProof.Rows
section
variable {Γ : Cn} {X : Cx} {a b c e o i : Expr} {es : List Expr} {fa fb fc f fo fk fx : FE} {fr fi : FA} {pos p apos cpos : Pos} {ft : FT} {g : FS} {x : Str}
theorem de_globS {x y : Str} {t : Tok} (hg : Gl X x) (hm : X.mg x = some (.str y t)) (hd : (x == ("__debug__" : Str)) = false := by decide) : DE Γ X (.Name x pos) (vC (.str y)) := TD.const (fun _ => .str y) (pe_glob hg hm ⟨t, rfl⟩ hd)
def CDivB (i j : Int) : Prop := 0 < j /\ j.natAbs.log2 < 9000
theorem op_fdivB : OpR X (binaryOp .FloorDiv) (rI CDivB fun i j => .int (i / j)) := opI fun i j _ _ _ _ _ hc q => by
  have h1 : (0 : Int) < j := hc.1
  exact floordiv_int (by omega) (by rw [Int.fdiv_eq_ediv_of_nonneg i (by omega)]; exact q) (.inl (PyProof.noPylong_of_log2 hc.2))
def fdivB : D -> D -> Option D
  | .int i, .int j => if 0 < j /\ j.natAbs.log2 < 9000 then some (.int (i / j)) else none
  | _, _ => none
theorem de_fdivB (ha : DE Γ X a fa) (hb : DE Γ X b fb) : DE Γ X (.BinOp a .FloorDiv b pos) (b2 fdivB fa fb) := de_op op_fdivB (does_intC fun x y z h => by
  unfold fdivB at h; split at h
  · split at h <;> cases h; exact ⟨_, _, rfl, rfl, by assumption, rfl⟩
  · cases h) ha hb
def strD : List D -> Option D
  | [.int i] => if i.natAbs.log2 < 1920 then some (.str (toString i)) else none
  | _ => none
theorem td_str : TyD Γ X "str" strD := ⟨_, call_str_int, fun {G H vs ds z} gh r h Q k => by
  unfold strD at h
  split at h
  · split at h
    · cases h
      obtain ⟨v, rfl, r1⟩ := r.one
      cases r1.int_inv
      exact ⟨_, rfl, by assumption, k _ G H (.refl gh) (.str _)⟩
    · cases h
  · cases h⟩
def inS (x y : Str) : Bool := !(Builtin.Str.occurrences y x 0 y.length 1).isEmpty
def inSD : D -> D -> Option D
  | .str x, .str y => some (.bl (inS x y))
  | _, _ => none
theorem cd_inS : CmpD Γ X .In inSD := ⟨_, op_in_str, fun {G H v u x y z} gh r1 r2 h Q k => by
  unfold inSD at h
  split at h <;> cases h
  cases r1.str_inv; cases r2.str_inv
  exact ⟨_, _, rfl, rfl, k _ G H (.refl gh) (.bl _)⟩⟩
def indexD : D -> List D -> Option D
  | .str x, [.str y] => match Builtin.Str.occurrences x y 0 x.length 1 with
    | i :: _ => some (.int (i : Nat))
    | [] => none
  | _, _ => none
theorem md_index : MtD Γ X "str" "str.index" indexD := by
  refine ⟨⟨fun v vs H Q => ∃ x y i rest, v = .str x /\ vs = [.str y] /\ Builtin.Str.occurrences x y 0 x.length 1 = i :: rest /\ Q (.int (i : Nat)) H, ?_, ?_⟩, ?_⟩
  · intro pins s σ H x xs v us Q I rx rs h
    obtain ⟨z, y, i, rest, rfl, rfl, ho, q⟩ := h
    obtain ⟨t, rfl⟩ := rx
    obtain ⟨u, rfl, ru⟩ := vals1 rs
    obtain ⟨t2, rfl⟩ := ru
    exact call_gives PySem.F.slot_str_index (typeIs_str _ _ _) PySem.F.entry_str_index (PySem.F.args_str_index_2 _ _) (gives_str_index z y t t2 i rest ho) ⟨.int _, H, I.tok _, ⟨_, rfl⟩, q⟩
  · intro G H v x vs ds z gh r1 r2 h Q k
    unfold indexD at h
    split at h
    · split at h
      · rename_i heq
        cases h
        cases r1.str_inv
        obtain ⟨v, rfl, r3⟩ := r2.one
        cases r3.str_inv
        exact ⟨_, _, _, _, rfl, rfl, heq, k _ G H (.refl gh) (.int _)⟩
      · cases h
    · cases h
  · intro G H v x ds z gh r h
    unfold indexD at h
    split at h
    · cases r.str_inv; exact rfl
    · cases h
def splitD : D -> List D -> Option D
  | .str x, [.str y] => if y.length ≠ 0 /\ x.length <= 1000000 then some (.lst ((Txt.split x y).map D.str)) else none
  | _, _ => none
theorem Reps.strs {K : PySem.W.Frag} {G : Hp} : ∀ (ns : List Str), Reps Γ K G (ns.map V.str) (ns.map D.str)
  | [] => .nil
  | n :: r => .cons (.str n) (Reps.strs r)
theorem vals_strs : ∀ (l : List (Str × Tok)), Vals ((l.map (·.1)).map V.str) (strValues l)
  | [] => .nil
  | (x, t) :: r => .cons ⟨t, rfl⟩ (vals_strs r)
theorem md_split : MtD Γ X "str" "str.split" splitD := by
  refine ⟨⟨fun v vs H Q => ∃ x y, v = .str x /\ vs = [.str y] /\ y.length ≠ 0 /\ x.length <= 1000000 /\ ∀ p, H p = none -> Q (.ref p) (upd H p (.lst ((Txt.split x y).map V.str))), ?_, ?_⟩, ?_⟩
  · intro pins s σ H x xs v us Q I rx rs h
    obtain ⟨z, y, rfl, rfl, hy, hz, q⟩ := h
    obtain ⟨t, rfl⟩ := rx
    obtain ⟨u, rfl, ru⟩ := vals1 rs
    obtain ⟨t2, rfl⟩ := ru
    have hy' : (y.length == 0) = false := by simpa using hy
    have hlen : (Txt.split z y).length <= z.length + 2 := split_le z y
    have hsl := sizeLine_eq
    have fin : ∀ (l : List (Str × Tok)) (k : Nat), l.map (·.1) = Txt.split z y -> EP X pins σ Q (.ref s.heap.objs.size) { s with heap := s.heap.push { cls := .type "list", data := .seq (strValues l).toArray }, toks := k } := fun l k e => by
      refine ⟨.ref _, _, I.lnew (ys := (Txt.split z y).map V.str) (t' := k) (by rw [← e]; exact vals_strs l) (by rw [List.length_map]; omega), rfl, q _ I.fresh⟩
    cases h1 : (decide (z.length < y.length) || decide (Builtin.Str.strKind z < Builtin.Str.strKind y))
    · cases hf : (Builtin.Str.occurrences z y 0 z.length (z.length + 1)).isEmpty
      · have es : Txt.split z y = Builtin.Str.partsBetween z (Builtin.Str.occurrences z y 0 z.length (z.length + 1)) y.length := (if_neg (ne_true_of_eq_false h1)).trans (if_neg (ne_true_of_eq_false hf))
        refine call_meets PySem.F.slot_str_split (typeIs_str _ _ _) PySem.F.entry_str_split (PySem.F.args_str_split_2 _ _) (meets_str_split_sep z y t t2 h1 hy' hf (by omega) (by rw [← es]; omega)) ?_
        show EP X pins σ Q _ { s with toks := _, heap := s.heap.push { cls := .type "list", data := .seq (strsFrom s.toks (Builtin.Str.partsBetween z (Builtin.Str.occurrences z y 0 z.length (z.length + 1)) y.length)).toArray } }
        rw [strsFrom_eq]
        exact fin _ _ ((numbered_texts _ _).trans es.symm)
      · refine call_meets PySem.F.slot_str_split (typeIs_str _ _ _) PySem.F.entry_str_split (PySem.F.args_str_split_2 _ _) (meets_str_split_not_found z y t t2 h1 hy' hf) ?_
        exact fin [(z, t)] s.toks ((if_neg (ne_true_of_eq_false h1)).trans (if_pos hf)).symm
    · refine call_meets PySem.F.slot_str_split (typeIs_str _ _ _) PySem.F.entry_str_split (PySem.F.args_str_split_2 _ _) (meets_str_split_cannot_occur z y t t2 h1) ?_
      exact fin [(z, t)] s.toks (if_pos h1).symm
  · intro G H v x vs ds z gh r1 r2 h Q k
    unfold splitD at h
    split at h
    · split at h
      · rename_i hz
        cases h
        cases r1.str_inv
        obtain ⟨v, rfl, r3⟩ := r2.one
        cases r3.str_inv
        exact ⟨_, _, rfl, rfl, hz.1, hz.2, new_lst gh (Reps.strs _) k⟩
      · cases h
    · cases h
  · intro G H v x ds z gh r h
    unfold splitD at h
    split at h
    · cases r.str_inv; exact rfl
    · cases h
end
end L2
end
section
namespace L2
open PySem PySem.Spec PyProof.Rows
section
variable {Γ : Cn} {X : Cx} {a b c e o i : Expr} {es : List Expr} {fa fb fc f fo fk fx : FE} {fr fi : FA} {pos p apos cpos : Pos} {ft : FT} {g : FS} {x : Str}
def txtD : D -> Option Str
  | .str x => if x.length <= sizeLine then some x else none
  | .int i => if i.natAbs.log2 < 1920 then some (toString i) else none
  | _ => none
def catD : Str -> List D -> Option Str
  | acc, [] => if acc.length <= sizeLine then some acc else none
  | acc, d :: r => (txtD d).bind fun y => if (acc ++ y).length <= sizeLine then catD (acc ++ y) r else none
def fsF (fr : FA) : FE := fun ρ => (fr ρ).bind fun ds => (catD Str.empty ds).map D.str
structure DJ (Γ : Cn) (X : Cx) (es : List Expr) (fr : FA) : Prop where
  out : ∀ (acc : Str) (pins : List (Addr × Obj)) (s : Shared) (σ : St) (H : Hp) (Q : VK), Inv X pins σ H s -> (∃ G₀ H₀ G ρ ds z, At Γ X.K G₀ H₀ G H ρ σ /\ fr ρ = some ds /\ catD acc ds = some z /\ ∀ G' H', Step G H G' H' -> Q (.str z) H') ->
    wpAny (model X.prog X.w) X.A (joinParts acc (evalEach es X.env)) (EP X pins σ Q) X.xe s
theorem dj_nil : DJ Γ X [] aNil := ⟨fun acc pins s σ H Q I ⟨G₀, H₀, G, ρ, ds, z, A, h, hz, k⟩ => by
  cases h
  unfold catD at hz
  split at hz
  · rename_i hl
    cases hz
    exact joinParts_nil ⟨.str _, H, I.tok _, ⟨_, rfl⟩, k G H (.refl A.gh)⟩ hl
  · cases hz⟩
theorem dj_const {y : Str} {j} (h : DJ Γ X es fr) (hs : evalEach (.Constant (.str y) j p :: es) X.env = eval (.Constant (.str y) j p) X.env :: evalEach es X.env := by rfl) : DJ Γ X (.Constant (.str y) j p :: es) (aCons (vC (.str y)) fr) := ⟨fun acc pins s σ H Q I ⟨G₀, H₀, G, ρ, ds, z, A, hq, hz, k⟩ => by
  unfold aCons vC at hq
  simp only [Option.bind_some] at hq
  obtain ⟨xs, hxs, rfl⟩ := Option.map_eq_some_iff.mp hq
  unfold catD at hz
  obtain ⟨w, hw, hz2⟩ := Option.bind_eq_some_iff.mp hz
  clear hz
  have hz := hz2
  clear hz2
  split at hz
  · rename_i hl
    have hw' : w = y /\ y.length <= sizeLine := by
      simp only [txtD] at hw
      split at hw
      · exact ⟨(Option.some.inj hw).symm, by assumption⟩
      · exact nomatch hw
    obtain ⟨rfl, _⟩ := hw'
    rw [hs]
    refine joinParts_cons (thn (pe_str (X := X) pins s σ H (fun v H' => v = .str w /\ H' = H) I ⟨rfl, rfl⟩) fun v s1 ⟨v', H1, I1, r1, e1, e2⟩ => ?_)
    subst e1 e2
    obtain ⟨t, rfl⟩ := r1
    exact ⟨hl, h.1 _ pins s1 σ _ Q I1 ⟨G₀, H₀, G, ρ, xs, z, A, hxs, hz, k⟩⟩
  · cases hz⟩
theorem dj_val (hv : DE Γ X e f) (h : DJ Γ X es fr) (hs : evalEach (.FormattedValue e (-1) none p :: es) X.env = eval (.FormattedValue e (-1) none p) X.env :: evalEach es X.env := by rfl) : DJ Γ X (.FormattedValue e (-1) none p :: es) (aCons f fr) := ⟨fun acc pins s σ H Q I ⟨G₀, H₀, G, ρ, ds, z, A, hq, hz, k⟩ => by
  unfold aCons at hq
  obtain ⟨d, hd, hq⟩ := Option.bind_eq_some_iff.mp hq
  obtain ⟨xs, hxs, rfl⟩ := Option.map_eq_some_iff.mp hq
  unfold catD at hz
  obtain ⟨w, hw, hz2⟩ := Option.bind_eq_some_iff.mp hz
  clear hz
  have hz := hz2
  clear hz2
  split at hz
  · rename_i hl
    rw [hs]
    refine joinParts_cons (FormattedValue_plain (thn (hv.1 pins s σ H (fun v H' => ∃ G', Step G H G' H' /\ Rep Γ X.K G' v d) I ⟨G₀, H₀, G, ρ, d, A, hd, fun v G' H' st r => ⟨G', st, r⟩⟩) fun v s1 ⟨v', H1, I1, r1, G1, st, rp⟩ => ?_))
    have fin : ∀ (t' : Tok) (tk : Nat), (acc ++ w).length <= sizeLine /\ wpAny (model X.prog X.w) X.A (joinParts (acc ++ w) (evalEach es X.env)) (EP X pins σ Q) X.xe { s1 with toks := tk } := fun t' tk =>
      ⟨hl, h.1 _ pins _ σ _ Q (I1.tok tk) ⟨G₀, H₀, G1, ρ, xs, z, A.step st, hxs, hz, fun G' H' s' => k G' H' (st.trans s')⟩⟩
    unfold txtD at hw
    split at hw
    · split at hw
      · cases hw
        cases rp.str_inv
        obtain ⟨t, rfl⟩ := r1
        exact formatField_str (fun t' tk => fin t' tk) (by assumption)
      · cases hw
    · split at hw
      · cases hw
        cases rp.int_inv
        obtain ⟨t, rfl⟩ := r1
        exact formatField_int_small (by assumption) (fin 0 _)
      · cases hw
    · cases hw
  · cases hz⟩
theorem de_fs {v1 v2 : Expr} {rest : List Expr} (h : DJ Γ X (v1 :: v2 :: rest) fr) (hs : evalEach (v1 :: v2 :: rest) X.env = eval v1 X.env :: eval v2 X.env :: evalEach rest X.env := by rfl) : DE Γ X (.JoinedStr (v1 :: v2 :: rest) pos) (fsF fr) := ⟨fun pins s σ H Q I => by
  rintro ⟨G₀, H₀, G, ρ, d, A, hq, k⟩
  unfold fsF at hq
  obtain ⟨ds, hd, hq⟩ := Option.bind_eq_some_iff.mp hq
  obtain ⟨z, hz, rfl⟩ := Option.map_eq_some_iff.mp hq
  refine JoinedStr_many ?_
  rw [← hs]
  exact h.1 _ pins s σ H Q I ⟨G₀, H₀, G, ρ, ds, z, A, hd, hz, fun G' H' s' => k _ G' H' s' (.str _)⟩⟩
end
end L2
end
section
namespace L2
open PySem PySem.Spec PyProof.Rows
section
variable {X : Cx} {pins : List (Addr × Obj)} {σ : St} {H H' : Hp} {s : Shared} {h' : Heap}
theorem ObjOk.there {P : Program} {w : World} {h : Heap} {a : Addr} {o : HO} (x : ObjOk P w H h a o) : ∃ u, h.get? a = some u := by
  cases o with
  | lst xs => obtain ⟨_, _, _, _, e⟩ := x; exact ⟨_, e⟩
  | tup xs => obtain ⟨_, _, _, p, e, _⟩ := x; exact ⟨_, e⟩
  | dK kvs => obtain ⟨_, _, _, _, o, _, _, e, _⟩ := x; exact ⟨_, e⟩
  | dT kvs => obtain ⟨_, _, _, _, o, _, _, e, _⟩ := x; exact ⟨_, e⟩
  | set S n => obtain ⟨o, _, _, _, e, _⟩ := x; exact ⟨_, e⟩
  | ins C dx fs => obtain ⟨_, _, _, e, _⟩ := x; exact ⟨_, e⟩
  | own y => obtain ⟨_, e⟩ := x; exact ⟨_, e⟩
  | xd fs => obtain ⟨_, ⟨_, _, _, e, _⟩, _⟩ := x; exact ⟨_, e⟩
  | rng lo hi => obtain ⟨_, _, _, e⟩ := x; exact ⟨_, e⟩
  | frz ob u => obtain ⟨e, _⟩ := x; exact ⟨_, e⟩
  | tbl ps => exact ⟨_, (show h.get? a = some _ from x)⟩
  | met f y => exact ⟨_, (show h.get? a = some _ from x)⟩
  | ext φ => obtain ⟨_, ⟨_, e⟩, _⟩ := x; exact ⟨_, e⟩
theorem Inv.none_of (I : Inv X pins σ H s) {a : Addr} (h : ∀ u, s.heap.get? a = some u -> False) : H a = none := by
  cases e : H a with
  | none => rfl
  | some o =>
    obtain ⟨u, hu⟩ := (I.hok a o e).there
    exact (h u hu).elim
theorem Inv.many {t' : Nat} (I : Inv X pins σ H s) (k : ∀ b u, s.heap.get? b = some u -> h'.get? b = some u) (hs : Same H H') (new : ∀ b o, H b = none -> H' b = some o -> (∀ u, s.heap.get? b = some u -> False) /\ ObjOk X.prog X.w H' h' b o) :
    Inv X pins σ H' { s with heap := h', toks := t' } := by
  refine I.un ⟨fun b ob q _ _ _ => k b ob q, fun b ob q _ _ _ => ⟨ob.slots, k b ob q⟩, fun b ob q n _ => ?_, fun b ob q _ => ⟨ob, k b ob q⟩, fun b xs q => hs _ _ q, fun b o u q => hs _ _ q, fun b ps q => ⟨#[], by rw [hs _ _ q]; simp⟩⟩ fun b o q => ?_
  · cases e : H' b with
    | none => rfl
    | some o => exact ((new b o n e).1 ob q).elim
  · cases e : H b with
    | none => exact (new b o e q).2
    | some o' =>
      have := hs _ _ e
      rw [q] at this
      cases this
      exact (I.hok b o e).stay (fun c v _ r => k c v r) (fun c r => hs _ _ r) fun c xs r => hs _ _ r
end
theorem Step.news {G H H' : Hp} (gh : Same G H) (hh : Same H H') : Step G H (fun b => match H b with | none => H' b | some _ => G b) H' := by
  refine ⟨hh, fun b o e => ?_, fun b o e => ?_, fun b o e => ?_⟩
  · show (match H b with | none => H' b | some _ => G b) = some o
    rw [gh _ _ e]; exact e
  · replace e : (match H b with | none => H' b | some _ => G b) = some o := e
    cases q : H b with
    | none => rw [q] at e; exact e
    | some u =>
      rw [q] at e
      exact hh _ _ (gh _ _ e)
  · show (match H b with | none => H' b | some _ => G b) = G b
    rw [e]
section
variable {Γ : Cn} {X : Cx} {a b c e o i : Expr} {es : List Expr} {fa fb fc f fo fk fx : FE} {fr fi : FA} {pos p p2 p3 p4 apos cpos : Pos} {ft : FT} {g : FS} {x : Str}
def hitsD (kb : List (Key × D)) : List (Key × D) -> Option Bool
  | [] => some true
  | (k, v) :: r => match valG kb k with
    | none => some false
    | some y => (eqX v y).bind fun e => (hitsD kb r).map (e && ·)
def deqD : D -> D -> Option Bool
  | .dk ka, .dk kb => if ka.length = kb.length then hitsD kb ka else some false
  | _, _ => none
def dNeD (x y : D) : Option D := (deqD x y).map fun b => D.bl (!b)
theorem hits_ok {pins : List (Addr × Obj)} {σ : St} {G H : Hp} {s : Shared} {A : Around} (I : Inv X pins σ H s) (gh : Same G H) (hu : A.in1.units + 64 < cLine) {ub : List (Key × V)} {kb : List (Key × D)} {vb : List (Key × Value)} (eb : ub.map (·.1) = kb.map (·.1)) (rb : Reps Γ X.K G (ub.map (·.2)) (kb.map (·.2))) (qb : KV ub vb) :
    ∀ {ua : List (Key × V)} {ka : List (Key × D)} {va : List (Key × Value)} {r : Bool}, ua.map (·.1) = ka.map (·.1) -> Reps Γ X.K G (ua.map (·.2)) (ka.map (·.2)) -> KV ua va -> hitsD kb ka = some r -> PySem.W.KeqHits A.in1 s vb va r
  | [], [], va, r, _, _, qa, h => by cases qa; cases h; exact .nil
  | [], _ :: _, _, _, e, _, _, _ => by cases e
  | _ :: _, [], _, _, e, _, _, _ => by cases e
  | (k1, v) :: ua, (k2, d) :: ka, va, r, e, rr, qa, h => by
    have e1 : k1 = k2 := (List.cons.inj e).1
    have e2 : ua.map (·.1) = ka.map (·.1) := (List.cons.inj e).2
    subst e1
    have rr : Reps Γ X.K G (v :: ua.map (·.2)) (d :: ka.map (·.2)) := rr
    cases rr with
    | cons r1 r2 =>
      cases qa with
      | cons q1 q2 =>
        rename_i w va
        obtain ⟨kw, vw⟩ := w
        obtain ⟨z1, z2⟩ := q1
        replace z1 : k1 = kw := z1
        subst z1
        have rv := qb.val k1
        unfold hitsD at h
        rcases kr_val (k := k1) eb rb with ⟨n1, n2⟩ | ⟨y, u, n1, n2, n3⟩
        · rw [n1] at h
          cases h
          rw [n2] at rv
          exact .miss (RelO.none_of rv)
        · rw [n1] at h
          obtain ⟨e, he, h⟩ := Option.bind_eq_some_iff.mp h
          obtain ⟨b, hb, rfl⟩ := Option.map_eq_some_iff.mp h
          rw [n2] at rv
          obtain ⟨u', hu', ru'⟩ := RelO.some_of rv
          obtain ⟨p, q, hp, hq, s1, s2, rfl⟩ := eqX_some he
          obtain ⟨as, a1⟩ := r1.reads I gh z2 hp
          obtain ⟨bs, a2⟩ := n3.reads I gh ru' hq
          exact .hit hu' (PySem.W.keq_at a1 a2 s1 s2 hu) (hits_ok I gh hu eb rb qb e2 r2 q2 hb)
def rDq (Γ : Cn) (K : PySem.W.Frag) (neg : Bool) : R2 := fun x y H Q => ∃ G d e b, Same G H /\ Rep Γ K G x d /\ Rep Γ K G y e /\ deqD d e = some b /\ Q (.bl (if neg then !b else b)) H
theorem deq_both {pins : List (Addr × Obj)} {σ : St} {G H : Hp} {s : Shared} {v u : V} {d e : D} {b : Bool} (I : Inv X pins σ H s) (gh : Same G H) (hu : X.A.units + 66 < cLine) (r1 : Rep Γ X.K G v d) (r2 : Rep Γ X.K G u e) (h : deqD d e = some b) :
    ∃ p q va vb r, v = .ref p /\ u = .ref q /\ (p == sysModules) = false /\ (q == sysModules) = false /\ s.heap.DictOf (mixKind X.prog X.w) p va /\ s.heap.DictOf (mixKind X.prog X.w) q vb /\ (va.length = vb.length -> PySem.W.KeqHits X.A.in1 s vb va r) /\ b = (va.length == vb.length && r) := by
  unfold deqD at h
  split at h
  · rename_i ka kb
    cases r1 with
    | dk h1 h2 h3 =>
      cases r2 with
      | dk k1 k2 k3 =>
        obtain ⟨_, m1, va, qa, da⟩ := dk_of I.hok (gh _ _ h1)
        obtain ⟨_, m2, vb, qb, db⟩ := dk_of I.hok (gh _ _ k1)
        have la : va.length = ka.length := by rw [← qa.length]; simpa using congrArg List.length h2
        have lb : vb.length = kb.length := by rw [← qb.length]; simpa using congrArg List.length k2
        have hu1 : X.A.in1.units + 64 < cLine := by
          have : X.A.in1.units = X.A.units + 1 := rfl
          omega
        split at h
        · rename_i hl
          exact ⟨_, _, va, vb, b, rfl, rfl, m1, m2, da, db, fun _ => hits_ok I gh hu1 k2 k3 qb h2 h3 qa h, by rw [la, lb, hl]; simp⟩
        · rename_i hl
          cases h
          refine ⟨_, _, va, vb, false, rfl, rfl, m1, m2, da, db, fun q => absurd (la.symm.trans (q.trans lb)) hl, by simp⟩
  · cases h
theorem op_deq (hu : X.A.units + 66 < cLine) : OpR X (compareOp .Eq) (rDq Γ X.K false) := by
  intro pins s σ H x y v u Q I rx ry h
  obtain ⟨G, d, e, b, gh, r1, r2, hb, q⟩ := h
  obtain ⟨pa, pb, va, vb, r, rfl, rfl, m1, m2, da, db, ht, rfl⟩ := deq_both I gh hu r1 r2 hb
  cases rx
  cases ry
  exact PySem.W.keq_eq m1 m2 da db (by omega) ht ⟨.bl _, H, I, rfl, q⟩
theorem op_dne (hu : X.A.units + 66 < cLine) : OpR X (compareOp .NotEq) (rDq Γ X.K true) := by
  intro pins s σ H x y v u Q I rx ry h
  obtain ⟨G, d, e, b, gh, r1, r2, hb, q⟩ := h
  obtain ⟨pa, pb, va, vb, r, rfl, rfl, m1, m2, da, db, ht, rfl⟩ := deq_both I gh hu r1 r2 hb
  cases rx
  cases ry
  exact PySem.W.keq_ne m1 m2 da db (by omega) ht ⟨.bl _, H, I, rfl, q⟩
theorem cd_dne (hu : X.A.units + 66 < cLine) : CmpD Γ X .NotEq dNeD := ⟨_, op_dne (Γ := Γ) hu, fun {G H v u x y z} gh r1 r2 h Q k => by
  unfold dNeD at h
  obtain ⟨b, hb, rfl⟩ := Option.map_eq_some_iff.mp h
  exact ⟨G, x, y, b, gh, r1, r2, hb, k _ G H (.refl gh) (.bl _)⟩⟩
def leS (x y : Str) : Bool := !ltS y x
def sortS (l : List Str) : List Str := l.mergeSort leS
theorem leS_iff {x y : Str} : leS x y = true ↔ x.cps.toList <= y.cps.toList := by
  unfold leS ltS
  rw [Bool.not_eq_true', decide_eq_false_iff_not, List.not_lt]
theorem leS_trans (x y z : Str) (h1 : leS x y = true) (h2 : leS y z = true) : leS x z = true := leS_iff.mpr (List.le_trans (leS_iff.mp h1) (leS_iff.mp h2))
theorem leS_total (x y : Str) : (leS x y || leS y x) = true := by
  rw [Bool.or_eq_true]
  exact (List.le_total x.cps.toList y.cps.toList).imp leS_iff.mpr leS_iff.mpr
theorem leS_anti {x y : Str} (h1 : leS x y = true) (h2 : leS y x = true) : x = y := by
  have e := List.le_antisymm (leS_iff.mp h1) (leS_iff.mp h2)
  cases x; cases y
  simp only at e
  rw [Array.toList_inj.mp e]
theorem rising_pw : ∀ (l : List Str) (p : Str), risingS p l = true -> (∀ a ∈ l, leS p a = true) /\ l.Pairwise fun a b => leS a b = true
  | [], _, _ => ⟨fun _ h => (nomatch h), List.Pairwise.nil⟩
  | x :: r, p, h => by
    unfold risingS at h
    rw [Bool.and_eq_true, ltCps_eq] at h
    obtain ⟨h1, h2⟩ := rising_pw r x h.2
    have hp : leS p x = true := h.1
    refine ⟨fun a ha => ?_, .cons h1 h2⟩
    rcases List.mem_cons.mp ha with rfl | ha
    · exact hp
    · exact leS_trans _ _ _ hp (h1 a ha)
theorem sorted_pw {l : List Str} (h : sortedS l = true) : l.Pairwise fun a b => leS a b = true := by
  cases l with
  | nil => exact .nil
  | cons x r => exact .cons (rising_pw r x h).1 (rising_pw r x h).2
theorem sortS_uniq {l l' : List Str} (hp : l'.Perm l) (hs : sortedS l' = true) : l' = sortS l :=
  List.Perm.eq_of_pairwise (le := fun a b => leS a b = true) (fun a b _ _ h1 h2 => leS_anti h1 h2) (sorted_pw hs) (List.pairwise_mergeSort leS_trans leS_total l) (hp.trans (List.mergeSort_perm l leS).symm)
def txtKeys : List (Key × D) -> Option (List Str)
  | [] => some []
  | (.inr x, _) :: r => (txtKeys r).map (x :: ·)
  | (.inl _, _) :: _ => none
theorem txtKeys_ok : ∀ {kvs : List (Key × D)} {us : List (Key × V)} {ss : List Str}, us.map (·.1) = kvs.map (·.1) -> txtKeys kvs = some ss -> us.map (·.1) = ss.map Sum.inr
  | [], [], ss, _, h => by cases h; rfl
  | [], _ :: _, _, e, _ => by cases e
  | _ :: _, [], _, e, _ => by cases e
  | (k, d) :: kvs, (k', v) :: us, ss, e, h => by
    have e1 : k' = k := (List.cons.inj e).1
    have e2 : us.map (·.1) = kvs.map (·.1) := (List.cons.inj e).2
    subst e1
    cases k' with
    | inl i => cases h
    | inr x =>
      obtain ⟨zs, hz, rfl⟩ := Option.map_eq_some_iff.mp (show (txtKeys kvs).map (x :: ·) = some ss from h)
      rw [List.map_cons, List.map_cons, txtKeys_ok e2 hz]
def sortedD : List D -> Option D
  | [.dk kvs] => (txtKeys kvs).bind fun ss => if ss.length < 64 then some (.lst ((sortS ss).map D.str)) else none
  | _ => none
theorem strs_of {P : Program} {w : World} : ∀ {ss : List Str} {vs : List Value} {va : List (Key × Value)}, va.map (·.1) = ss.map Sum.inr -> vs.length = ss.length -> (∀ (j : Nat) (v : Value), vs[j]? = some v -> ∃ k x, va[j]? = some (k, x) /\ (mixKind P w).is k v = true) -> StrsAre vs ss
  | [], [], _, _, _, _ => .nil
  | [], _ :: _, _, _, h, _ => by cases h
  | _ :: _, [], _, _, h, _ => by cases h
  | s :: ss, v :: vs, va, e, hl, h => by
    obtain ⟨k, x, h1, h2⟩ := h 0 v rfl
    cases va with
    | nil => cases e
    | cons w va =>
      cases h1
      have e1 : k = Sum.inr s := (List.cons.inj e).1
      subst e1
      obtain ⟨t, rfl⟩ := Value.isStrOf_shape (x := s) (v := v) h2
      exact .cons s t (strs_of (va := va) (List.cons.inj e).2 (by simpa using hl) fun j u hu => by
        obtain ⟨k, x, q1, q2⟩ := h (j + 1) u (by simpa using hu)
        exact ⟨k, x, by simpa using q1, q2⟩)
theorem vals_of_strs : ∀ {vs : List Value} {ss : List Str}, StrsAre vs ss -> Vals (ss.map V.str) vs
  | _, _, .nil => .nil
  | _, _, .cons x t r => .cons ⟨t, rfl⟩ (vals_of_strs r)
theorem call_sortedD (hc : X.calm = true) : CallR X (.builtin "sorted") (fun xs H Q => ∃ (a : Addr) (us : List (Key × V)) (ss : List Str), xs = [.ref a] /\ H a = some (.dK us) /\ us.map (·.1) = ss.map Sum.inr /\ ss.length < 64 /\ ∀ p, H p = none -> Q (.ref p) (upd H p (.lst ((sortS ss).map V.str)))) := by
  intro pins s σ H xs us Q I r h
  obtain ⟨a, ks, ss, rfl, ha, hk, h64, q⟩ := h
  obtain ⟨u, rfl, ru⟩ := vals1 r
  cases ru
  obtain ⟨z, md, va, qa, da⟩ := dk_of I.hok ha
  obtain ⟨ep, hat⟩ := da.dictAt
  have hva : va.map (·.1) = ss.map Sum.inr := qa.keys.symm.trans hk
  have hlen : va.length = ss.length := by simpa using congrArg List.length hva
  have hh : X.A.handled = none := I.ok.hd hc
  have hsl := sizeLine_eq
  refine Calls.call_function_entry kind_sorted plain_sorted entry_sorted (args_sorted1 _) ?_
  unfold Builtin.«sorted»
  refine wpAny_bind (m := checkCount "sorted" 1 1 _) (wpAny_pure ?_)
  refine wpAny_bind (PySem.W.kdu_collect (A := X.A.in1) (PySem.W.kdl_dict (knd := mixKind X.prog X.w) (kvs := va) (ep := ep) md) hh hat (by omega) fun h' tk acc hkp hacc => ?_)
  have hl : acc.toList.length = va.length := by rw [Array.length_toList]; exact hacc.1
  refine wpAny_bind (wpAny_newList ?_ (by rw [hl]; omega))
  have hS : StrsAre acc.toList ss := strs_of (P := X.prog) (w := X.w) hva (by rw [hl, hlen]) fun j v e => hacc.2 j v (by rw [← Array.getElem?_toList]; exact e)
  have hoL : (h'.push (seqObj "list" acc.toList.toArray 0)).get? h'.objs.size = some (seqObj "list" acc.toList.toArray 0) := Heap.get?_push_size _ rfl
  refine wpAny_bind (wpAny_holding (wpAny_call_entry slot_list_sort ⟨_, hoL, rfl⟩ entry_list_sort (list_sort_treeK strKind_oneLt hoL hS.keysOf (fun v₁ v₂ rest e => keyKind_strs (by rw [← e]; exact hS)) (by rw [hl]; omega) fun st' a1 a2 => ⟨_, rfl, ?_⟩) (args_list_sort _)))
  obtain ⟨ss', h1, h2, h3⟩ := sorted_out_str hS a1 a2
  have es := sortS_uniq h2 h3
  subst es
  refine wpAny_pure ⟨_, rfl, ?_⟩
  obtain ⟨ee, he⟩ := sortedHeap_at (h := h'.push (seqObj "list" acc.toList.toArray 0)) (out := (arrOf st').map (·.2)) hoL
  have hls : (sortS ss).length = ss.length := (List.mergeSort_perm ss leS).length_eq
  have hno : ∀ u, s.heap.get? h'.objs.size = some u -> False := fun u e => Nat.lt_irrefl _ (Heap.lt_size (hkp _ _ e))
  have hn := I.none_of hno
  refine ⟨.ref h'.objs.size, upd H h'.objs.size (.lst ((sortS ss).map V.str)), I.many (t' := tk) (fun b o e => ?_) (fun b o e => by rw [upd_ne (ne_of_none e hn)]; exact e) (fun b o e1 e2 => ?_), rfl, q _ hn⟩
  · have hb : b < h'.objs.size := Heap.lt_size (hkp b o e)
    rw [sortedHeap_old (Nat.ne_of_lt hb) (by rw [size_push']; exact Nat.lt_succ_of_lt hb)]
    exact Heap.get?_push_of_some _ (hkp b o e)
  · by_cases hb : b = h'.objs.size
    · subst hb
      rw [upd_same] at e2
      cases e2
      exact ⟨hno, by rw [List.length_map, hls]; omega, _, ee, vals_of_strs h1, by rw [Array.toArray_toList]; exact he⟩
    · rw [upd_ne hb, e1] at e2
      cases e2
theorem bd_sorted (hc : X.calm = true) : BltD Γ X "sorted" sortedD := ⟨_, call_sortedD hc, fun {G H vs ds z} gh r h Q k => by
  unfold sortedD at h
  split at h
  · obtain ⟨ss, hs, h⟩ := Option.bind_eq_some_iff.mp h
    split at h
    · rename_i h64
      cases h
      obtain ⟨v, rfl, r1⟩ := r.one
      cases r1 with
      | dk h1 h2 h3 => exact ⟨_, _, ss, rfl, gh _ _ h1, txtKeys_ok h2 hs, h64, new_lst gh (Reps.strs _) k⟩
    · cases h
  · cases h⟩
end
end L2
end
section
namespace L2
open PySem PySem.Spec PyProof.Rows
section
variable {α β : Type} [DecidableEq α]
theorem zip_look : ∀ {as : List α} {ws : List β} {j : Nat} {a : α} {w : β}, as.Nodup -> as[j]? = some a -> ws[j]? = some w -> (as.zip ws).lookup a = some w
  | [], _, _, _, _, _, h, _ => by simp at h
  | _ :: _, [], _, _, _, _, _, h => by simp at h
  | x :: as, y :: ws, 0, a, w, _, h1, h2 => by
    simp at h1 h2
    subst h1 h2
    simp [List.lookup]
  | x :: as, y :: ws, j + 1, a, w, hn, h1, h2 => by
    rw [List.nodup_cons] at hn
    have h1' : as[j]? = some a := by simpa using h1
    have hne : a ≠ x := fun z => hn.1 (z ▸ List.mem_of_getElem? h1')
    rw [List.zip_cons_cons, List.lookup_cons, beq_eq_false_iff_ne.mpr hne]
    exact zip_look hn.2 h1' (by simpa using h2)
theorem look_zip : ∀ {as : List α} {ws : List β} {a : α} {w : β}, (as.zip ws).lookup a = some w -> ∃ j : Nat, as[j]? = some a /\ ws[j]? = some w
  | [], _, _, _, h => by simp at h
  | _ :: _, [], _, _, h => by simp at h
  | x :: as, y :: ws, a, w, h => by
    rw [List.zip_cons_cons, List.lookup_cons] at h
    by_cases e : a = x
    · subst e
      rw [beq_self_eq_true] at h
      cases h
      exact ⟨0, rfl, rfl⟩
    · rw [beq_eq_false_iff_ne.mpr e] at h
      obtain ⟨j, h1, h2⟩ := look_zip h
      exact ⟨j + 1, by simpa using h1, by simpa using h2⟩
end
section
variable {Γ : Cn} {X : Cx} {a b c e o i : Expr} {es : List Expr} {fa fb fc f fo fk fx : FE} {fr fi : FA} {pos p p2 p3 p4 apos cpos : Pos} {ft : FT} {g : FS} {x : Str}
theorem Reps.ofGet {K : PySem.W.Frag} {G : Hp} : ∀ {vs : List V} {ds : List D}, vs.length = ds.length -> (∀ (j : Nat) v d, vs[j]? = some v -> ds[j]? = some d -> Rep Γ K G v d) -> Reps Γ K G vs ds
  | [], [], _, _ => .nil
  | [], _ :: _, h, _ => by cases h
  | _ :: _, [], h, _ => by cases h
  | v :: vs, d :: ds, h, k => .cons (k 0 v d rfl rfl) (Reps.ofGet (by simpa using h) fun j u e h1 h2 => k (j + 1) u e (by simpa using h1) (by simpa using h2))
theorem mt_items : MtR X "dict.items" (fun v vs H Q => ∃ (d : Addr) (us : List (Key × V)), v = .ref d /\ vs = [] /\ H d = some (.dK us) /\ ∀ q, H q = none -> Q (.ref q) (upd H q (.ext fun h => h.IsItemsView q d))) := by
  intro pins s σ H x xs v us Q I rx rs h
  obtain ⟨d, us, rfl, rfl, hd, q⟩ := h
  cases rx
  cases rs
  obtain ⟨z, md, va, qa, da⟩ := dk_of I.hok hd
  refine call_meetsIn PySem.F.slot_dict_items da.typeIs PySem.F.entry_dict_items (PySem.F.args_dict_items_1 _) (meets_dict_items (mixKind X.prog X.w) d md) ⟨⟨va, da⟩, ?_⟩
  refine ⟨.ref s.heap.objs.size, _, I.laid (t' := s.toks) (o := .ext fun h => h.IsItemsView s.heap.objs.size d) (fun b u e => Heap.get?_push_of_some _ e) (Nat.le_refl _) ⟨⟨_, Heap.get?_push_size _ rfl, rfl, rfl⟩, ⟨_, Heap.get?_push_size _ rfl⟩, fun h1 h2 q k => ?_⟩, rfl, q _ I.fresh⟩
  obtain ⟨ob, e, r⟩ := q
  exact ⟨ob, k ob e, r⟩
def pairO (us : List (Key × V)) : List HO := us.map fun kv => HO.tup [kV kv.1, kv.2]
theorem mix_rel {P : Program} {w : World} {k : Key} {u : Value} (h : (mixKind P w).is k u = true) : RelV (kV k) u := by
  rcases keyIs_shape (k := k) (v := u) h with ⟨i, t, rfl, rfl⟩ | ⟨x, t, rfl, rfl⟩
  · exact ⟨t, rfl⟩
  · exact ⟨t, rfl⟩
theorem call_listItems (hc : X.calm = true) : CallR X (.type "list") (fun xs H Q => ∃ (v d : Addr) (us : List (Key × V)), xs = [.ref v] /\ H v = some (.ext fun h => h.IsItemsView v d) /\ H d = some (.dK us) /\ ∀ (L : Addr) (ts : List Addr) (H' : Hp), Same H H' -> H L = none -> H' L = some (.lst (ts.map V.ref)) -> ts.length = us.length ->
    (∀ (j : Nat) t kv, ts[j]? = some t -> us[j]? = some kv -> H t = none /\ H' t = some (.tup [kV kv.1, kv.2])) -> Q (.ref L) H') := by
  intro pins s σ H xs vs Q I r h
  obtain ⟨v, d, us, rfl, hv, hd, q⟩ := h
  obtain ⟨u, rfl, ru⟩ := vals1 r
  cases ru
  obtain ⟨z, md, va, qa, da⟩ := dk_of I.hok hd
  obtain ⟨ep, hat⟩ := da.dictAt
  have hview : s.heap.IsItemsView v d := (I.hok v _ hv).1
  have hlen : us.length = va.length := qa.length
  refine PySem.W.kdx_call (knd := mixKind X.prog X.w) (kvs := va) (ep := ep) (I.ok.hd hc) hview hat (by omega) fun h' tk acc c as hk hL hl hG hacc => ?_
  have hsz : ∀ b u, s.heap.get? b = some u -> b < s.heap.objs.size := fun b u e => Heap.lt_size e
  have nd : as.Nodup := hG.rise.imp fun h => Nat.ne_of_lt h
  have hnone : ∀ b, s.heap.objs.size <= b -> H b = none := fun b hb => I.hok.fresh hb
  let H' : Hp := fun b => if b = s.heap.objs.size then some (.lst (as.map V.ref)) else match (as.zip (pairO us)).lookup b with | some o => some o | none => H b
  have hL' : H' s.heap.objs.size = some (.lst (as.map V.ref)) := if_pos rfl
  have hT : ∀ (j : Nat) t kv, as[j]? = some t -> us[j]? = some kv -> s.heap.objs.size < t /\ H' t = some (.tup [kV kv.1, kv.2]) := fun j t kv e1 e2 => by
    have hlt := hG.above t (List.mem_of_getElem? e1)
    refine ⟨hlt, ?_⟩
    show (if t = s.heap.objs.size then _ else match (as.zip (pairO us)).lookup t with | some o => some o | none => H t) = _
    rw [if_neg (Nat.ne_of_gt hlt), zip_look (w := HO.tup [kV kv.1, kv.2]) nd e1 (by unfold pairO; rw [List.getElem?_map, e2]; rfl)]
  have same : Same H H' := fun b o e => by
    have hb : b < s.heap.objs.size := I.hok.lt e
    show (if b = s.heap.objs.size then _ else match (as.zip (pairO us)).lookup b with | some o => some o | none => H b) = _
    rw [if_neg (Nat.ne_of_lt hb)]
    cases q : (as.zip (pairO us)).lookup b with
    | none => exact e
    | some w =>
      obtain ⟨j, h1, _⟩ := look_zip q
      exact absurd (Nat.lt_trans (hG.above b (List.mem_of_getElem? h1)) hb) (Nat.lt_irrefl _)
  refine ⟨.ref s.heap.objs.size, H', I.many (t' := tk) hk same (fun b o e1 e2 => ?_), rfl, q _ as H' same (hnone _ (Nat.le_refl _)) hL' (by rw [hl, hlen]) fun j t kv e1 e2 => ⟨hnone _ (Nat.le_of_lt (hT j t kv e1 e2).1), (hT j t kv e1 e2).2⟩⟩
  by_cases hb : b = s.heap.objs.size
  · subst hb
    rw [hL'] at e2
    cases e2
    have ea : acc = (as.map Value.ref).toArray := by rw [← hacc, Array.toArray_toList]
    have rv : ∀ l : List Addr, Vals (l.map V.ref) (l.map Value.ref) := fun l => by
      induction l with
      | nil => exact .nil
      | cons x r ih => exact .cons rfl ih
    exact ⟨fun u e => Nat.lt_irrefl _ (hsz _ u e), by rw [List.length_map, hl]; omega, _, c, rv as, by rw [hL, ea]⟩
  · have e2' : (match (as.zip (pairO us)).lookup b with | some o => some o | none => H b) = some o := by
      have : H' b = (match (as.zip (pairO us)).lookup b with | some o => some o | none => H b) := if_neg hb
      rw [← this]; exact e2
    cases ql : (as.zip (pairO us)).lookup b with
    | none => rw [ql, e1] at e2'; cases e2'
    | some w =>
      rw [ql] at e2'
      cases e2'
      obtain ⟨j, h1, h2⟩ := look_zip ql
      have hlt := hG.above b (List.mem_of_getElem? h1)
      refine ⟨fun u e => Nat.lt_irrefl _ (Nat.lt_trans hlt (hsz _ u e)), ?_⟩
      unfold pairO at h2
      rw [List.getElem?_map] at h2
      obtain ⟨kv, hkv, rfl⟩ := Option.map_eq_some_iff.mp h2
      obtain ⟨key, k, y, g1, g2, g3⟩ := hG.pairs j b h1
      obtain ⟨kv', q1, q2, q3⟩ : ∃ p : Key × Value, va[j]? = some p /\ kv.1 = p.1 /\ RelV kv.2 p.2 := by
        have all : ∀ {l : List (Key × V)} {m : List (Key × Value)} {j : Nat} {kv : Key × V}, KV l m -> l[j]? = some kv -> ∃ p : Key × Value, m[j]? = some p /\ kv.1 = p.1 /\ RelV kv.2 p.2 := by
          intro l m j kv r
          induction r generalizing j with
          | nil => intro e; simp at e
          | cons h t ih =>
            intro e
            cases j with
            | zero => simp at e; subst e; exact ⟨_, rfl, h.1, h.2⟩
            | succ j =>
              obtain ⟨p, z1, z2⟩ := ih (j := j) (by simpa using e)
              exact ⟨p, by simpa using z1, z2⟩
        exact all qa hkv
      rw [q1] at g1
      cases g1
      obtain ⟨kk, vv⟩ := kv
      replace q2 : kk = k := q2
      subst q2
      exact ⟨by show 2 <= sizeLine; decide, [key, y], .cons (mix_rel g2) (.cons q3 .nil), ⟨_, g3, rfl, _, rfl⟩⟩
def itemsOf : D -> Option D
  | .dk kvs => some (.lst (kvs.map fun kv => D.tup [keyD kv.1, kv.2]))
  | _ => none
theorem rep_key {K : PySem.W.Frag} {G : Hp} (k : Key) : Rep Γ K G (kV k) (keyD k) := by
  cases k with
  | inl i => exact .int i
  | inr x => exact .str x
theorem de_items (hc : X.calm = true) (hg : Gl X "list") (hm : X.mg "list" = none) (ho : DE Γ X o fo) (hbase : attributeBase o "items" X.env (eval o X.env) = eval o X.env := by rfl) (hline : (apos.endLine == cpos.line) = true := by rfl)
    (he : starEach [.Call (.Attribute o "items" apos) [] [] cpos] X.env = (false, eval (.Call (.Attribute o "items" apos) [] [] cpos) X.env) :: starEach [] X.env := by rfl) (hpl : (backTo pos (starEach [] X.env)).any (·.1) = false := by rfl) :
    DE Γ X (.Call (.Name "list" p) [.Call (.Attribute o "items" apos) [] [] cpos] [] pos) (b1 itemsOf fo) := ⟨(pe_callTy (call_listItems hc) hg hm (by rfl) (pa_cons (pe_bm0 PySem.F.plainAttrs_dict PySem.F.slot_dict_items PySem.F.type_dict_items mt_items ho.1 hbase hline) pa_nil he) (by decide) (by decide) he hpl).imp fun σ H Q => by
  rintro ⟨G₀, H₀, G, ρ, d, A, h, k⟩
  unfold b1 at h
  obtain ⟨x, hx, h⟩ := Option.bind_eq_some_iff.mp h
  refine ⟨G₀, H₀, G, ρ, x, A, hx, fun v G1 H1 s1 r1 => ?_⟩
  unfold itemsOf at h
  split at h
  · cases h
    cases r1 with
    | dk h1 h2 h3 =>
      rename_i kvs ad us
      refine ⟨.inr (.inr (.inl ⟨rfl, .inl ⟨_, s1.gh _ _ h1⟩⟩)), _, _, rfl, rfl, s1.gh _ _ h1, fun q hq => ?_⟩
      have s2 := Step.newOwn (o := .ext fun h => h.IsItemsView q ad) s1.gh hq
      refine ⟨q, ad, us, rfl, upd_same, s2.hh _ _ (s1.gh _ _ h1), fun L ts H' hs hL hL' hl ht => ?_⟩
      have s3 := Step.news s2.gh hs
      refine k _ _ _ ((s1.trans s2).trans s3) ?_
      have gL : (fun b => match upd H1 q (.ext fun h => h.IsItemsView q ad) b with | none => H' b | some _ => G1 b) L = some (.lst (ts.map V.ref)) := by
        show (match upd H1 q (.ext fun h => h.IsItemsView q ad) L with | none => H' L | some _ => G1 L) = _
        rw [hL]; exact hL'
      refine .lst gL (Reps.ofGet (by rw [List.length_map, List.length_map, hl]; simpa using congrArg List.length h2) fun j v d e1 e2 => ?_)
      rw [List.getElem?_map] at e1 e2
      obtain ⟨t, ht1, rfl⟩ := Option.map_eq_some_iff.mp e1
      obtain ⟨kd, hkd, rfl⟩ := Option.map_eq_some_iff.mp e2
      have hj : j < us.length := by rw [← hl]; exact (List.getElem?_eq_some_iff.mp ht1).1
      obtain ⟨kv, hkv⟩ : ∃ kv, us[j]? = some kv := ⟨us[j], by simp [hj]⟩
      obtain ⟨n1, n2⟩ := ht j t kv ht1 hkv
      have ek : kv.1 = kd.1 := by
        have := congrArg (fun l => l[j]?) h2
        simp only [List.getElem?_map, hkv, hkd, Option.map_some, Option.some.injEq] at this
        exact this
      have rv : Rep Γ X.K G1 kv.2 kd.2 := by
        obtain ⟨w, w1, w2⟩ := h3.get (i := j) (d := kd.2) (by rw [List.getElem?_map, hkd]; rfl)
        rw [List.getElem?_map, hkv] at w1
        cases w1
        exact w2
      have gt : (fun b => match upd H1 q (.ext fun h => h.IsItemsView q ad) b with | none => H' b | some _ => G1 b) t = some (.tup [kV kv.1, kv.2]) := by
        show (match upd H1 q (.ext fun h => h.IsItemsView q ad) t with | none => H' t | some _ => G1 t) = _
        rw [n1]; exact n2
      exact .tup gt (.cons (by rw [ek]; exact rep_key _) (.cons (rv.mono (s2.gg.trans s3.gg)) .nil))
  · cases h⟩
def revD : D -> Option D
  | .lst l => some (.lst l.reverse)
  | _ => none
theorem Reps.reverse {K : PySem.W.Frag} {G : Hp} : ∀ {vs : List V} {ds : List D}, Reps Γ K G vs ds -> Reps Γ K G vs.reverse ds.reverse
  | _, _, .nil => .nil
  | _, _, .cons h r => by
    rw [List.reverse_cons, List.reverse_cons]
    exact r.reverse.append (.cons h .nil)
theorem de_rev {j} (he : DE Γ X e f) : DE Γ X (.Subscript e (.Slice none none (some (.UnaryOp .USub (.Constant (.int 1) j p3) p4)) p2) pos) (b1 revD f) := ⟨fun pins s σ H Q I => by
  rintro ⟨G₀, H₀, G, ρ, d, A, h, k⟩
  unfold b1 at h
  obtain ⟨x, hx, h⟩ := Option.bind_eq_some_iff.mp h
  unfold revD at h
  split at h
  · rename_i l
    cases h
    refine Subscript_ (thn (he.1 pins s σ H (fun v H' => ∃ G', Step G H G' H' /\ Rep Γ X.K G' v (.lst l)) I ⟨G₀, H₀, G, ρ, _, A, hx, fun v G' H' st r => ⟨G', st, r⟩⟩) fun v s1 ⟨v', H1, I1, r1, G1, st, rp⟩ => ?_)
    obtain ⟨a, vs, rfl, ha, rv⟩ := rp.lst_inv
    cases r1
    refine wpAny_Slice (wpAny_pure (wpAny_pure ?_))
    refine thn ((pe_un un_neg pe_int) pins s1 σ H1 (fun v H' => v = .int (-1) /\ H' = H1) I1 ⟨_, rfl, rfl, rfl⟩) fun vk s3 ⟨vv, H3, I3, r3, e1, e2⟩ => ?_
    subst e1 e2
    obtain ⟨t, rfl⟩ := r3
    have I4 : Inv X pins σ H3 { s3 with heap := s3.heap.push { cls := .type "slice", data := .fields #[.none, .none, .int (-1) t] } } := I3.kept (t' := s3.toks) fun b ob q => Heap.get?_push_of_some _ q
    obtain ⟨its, rr, hti, hz⟩ := I4.list (.inl (.inl (st.gh _ _ ha)))
    show wpAny (model X.prog X.w) X.A (subscriptTail e (.Slice none none (some (.UnaryOp .USub (.Constant (.int 1) j p3) p4)) p2) (.ref a) (.ref s3.heap.objs.size)) (EP X pins σ Q) X.xe { s3 with heap := s3.heap.push { cls := .type "slice", data := .fields #[.none, .none, .int (-1) t] } }
    refine tail_any (ops := [.ref a, .ref s3.heap.objs.size]) hti.isList.typeIs slot_list_getitem.lookup ?_ (by with_unfolding_all rfl)
    refine wpAny_getItem_list_slice hti.isList (Heap.IsSliceOf.new ..) .none .none (.int _ _) (by decide) ?_ (by rw [List.size_toArray]; have := rr.length; omega)
    rw [PySem.W.krv_pick]
    have hn := I4.fresh
    exact ⟨.ref _, _, I4.lnew (ys := vs.reverse) (its := its.reverse) (t' := s3.toks) (Vals.reverse rr) (by rw [List.length_reverse]; exact hz), rfl, new_lst st.gh rv.reverse (fun w G2 H2 s2 r2 => k w G2 H2 (st.trans s2) r2) _ hn⟩
  · cases h⟩
end
end L2
end
section
namespace L2
open PySem PySem.Spec PyProof.Rows
structure CF (Γ : Cn) (K : PySem.W.Frag) (c : Str) (attrs : List Str) : Prop where
  ex : ∃ C, Γ.cls c = some C /\ Cls K C /\ ∀ f ∈ attrs, NoAttr K C f
section
variable {Γ : Cn} {X : Cx} {a b c e o i value : Expr} {es : List Expr} {fa fb fc f fo fk fx fv : FE} {fr fi : FA} {pos pos' p apos cpos : Pos} {ft : FT} {g : FS} {x cl fl n m : Str} {attrs : List Str}
end
end L2
end
section
namespace L2
open PySem PySem.Spec PyProof.Rows
section
variable {Γ : Cn} {P : Program} {w : World} {K : PySem.W.Frag} {mg : Str -> Option Value} {base : Heap} {c : Str} {attrs : List Str} {x : Addr}
structure CalM (Γ : Cn) (P : Program) (w : World) (K : PySem.W.Frag) (mg : Str -> Option Value) (base : Heap) (c m : Str) (n k : Nat) (F : List D -> Option D) : Prop where
  ex : ∃ C f fd ps, Γ.cls c = some C /\ Cls K C /\ Meth K C m f /\ FnOk P w K mg base CX0 k f fd ps (spF Γ K n F) /\ Binds K fd ps []
def spI (Γ : Cn) (K : PySem.W.Frag) (C : Addr) (n : Nat) (F : List D -> Option D) : Sp := fun vs H Q _ => ∃ x dx H1 G ds d us, vs = .ref x :: us /\ H = upd (upd H1 dx (.own x)) x (.ins C dx []) /\ H1 x = none /\ H1 dx = none /\ dx ≠ x /\ Same G H1 /\ Reps Γ K G us ds /\ ds.length = n /\ F ds = some d /\
  ∀ G' H', Step G H1 G' H' -> Rep Γ K G' (.ref x) d -> Q .non H'
structure CalI (Γ : Cn) (P : Program) (w : World) (K : PySem.W.Frag) (mg : Str -> Option Value) (base : Heap) (c : Str) (n k : Nat) (F : List D -> Option D) : Prop where
  ex : ∃ C f fd ps, Γ.cls c = some C /\ Mk K C f /\ mg c = some (.ref C) /\ FnOk P w K mg base CX0 k f fd ps (spI Γ K C n F) /\ Binds K fd ps []
end
section
variable {Γ : Cn} {X : Cx} {e o : Expr} {es : List Expr} {fo : FE} {fr : FA} {pos p apos : Pos} {c m : Str}
end
section
variable {Γ : Cn} {P : Program} {w : World} {K : PySem.W.Frag} {mg : Str -> Option Value} {base : Heap} {c : Str} {attrs : List Str}
structure DfnM (K : PySem.W.Frag) (C : Addr) (c m qual : Str) (st : Stmt) : Prop where
  ex : ∃ f fd, Fun K m qual st f fd /\ PySem.W.findIn K (.ref C) m = some (some (.ref f)) /\ PySem.W.isFn K (.ref f) = true
structure ClsOk (Γ : Cn) (K : PySem.W.Frag) (mg : Str -> Option Value) (c : Str) (C : Addr) : Prop where
  cn : Γ.cls c = some C
  cl : Cls K C
  mgC : mg c = some (.ref C)
  makes : PySem.W.makesIn K C = true
  kp : PySem.W.keepIn K (.ref C) = true
end
end L2
end
section
namespace ST
open PySem
structure Pr where
  j : Nat
  more : Nat
  i : Nat
  pt : Nat
def adv (M : Nat) (p : Pr) : Pr := if p.more > 0 then { p with j := p.j + 1, more := p.more - 1 } else
  { j := (SetTable.leap M p.i p.pt).1, more := SetTable.runEnd M (SetTable.leap M p.i p.pt).1 - (SetTable.leap M p.i p.pt).1, i := (SetTable.leap M p.i p.pt).1, pt := (SetTable.leap M p.i p.pt).2 }
def st0 (M : Nat) (h : Int) : Pr := { j := SetTable.bits h % (M + 1), more := SetTable.runEnd M (SetTable.bits h % (M + 1)) - SetTable.bits h % (M + 1), i := SetTable.bits h % (M + 1), pt := SetTable.bits h }
def it (M : Nat) (h : Int) : Nat -> Pr
  | 0 => st0 M h
  | n + 1 => adv M (it M h n)
def J (M : Nat) (h : Int) (n : Nat) : Nat := (it M h n).j
theorem steps (M : Nat) : ∀ (k : Nat) (p : Pr), k <= p.more -> Nat.repeat (adv M) k p = { p with j := p.j + k, more := p.more - k }
  | 0, p, _ => rfl
  | k + 1, p, h => by
    rw [Nat.repeat, steps M k p (by omega)]
    unfold adv
    rw [if_pos (by show p.more - k > 0; omega)]
    simp only [Nat.sub_sub, Nat.add_assoc]
def fl (M i : Nat) : Nat := (i * 5 + 1) % (M + 1)
def orb (M : Nat) : Nat -> Nat -> Nat
  | 0, i => i
  | m + 1, i => fl M (orb M m i)
structure Full (M : Nat) : Prop where
  all : ∀ j, j <= M -> ∃ m, m < M + 1 /\ orb M m 0 = j
  back : orb M (M + 1) 0 = 0
end ST
end
section
namespace ST
open PySem
structure Tb (t : SetTable) (es : Array (Int × Value)) : Prop where
  full : Full t.mask
  sz : t.place.size = es.size
  dm : t.dummies = #[]
  ri : t.place.toList.Pairwise (· < ·)
  le : ∀ j ∈ t.place.toList, j <= t.mask
  few : es.size * 5 < t.mask * 3
  rc : ∀ (i j : Nat) (h : Int) (x : Value), t.place[i]? = some j -> es[i]? = some (h, x) -> ∃ n, J t.mask h n = j /\ ∀ m, m < n -> J t.mask h m ∈ t.place.toList
section
variable {t : SetTable} {es : Array (Int × Value)}
end
end ST
end
section
namespace ST
open PySem
def isFree (owner : Array (Option Nat)) (j : Nat) : Bool := (owner.getD j (some 0)).isNone
structure Own (M : Nat) (hs : List Int) (owner : Array (Option Nat)) : Prop where
  sz : owner.size = M + 1
  lt : ∀ (j k : Nat), owner[j]? = some (some k) -> k < hs.length
  on : ∀ k, k < hs.length -> ∃ j : Nat, owner[j]? = some (some k)
  inj : ∀ (j j' k : Nat), owner[j]? = some (some k) -> owner[j']? = some (some k) -> j = j'
  rc : ∀ (j k : Nat) h, owner[j]? = some (some k) -> hs[k]? = some h -> ∃ n, J M h n = j /\ ∀ m, m < n -> isFree owner (J M h m) = false
end ST
end
section
namespace ST
open PySem
def Mk (M : Nat) : Prop := M = 7 \/ M = 31 \/ M = 127 \/ M = 511
end ST
end
section
namespace ST
open PySem PySem.Spec PyProof.Rows
section
variable {prog : Program} {w : World} {A : Around} {R : Result -> Shared -> Prop} {I : Addr} {fp wr : List Addr} {G : Array GenState -> Array GenState -> Prop} {n : Nat} {P : Nat -> Value -> Prop} {St : Nat -> Shared -> Prop}
end
section
variable {prog : Program} {w : World} {A : Around} {E : Value -> Shared -> Prop} {s : Shared}
end
end ST
end
section
namespace ST
open PySem PySem.Spec PyProof.Rows
def dd {κ : Type} [DecidableEq κ] (l : List κ) : List κ := l.foldl (fun a k => if k ∈ a then a else a ++ [k]) []
section
variable {prog : Program} {w : World} {κ : Type} [DecidableEq κ] {knd : KeyKind prog w κ} {A : Around} {E : Value -> Shared -> Prop} {s : Shared}
end
end ST
end
section
namespace ST
open PySem PySem.Spec PyProof.Rows
section
variable {prog : Program} {w : World} {κ : Type} [DecidableEq κ] {knd : KeyKind prog w κ} {A : Around} {E : Value -> Shared -> Prop} {s : Shared}
def Ents (knd : KeyKind prog w κ) (h : Heap) (es : Array (Int × Value)) : Prop := ∀ (i : Nat) e, es[i]? = some e -> ∃ k b, e = (tupleKeyHash knd k, .ref b) /\ IsTupleKey knd h k b
structure TS (knd : KeyKind prog w κ) (h : Heap) (ks : List (List κ)) (o : Obj) : Prop where
  cls : o.ExactSet
  ex : ∃ es ep t, o.data = .set es ep t /\ Tb t es /\ Mk t.mask /\ Ents knd h es /\ es.size = (dd ks).length /\ (∀ k ∈ dd ks, ∃ (i : Nat) (b : Addr), es[i]? = some (tupleKeyHash knd k, .ref b) /\ IsTupleKey knd h k b) /\ ∀ (i : Nat) (k : List κ) (b : Addr), es[i]? = some (tupleKeyHash knd k, .ref b) -> IsTupleKey knd h k b -> k ∈ dd ks
end
end ST
end
section
namespace L2
open PySem PySem.Spec PyProof.Rows ST
instance (priority := high) keyBEq : BEq Key := instBEqOfDecidableEq
instance (priority := high) keyLaw : LawfulBEq Key := inferInstanceAs (@LawfulBEq Key instBEqOfDecidableEq)
def SetN (n : Nat) (o : Obj) : Prop := o.ExactSet /\ ∃ es ep t, o.data = .set es ep t /\ t.fits es.size = true /\ es.size = n
def SetO (p : Addr) (n : Nat) : HO := .ext fun h => ∃ o, h.get? p = some o /\ SetN n o
section
variable {X : Cx}
end
end L2
end
section
namespace L2
open PySem PySem.Spec PyProof.Rows ST
section
variable {Γ : Cn} {X : Cx} {e : Expr} {f : FE} {pos p p2 pos2 : Pos}
end
end L2
end
section
namespace DT
open PySem PySem.Spec PyProof.Rows
theorem no_keys : typeLookup (.type "list") "keys" = pure none := by rw [typeLookup_type, builtinLookup_eq_fast]; kernel_rfl
theorem no_hook : typeLookup (.type "list") "__getattr__" = pure none := by rw [typeLookup_type, builtinLookup_eq_fast]; kernel_rfl
theorem miss_list {l : Addr} {u : Tok} {R : Result -> Shared -> Prop} {prog : Program} {w : World} {A : Around} {s : Shared} {xs : Array Value} {n : Nat} (hx : s.heap.get? l = some { cls := .type "list", data := .seq xs n }) (hA : A.handled = none)
    (h : ∀ h' tk e, Heap.NewAttrErr s.heap h' e (.ref l) "keys" -> R (.error (.ref e)) { s with heap := h', toks := tk }) :
    codeAny (model prog w) A (.call (.builtin "list.__getattribute__") ⟨[.ref l, .str "keys" u], []⟩) R s := by
  obtain ⟨hp, g, d, tk, os⟩ := s
  have hT : (⟨hp, g, d, tk, os⟩ : Shared).TypeIs (.ref l) "list" := ⟨_, hx, rfl⟩
  have f1 := no_keys
  refine codeAny_call_builtin F.slot_list_getattribute.plain F.entry_list_ga (F.slot_list_getattribute.check _ _ _ _ _ _ _ _ hT (F.args_list_getattribute_2 _ _) ?_)
  unfold Builtin.«object.__getattribute__»
  repeat (any_goals (first | assumption | wp_step))
  have hsz : (Str.ofString "keys").length + 100 <= sizeLine := by rw [PySem.ofString_length]; decide
  refine wpAny_raiseAttrError (A := A.in1) hA h ?_
  exact attrMsg_fits (by decide +kernel) hsz
set_option maxHeartbeats 4000000 in
theorem keys_none {l : Addr} {Q : Option Value -> Shared -> Prop} {prog : Program} {w : World} {A : Around} {E : Value -> Shared -> Prop} {s : Shared} {xs : Array Value} {n : Nat} (hx : s.heap.get? l = some { cls := .type "list", data := .seq xs n }) (hA : A.handled = none)
    (h : ∀ h' tk, (∀ b ob, s.heap.get? b = some ob -> h'.get? b = some ob) -> Q none { s with heap := h', toks := tk }) :
    wpAny (model prog w) A (getAttr? (.ref l) "keys") Q E s := by
  obtain ⟨hp, g, d, tk, os⟩ := s
  have hT : ∀ tk', (⟨hp, g, d, tk', os⟩ : Shared).TypeIs (.ref l) "list" := fun _ => ⟨_, hx, rfl⟩
  have f1 := sub_AttributeError
  have f2 := F.slot_list_getattribute.lookup
  have f3 := F.slot_list_getattribute.bind (.ref l)
  have f5 := no_hook
  unfold getAttr? getAttrBy?
  refine wpAny_bind (wpAny_mkText ?_)
  refine wpAny_bind (wpAny_attempt ?_)
  unfold getAttrBy
  refine wpAny_holding (wpAny_bind (wpAny_typeOf (hT _) (wpAny_bind (wpAny_of_eq f2 ?_))))
  show wpAny _ _ (getAttrByItsOwn _ _ _ _ _ _) _ _ _
  unfold getAttrByItsOwn
  refine wpAny_bind (m := hookBefore (Value.type "list")) (wpAny_pure ?_)
  refine wpAny_bind (wpAny_attempt (wpAny_holding ?_))
  show wpAny _ _ (boundAndCalled _ _ _) _ _ _
  unfold boundAndCalled
  refine wpAny_bind (wpAny_of_eq f3 ?_)
  refine wpAny_call (miss_list (s := ⟨hp, g, d, tk + 1, os⟩) hx hA fun h' tk' e hn => ?_)
  obtain ⟨t', u', he⟩ := hn.there
  have hE : Shared.TypeIs ⟨h', g, d, tk', os⟩ (.ref e) "AttributeError" := ⟨_, he, rfl⟩
  show wpAny _ _ (getattributeRaised _ _ _ _ _ _ _) _ _ _
  unfold getattributeRaised
  refine wpAny_bind (wpAny_isInstance hE f1 ?_)
  simp only [if_true]
  refine wpAny_bind (m := hookBehind (Value.type "list") none) (wpAny_of_eq f5 ?_)
  unfold hookOrError attributeErrorLeaves
  simp only [Bool.not_false, if_true]
  refine wpAny_bind (wpAny_throw ?_)
  refine wpAny_bind (wpAny_isInstance hE f1 ?_)
  simp only [if_true]
  exact wpAny_pure (h h' tk' hn.keeps)
end DT
end
section
namespace DT
open PySem PySem.Spec PyProof.Rows
theorem entry_loop : entryFor table "dict.update.loop" = some Builtin.«dict.update.loop» := entryFor_of_tree (by kernel_rfl)
theorem plain_loop : plainId "dict.update.loop" = true := by decide +kernel
section
variable {prog : Program} {w : World} {A : Around} {R : Result -> Shared -> Prop} {I : Addr} {fp wr : List Addr} {G : Array GenState -> Array GenState -> Prop} {n : Nat} {P : Nat -> Value -> Prop} {St : Nat -> Shared -> Prop}
def DAdds (prog : Program) (w : World) (A : Around) (S : Addr) (h0 : Heap) (P : Nat -> Value -> Prop) (n : Nat) (J : Nat -> Obj -> Prop) : Prop :=
  ∀ (i : Nat) (b : Addr) (kv vv : Value) (s : Shared) (o : Obj) (Q : Unit -> Shared -> Prop) (E : Value -> Shared -> Prop), i < n -> P i (.ref b) -> h0.IsTuple b #[kv, vv] -> s.heap.get? S = some o -> J i o -> (∀ b o, b < h0.objs.size -> h0.get? b = some o -> s.heap.get? b = some o) ->
    (∀ h' tk o', s.toks <= tk -> Heap.SameBut S s.heap h' -> h'.get? S = some o' -> J (i + 1) o' -> Q () { s with heap := h', toks := tk }) -> wpAny (model prog w) A (dictSet S kv vv) Q E s
theorem dict_loop (W : WalksS prog w A.in1 I fp wr G n P St) (S : Addr) (hSf : S ∉ fp) (h0 : Heap) (hS0 : h0.objs.size <= S) (hw0 : ∀ b ∈ wr, h0.objs.size <= b) (J : Nat -> Obj -> Prop) (hadd : DAdds prog w A.in1 S h0 P n J) (hP : ∀ i v, P i v -> ∃ b kv vv, v = .ref b /\ h0.IsTuple b #[kv, vv]) :
    ∀ (k i : Nat) (c : Int) (s : Shared) (o : Obj), n - i = k -> i <= n -> St i s -> s.heap.get? S = some o -> J i o -> (∀ b o, b < h0.objs.size -> h0.get? b = some o -> s.heap.get? b = some o) ->
      (∀ s' o', Moved (S :: wr) G s s' -> s'.heap.get? S = some o' -> J n o' -> R (.ok (.ret .none)) s') ->
      codeAny (model prog w) A (.builtin "dict.update.loop" ⟨[.ref S, .ref I, rawInt c, .none], []⟩) R s := by
  have hSw : S ∉ wr := fun h => hSf (W.sub _ h)
  have hsub : ∀ b ∈ wr, b ∈ S :: wr := fun b hb => List.mem_cons_of_mem _ hb
  have keep : ∀ {h h' : Heap}, (∀ b o, b < h0.objs.size -> h0.get? b = some o -> h.get? b = some o) -> (∀ b o, b ∉ S :: wr -> h.get? b = some o -> h'.get? b = some o) -> ∀ b o, b < h0.objs.size -> h0.get? b = some o -> h'.get? b = some o := fun q1 q2 b o hb e => q2 b o (fun z => by
    rcases List.mem_cons.mp z with z | z
    · rw [z] at hb; exact absurd hb (Nat.not_lt.mpr hS0)
    · exact absurd hb (Nat.not_lt.mpr (hw0 b z))) (q1 b o hb e)
  intro k
  induction k with
  | zero =>
    intro i c s o hk hi hst hS hJ hB hR
    have hin : i = n := by omega
    subst hin
    refine codeAny_builtin entry_loop ?_
    rw [Around.under_plainId plain_loop _]
    show wpAny _ A.in1 (pyNext (.ref I) >>= _) _ _ s
    refine wpAny_bind (W.done s _ _ hst fun s' hm => ?_)
    show wpAny _ A.in1 (Builtin.Dict.addKeywords S [] >>= _) _ _ s'
    exact wpAny_bind (wpAny_pure (wpAny_pure (hR s' o (hm.mono hsub) (hm.heap S _ hSw hS) hJ)))
  | succ k ih =>
    intro i c s o hk hi hst hS hJ hB hR
    have hlt : i < n := by omega
    refine codeAny_builtin entry_loop ?_
    rw [Around.under_plainId plain_loop _]
    show wpAny _ A.in1 (pyNext (.ref I) >>= _) _ _ s
    refine wpAny_bind (W.item i s _ _ hlt hst fun v s' hPv hst' hm => ?_)
    obtain ⟨b, kv, vv, rfl, hb⟩ := hP i v hPv
    have hB' := keep hB fun b o hb e => hm.heap b o (fun z => hb (hsub b z)) e
    obtain ⟨ob, hob, hoc, nn, hod⟩ := hb
    have hob' : s'.heap.get? b = some ob := hB' b ob (Heap.lt_size hob) hob
    have hTb : s'.TypeIs (.ref b) "tuple" := ⟨_, hob', hoc⟩
    show wpAny _ A.in1 (holding [Value.ref b] _ >>= _) _ _ s'
    refine wpAny_bind (wpAny_holding ?_)
    refine wpAny_bind ?_
    refine wpAny_tryCatch ?_
    unfold Builtin.Dict.pairItems
    refine wpAny_bind (wpAny_typeOf hTb ?_)
    rw [if_pos (by decide)]
    refine wpAny_bind (wpAny_seqItems hob' hod (wpAny_pure ?_))
    show wpAny _ A.in1 (holding [kv, vv] (dictSet S kv vv)) _ _ s'
    refine wpAny_holding (hadd i b kv vv s' o _ _ hlt hPv ⟨ob, hob, hoc, nn, hod⟩ (hm.heap S _ hSw hS) hJ hB' fun h' tk o' htk hsb hS' hJ' => ?_)
    refine wpAny_pure ⟨plainId_quiet plain_loop _, ih (i + 1) (c + 1) _ o' (by omega) hlt (W.frame _ s' _ _ hst' htk fun b hb o e => ?_) hS' hJ' ?_ fun s'' o'' hm'' hS'' hJ'' => ?_⟩
    · rw [hsb.2 b (fun h : b = S => hSf (by rw [← h]; exact hb))]; exact e
    · refine keep hB' fun b o hb e => ?_
      show h'.get? b = some o
      rw [hsb.2 b (fun h : b = S => hb (by rw [h]; exact List.mem_cons_self))]; exact e
    · refine hR s'' o'' (Moved.trans W.gtrans ((hm.mono hsub).then_heap htk fun b o hb e => ?_) hm'') hS'' hJ''
      rw [hsb.2 b (fun h : b = S => hb (by rw [h]; exact List.mem_cons_self))]; exact e
end
section
variable {prog : Program} {w : World} {A : Around} {E : Value -> Shared -> Prop} {s : Shared}
theorem call_dict_gen {l : Addr} {items : Array Value} {c : Nat} {Q : Value -> Shared -> Prop} (hh : A.handled = none) (hl : s.heap.get? l = some { cls := .type "list", data := .seq items c }) (J : Nat -> Obj -> Prop)
    (hJ0 : J 0 { cls := .type "dict", data := .dict #[] })
    (hadd : ∀ A' : Around, A'.units <= A.units + 16 -> DAdds prog w A' s.heap.objs.size s.heap (fun i v => items[i]? = some v) items.size J)
    (hP : ∀ (i : Nat) (v : Value), items[i]? = some v -> ∃ b kv vv, v = .ref b /\ s.heap.IsTuple b #[kv, vv])
    (h : ∀ (h' : Heap) (tk : Nat) (o : Obj), h'.get? s.heap.objs.size = some o -> J items.size o ->
      (∀ b o, b < s.heap.objs.size -> s.heap.get? b = some o -> h'.get? b = some o) -> Q (.ref s.heap.objs.size) { s with heap := h', toks := tk }) :
    wpAny (model prog w) A (call (.type "dict") [.ref l]) Q E s := by
  refine callType_codes (Q₁ := fun obj s₁ => obj = .ref s.heap.objs.size /\ s₁ = { s with heap := s.heap.push { cls := .type "dict", data := .dict #[] } }) F.kt_called_dict (F.kt_typeCall_dict_1 _) F.entry_dict_init (kt_code_dict_new _ ⟨rfl, rfl⟩) ?_
  rintro obj s₁ ⟨rfl, rfl⟩
  have hnew : (s.heap.push { cls := .type "dict", data := .dict #[] }).get? s.heap.objs.size = some { cls := .type "dict", data := .dict #[] } := Heap.get?_push_size _ rfl
  have hl1 : (s.heap.push { cls := .type "dict", data := .dict #[] }).get? l = some { cls := .type "list", data := .seq items c } := Heap.get?_push_of_some _ hl
  have hT : Shared.TypeIs { s with heap := s.heap.push { cls := .type "dict", data := .dict #[] } } (.ref s.heap.objs.size) "dict" := ⟨_, hnew, rfl⟩
  have hTl : Shared.TypeIs { s with heap := s.heap.push { cls := .type "dict", data := .dict #[] } } (.ref l) "list" := ⟨_, hl1, rfl⟩
  refine ⟨hT, F.args_dict_init_2 _ _, ?_⟩
  unfold Builtin.«dict.__init__»
  refine wpAny_bind ?_
  unfold Builtin.Dict.selfAndRest
  refine wpAny_bind (wpAny_notOrdered_dict hT ?_)
  show wpAny _ _ (pure (s.heap.objs.size, [Value.ref l])) _ _ _
  refine wpAny_pure ?_
  show wpAny _ _ (Builtin.Dict.updateFrom "dict.__init__" s.heap.objs.size (.ref l) [] .none) _ _ _
  unfold Builtin.Dict.updateFrom
  refine wpAny_bind (wpAny_typeOf hTl ?_)
  rw [if_pos (by decide)]
  refine wpAny_bind (keys_none (s := { s with heap := s.heap.push { cls := .type "dict", data := .dict #[] } }) (A := A.in1.in1) hl1 hh fun h1 tk1 hk1 => ?_)
  simp only [Option.isNone_none, if_true]
  refine wpAny_bind (wpAny_rule ?_)
  have hl2 : h1.IsList l items := ⟨_, hk1 _ _ hl1, rfl, _, rfl⟩
  refine wpAny_bind (wpAny_pyIter_list (s := { s with heap := h1, toks := tk1 }) hl2 ?_)
  refine wpAny_pure ⟨plainId_quiet plain_loop _, ?_⟩
  have hlS : l < s.heap.objs.size := Heap.lt_size hl
  have hsz1 : s.heap.objs.size < h1.objs.size := Heap.lt_size (hk1 _ _ hnew)
  have hneI : l ≠ h1.objs.size := Nat.ne_of_lt (Nat.lt_trans hlS hsz1)
  have hSf : s.heap.objs.size ∉ [h1.objs.size, l] := by
    simp only [List.mem_cons, List.mem_singleton, List.not_mem_nil, or_false, not_or]
    exact ⟨Nat.ne_of_lt hsz1, Nat.ne_of_gt hlS⟩
  have old : ∀ b o, b < s.heap.objs.size -> s.heap.get? b = some o -> h1.get? b = some o := fun b o _ e => hk1 _ _ (Heap.get?_push_of_some _ e)
  refine dict_loop ((Walks.list (A := A.in1.in1) (by simpa using hh) _ l hneI items).toS) s.heap.objs.size hSf s.heap (Nat.le_refl _) (fun b hb => ?_) J (hadd _ (by show A.units + 2 <= _; omega)) hP (items.size - 0) 0 0 _ _ (by omega) (Nat.zero_le _)
    ⟨⟨_, Heap.get?_push_size _ rfl, rfl, rfl⟩, hl2.push _⟩ (Heap.get?_push_of_some _ (hk1 _ _ hnew)) hJ0 (fun b o hb e => Heap.get?_push_of_some _ (old b o hb e)) fun s' o' hm hS' hJ' => ?_
  · have : b = h1.objs.size := by simpa using hb
    rw [this]; exact Nat.le_of_lt hsz1
  · obtain ⟨h', g', d', tk', os'⟩ := s'
    have eg : g' = s.gens := hm.gens
    have ed : d' = s.drawn := hm.drawn
    have eo : os' = s.os := hm.os
    subst eg; subst ed; subst eo
    refine ⟨rfl, h h' tk' o' hS' hJ' fun b o hb e => hm.heap b o ?_ (Heap.get?_push_of_some _ (old b o hb e))⟩
    simp only [List.mem_cons, List.mem_singleton, List.not_mem_nil, or_false, not_or]
    exact ⟨Nat.ne_of_lt hb, Nat.ne_of_lt (Nat.lt_trans hb hsz1)⟩
end
end DT
end
section
namespace L2
open PySem PySem.Spec PyProof.Rows
section
variable {κ : Type} [DecidableEq κ]
def mrg (kvs ps : List (κ × V)) : List (κ × V) := ps.foldl (fun acc kv => putK acc kv.1 kv.2) kvs
theorem mrg_snoc (kvs ps : List (κ × V)) (p : κ × V) : mrg kvs (ps ++ [p]) = putK (mrg kvs ps) p.1 p.2 := by unfold mrg; rw [List.foldl_append]; rfl
theorem putK_len (kvs : List (κ × V)) (k : κ) (v : V) : (putK kvs k v).length <= kvs.length + 1 := by
  unfold putK
  split
  · rw [List.length_map]; omega
  · rw [List.length_append, List.length_singleton]; omega
theorem mrg_len : ∀ (ps kvs : List (κ × V)), (mrg kvs ps).length <= kvs.length + ps.length
  | [], kvs => Nat.le_refl _
  | p :: ps, kvs => by
    have h1 := mrg_len ps (putK kvs p.1 p.2)
    have h2 := putK_len kvs p.1 p.2
    show (mrg (putK kvs p.1 p.2) ps).length <= _
    rw [List.length_cons]
    omega
end
section
variable {X : Cx}
def rDictK : List V -> Hp -> VK -> Prop := fun xs H Q => ∃ (a : Addr) (vs : List V) (ps : List (Key × V)), xs = [.ref a] /\ H a = some (.lst vs) /\ vs.length = ps.length /\ ps.length <= 1000 /\ (∀ (i : Nat) p, ps[i]? = some p -> ∃ b, vs[i]? = some (.ref b) /\ H b = some (.tup [kV p.1, p.2])) /\
  ∀ q, H q = none -> Q (.ref q) (upd H q (.dK (mrg [] ps)))
theorem pair_at {pins : List (Addr × Obj)} {σ : St} {H : Hp} {s : Shared} {b : Addr} {x y : V} (I : Inv X pins σ H s) (hb : H b = some (.tup [x, y])) : ∃ u v, RelV x u /\ RelV y v /\ s.heap.IsTuple b #[u, v] := by
  obtain ⟨its, r, p, _⟩ := I.tuple (.inl (.inl hb))
  cases r with
  | cons r1 r2 =>
    cases r2 with
    | cons r2 r3 =>
      cases r3
      exact ⟨_, _, r1, r2, p⟩
theorem tuple_inj {h : Heap} {b : Addr} {x y : Array Value} (p : h.IsTuple b x) (q : h.IsTuple b y) : x = y := by
  obtain ⟨o, h1, _, n, h2⟩ := p
  obtain ⟨o', g1, _, m, g2⟩ := q
  rw [h1] at g1
  cases g1
  rw [h2] at g2
  cases g2
  rfl
theorem call_dictK (hc : X.calm = true) (hu : X.A.units + 66 < cLine) : CallR X (.type "dict") rDictK := by
  intro pins s σ H xs us Q I r h
  obtain ⟨a, vs, ps, rfl, ha, hl, hz, hp, q⟩ := h
  obtain ⟨u, rfl, ru⟩ := vals1 r
  cases ru
  obtain ⟨z, its, n, rv, hlen, e⟩ := I.lstM ha
  have hsz : its.toArray.size = ps.length := by rw [List.size_toArray, ← hlen, hl]
  have hit : ∀ (i : Nat) (v : Value), its.toArray[i]? = some v -> ∃ p b u w, ps[i]? = some p /\ v = .ref b /\ RelV (kV p.1) u /\ RelV p.2 w /\ s.heap.IsTuple b #[u, w] := fun i v hv => by
    have hi : i < ps.length := by rw [← hsz]; exact (Array.getElem?_eq_some_iff.mp hv).1
    obtain ⟨b, hb1, hb2⟩ := hp i ps[i] (by simp [hi])
    obtain ⟨u2, hu2, ru2⟩ := rv.get hb1
    have hv' : its[i]? = some v := by simpa using hv
    rw [hu2] at hv'
    cases hv'
    cases ru2
    obtain ⟨u, w, r1, r2, r3⟩ := pair_at I hb2
    exact ⟨ps[i], b, u, w, by simp [hi], rfl, r1, r2, r3⟩
  refine DT.call_dict_gen (I.ok.hd hc) e (fun i o => ∃ vs', KV (mrg [] (ps.take i)) vs' /\ o.IsDictOf (mixKind X.prog X.w) vs') ?_ (fun A' hA' i b kv vv sh o Q' E' hi hv hb ho hJ hB hQ => ?_) (fun i v hv => ?_) fun h' tk o ho hJ hk => ?_
  · obtain ⟨o, ho, hd⟩ := Heap.dictOf_iff.mp (Heap.DictOf.new (knd := mixKind X.prog X.w) s.heap)
    have : o = { cls := .type "dict", data := .dict #[] } := by
      have := Heap.get?_push_size s.heap (o := { cls := .type "dict", data := .dict #[] }) rfl
      rw [this] at ho
      exact (Option.some.inj ho).symm
    subst this
    exact ⟨[], .nil, hd⟩
  · obtain ⟨p, b', u, w, h1, h2, h3, h4, h5⟩ := hit i _ hv
    cases h2
    have e2 := tuple_inj hb h5
    have e3 : kv = u /\ vv = w := by simpa using e2
    obtain ⟨rfl, rfl⟩ := e3
    obtain ⟨vs', k1, k2⟩ := hJ
    have hle : vs'.length <= 1000 := by
      have q1 := k1.length
      have q2 := mrg_len (ps.take i) ([] : List (Key × V))
      rw [List.length_take, List.length_nil] at q2
      omega
    refine wpAny_dictSet_pairs (kV_is h3) (Heap.dictOf_iff.mpr ⟨o, ho, k2⟩) (fun h' hd' hsb => ?_) (by rw [sizeLine_eq]; omega)
    obtain ⟨o', ho', hd''⟩ := Heap.dictOf_iff.mp hd'
    refine hQ h' _ o' (Nat.le_succ _) hsb ho' ⟨_, ?_, hd''⟩
    have htk : ps.take (i + 1) = ps.take i ++ [p] := by rw [List.take_succ, h1]; rfl
    rw [htk, mrg_snoc]
    exact k1.put p.1 h4
  · obtain ⟨p, b, u, w, h1, h2, h3, h4, h5⟩ := hit i v hv
    exact ⟨b, u, w, h2, h5⟩
  · obtain ⟨vs', k1, k2⟩ := hJ
    rw [hsz, List.take_length] at k1
    refine ⟨.ref s.heap.objs.size, _, I.laid (a := s.heap.objs.size) (o := .dK (mrg [] ps)) (fun b u e => hk b u (Heap.lt_size e) e) (Nat.le_refl _) ⟨?_, ?_, vs', k1, Heap.dictOf_iff.mpr ⟨o, ho, k2⟩⟩, rfl, q _ I.fresh⟩
    · have := mrg_len ps ([] : List (Key × V))
      rw [List.length_nil] at this
      rw [sizeLine_eq]
      omega
    · exact beq_eq_false_iff_ne.mpr (Ne.symm (Nat.ne_of_lt I.big))
end
section
variable {Γ : Cn} {X : Cx}
def pairsK : List D -> Option (List (Key × D))
  | [] => some []
  | .tup [k, v] :: r => (dkey k).bind fun kk => (pairsK r).map ((kk, v) :: ·)
  | _ :: _ => none
def mrgD {κ : Type} [DecidableEq κ] (ps : List (κ × D)) : List (κ × D) := ps.foldl (fun acc kv => putG acc kv.1 kv.2) []
def dictKD : List D -> Option D
  | [.lst l] => if l.length <= 1000 then (pairsK l).map fun ps => .dk (mrgD ps) else none
  | _ => none
theorem kr_mrg {κ : Type} [DecidableEq κ] {K : PySem.W.Frag} {G : Hp} : ∀ {us : List (κ × V)} {kvs : List (κ × D)} {acc : List (κ × V)} {acd : List (κ × D)}, us.map (·.1) = kvs.map (·.1) -> Reps Γ K G (us.map (·.2)) (kvs.map (·.2)) -> acc.map (·.1) = acd.map (·.1) -> Reps Γ K G (acc.map (·.2)) (acd.map (·.2)) ->
    (mrg acc us).map (·.1) = (kvs.foldl (fun acc kv => putG acc kv.1 kv.2) acd).map (·.1) /\ Reps Γ K G ((mrg acc us).map (·.2)) ((kvs.foldl (fun acc kv => putG acc kv.1 kv.2) acd).map (·.2))
  | [], [], _, _, _, _, e, r => ⟨e, r⟩
  | [], _ :: _, _, _, e, _, _, _ => by cases e
  | _ :: _, [], _, _, e, _, _, _ => by cases e
  | (k1, v) :: us, (k2, d) :: kvs, acc, acd, e, r, e0, r0 => by
    have e1 : k1 = k2 := (List.cons.inj e).1
    subst e1
    have r : Reps Γ K G (v :: us.map (·.2)) (d :: kvs.map (·.2)) := r
    cases r with
    | cons r1 r2 =>
      obtain ⟨w1, w2⟩ := kr_put (k := k1) r1 e0 r0
      exact kr_mrg (us := us) (kvs := kvs) (List.cons.inj e).2 r2 w1 w2
theorem pairsK_ok {K : PySem.W.Frag} {G H : Hp} (gh : Same G H) : ∀ {vs : List V} {ds : List D} {ps : List (Key × D)}, Reps Γ K G vs ds -> pairsK ds = some ps ->
    ∃ us : List (Key × V), vs.length = us.length /\ us.map (·.1) = ps.map (·.1) /\ Reps Γ K G (us.map (·.2)) (ps.map (·.2)) /\ ∀ (i : Nat) p, us[i]? = some p -> ∃ b, vs[i]? = some (.ref b) /\ H b = some (.tup [kV p.1, p.2])
  | _, [], ps, r, h => by cases r; cases h; exact ⟨[], rfl, rfl, .nil, fun i p e => by simp at e⟩
  | _, d :: ds, ps, .cons h1 h2, h => by
    unfold pairsK at h
    split at h
    · rename_i heq; cases heq
    · rename_i heq
      cases heq
      obtain ⟨kk, hk, h⟩ := Option.bind_eq_some_iff.mp h
      obtain ⟨zs, hz, rfl⟩ := Option.map_eq_some_iff.mp h
      obtain ⟨us, q1, q2, q3, q4⟩ := pairsK_ok gh h2 hz
      obtain ⟨a, ws, rfl, ha, ra⟩ := h1.tup_inv
      obtain ⟨x, y, rfl, rx, ry⟩ := ra.two
      have ex := dkey_ok rx hk
      subst ex
      refine ⟨(kk, y) :: us, by rw [List.length_cons, List.length_cons, q1], by simp [q2], .cons ry q3, fun i p e => ?_⟩
      cases i with
      | zero => cases e; exact ⟨a, rfl, gh _ _ ha⟩
      | succ i => exact q4 i p e
    · cases h
theorem td_dictK (hc : X.calm = true) (hu : X.A.units + 66 < cLine) : TyD Γ X "dict" dictKD := ⟨_, call_dictK hc hu, fun {G H vs ds z} gh r h Q k => by
  unfold dictKD at h
  split at h
  · split at h
    · rename_i hz
      obtain ⟨ps, hp, rfl⟩ := Option.map_eq_some_iff.mp h
      obtain ⟨v, rfl, r1⟩ := r.one
      obtain ⟨a, ws, rfl, ha, ra⟩ := r1.lst_inv
      obtain ⟨us, q1, q2, q3, q4⟩ := pairsK_ok gh ra hp
      refine ⟨a, ws, us, rfl, gh _ _ ha, q1, by rw [← q1, ra.length]; exact hz, q4, fun p hp => ?_⟩
      have s := Step.new (o := .dK (mrg [] us)) gh hp
      obtain ⟨w1, w2⟩ := kr_mrg (acc := []) (acd := []) q2 q3 rfl .nil
      exact k _ _ _ s (.dk upd_same w1 (w2.mono s.gg))
    · cases h
  · cases h⟩
end
end L2
end
section
namespace L2
open PySem PySem.Spec PyProof.Rows
section
variable {Γ : Cn} {X : Cx} {e : Expr} {es : List Expr} {fr : FA} {pos p2 : Pos} {x : Str}
def spO (Γ : Cn) (K : PySem.W.Frag) (n : Nat) (F : List D -> Option (List D)) : Sp := fun vs H Q _ => ∃ G ds rs, Same G H /\ Reps Γ K G vs ds /\ ds.length = n /\ F ds = some rs /\ ∀ p us G' H', Step G H G' H' -> H' p = none -> Reps Γ K G' us rs -> Q (.ref p) (upd H' p (.lst us))
end
structure CalO (Γ : Cn) (P : Program) (w : World) (K : PySem.W.Frag) (mg : Str -> Option Value) (base : Heap) (x : Str) (n k : Nat) (F : List D -> Option (List D)) : Prop where
  ex : ∃ f fd ps, FnOk P w K mg base CX0 k f fd ps (spO Γ K n F) /\ mg x = some (.ref f) /\ PySem.W.keepIn K (.ref f) = true /\ Binds K fd ps []
section
variable {Γ : Cn} {X : Cx} {e : Expr} {es : List Expr} {fr : FA} {pos p : Pos}
end
end L2
end
section
namespace L2
open PySem PySem.Spec PyProof.Rows
def orG (g g' : D -> D -> Option D) (x y : D) : Option D := match g x y with
  | some z => some z
  | none => g' x y
section
variable {Γ : Cn} {X : Cx} {a b c e : Expr} {fa fb : FE} {op : CmpOp} {g g' : D -> D -> Option D}
theorem orG_or {x y z : D} (h : orG g g' x y = some z) : g x y = some z \/ g' x y = some z := by
  unfold orG at h
  split at h
  · rename_i q; cases h; exact .inl q
  · exact .inr h
theorem CmpD.or (h : CmpD Γ X op g) (h' : CmpD Γ X op g') : CmpD Γ X op (orG g g') := by
  obtain ⟨r, o, d⟩ := h.ex
  obtain ⟨r', o', d'⟩ := h'.ex
  refine ⟨_, o.or o', fun {G H v u x y z} gh r1 r2 q Q k => ?_⟩
  rcases orG_or q with q | q
  · exact .inl (d gh r1 r2 q Q k)
  · exact .inr (d' gh r1 r2 q Q k)
def neA := orG neD neXD
theorem cd_neA (hu : X.A.units + 64 < cLine) : CmpD Γ X .NotEq neA := cd_ne.or (cd_neX hu)
end
section
variable {ρ : Env'} {f1 f2 f3 f4 f5 f6 f7 : FE}
theorem ln1 : ∀ ρ ds, aCons f1 aNil ρ = some ds -> ds.length = 1 := aCons_len fun _ _ h => aNil_len h
theorem ln2 : ∀ ρ ds, aCons f1 (aCons f2 aNil) ρ = some ds -> ds.length = 2 := aCons_len ln1
theorem ln3 : ∀ ρ ds, aCons f1 (aCons f2 (aCons f3 aNil)) ρ = some ds -> ds.length = 3 := aCons_len ln2
end
end L2
end
section
namespace L2
open PySem PySem.Spec PyProof.Rows
section
variable {Γ : Cn} {K : PySem.W.Frag} {G₀ H₀ G H : Hp} {ρ : Env'} {σ : St}
theorem At.setOdk (A : At Γ K G₀ H₀ G H ρ σ) {i : Nat} {a : Addr} (ha : H a = none) : At Γ K G₀ H₀ G (upd H a (.dK [])) (ρ.set i (some (.odk []))) (σ.set i (some (.ref a))) := by
  have h0 : H₀ a = none := A.st.hh.free ha
  have hg : G a = none := A.gh.free ha
  refine A.put (fp := []) (fp' := [a]) (.inl rfl) (fun b o e _ => by rw [upd_ne (ne_of_none e ha)]; exact e) (.odk (us := []) (kvs := []) h0 hg upd_same rfl .nil) (fun b hb => .inr (by rw [List.mem_singleton.mp hb]; exact ha)) (.refl _) (fun b o e => ?_) (fun _ _ _ _ => rfl) (fun b hb => by cases hb)
  rw [upd_ne (ne_of_none e hg)]; exact A.gh b o e
theorem At.chOdt (A : At Γ K G₀ H₀ G H ρ σ) {i : Nat} {a : Addr} {kvs kvs' : List (List Key × D)} {us' : List (List Key × V)} (hi : ρ[i]? = some (some (.odt kvs))) (ha : σ[i]? = some (some (.ref a))) (e : us'.map (·.1) = kvs'.map (·.1)) (r : Reps Γ K G (us'.map (·.2)) (kvs'.map (·.2))) : At Γ K G₀ H₀ G (upd H a (.dT us')) (ρ.set i (some (.odt kvs'))) σ := by
  obtain ⟨v, fp, h1, h2⟩ := A.get hi
  rw [ha] at h1
  cases h1
  cases h2 with
  | odt q1 q2 q3 q4 q5 =>
    refine A.ch hi ha (.odt q1 q2 q3 q4 q5) (fun b o e hb => ?_) (.odt q1 q2 upd_same e r) (fun b hb => .inl hb) (.refl _) (fun b o e => ?_) (fun _ _ _ _ => rfl)
    · rw [upd_ne (fun z => hb (List.mem_singleton.mpr z))]; exact e
    · rw [upd_ne (ne_of_none e q2)]; exact A.gh b o e
theorem At.chOdk (A : At Γ K G₀ H₀ G H ρ σ) {i : Nat} {a : Addr} {kvs kvs' : List (Key × D)} {us' : List (Key × V)} (hi : ρ[i]? = some (some (.odk kvs))) (ha : σ[i]? = some (some (.ref a))) (e : us'.map (·.1) = kvs'.map (·.1)) (r : Reps Γ K G (us'.map (·.2)) (kvs'.map (·.2))) : At Γ K G₀ H₀ G (upd H a (.dK us')) (ρ.set i (some (.odk kvs'))) σ := by
  obtain ⟨v, fp, h1, h2⟩ := A.get hi
  rw [ha] at h1
  cases h1
  cases h2 with
  | odk q1 q2 q3 q4 q5 =>
    refine A.ch hi ha (.odk q1 q2 q3 q4 q5) (fun b o e hb => ?_) (.odk q1 q2 upd_same e r) (fun b hb => .inl hb) (.refl _) (fun b o e => ?_) (fun _ _ _ _ => rfl)
    · rw [upd_ne (fun z => hb (List.mem_singleton.mpr z))]; exact e
    · rw [upd_ne (ne_of_none e q2)]; exact A.gh b o e
def slotD : Slot -> Option D
  | .odt kvs => some (.dt kvs)
  | .odk kvs => some (.dk kvs)
  | _ => none
theorem At.frzD (A : At Γ K G₀ H₀ G H ρ σ) {i : Nat} {s : Slot} {d : D} (hi : ρ[i]? = some (some s)) (hd : slotD s = some d) : ∃ G', Same G G' /\ At Γ K G₀ H₀ G' H (ρ.set i (some (.sh d))) σ := by
  obtain ⟨v, fp, h1, h2⟩ := A.get hi
  cases h2 with
  | sh _ => cases hd
  | own _ _ _ _ => cases hd
  | obj _ _ _ _ _ _ _ => cases hd
  | tlo _ _ _ _ _ _ => cases hd
  | pin _ => cases hd
  | objd _ _ _ _ _ _ _ _ _ _ _ _ => cases hd
  | odk q1 q2 q3 q4 q5 =>
    cases hd
    rename_i a us kvs
    have sm : Same G (upd G a (.dK us)) := fun b o e => by rw [upd_ne (ne_of_none e q2)]; exact e
    refine ⟨upd G a (.dK us), sm, A.ch hi h1 (.odk q1 q2 q3 q4 q5) (fun b o e hb => e) (.sh (.dk upd_same q4 (q5.mono sm))) (fun b hb => by cases hb) sm (fun b o e => ?_) (fun b o e hb => ?_)⟩
    · by_cases hb : b = a
      · subst hb; rw [upd_same] at e; cases e; exact q3
      · rw [upd_ne hb] at e; exact A.gh b o e
    · rw [upd_ne (fun z => hb (List.mem_singleton.mpr z))]
  | odt q1 q2 q3 q4 q5 =>
    cases hd
    rename_i a us kvs
    have sm : Same G (upd G a (.dT us)) := fun b o e => by rw [upd_ne (ne_of_none e q2)]; exact e
    refine ⟨upd G a (.dT us), sm, A.ch hi h1 (.odt q1 q2 q3 q4 q5) (fun b o e hb => e) (.sh (.dt upd_same q4 (q5.mono sm))) (fun b hb => by cases hb) sm (fun b o e => ?_) (fun b o e hb => ?_)⟩
    · by_cases hb : b = a
      · subst hb; rw [upd_same] at e; cases e; exact q3
      · rw [upd_ne hb] at e; exact A.gh b o e
    · rw [upd_ne (fun z => hb (List.mem_singleton.mpr z))]
end
section
variable {Γ : Cn} {X : Cx} {a b c e value : Expr} {es : List Expr} {f fk fv : FE} {fr : FA} {pos pos' p dp : Pos} {g : FS} {x : Str} {sts : List Stmt}
def sOdk (i : Nat) : FS := fun ρ => some (.nx, ρ.set i (some (.odk [])))
theorem ds_odk (i : Nat) (hN : X.N.Nodup) (hi : X.N[i]? = some x := by rfl) (hx : Loc X.env.scope x := by first | exact Or.inl rfl | exact Or.inr rfl) (hs : swapsWith (.Dict [] [] dp) (some (.Name x pos')) pos.line X.env = pure false := by rfl) (hf : X.fn x = true \/ X.env.scope.names.lookup x = some .local := by first | exact .inl rfl | exact .inr rfl | assumption) :
    DS Γ X (.Assign [.Name x pos'] (.Dict [] [] dp) pos) (sOdk i) := ⟨(ps_set hN hi hx pe_dnewK hs hf).imp fun E σ H => by
  rintro ⟨G₀, H₀, G, ρ, fl, ρ', A, h, k⟩ p hp
  cases h
  exact k _ G _ (.refl _) (A.setOdk hp)⟩
def sDPutO (i : Nat) (fk fv : FE) : FS := fun ρ => (fv ρ).bind fun d => (fk ρ).bind fun kd => match ρ[i]? with
  | some (some (.odt kvs)) => match kd with
    | .tup t => (dkeys t).bind fun ks => if kvs.length < 100000 then some (.nx, ρ.set i (some (.odt (putG kvs ks d)))) else none
    | _ => none
  | some (some (.odk kvs)) => (dkey kd).bind fun k => if kvs.length < 100000 then some (.nx, ρ.set i (some (.odk (putG kvs k d)))) else none
  | _ => none
theorem ds_dputO (i : Nat) (hu : X.A.units + 66 < cLine) {vp : Pos} {ke : Expr} (hk : DE Γ X ke fk) (hv' : DE Γ X value fv) (hN : X.N[i]? = some x := by rfl) (hv : Vis X.env.scope x := by first | exact Or.inl rfl | exact Or.inr (Or.inl rfl) | exact Or.inr (Or.inr rfl)) (hd : (x == ("__debug__" : Str)) = false := by decide)
    (hcd : (x == ("__classdict__" : Str)) = false := by decide) (hs : swapsWith value (some (.Subscript (.Name x vp) ke pos')) pos.line X.env = pure false := by rfl) :
    DS Γ X (.Assign [.Subscript (.Name x vp) ke pos'] value pos) (sDPutO i fk fv) := ⟨(ps_dput (by omega) (pe_var hN hv hd hcd) hk.1 hv'.1 hs).imp fun E σ H => by
  rintro ⟨G₀, H₀, G, ρ, flw, ρ', A, h, k⟩
  unfold sDPutO at h
  obtain ⟨d, hd, ha⟩ := Option.bind_eq_some_iff.mp h
  clear h
  obtain ⟨kd, hkd, hq⟩ := Option.bind_eq_some_iff.mp ha
  clear ha
  refine ⟨G₀, H₀, G, ρ, d, A, hd, fun v G1 H1 s1 r1 => ?_⟩
  have A1 := A.step s1
  split at hq
  · rename_i kvs hi
    split at hq
    · rename_i t
      obtain ⟨ks, hks, hq⟩ := Option.bind_eq_some_iff.mp hq
      split at hq
      · rename_i hz
        cases hq
        obtain ⟨w, fp, h1, h2⟩ := A1.get hi
        cases h2 with
        | odt q1 q2 q3 q4 q5 =>
          rename_i a us
          refine ⟨_, h1, G₀, H₀, G1, ρ, _, A1, hkd, fun u G2 H2 s2 r2 => ?_⟩
          have A2 := A1.step s2
          obtain ⟨bb, vs, rfl, hb, rb⟩ := r2.tup_inv
          have ev := dkeys_ok rb hks
          subst ev
          have ha2 : H2 a = some (.dT us) := s2.hh _ _ q3
          have hlen : us.length = kvs.length := by simpa using congrArg List.length q4
          obtain ⟨w1, w2⟩ := kr_put (k := ks) (r1.mono s2.gg) q4 (q5.mono s2.gg)
          exact ⟨a, _, rfl, DPut.t ha2 (s2.gh _ _ hb) (by have := sizeLine_eq; omega), k σ G2 _ (s1.gg.trans s2.gg) (A2.chOdt hi h1 w1 w2)⟩
      · cases hq
    · cases hq
  · rename_i kvs hi
    obtain ⟨kk, hkk, hq⟩ := Option.bind_eq_some_iff.mp hq
    split at hq
    · rename_i hz
      cases hq
      obtain ⟨w, fp, h1, h2⟩ := A1.get hi
      cases h2 with
      | odk q1 q2 q3 q4 q5 =>
        rename_i a us
        refine ⟨_, h1, G₀, H₀, G1, ρ, _, A1, hkd, fun u G2 H2 s2 r2 => ?_⟩
        have A2 := A1.step s2
        have eu := dkey_ok r2 hkk
        subst eu
        have ha2 : H2 a = some (.dK us) := s2.hh _ _ q3
        have hlen : us.length = kvs.length := by simpa using congrArg List.length q4
        obtain ⟨w1, w2⟩ := kr_put (k := kk) (r1.mono s2.gg) q4 (q5.mono s2.gg)
        exact ⟨a, _, rfl, DPut.k ha2 (by have := sizeLine_eq; omega), k σ G2 _ (s1.gg.trans s2.gg) (A2.chOdk hi h1 w1 w2)⟩
    · cases hq
  · cases hq⟩
def sFrzD (i : Nat) (g : FS) : FS := fun ρ => match ρ[i]? with
  | some (some s) => match slotD s with
    | some d => g (ρ.set i (some (.sh d)))
    | none => none
  | _ => none
theorem TDs.frzD (i : Nat) : ∀ E σ H, TDs Γ X.K (sFrzD i g) E σ H -> TDs Γ X.K g E σ H := by
  rintro E σ H ⟨G₀, H₀, G, ρ, fl, ρ', A, h, k⟩
  unfold sFrzD at h
  split at h
  · rename_i s hi
    split at h
    · rename_i d hd
      obtain ⟨G', sm, A'⟩ := A.frzD hi hd
      exact ⟨G₀, H₀, G', _, fl, ρ', A', h, fun σ1 G1 H1 sm1 A1 => k σ1 G1 H1 (sm.trans sm1) A1⟩
    · cases h
  · cases h
theorem dss_frzD (i : Nat) (h : DSs Γ X sts g) : DSs Γ X sts (sFrzD i g) := ⟨h.1.imp (TDs.frzD i)⟩
end
end L2
end
section
namespace L2
open PySem PySem.Spec PyProof.Rows
section
variable {Γ : Cn} {X : Cx} {e c : Expr} {es : List Expr} {fr : FA} {pos p2 p pos' : Pos} {x : Str} {ft : FT}
def sRetD (i : Nat) : FS := fun ρ => match ρ[i]? with
  | some (some (.odk kvs)) => some (.od kvs, ρ)
  | _ => none
theorem ds_retD (i : Nat) {vp : Pos} (hN : X.N[i]? = some x := by rfl) (hv : Vis X.env.scope x := by first | exact Or.inl rfl | exact Or.inr (Or.inl rfl) | exact Or.inr (Or.inr rfl)) (hd : (x == ("__debug__" : Str)) = false := by decide)
    (hcd : (x == ("__classdict__" : Str)) = false := by decide) : DS Γ X (.Return (some (.Name x vp)) pos) (sRetD i) := ⟨(ps_ret (pe_var hN hv hd hcd)).imp fun E σ H => by
  rintro ⟨G₀, H₀, G, ρ, fl, ρ', A, h, k⟩
  unfold sRetD at h
  split at h
  · rename_i kvs hi
    cases h
    obtain ⟨v, fp, h1, h2⟩ := A.get hi
    cases h2 with
    | odk q1 q2 q3 q4 q5 => exact ⟨_, h1, k σ G H (.refl _) A _ _ q1 q2 q3 q4 q5⟩
  · cases h⟩
def spOD (Γ : Cn) (K : PySem.W.Frag) (n : Nat) (F : List D -> Option (List (Key × D))) : Sp := fun vs H Q _ => ∃ G ds rs, Same G H /\ Reps Γ K G vs ds /\ ds.length = n /\ F ds = some rs /\ ∀ p us G' H', Step G H G' H' -> H' p = none -> us.map (·.1) = rs.map (·.1) -> Reps Γ K G' (us.map (·.2)) (rs.map (·.2)) -> Q (.ref p) (upd H' p (.dK us))
def runOD (n : Nat) (g : FS) : List D -> Option (List (Key × D)) := fun ds => (g (ds.map (fun d => some (Slot.sh d)) ++ List.replicate n none)).bind fun r => match r.1 with
  | .od kvs => some kvs
  | _ => none
theorem Fun.okOD {P : Program} {w : World} {K : PySem.W.Frag} {mg : Str -> Option Value} {base : Heap} {x qual : Str} {st : Stmt} {f : Addr} {fd : FuncData} {N ps : List Str} {k : Nat} {g : FS} (F : Fun K x qual st f fd) (S : FnScope N ps (defScope st))
    (hbody : ∀ (cdv : Value) (A : Around) (outer : List Env) (s : Shared) (H : Hp) (E : XK), Room k (A.deeper (envOfC qual (defScope st) s.heap.objs.size f cdv)) ->
      DSs Γ (cxOf CX0 P w K mg base N qual (defScope st) f cdv A outer s H E).nox (defBody st) g) : FnOk P w K mg base CX0 (k + 1) f fd ps (spOD Γ K ps.length (runOD (N.length - ps.length) g)) := by
  refine F.ok S (fun vs H Q E h => ?_) (fun cdv A outer s H vs Q E hr h => ?_)
  · obtain ⟨G, ds, d, _, r, hl, _⟩ := h
    rw [r.length, hl]
  · obtain ⟨G, ds, rs, gh, r, hl, hd, k⟩ := h
    refine ⟨_, (hbody cdv A outer s H E hr).1, ?_⟩
    unfold runOD at hd
    obtain ⟨⟨fl, ρ'⟩, hg, hd⟩ := Option.bind_eq_some_iff.mp hd
    refine ⟨G, H, G, _, fl, ρ', start_rel gh r (by rw [r.length, hl]), hg, fun σ' G' H' sm A' => ?_⟩
    cases fl with
    | rt d' => cases hd
    | nx => cases hd
    | bk => cases hd
    | ct => cases hd
    | nw d' => cases hd
    | ow d' => cases hd
    | od d' =>
      cases hd
      intro p us hp0 hg hp ek rr
      have st : Step G H G' (fun b => if b = p then none else H' b) := by
        refine ⟨fun b o e => ?_, A'.st.gg, fun b o e => ?_, A'.st.out⟩
        · show (if b = p then none else H' b) = some o
          rw [if_neg (ne_of_none e hp0)]; exact A'.st.hh b o e
        · show (if b = p then none else H' b) = some o
          rw [if_neg (ne_of_none e hg)]; exact A'.st.gh b o e
      have := k p us G' _ st (if_pos rfl) ek rr
      have hf : upd (fun b => if b = p then none else H' b) p (.dK us) = H' := by
        funext b
        by_cases hb : b = p
        · subst hb; rw [upd_same, hp]
        · rw [upd_ne hb]; exact if_neg hb
      rwa [hf] at this
structure CalD (Γ : Cn) (P : Program) (w : World) (K : PySem.W.Frag) (mg : Str -> Option Value) (base : Heap) (x : Str) (n k : Nat) (F : List D -> Option (List (Key × D))) : Prop where
  ex : ∃ f fd ps, FnOk P w K mg base CX0 k f fd ps (spOD Γ K n F) /\ mg x = some (.ref f) /\ PySem.W.keepIn K (.ref f) = true /\ Binds K fd ps []
theorem Dfn.calOD {P : Program} {w : World} {K : PySem.W.Frag} {mg : Str -> Option Value} {base : Heap} {x : Str} {st : Stmt} {N ps : List Str} {k : Nat} {g : FS} (F : Dfn K mg x st) (S : FnScope N ps (defScope st))
    (hb : ∀ (kV doc pm : Value) (an : Option Addr) (cdv ct : Value) (us : List Value), us.length = ps.length -> bindArgs (PySem.W.fnOf x x (defArgs st) (defBody st) (defScope st) .none kV doc pm an cdv ct) ⟨us, []⟩ = pure (ps.zip us))
    (hbody : ∀ (f : Addr) (cdv : Value) (A : Around) (outer : List Env) (s : Shared) (H : Hp) (E : XK), Room k (A.deeper (envOfC x (defScope st) s.heap.objs.size f cdv)) ->
      DSs Γ (cxOf CX0 P w K mg base N x (defScope st) f cdv A outer s H E).nox (defBody st) g) : CalD Γ P w K mg base x ps.length (k + 1) (runOD (N.length - ps.length) g) := by
  obtain ⟨f, fd, h1, h2⟩ := F.ex
  exact ⟨f, fd, ps, h1.okOD S (hbody f), h2, h1.kp, h1.binds hb⟩
def dkF (F : List D -> Option (List (Key × D))) : List D -> Option D := fun ds => (F ds).map D.dk
theorem CalD.cal {P : Program} {w : World} {K : PySem.W.Frag} {mg : Str -> Option Value} {base : Heap} {x : Str} {n k : Nat} {F : List D -> Option (List (Key × D))} (C : CalD Γ P w K mg base x n k F) : Cal Γ P w K mg base x n k (dkF F) := by
  obtain ⟨f, fd, ps, h1, h2⟩ := C.ex
  refine ⟨f, fd, ps, h1.imp fun vs H Q E hq => ?_, h2⟩
  obtain ⟨G, ds, d, gh, r, hl, hF, k⟩ := hq
  unfold dkF at hF
  obtain ⟨kvs, hk, rfl⟩ := Option.map_eq_some_iff.mp hF
  refine ⟨G, ds, kvs, gh, r, hl, hk, fun p us G' H' s hp ek rr => ?_⟩
  have s2 := Step.new (o := .dK us) s.gh hp
  exact k _ _ _ (s.trans s2) (.dk upd_same ek (rr.mono s2.gg))
def sOdC (i : Nat) (F : List D -> Option (List (Key × D))) (fr : FA) : FS := fun ρ => ((fr ρ).bind F).map fun kvs => (.nx, ρ.set i (some (.odk kvs)))
theorem At.setOdkV {K : PySem.W.Frag} {G₀ H₀ G H : Hp} {ρ : Env'} {σ : St} (A : At Γ K G₀ H₀ G H ρ σ) {i : Nat} {a : Addr} {us : List (Key × V)} {kvs : List (Key × D)} (ha : H a = none) (ek : us.map (·.1) = kvs.map (·.1)) (rr : Reps Γ K G (us.map (·.2)) (kvs.map (·.2))) : At Γ K G₀ H₀ G (upd H a (.dK us)) (ρ.set i (some (.odk kvs))) (σ.set i (some (.ref a))) := by
  have h0 : H₀ a = none := A.st.hh.free ha
  have hg : G a = none := A.gh.free ha
  refine A.put (fp := []) (fp' := [a]) (.inl rfl) (fun b o e _ => by rw [upd_ne (ne_of_none e ha)]; exact e) (.odk h0 hg upd_same ek rr) (fun b hb => .inr (by rw [List.mem_singleton.mp hb]; exact ha)) (.refl _) (fun b o e => ?_) (fun _ _ _ _ => rfl) (fun b hb => by cases hb)
  rw [upd_ne (ne_of_none e hg)]; exact A.gh b o e
theorem ds_odC (i : Nat) {y : Str} {n k : Nat} {F : List D -> Option (List (Key × D))} (hN : X.N.Nodup) (C : CalD Γ X.prog X.w X.K X.mg X.base y n k F) {j : Nat} (hr : Room j X.A) (hk : k <= j) (hg : Gl X y) (ha : DA Γ X (e :: es) fr) (hn : ∀ ρ ds, fr ρ = some ds -> ds.length = n)
    (hi : X.N[i]? = some x := by rfl) (hx : Loc X.env.scope x := by first | exact Or.inl rfl | exact Or.inr rfl) (hs : swapsWith (.Call (.Name y p) (e :: es) [] p2) (some (.Name x pos')) pos.line X.env = pure false := by rfl) (hf : X.fn x = true \/ X.env.scope.names.lookup x = some .local := by first | exact .inl rfl | exact .inr rfl | assumption)
    (hdb : (y == ("__debug__" : Str)) = false := by decide) (he : starEach (e :: es) X.env = (false, eval e X.env) :: starEach es X.env := by rfl) (hpl : (backTo p2 (starEach es X.env)).any (·.1) = false := by rfl) :
    DS Γ X (.Assign [.Name x pos'] (.Call (.Name y p) (e :: es) [] p2) pos) (sOdC i F fr) := ⟨by
  obtain ⟨f, fd, ps, h1, h2, h3, h4⟩ := C.ex
  refine (ps_set hN hi hx (pe_call h1 (hr.mono hk) hg h2 h3 h4 .nil pass0 ha.1 hdb he hpl) hs hf).imp fun E σ H => ?_
  rintro ⟨G₀, H₀, G, ρ, fl, ρ', A, h, k⟩
  unfold sOdC at h
  obtain ⟨kvs, hd, h⟩ := Option.map_eq_some_iff.mp h
  obtain ⟨ds, hds, hF⟩ := Option.bind_eq_some_iff.mp hd
  cases h
  refine ⟨G₀, H₀, G, ρ, ds, A, hds, fun vs G1 H1 s1 r1 => ?_⟩
  show spOD Γ X.K n F (vs ++ []) H1 _ E0
  rw [List.append_nil]
  exact ⟨G1, ds, kvs, s1.gh, r1, hn ρ ds hds, hF, fun p us G' H' s hp ek rr => k _ G' _ (s1.gg.trans s.gg) (((A.step s1).step s).setOdkV hp ek rr)⟩⟩
def bwTD (i : Nat) (ft : FT) : FT := fun ρ => match ρ[i]? with
  | some (some (.odk kvs)) => ft (ρ.set i (some (.sh (.dk kvs))))
  | _ => none
theorem dt_bwD (i : Nat) (h : DT Γ X c ft) : DT Γ X c (bwTD i ft) := ⟨h.1.imp fun σ H Q => by
  rintro ⟨G₀, H₀, G, ρ, b, A, h, k⟩
  unfold bwTD at h
  split at h
  · rename_i kvs hi
    obtain ⟨G1, sm, A1⟩ := A.frzD hi (d := .dk kvs) rfl
    exact ⟨G₀, H₀, G1, _, b, A1, h, fun G' H' s => k G H' (s.back A.gh sm)⟩
  · cases h⟩
def sClr (i : Nat) : FS := fun ρ => match ρ[i]? with
  | some (some (.odk _)) => some (.nx, ρ.set i (some (.odk [])))
  | _ => none
theorem mt_dclear : MtR X "dict.clear" (fun v vs H Q => ∃ (d : Addr) (us : List (Key × V)), v = .ref d /\ vs = [] /\ H d = some (.dK us) /\ Q .non (upd H d (.dK []))) := by
  intro pins s σ H x xs v us Q I rx rs h
  obtain ⟨d, us, rfl, rfl, hd, q⟩ := h
  cases rx
  cases rs
  exact d_clear I hd fun s' I' => ⟨.non, _, I', rfl, q⟩
theorem ds_clr (i : Nat) {vp apos cpos : Pos} (hN : X.N[i]? = some x := by rfl) (hv : Vis X.env.scope x := by first | exact Or.inl rfl | exact Or.inr (Or.inl rfl) | exact Or.inr (Or.inr rfl)) (hd : (x == ("__debug__" : Str)) = false := by decide)
    (hcd : (x == ("__classdict__" : Str)) = false := by decide) (hbase : attributeBase (.Name x vp) "clear" X.env (eval (.Name x vp) X.env) = eval (.Name x vp) X.env := by rfl) (hline : (apos.endLine == cpos.line) = true := by rfl)
    (hsw : swapsWith (.Call (.Attribute (.Name x vp) "clear" apos) [] [] cpos) none pos.line X.env = pure false := by rfl) :
    DS Γ X (.Expr (.Call (.Attribute (.Name x vp) "clear" apos) [] [] cpos) pos) (sClr i) := ⟨(ps_expr (pe_bm0 PySem.F.plainAttrs_dict PySem.F.slot_dict_clear PySem.F.type_dict_clear mt_dclear (pe_var hN hv hd hcd) hbase hline) hsw).imp fun E σ H => by
  rintro ⟨G₀, H₀, G, ρ, fl, ρ', A, h, k⟩
  unfold sClr at h
  split at h
  · rename_i kvs hi
    cases h
    obtain ⟨v, fp, h1, h2⟩ := A.get hi
    cases h2 with
    | odk q1 q2 q3 q4 q5 =>
      exact ⟨_, h1, .inr (.inr (.inl ⟨rfl, .inl ⟨_, q3⟩⟩)), _, _, rfl, rfl, q3, k σ G _ (.refl _) (A.chOdk (us' := []) (kvs' := []) hi h1 rfl .nil)⟩
  · cases h⟩
end
end L2
end
section
namespace L2
open PySem PySem.Spec PyProof.Rows
section
variable {X : Cx} {pins : List (Addr × Obj)} {σ : St} {H H' : Hp} {s : Shared} {h' : Heap}
theorem Inv.frz {a : Addr} {us : List (Key × V)} {o : Obj} (I : Inv X pins σ H s) (e : H a = some (.dK us)) (ho : s.heap.get? a = some o) : Inv X pins σ (upd H a (.frz o (.dK us))) s := by
  have ne : ∀ b u, H b = some u -> u ≠ .dK us -> b ≠ a := fun b u q n z => by rw [z, e] at q; cases q; exact n rfl
  have st : ∀ {b : Addr} {u : HO}, ObjOk X.prog X.w H s.heap b u -> ObjOk X.prog X.w (upd H a (.frz o (.dK us))) s.heap b u := fun x =>
    x.stay (fun c v _ r => r) (fun c r => by rw [upd_ne (ne c _ r (by intro z; cases z))]; exact r) fun c xs r => by rw [upd_ne (ne c _ r (by intro z; cases z))]; exact r
  refine I.un (t' := s.toks) (h' := s.heap) ⟨fun b ob q _ _ _ => q, fun b ob q _ _ _ => ⟨ob.slots, q⟩, fun b ob q n _ => ?_, fun b ob q _ => ⟨ob, q⟩, fun b xs q => ?_, fun b o u q => ?_, fun b ps q => ⟨#[], ?_⟩⟩ fun b u q => ?_
  · rw [upd_ne (fun z => by rw [z, e] at n; cases n)]; exact n
  · rw [upd_ne (ne b _ q (by intro z; cases z))]; exact q
  · rw [upd_ne (ne b _ q (by intro z; cases z))]; exact q
  · rw [upd_ne (ne b _ q (by intro z; cases z)), q]; simp
  · by_cases hb : b = a
    · subst hb
      rw [upd_same] at q
      cases q
      exact ⟨ho, st (I.hok b _ e)⟩
    · rw [upd_ne hb] at q
      exact st (I.hok b u q)
theorem Inv.unfrz {a : Addr} {us : List (Key × V)} {o : Obj} (I : Inv X pins σ H s) (e : H a = some (.frz o (.dK us))) (hnf : ∀ o u, X.H₀ a ≠ some (.frz o u)) : Inv X pins σ (upd H a (.dK us)) s := by
  have ne : ∀ b u, H b = some u -> u ≠ .frz o (.dK us) -> b ≠ a := fun b u q n z => by rw [z, e] at q; cases q; exact n rfl
  have nn : ∀ b, H b = none -> upd H a (.dK us) b = none := fun b n => by rw [upd_ne (fun z => by rw [z, e] at n; cases n)]; exact n
  have st : ∀ {b : Addr} {u : HO}, ObjOk X.prog X.w H s.heap b u -> ObjOk X.prog X.w (upd H a (.dK us)) s.heap b u := fun x =>
    x.stay (fun c v _ r => r) (fun c r => by rw [upd_ne (ne c _ r (by intro z; cases z))]; exact r) fun c xs r => by rw [upd_ne (ne c _ r (by intro z; cases z))]; exact r
  refine ⟨I.ok, I.os, I.bare, ⟨I.base.keep, I.base.slot, fun b ob q n hx => nn b (I.base.free b ob q n hx), I.base.there, fun b xs q => ?_, fun b ob u q => ?_, fun b ps q => ?_⟩, I.loc, I.cell, nn _ I.free, fun x c q => nn _ (I.freeC x c q), fun p hp => ?_, fun b u q => ?_, I.len⟩
  · have := I.base.tups b xs q
    rw [upd_ne (ne b _ this (by intro z; cases z))]; exact this
  · have := I.base.frzs b ob u q
    rw [upd_ne (fun z => hnf ob u (by rw [← z]; exact q))]; exact this
  · obtain ⟨more, hm⟩ := I.base.tbls b ps q
    exact ⟨more, by rw [upd_ne (ne b _ hm (by intro z; cases z))]; exact hm⟩
  · obtain ⟨p1, p2, p3⟩ := I.pin p hp
    exact ⟨p1, nn _ p2, p3⟩
  · by_cases hb : b = a
    · subst hb
      rw [upd_same] at q
      cases q
      exact st (I.hok b _ e).2
    · rw [upd_ne hb] at q
      exact st (I.hok b u q)
theorem Inv.nofrz {a : Addr} {us : List (Key × V)} (I : Inv X pins σ H s) (e : H a = some (.dK us)) : ∀ o u, X.H₀ a ≠ some (.frz o u) := fun o u q => by
  have := I.base.frzs a o u q
  rw [e] at this
  cases this
end
def Itv (a : Addr) (o : Obj) (us : List (Key × V)) : It :=
  ⟨fun i H => H a = some (.frz o (.dK us)) /\ i < us.length, fun i H v H' => H' = H /\ ∃ kv, us[i]? = some kv /\ v = kv.2, fun i H => H a = some (.frz o (.dK us)) /\ i = us.length⟩
theorem kv_at : ∀ {us : List (Key × V)} {va : List (Key × Value)} {i : Nat} {k : Key} {v : Value}, KV us va -> va[i]? = some (k, v) -> ∃ kv, us[i]? = some kv /\ RelV kv.2 v := by
  intro us va i k v r
  induction r generalizing i with
  | nil => intro e; simp at e
  | cons h t ih =>
    intro e
    cases i with
    | zero => simp at e; subst e; exact ⟨_, rfl, h.2⟩
    | succ j =>
      obtain ⟨p, z1, z2⟩ := ih (i := j) (by simpa using e)
      exact ⟨p, by simpa using z1, z2⟩
theorem turn_vals {P : Program} {w : World} {K : PySem.W.Frag} {tg : Expr} (a it : Addr) (o : Obj) (us : List (Key × V)) (va : List (Key × Value)) (ep : Nat) (hne : a ≠ it) (hd : ∀ h : Heap, h.get? a = some o -> h.DictAt (mixKind P w) a va ep) (kv : KV us va) :
    Turn P w K tg (Itv a o us) [it] it (fun i h => h.IsValIter it a i va.length ep) where
  mem := by simp
  obj := fun i h st b hb => by
    have e : b = it := by simpa using hb
    subst e
    obtain ⟨o, e, c, d⟩ := st
    exact ⟨o, e, fun v z => by rw [d] at z; cases z⟩
  keep := fun i h h' st k => by
    obtain ⟨o, e, r⟩ := st
    exact ⟨o, k it (by simp) o e, r⟩
  item := by
    intro X hP hw hK hc i pins s σ H E I hf st hg
    subst hP hw hK
    obtain ⟨hfr, hi⟩ := hg
    obtain ⟨f0, f1, f2, f3, f4, f5⟩ := hf it (by simp)
    have ho : s.heap.get? a = some o := (I.hok a _ hfr).1
    refine (Walks.dictValues (knd := mixKind X.prog X.w) (I.ok.hd hc) it a hne va ep).item i s _ _ (by rw [← kv.length]; exact hi) ⟨st, hd _ ho⟩ fun v h' tk hv st' kk => ?_
    obtain ⟨k, hk⟩ := hv
    obtain ⟨p, hp1, hp2⟩ := kv_at kv hk
    have I1 : Inv X pins σ H { s with heap := h', toks := tk } := I.turned (fun b o hb e => kk b o (by simpa using hb) e) f0 f1 f3 f4 f5
    obtain ⟨oi, e, c, d⟩ := id st'.1
    exact ⟨v, rfl, go_of (s := { s with heap := h', toks := tk }) e c d (by decide) ⟨p.2, H, I1, hp2, ⟨rfl, p, hp1, rfl⟩, st'.1, fun b hb => (hf b hb).1⟩⟩
  done := by
    intro X hP hw hK hc i pins s σ H E I hf st hg
    subst hP hw hK
    obtain ⟨hfr, hi⟩ := hg
    obtain ⟨f0, f1, f2, f3, f4, f5⟩ := hf it (by simp)
    have ho : s.heap.get? a = some o := (I.hok a _ hfr).1
    have hi' : i = va.length := by rw [← kv.length]; exact hi
    subst hi'
    exact (Walks.dictValues (knd := mixKind X.prog X.w) (I.ok.hd hc) it a hne va ep).done s _ _ ⟨st, hd _ ho⟩ fun h' tk kk => ⟨rfl, I.turned (fun b o hb e => kk b o (by simpa using hb) e) f0 f1 f3 f4 f5⟩
  self := fun _ _ _ _ _ st h => wpAny_pyIter_valiter st h
section
variable {Γ : Cn} {X : Cx} {e c o tg : Expr} {es : List Expr} {fr : FA} {pos p2 p pos' apos cpos : Pos} {x : Str} {ft : FT}
theorem mt_values : MtR X "dict.values" (fun v vs H Q => ∃ (d : Addr) (us : List (Key × V)), v = .ref d /\ vs = [] /\ H d = some (.dK us) /\ ∀ q, H q = none -> Q (.ref q) (upd H q (.ext fun h => h.IsValuesView q d))) := by
  intro pins s σ H x xs v us Q I rx rs h
  obtain ⟨d, us, rfl, rfl, hd, q⟩ := h
  cases rx
  cases rs
  obtain ⟨z, md, va, qa, da⟩ := dk_of I.hok hd
  refine call_meetsIn PySem.F.slot_dict_values da.typeIs PySem.F.entry_dict_values (PySem.F.args_dict_values_1 _) (meets_dict_values (mixKind X.prog X.w) d md) ⟨⟨va, da⟩, ?_⟩
  refine ⟨.ref s.heap.objs.size, _, I.laid (t' := s.toks) (o := .ext fun h => h.IsValuesView s.heap.objs.size d) (fun b u e => Heap.get?_push_of_some _ e) (Nat.le_refl _) ⟨⟨_, Heap.get?_push_size _ rfl, rfl, rfl⟩, ⟨_, Heap.get?_push_size _ rfl⟩, fun h1 h2 q k => ?_⟩, rfl, q _ I.fresh⟩
  obtain ⟨ob, e, r⟩ := q
  exact ⟨ob, k ob e, r⟩
def rVals : V -> List V -> Hp -> VK -> Prop := fun v vs H Q => ∃ (d : Addr) (us : List (Key × V)), v = .ref d /\ vs = [] /\ H d = some (.dK us) /\ ∀ q, H q = none -> Q (.ref q) (upd H q (.ext fun h => h.IsValuesView q d))
def qVals (R : It -> Hp -> Prop) : VK := fun v H' => ∃ (a : Addr) (us : List (Key × V)) (q : Addr) (H1 : Hp), v = .ref q /\ H1 a = some (.dK us) /\ H1 q = none /\ H' = upd H1 q (.ext fun h => h.IsValuesView q a) /\ ∀ o, R (Itv a o us) (upd H' a (.frz o (.dK us)))
def iVals (K : PySem.W.Frag) (to : TE) : TI := fun σ H R => tBM0 K "dict" rVals to σ H (qVals R)
theorem pi_vals {to : TE} (ho : PE X o to) (hbase : attributeBase o "values" X.env (eval o X.env) = eval o X.env := by rfl) (hline : (apos.endLine == cpos.line) = true := by rfl) : PI X tg (.Call (.Attribute o "values" apos) [] [] cpos) (iVals X.K to) := by
  intro pins s σ H R I h
  have P1 : PE X (.Call (.Attribute o "values" apos) [] [] cpos) (tBM0 X.K "dict" rVals to) := pe_bm0 PySem.F.plainAttrs_dict PySem.F.slot_dict_values PySem.F.type_dict_values mt_values ho hbase hline
  refine thn (P1 pins s σ H _ I h) fun v s1 ⟨v', H2, I2, r2, a, us, q, H1, e1, ha, hq, e2, k⟩ => ?_
  subst e1
  cases r2
  have nqa : a ≠ q := ne_of_none ha hq
  have ha2 : H2 a = some (.dK us) := by rw [e2, upd_ne nqa]; exact ha
  have hq2 : H2 q = some (.ext fun h => h.IsValuesView q a) := by rw [e2, upd_same]
  obtain ⟨z, md, va, qa, da⟩ := dk_of I2.hok ha2
  obtain ⟨ep, hat⟩ := da.dictAt
  obtain ⟨oa, hoa⟩ := (I2.hok a _ ha2).there
  have hview : s1.heap.IsValuesView q a := (I2.hok q _ hq2).1
  refine wpAny_pyIter_values hview hat ?_
  have I3 := I2.frz ha2 hoa
  have I4 : Inv X pins σ (upd H2 a (.frz oa (.dK us))) { s1 with heap := s1.heap.push { cls := .type "dict_valueiterator", data := .fields #[.ref a, .int 0 0, .int va.length 0, .int ep 0] } } := I3.kept (t' := s1.toks) fun b u e => Heap.get?_push_of_some _ e
  refine ⟨s1.heap.objs.size, [s1.heap.objs.size], _, _, _, rfl, I4, turn_vals a s1.heap.objs.size oa us va ep (Nat.ne_of_lt (Heap.lt_size hoa)) (fun h' e => hat.at' fun o' e' => by rw [hoa] at e'; cases e'; exact e) qa, ⟨_, Heap.get?_push_size _ rfl, rfl, rfl⟩, fun b hb => ?_, k oa⟩
  have e : b = s1.heap.objs.size := by simpa using hb
  subst e
  exact I2.fpOk (Nat.le_refl _) (I3.hok.fresh (Nat.le_refl _))
mutual
theorem Rep.drop {K : PySem.W.Frag} {G G' : Hp} {a : Addr} {ob : Obj} {u : List (Key × V)} (ha : G a = some (.frz ob (.dK u))) (hG : ∀ b, b ≠ a -> G' b = G b) : ∀ {v : V} {d : D}, Rep Γ K G v d -> Rep Γ K G' v d
  | _, _, .non => .non
  | _, _, .bl b => .bl b
  | _, _, .int i => .int i
  | _, _, .str x => .str x
  | _, _, .ty x => .ty x
  | _, _, .tup h r => .tup ((hG _ (ne_of h ha (by intro z; cases z))).trans h) (Reps.drop' ha hG r)
  | _, _, .lst h r => .lst ((hG _ (ne_of h ha (by intro z; cases z))).trans h) (Reps.drop' ha hG r)
  | _, _, .scr h => .scr (by
      rcases h with (h | ⟨ob', h⟩) | h
      · exact .inl (.inl ((hG _ (ne_of h ha (by intro z; cases z))).trans h))
      · exact .inl (.inr ⟨ob', (hG _ (ne_of h ha (by intro z; cases z))).trans h⟩)
      · exact .inr h)
  | _, _, .dk h e r => .dk ((hG _ (ne_of h ha (by intro z; cases z))).trans h) e (Reps.drop' ha hG r)
  | _, _, .dt h e r => .dt ((hG _ (ne_of h ha (by intro z; cases z))).trans h) e (Reps.drop' ha hG r)
  | _, _, .ins h c e r => .ins ((hG _ (ne_of h ha (by intro z; cases z))).trans h) c e (Reps.drop' ha hG r)
theorem Reps.drop' {K : PySem.W.Frag} {G G' : Hp} {a : Addr} {ob : Obj} {u : List (Key × V)} (ha : G a = some (.frz ob (.dK u))) (hG : ∀ b, b ≠ a -> G' b = G b) : ∀ {vs : List V} {ds : List D}, Reps Γ K G vs ds -> Reps Γ K G' vs ds
  | _, _, .nil => .nil
  | _, _, .cons h r => .cons (Rep.drop ha hG h) (Reps.drop' ha hG r)
end
theorem SR.drop {K : PySem.W.Frag} {H₀ G H G' H' : Hp} {a : Addr} {ob : Obj} {u : List (Key × V)} (ha : G a = some (.frz ob (.dK u))) (hG : ∀ b, b ≠ a -> G' b = G b) (hH : ∀ b, b ≠ a -> H' b = H b) {s : Slot} {v : V} {fp : List Addr} (r : SR Γ K H₀ G H s v fp) : SR Γ K H₀ G' H' s v fp := by
  have ne : ∀ b, G b = none -> b ≠ a := fun b e z => by rw [z, ha] at e; cases e
  cases r with
  | sh r => exact .sh (Rep.drop ha hG r)
  | own h1 h2 h3 h4 => exact .own h1 ((hG _ (ne _ h2)).trans h2) ((hH _ (ne _ h2)).trans h3) (Reps.drop' ha hG h4)
  | obj c h1 h2 h3 h4 h5 hs => exact .obj c h1 ((hG _ (ne _ h2)).trans h2) ((hH _ (ne _ h2)).trans h3) h4 (Reps.drop' ha hG h5) hs
  | objd c h1 h2 h3 h4 h5 q1 q2 q3 q4 q5 hs => exact .objd c h1 ((hG _ (ne _ h2)).trans h2) ((hH _ (ne _ h2)).trans h3) h4 (Reps.drop' ha hG h5) q1 ((hG _ (ne _ q2)).trans q2) ((hH _ (ne _ q2)).trans q3) q4 (Reps.drop' ha hG q5) hs
  | odk h1 h2 h3 h4 h5 => exact .odk h1 ((hG _ (ne _ h2)).trans h2) ((hH _ (ne _ h2)).trans h3) h4 (Reps.drop' ha hG h5)
  | odt h1 h2 h3 h4 h5 => exact .odt h1 ((hG _ (ne _ h2)).trans h2) ((hH _ (ne _ h2)).trans h3) h4 (Reps.drop' ha hG h5)
  | tlo h1 h2 h3 h4 h5 h6 => exact .tlo h1 ((hG _ (ne _ h2)).trans h2) ((hH _ (ne _ h2)).trans h3) ((hG _ (ne_of h4 ha (by intro z; cases z))).trans h4) (Reps.drop' ha hG h5) (Reps.drop' ha hG h6)
  | pin a => exact .pin a
def cutG (G : Hp) (a : Addr) : Hp := fun b => if b = a then none else G b
theorem cutG_ne {G : Hp} {a b : Addr} (h : b ≠ a) : cutG G a b = G b := if_neg h
theorem cutG_same {G : Hp} {a : Addr} : cutG G a a = none := if_pos rfl
theorem At.unpin {K : PySem.W.Frag} {G₀ H₀ G H : Hp} {ρ : Env'} {σ : St} {i : Nat} {a : Addr} {ob : Obj} {us : List (Key × V)} {kvs : List (Key × D)} (A : At Γ K G₀ H₀ G H (ρ.set i (some (.pin a))) σ) (ga : G a = some (.frz ob (.dK us))) (h0 : H₀ a = none) (g0 : G₀ a = none) (ek : us.map (·.1) = kvs.map (·.1)) (rr : Reps Γ K G (us.map (·.2)) (kvs.map (·.2))) :
    At Γ K G₀ H₀ (cutG G a) (upd H a (.dK us)) (ρ.set i (some (.odk kvs))) σ := by
  have hG : ∀ b, b ≠ a -> cutG G a b = G b := fun b hb => cutG_ne hb
  have hH : ∀ b, b ≠ a -> upd H a (.dK us) b = H b := fun b hb => upd_ne hb
  have gN : cutG G a a = none := cutG_same
  obtain ⟨fps, h, ap⟩ := A.env.sl
  refine ⟨⟨fun b u e => ?_, fun b u e => ?_, fun b u e => ?_, fun b u e => ?_⟩, by simpa using A.env.len, fun j => if j = i then [a] else fps j, fun j t e => ?_, fun j k t u hjk e1 e2 b hb => ?_⟩
  · rw [hH _ (ne_of_none e h0)]; exact A.st.hh b u e
  · rw [hG _ (ne_of_none e g0)]; exact A.st.gg b u e
  · by_cases hb : b = a
    · subst hb; rw [gN] at e; cases e
    · rw [hG _ hb] at e; rw [hH _ hb]; exact A.gh b u e
  · rw [hG _ (ne_of_none e h0)]; exact A.st.out b u e
  · by_cases hj : j = i
    · subst hj
      have hlt : j < ρ.length := by
        rcases Nat.lt_or_ge j ρ.length with q | q
        · exact q
        · rw [List.getElem?_eq_none (by simpa using q)] at e; cases e
      rw [List.getElem?_set_self hlt] at e
      cases e
      obtain ⟨v, v1, v2⟩ := h j (.pin a) (by rw [List.getElem?_set_self hlt])
      generalize fps j = fp at v2
      cases v2
      exact ⟨_, v1, by show SR _ _ _ _ _ _ _ (if j = j then [a] else fps j); rw [if_pos rfl]; exact .odk h0 gN upd_same ek (Reps.drop' ga hG rr)⟩
    · rw [List.getElem?_set_ne (Ne.symm hj)] at e
      obtain ⟨v, v1, v2⟩ := h j t (by rw [List.getElem?_set_ne (Ne.symm hj)]; exact e)
      exact ⟨v, v1, by show SR _ _ _ _ _ _ _ (if j = i then [a] else fps j); rw [if_neg hj]; exact SR.drop ga hG hH v2⟩
  · have apart : ∀ {k : Nat} {u : Slot}, k ≠ i -> (ρ.set i (some (.pin a)))[k]? = some (some u) -> a ∉ fps k := fun hk e z => by
      obtain ⟨v, _, v2⟩ := h _ _ e
      obtain ⟨_, z2, _⟩ := v2.fpt a z
      rw [ga] at z2; cases z2
    replace hb : b ∈ (if j = i then [a] else fps j) := hb
    show b ∉ (if k = i then [a] else fps k)
    by_cases hj : j = i
    · subst hj
      rw [if_pos rfl] at hb
      have hk : k ≠ j := Ne.symm hjk
      rw [if_neg hk, List.mem_singleton.mp hb]
      rw [List.getElem?_set_ne hjk] at e2
      exact apart hk (by rw [List.getElem?_set_ne hjk]; exact e2)
    · rw [if_neg hj] at hb
      rw [List.getElem?_set_ne (Ne.symm hj)] at e1
      have e1' : (ρ.set i (some (.pin a)))[j]? = some (some t) := by rw [List.getElem?_set_ne (Ne.symm hj)]; exact e1
      by_cases hk : k = i
      · subst hk
        rw [if_pos rfl]
        exact fun z => apart hj e1' (by rw [← List.mem_singleton.mp z]; exact hb)
      · rw [if_neg hk]
        rw [List.getElem?_set_ne (Ne.symm hk)] at e2
        exact ap j k t u hjk e1' (by rw [List.getElem?_set_ne (Ne.symm hk)]; exact e2) b hb
open Classical in
noncomputable def sForV (i : Nat) (gg : FG) (g : FS) : FS := fun ρ => match ρ[i]? with
  | some (some (.odk kvs)) => if h : ∃ ρr : Env', ∀ a, forL gg g (kvs.map (·.2)) (ρ.set i (some (.pin a))) = some (.nx, ρr.set i (some (.pin a))) then some (.nx, (choose h).set i (some (.odk kvs))) else none
  | _ => none
theorem sForV_of {i : Nat} {gg : FG} {g : FS} {ρ R : Env'} {kvs : List (Key × D)} (hi : ρ[i]? = some (some (.odk kvs))) (h : ∀ a, forL gg g (kvs.map (·.2)) (ρ.set i (some (.pin a))) = some (.nx, R.set i (some (.pin a)))) : sForV i gg g ρ = some (.nx, R.set i (some (.odk kvs))) := by
  have hx : ∃ ρr : Env', ∀ a, forL gg g (kvs.map (·.2)) (ρ.set i (some (.pin a))) = some (.nx, ρr.set i (some (.pin a))) := ⟨R, h⟩
  unfold sForV
  rw [hi]
  simp only
  rw [dif_pos hx]
  have q := Classical.choose_spec hx 0
  rw [h 0] at q
  have q2 : R.set i (some (.pin 0)) = (Classical.choose hx).set i (some (.pin 0)) := (Prod.mk.inj (Option.some.inj q)).2
  have q3 := congrArg (fun l : Env' => l.set i (some (.odk kvs))) q2
  simp only [List.set_set] at q3
  rw [q3]
theorem ds_forV (i : Nat) {body : List Stmt} {vp : Pos} {gg : FG} {g : FS} (hp : PassesOwn (model X.prog X.w) X.A X.env X.xe) (hc : X.calm = true) (hg : DG Γ X tg gg) (hb : DSs Γ X body g) (hN : X.N[i]? = some x := by rfl) (hv : Vis X.env.scope x := by first | exact Or.inl rfl | exact Or.inr (Or.inl rfl) | exact Or.inr (Or.inr rfl)) (hd : (x == ("__debug__" : Str)) = false := by decide)
    (hcd : (x == ("__classdict__" : Str)) = false := by decide) (hbase : attributeBase (.Name x vp) "values" X.env (eval (.Name x vp) X.env) = eval (.Name x vp) X.env := by rfl) (hline : (apos.endLine == cpos.line) = true := by rfl)
    (hs : ∀ y, foldedSetIterable (.Call (.Attribute (.Name x vp) "values" apos) [] [] cpos) X.env y = pure y := by intro _; rfl) :
    DS Γ X (.For tg (.Call (.Attribute (.Name x vp) "values" apos) [] [] cpos) body [] pos) (sForV i gg g) := ⟨fun pins s σ H E I => by
  rintro ⟨G₀, H₀, G, ρ, fl, ρ', A, h, k⟩
  unfold sForV at h
  split at h
  case h_2 => cases h
  rename_i kvs hi
  split at h
  case isFalse => cases h
  rename_i hx
  have hf := Classical.choose_spec hx
  generalize Classical.choose hx = ρr at hf h
  cases h
  obtain ⟨v, fp, h1, h2⟩ := A.get hi
  cases h2 with
  | odk q1 q2 q3 q4 q5 =>
    rename_i a us
    have hnf := I.nofrz q3
    have hlen : us.length = (kvs.map (·.2)).length := by rw [List.length_map]; simpa using congrArg List.length q4
    refine thn (ps_for hp hc (pi_vals (pe_var hN hv hd hcd) hbase hline) hg.pg hb.1 hs pins s σ H { E with nx := fun σ' H' => (∃ ob, H' a = some (.frz ob (.dK us))) /\ E.nx σ' (upd H' a (.dK us)) } I ?_) fun f s' q => ?_
    · refine ⟨_, h1, .inr (.inr (.inl ⟨rfl, .inl ⟨_, q3⟩⟩)), a, us, rfl, rfl, q3, fun q hq => ⟨a, us, q, H, rfl, q3, hq, rfl, fun ob => ?_⟩⟩
      have nqa : a ≠ q := ne_of_none q3 hq
      have sm1 : Same G (upd G a (.frz ob (.dK us))) := fun b u e => by rw [upd_ne (ne_of_none e q2)]; exact e
      have hH1 : ∀ b u, b ≠ a -> H b = some u -> upd (upd H q (.ext fun h => h.IsValuesView q a)) a (.frz ob (.dK us)) b = some u := fun b u hb e => by rw [upd_ne hb, upd_ne (ne_of_none e hq)]; exact e
      have A1 : At Γ X.K G₀ H₀ (upd G a (.frz ob (.dK us))) (upd (upd H q (.ext fun h => h.IsValuesView q a)) a (.frz ob (.dK us))) (ρ.set i (some (.pin a))) σ := by
        refine A.ch hi h1 (.odk q1 q2 q3 q4 q5) (fun b u e hb => hH1 b u (fun z => hb (List.mem_singleton.mpr z)) e) (.pin a) (fun b hb => by cases hb) sm1 (fun b u e => ?_) (fun b u e hb => ?_)
        · by_cases hba : b = a
          · subst hba; rw [upd_same] at e ⊢; exact e
          · rw [upd_ne hba] at e
            exact hH1 b u hba (A.gh b u e)
        · rw [upd_ne (fun z => hb (List.mem_singleton.mpr z))]
      refine ⟨fun j m σ' H' => m = (kvs.map (·.2)).length - j /\ j <= (kvs.map (·.2)).length /\ ∃ G' ρ1, Same (upd G a (.frz ob (.dK us))) G' /\ At Γ X.K G₀ H₀ G' H' ρ1 σ' /\ forL gg g ((kvs.map (·.2)).drop j) ρ1 = some (.nx, ρr.set i (some (.pin a))), ⟨(kvs.map (·.2)).length, rfl, Nat.zero_le _, _, _, .refl _, A1, by rw [List.drop_zero]; exact hf a⟩, ?_⟩
      rintro j m σ' H' ⟨rfl, hj, G', ρ1, sm, A', hr⟩
      have fin : ∀ (σ3 : St) (G3 H3 : Hp), Same (upd G a (.frz ob (.dK us))) G3 -> At Γ X.K G₀ H₀ G3 H3 (ρr.set i (some (.pin a))) σ3 -> (∃ ob, H3 a = some (.frz ob (.dK us))) /\ E.nx σ3 (upd H3 a (.dK us)) := fun σ3 G3 H3 sm3 A3 => by
        have ga3 : G3 a = some (.frz ob (.dK us)) := sm3 _ _ upd_same
        refine ⟨⟨ob, A3.gh _ _ ga3⟩, k σ3 _ _ (fun b u e => ?_) (A3.unpin ga3 q1 (A.st.gg.free q2) q4 ((q5.mono sm1).mono sm3))⟩
        rw [cutG_ne (ne_of_none e q2)]
        exact sm3 _ _ (sm1 _ _ e)
      have ga : G' a = some (.frz ob (.dK us)) := sm _ _ upd_same
      have hfa : H' a = some (.frz ob (.dK us)) := A'.gh _ _ ga
      by_cases hlt : j < (kvs.map (·.2)).length
      · right
        have hdr : (kvs.map (·.2)).drop j = (kvs.map (·.2))[j] :: (kvs.map (·.2)).drop (j + 1) := List.drop_eq_getElem_cons hlt
        rw [hdr] at hr
        unfold forL at hr
        obtain ⟨ρ2, w2, hr⟩ := Option.bind_eq_some_iff.mp hr
        obtain ⟨⟨fl3, ρ3⟩, w3, hr⟩ := Option.bind_eq_some_iff.mp hr
        refine ⟨⟨hfa, by rw [hlen]; exact hlt⟩, fun σ3 H3 => (fl3 = .nx \/ fl3 = .ct) /\ ∃ G3, Same (upd G a (.frz ob (.dK us))) G3 /\ At Γ X.K G₀ H₀ G3 H3 ρ3 σ3, fun σ3 H3 ⟨hfl, G3, sm3, A3⟩ => ?_, fun x H2 hy => ?_⟩
        · refine ⟨(kvs.map (·.2)).length - (j + 1), by omega, rfl, hlt, G3, ρ3, sm3, A3, ?_⟩
          rcases hfl with e | e <;> subst e <;> exact hr
        · obtain ⟨e1, kv, hkv, e2⟩ := hy
          subst e1 e2
          have hxj : (kvs.map (·.2))[j]? = some (kvs.map (·.2))[j] := List.getElem?_eq_getElem hlt
          obtain ⟨w, hw1, hw2⟩ := q5.get hxj
          rw [List.getElem?_map, hkv] at hw1
          cases hw1
          refine ⟨G₀, H₀, G', ρ1, _, ρ2, A', (hw2.mono sm1).mono sm, w2, fun σ2 A2 => ⟨G₀, H₀, G', ρ2, fl3, ρ3, A2, w3, fun σ3 G3 H3 sm3 A3 => ?_⟩⟩
          have smm : Same (upd G a (.frz ob (.dK us))) G3 := sm.trans sm3
          have ga3 : G3 a = some (.frz ob (.dK us)) := smm _ _ upd_same
          cases fl3 with
          | nx => exact ⟨.inl rfl, G3, smm, A3⟩
          | ct => exact ⟨.inr rfl, G3, smm, A3⟩
          | bk =>
            have e4 := (Prod.mk.inj (Option.some.inj hr)).2
            exact fin σ3 G3 H3 smm (by rw [← e4]; exact A3)
          | rt d => cases hr
          | ow d => cases hr
          | nw d => cases hr
          | od d => cases hr
      · left
        have e : j = (kvs.map (·.2)).length := by omega
        subst e
        rw [List.drop_length] at hr
        have e4 := (Prod.mk.inj (Option.some.inj hr)).2
        exact ⟨⟨hfa, hlen.symm⟩, fin σ' G' H' sm (by rw [← e4]; exact A')⟩
    · cases f with
      | next =>
        obtain ⟨σ', H', I', ⟨ob, hfr⟩, q⟩ := q
        exact ⟨σ', _, I'.unfrz hfr hnf, q⟩
      | brk => exact q
      | cont => exact q
      | ret u => exact q⟩
end
end L2
end
section
namespace Law
open PySem L2 PySem.Spec PyProof.Rows
def top (i : Nat) : Stmt := PySem.Challenge.pw_shopbound_k23_plans_written.main.body.getD i (.Pass ⟨0, 0, 0, 0⟩)
abbrev s__law_digits : Stmt := top 16
abbrev s__law_word : Stmt := top 17
abbrev s__law_plan : Stmt := top 18
abbrev s_shown_plan : Stmt := top 11
abbrev s_is_numeral : Stmt := top 7
abbrev s_is_name : Stmt := top 6
abbrev s_is_plan_row : Stmt := top 12
abbrev s_number_of : Stmt := top 8
abbrev s_read_plan : Stmt := top 13
abbrev s_law : Stmt := top 19
def t_FIGURES (mg : Str -> Option Value) : Tok := match mg "FIGURES" with | some (.str _ t) => t | _ => 0
def t_LONGEST_NAME (mg : Str -> Option Value) : Tok := match mg "LONGEST_NAME" with | some (.int _ t) => t | _ => 0
def t_PARTING (mg : Str -> Option Value) : Tok := match mg "PARTING" with | some (.str _ t) => t | _ => 0
structure Bn (mg : Str -> Option Value) : Prop where
  z_abs : mg "abs" = none
  z_all : mg "all" = none
  z_bool : mg "bool" = none
  z_dict : mg "dict" = none
  z_enumerate : mg "enumerate" = none
  z_int : mg "int" = none
  z_isinstance : mg "isinstance" = none
  z_len : mg "len" = none
  z_list : mg "list" = none
  z_range : mg "range" = none
  z_sorted : mg "sorted" = none
  z_str : mg "str" = none
  c_FIGURES : mg "FIGURES" = some (.str "0123456789" (t_FIGURES mg))
  c_LONGEST_NAME : mg "LONGEST_NAME" = some (.int 8 (t_LONGEST_NAME mg))
  c_PARTING : mg "PARTING" = some (.str "; " (t_PARTING mg))
end Law
end
section
set_option maxHeartbeats 4000000
namespace Law
open PySem L2 PySem.Spec PyProof.Rows
variable {Γ : Cn} {P : Program} {w : World} {K : PySem.W.Frag} {mg : Str -> Option Value} {base : Heap}
noncomputable def G__law_digits : List D -> Option D := runD 4
    (sSeq (sSet 3 (b2 fdivD (cF absD (aCons (vSh 0) aNil)) (vC (.int 2)))) (sSeq (sOwn 4 (szF aNil)) (sSeq (sFor (itE (vSh 2)) (gTupD 2 (gsCons (gSet 5) (gsCons (gSet 6) gsNil))) (sIf (orT (toB (b2 eqD (b2 modD (vSh 0) (vC (.int 2))) (vC (.int 1)))) (toB (b2 eqD (vSh 3) (vC (.int 0))))) (sSeq (sSet 3 (b2 addD (b2 modD (b2 addD (vSh 3) (vSh 0)) (vC (.int 2147483629))) (vC (.int 48271)))) (sSeq (sSet 3 (b2 addD (vSh 3) (b2 mulD (b2 mulD (vC (.int 7919)) (b2 addD (vSh 1) (vSh 5))) (b2 addD (vSh 1) (vSh 5))))) (sSeq (sSet 3 (b2 modD (b2 mulD (vSh 3) (vSh 3)) (vC (.int 2147483587)))) (sApp 4 (b2 modD (b2 fdivD (vSh 3) (vC (.int 16))) (vSh 6)))))) (sSeq (sApp 4 (b2 modD (vSh 3) (vSh 6))) (sSet 3 (b2 fdivB (vSh 3) (vSh 6)))))) (sFrz 4 (sRet (vSh 4))))))
theorem sc__law_digits : FnScope ["_law_cell_here", "_law_k", "_law_sizes", "_law_number", "_law_found", "_law_turn", "_law_size"] ["_law_cell_here", "_law_k", "_law_sizes"] (defScope s__law_digits) := ⟨rfl, rfl, rfl, by decide +kernel, rfl, by decide +kernel, by decide +kernel⟩
theorem cal__law_digits (F : Dfn K mg "_law_digits" s__law_digits) (B : Bn mg)  : Cal Γ P w K mg base "_law_digits" 3 1 (G__law_digits) :=
  F.cal (k := 0) sc__law_digits (fun _ _ _ _ _ _ us hl => match us, hl with | [_, _, _], _ => rfl) fun f cdv A outer s H E hr =>
    (dss_cons (ds_set 3 sc__law_digits.nd (de_fdiv (de_callB bd_abs rfl B.z_abs (by rfl) (da_cons (de_var 0) da_nil)) de_int)) (dss_cons (ds_own 4 sc__law_digits.nd (do_lst da_nil)) (dss_cons (ds_for PassesOwn.never rfl (di_enum rfl B.z_enumerate (de_var 2)) (dg_tup (n := 2) rfl (dgs_cons (dg_name 5 sc__law_digits.nd) (dgs_cons (dg_name 6 sc__law_digits.nd) dgs_nil))) (dss_one (ds_if (DW.dt (dw_or (dt_cmp cd_eq (de_mod (de_var 0) de_int) de_int (nomark _)) (dw_or1 (dt_cmp cd_eq (de_var 3) de_int (nomark _))))) (dss_cons (ds_set 3 sc__law_digits.nd (de_add (de_mod (de_add (de_var 3) (de_var 0)) de_int) de_int)) (dss_cons (ds_set 3 sc__law_digits.nd (de_add (de_var 3) (de_mul (de_mul de_int (de_add (de_var 1) (de_var 5))) (de_add (de_var 1) (de_var 5))))) (dss_cons (ds_set 3 sc__law_digits.nd (de_mod (de_mul (de_var 3) (de_var 3)) de_int)) (dss_one (ds_append 4 (de_mod (de_fdiv (de_var 3) de_int) (de_var 6))))))) (dss_cons (ds_append 4 (de_mod (de_var 3) (de_var 6))) (dss_one (ds_set 3 sc__law_digits.nd (de_fdivB (de_var 3) (de_var 6)))))))) (dss_frz 4 (dss_one (ds_ret (de_var 4)))))))
noncomputable def G__law_word : List D -> Option D := runD 0
    (sRet (mF joinD (vC (.str "")) (aCons (lstF (compF (itF (slF (vSh 0) (pS (vC (.int 1))) (pS (b2 addD (vC (.int 2)) (b2 ixD (vSh 0) (vC (.int 0))))))) (gSet 0) tT (b2 ixD (vC (.str "abcdefghijklmnopqrstuvwxyz")) (vSh 0)) [none])) aNil)))
theorem sc__law_word : FnScope ["_law_row"] ["_law_row"] (defScope s__law_word) := ⟨rfl, rfl, rfl, by decide +kernel, rfl, by decide +kernel, by decide +kernel⟩
theorem cal__law_word (F : Dfn K mg "_law_word" s__law_word) (B : Bn mg)  : Cal Γ P w K mg base "_law_word" 1 1 (G__law_word) :=
  F.cal (k := 0) sc__law_word (fun _ _ _ _ _ _ us hl => match us, hl with | [_], _ => rfl) fun f cdv A outer s H E hr =>
    (dss_one (ds_ret (de_bm PySem.F.plainAttrs_str PySem.F.slot_str_join PySem.F.type_str_join md_join de_str (da_cons (DO.de (do_lc rfl (CompScope.of rfl rfl) (FvOk.of (N' := ["_law_number"]) (fv := [none]) rfl) (di_seq (de_slice (de_var 0) (dp_some de_int) (dp_some (de_add de_int (de_ix (de_var 0) de_int))))) ⟨fun _ _ _ _ _ => ⟨(dg_name 0 (show (["_law_number"] : List Str).Nodup by decide +kernel)), dts_nil, (de_ix de_str (de_var 0))⟩⟩)) da_nil))))
noncomputable def G__law_plan (F__law_digits : List D -> Option D) (F__law_word : List D -> Option D) : List D -> Option D := runD 6
    (sSeq (sOdk 1) (sSeq (sSet 2 (b2 modD (vSh 0) (vC (.int 21)))) (sSeq (sFor (itR rng1 (aCons (vSh 2) aNil)) (gSet 3) (sSeq (sSet 4 (cF F__law_digits (aCons (b2 fdivD (vSh 0) (vC (.int 21))) (aCons (b2 mulD (vC (.int 20)) (vSh 3)) (aCons (b2 addD (b2 addD (b2 addD (b2 addD (lstF (szF (aCons (vC (.int 8)) aNil))) (b2 mulD (lstF (szF (aCons (vC (.int 26)) aNil))) (vC (.int 8)))) (lstF (szF (aCons (vC (.int 8)) aNil)))) (b2 mulD (lstF (szF (aCons (vC (.int 26)) aNil))) (vC (.int 8)))) (lstF (szF (aCons (vC (.int 10)) (aCons (b2 powD (vC (.int 10)) (vC (.int 30))) (aCons (vC (.int 2)) aNil)))))) aNil))))) (sSeq (sIf (toB (b2 eqD (b2 modD (vSh 0) (vC (.int 2))) (vC (.int 0)))) (sSet 4 (b2 addD (slF (vSh 4) (pS (b2 modD (vSh 3) (vC (.int 8)))) pN) (slF (vSh 4) pN (pS (b2 modD (vSh 3) (vC (.int 8))))))) sNil) (sSeq (sSet 5 (cF F__law_word (aCons (b2 addD (lstF (szF (aCons (b2 modD (b2 ixD (vSh 4) (vC (.int 0))) (vC (.int 8))) aNil))) (lstF (compF (itF (slF (vSh 4) (pS (vC (.int 1))) (pS (vC (.int 9))))) (gSet 0) tT (b2 modD (vSh 0) (vC (.int 26))) [none]))) aNil))) (sSeq (sSet 6 (cF F__law_word (aCons (b2 addD (lstF (szF (aCons (b2 modD (b2 ixD (vSh 4) (vC (.int 9))) (vC (.int 8))) aNil))) (lstF (compF (itF (slF (vSh 4) (pS (vC (.int 10))) (pS (vC (.int 18))))) (gSet 0) tT (b2 modD (vSh 0) (vC (.int 26))) [none]))) aNil))) (sDPutO 1 (vSh 5) (tupF (szF (aCons (vSh 6) (aCons (b2 ixD (lstF (szF (aCons (b2 modD (b2 ixD (vSh 4) (vC (.int 18))) (vC (.int 10))) (aCons (b2 ixD (vSh 4) (vC (.int 19))) aNil)))) (b2 modD (b2 ixD (vSh 4) (vC (.int 20))) (vC (.int 2)))) aNil)))))))))) (sFrzD 1 (sRet (vSh 1))))))
theorem sc__law_plan : FnScope ["_law_cell_here", "_law_plan_here", "_law_many", "_law_k", "_law_row", "_law_name", "_law_bench"] ["_law_cell_here"] (defScope s__law_plan) := ⟨rfl, rfl, rfl, by decide +kernel, rfl, by decide +kernel, by decide +kernel⟩
theorem cal__law_plan {F__law_digits : List D -> Option D} {F__law_word : List D -> Option D} (F : Dfn K mg "_law_plan" s__law_plan) (B : Bn mg) (c__law_digits : Cal Γ P w K mg base "_law_digits" 3 1 F__law_digits) (c__law_word : Cal Γ P w K mg base "_law_word" 1 1 F__law_word) : Cal Γ P w K mg base "_law_plan" 1 2 (G__law_plan F__law_digits F__law_word) :=
  F.cal (k := 1) sc__law_plan (fun _ _ _ _ _ _ us hl => match us, hl with | [_], _ => rfl) fun f cdv A outer s H E hr =>
    (dss_cons (ds_odk 1 sc__law_plan.nd) (dss_cons (ds_set 2 sc__law_plan.nd (de_mod (de_var 0) de_int)) (dss_cons (ds_for PassesOwn.never rfl (di_range1 rfl B.z_range (da_cons (de_var 2) da_nil)) (dg_name 3 sc__law_plan.nd) (dss_cons (ds_set 4 sc__law_plan.nd (de_cal c__law_digits hr (by decide) rfl (da_cons (de_fdiv (de_var 0) de_int) (da_cons (de_mul de_int (de_var 3)) (da_cons (de_add (de_add (de_add (de_add (DO.de (do_lst (da_cons de_int da_nil))) (de_mul (DO.de (do_lst (da_cons de_int da_nil))) de_int)) (DO.de (do_lst (da_cons de_int da_nil)))) (de_mul (DO.de (do_lst (da_cons de_int da_nil))) de_int)) (DO.de (do_lst (da_cons de_int (da_cons (de_pow de_int de_int) (da_cons de_int da_nil)))))) da_nil))) ln3)) (dss_cons (ds_if (dt_cmp cd_eq (de_mod (de_var 0) de_int) de_int (nomark _)) (dss_one (ds_set 4 sc__law_plan.nd (de_add (de_slice (de_var 4) (dp_some (de_mod (de_var 3) de_int)) dp_none) (de_slice (de_var 4) dp_none (dp_some (de_mod (de_var 3) de_int)))))) dss_nil) (dss_cons (ds_set 5 sc__law_plan.nd (de_cal c__law_word hr (by decide) rfl (da_cons (de_add (DO.de (do_lst (da_cons (de_mod (de_ix (de_var 4) de_int) de_int) da_nil))) (DO.de (do_lc rfl (CompScope.of rfl rfl) (FvOk.of (N' := ["_law_number"]) (fv := [none]) rfl) (di_seq (de_slice (de_var 4) (dp_some de_int) (dp_some de_int))) ⟨fun _ _ _ _ _ => ⟨(dg_name 0 (show (["_law_number"] : List Str).Nodup by decide +kernel)), dts_nil, (de_mod (de_var 0) de_int)⟩⟩))) da_nil) ln1)) (dss_cons (ds_set 6 sc__law_plan.nd (de_cal c__law_word hr (by decide) rfl (da_cons (de_add (DO.de (do_lst (da_cons (de_mod (de_ix (de_var 4) de_int) de_int) da_nil))) (DO.de (do_lc rfl (CompScope.of rfl rfl) (FvOk.of (N' := ["_law_number"]) (fv := [none]) rfl) (di_seq (de_slice (de_var 4) (dp_some de_int) (dp_some de_int))) ⟨fun _ _ _ _ _ => ⟨(dg_name 0 (show (["_law_number"] : List Str).Nodup by decide +kernel)), dts_nil, (de_mod (de_var 0) de_int)⟩⟩))) da_nil) ln1)) (dss_one (ds_dputO 1 (hu66 hr) (de_var 5) (de_tup (da_cons (de_var 6) (da_cons (de_ix (DO.de (do_lst (da_cons (de_mod (de_ix (de_var 4) de_int) de_int) (da_cons (de_ix (de_var 4) de_int) da_nil)))) (de_mod (de_ix (de_var 4) de_int) de_int)) da_nil)))))))))) (dss_frzD 1 (dss_one (ds_ret (de_var 1)))))))
noncomputable def G_shown_plan : List D -> Option D := runD 4
    (sSeq (sOwn 1 (szF aNil)) (sSeq (sFor (itF (cF sortedD (aCons (vSh 0) aNil))) (gSet 2) (sSeq (sSet 3 (b2 ixD (b2 dgetD (vSh 0) (vSh 2)) (vC (.int 0)))) (sSeq (sSet 4 (b2 ixD (b2 dgetD (vSh 0) (vSh 2)) (vC (.int 1)))) (sApp 1 (fsF (aCons (vSh 2) (aCons (vC (.str " ")) (aCons (vSh 3) (aCons (vC (.str " ")) (aCons (vSh 4) aNil)))))))))) (sFrz 1 (sRet (mF joinD (vC (.str "; ")) (aCons (vSh 1) aNil))))))
theorem sc_shown_plan : FnScope ["plan", "rows", "step", "bench", "start"] ["plan"] (defScope s_shown_plan) := ⟨rfl, rfl, rfl, by decide +kernel, rfl, by decide +kernel, by decide +kernel⟩
theorem cal_shown_plan (F : Dfn K mg "shown_plan" s_shown_plan) (B : Bn mg)  : Cal Γ P w K mg base "shown_plan" 1 1 (G_shown_plan) :=
  F.cal (k := 0) sc_shown_plan (fun _ _ _ _ _ _ us hl => match us, hl with | [_], _ => rfl) fun f cdv A outer s H E hr =>
    (dss_cons (ds_own 1 sc_shown_plan.nd (do_lst da_nil)) (dss_cons (ds_for PassesOwn.never rfl (di_seq (de_callB (bd_sorted rfl) rfl B.z_sorted (by rfl) (da_cons (de_var 0) da_nil))) (dg_name 2 sc_shown_plan.nd) (dss_cons (ds_set 3 sc_shown_plan.nd (de_ix (de_dget (hu66 hr) (de_var 0) (de_var 2)) de_int)) (dss_cons (ds_set 4 sc_shown_plan.nd (de_ix (de_dget (hu66 hr) (de_var 0) (de_var 2)) de_int)) (dss_one (ds_append 1 (de_fs (dj_val (de_var 2) (dj_const (dj_val (de_var 3) (dj_const (dj_val (de_var 4) dj_nil))))))))))) (dss_frz 1 (dss_one (ds_ret (de_bm PySem.F.plainAttrs_str PySem.F.slot_str_join PySem.F.type_str_join md_join (de_globS rfl B.c_PARTING) (da_cons (de_var 1) da_nil)))))))
noncomputable def G_is_numeral : List D -> Option D := runD 0
    (sSeq (sIf (orT (toB (b2 eqD (vSh 0) (vC (.str "")))) (andT (toB (b2 eqD (b2 ixD (vSh 0) (vC (.int 0))) (vC (.str "0")))) (toB (b2 neD (vSh 0) (vC (.str "0")))))) (sRet (vC (.bl false))) sNil) (sRet (cF allD (aCons (lstF (compF (itS (vSh 0)) (gSet 0) tT (b2 inSD (vSh 0) (vC (.str "0123456789"))) [none])) aNil))))
theorem sc_is_numeral : FnScope ["word"] ["word"] (defScope s_is_numeral) := ⟨rfl, rfl, rfl, by decide +kernel, rfl, by decide +kernel, by decide +kernel⟩
theorem cal_is_numeral (F : Dfn K mg "is_numeral" s_is_numeral) (B : Bn mg)  : Cal Γ P w K mg base "is_numeral" 1 1 (G_is_numeral) :=
  F.cal (k := 0) sc_is_numeral (fun _ _ _ _ _ _ us hl => match us, hl with | [_], _ => rfl) fun f cdv A outer s H E hr =>
    (dss_cons (ds_if (DW.dt (dw_or (dt_cmp cd_eq (de_var 0) de_str (nomark _)) (dw_or1 (DW.dt (dw_and (dt_cmp cd_eq (de_ix (de_var 0) de_int) de_str (nomark _)) (dw_and1 (dt_cmp cd_ne (de_var 0) de_str (nomark _)))))))) (dss_one (ds_ret de_bl)) dss_nil) (dss_one (ds_ret (de_callB (bd_all rfl) rfl B.z_all (by rfl) (da_cons (DO.de (do_lc rfl (CompScope.of rfl rfl) (FvOk.of (N' := ["sign"]) (fv := [none]) rfl) (di_str (de_var 0)) ⟨fun _ _ _ _ _ => ⟨(dg_name 0 (show (["sign"] : List Str).Nodup by decide +kernel)), dts_nil, (de_cmp cd_inS (de_var 0) (de_globS rfl B.c_FIGURES) (by rfl))⟩⟩)) da_nil)))))
noncomputable def G_is_name : List D -> Option D := runD 0
    (sSeq (sIf (orT (notT (toB (cF isiD (aCons (vSh 0) (aCons (vC (.ty "str")) aNil))))) (notT (toB (chD leD leD (vC (.int 1)) (cF lenD (aCons (vSh 0) aNil)) (vC (.int 8)))))) (sRet (vC (.bl false))) sNil) (sRet (cF allD (aCons (lstF (compF (itS (vSh 0)) (gSet 0) tT (chD leD leD (vC (.str "a")) (vSh 0) (vC (.str "z"))) [none])) aNil))))
theorem sc_is_name : FnScope ["thing"] ["thing"] (defScope s_is_name) := ⟨rfl, rfl, rfl, by decide +kernel, rfl, by decide +kernel, by decide +kernel⟩
theorem cal_is_name (F : Dfn K mg "is_name" s_is_name) (B : Bn mg)  : Cal Γ P w K mg base "is_name" 1 1 (G_is_name) :=
  F.cal (k := 0) sc_is_name (fun _ _ _ _ _ _ us hl => match us, hl with | [_], _ => rfl) fun f cdv A outer s H E hr =>
    (dss_cons (ds_if (DW.dt (dw_or (dt_not (dt_val (de_callB bd_isi rfl B.z_isinstance (by rfl) (da_cons (de_var 0) (da_cons (de_ty rfl B.z_str (by rfl)) da_nil))))) (dw_or1 (dt_not (dt_chain cd_le cd_le de_int (de_callB bd_len rfl B.z_len (by rfl) (da_cons (de_var 0) da_nil)) (de_globI rfl B.c_LONGEST_NAME)))))) (dss_one (ds_ret de_bl)) dss_nil) (dss_one (ds_ret (de_callB (bd_all rfl) rfl B.z_all (by rfl) (da_cons (DO.de (do_lc rfl (CompScope.of rfl rfl) (FvOk.of (N' := ["sign"]) (fv := [none]) rfl) (di_str (de_var 0)) ⟨fun _ _ _ _ _ => ⟨(dg_name 0 (show (["sign"] : List Str).Nodup by decide +kernel)), dts_nil, (de_chain cd_le cd_le de_str (de_var 0) de_str)⟩⟩)) da_nil)))))
noncomputable def G_is_plan_row (F_is_numeral : List D -> Option D) (F_is_name : List D -> Option D) : List D -> Option D := runD 0
    (sRet (andD (b2 eqD (cF lenD (aCons (vSh 0) aNil)) (vC (.int 3))) (andD (cF F_is_name (aCons (b2 ixD (vSh 0) (vC (.int 0))) aNil)) (andD (cF F_is_name (aCons (b2 ixD (vSh 0) (vC (.int 1))) aNil)) (cF F_is_numeral (aCons (b2 ixD (vSh 0) (vC (.int 2))) aNil))))))
theorem sc_is_plan_row : FnScope ["words"] ["words"] (defScope s_is_plan_row) := ⟨rfl, rfl, rfl, by decide +kernel, rfl, by decide +kernel, by decide +kernel⟩
theorem cal_is_plan_row {F_is_numeral : List D -> Option D} {F_is_name : List D -> Option D} (F : Dfn K mg "is_plan_row" s_is_plan_row) (B : Bn mg) (c_is_numeral : Cal Γ P w K mg base "is_numeral" 1 1 F_is_numeral) (c_is_name : Cal Γ P w K mg base "is_name" 1 1 F_is_name) : Cal Γ P w K mg base "is_plan_row" 1 2 (G_is_plan_row F_is_numeral F_is_name) :=
  F.cal (k := 1) sc_is_plan_row (fun _ _ _ _ _ _ us hl => match us, hl with | [_], _ => rfl) fun f cdv A outer s H E hr =>
    (dss_one (ds_ret (de_and (de_cmp cd_eq (de_callB bd_len rfl B.z_len (by rfl) (da_cons (de_var 0) da_nil)) de_int (nomark _)) (de_and (de_cal c_is_name hr (by decide) rfl (da_cons (de_ix (de_var 0) de_int) da_nil) ln1) (de_and (de_cal c_is_name hr (by decide) rfl (da_cons (de_ix (de_var 0) de_int) da_nil) ln1) (de_one (de_cal c_is_numeral hr (by decide) rfl (da_cons (de_ix (de_var 0) de_int) da_nil) ln1)))))))
noncomputable def G_number_of : List D -> Option D := runD 2
    (sSeq (sSet 1 (vC (.int 0))) (sSeq (sFor (itS (vSh 0)) (gSet 2) (sSet 1 (b2 addD (b2 mulD (vSh 1) (vC (.int 10))) (mF indexD (vC (.str "0123456789")) (aCons (vSh 2) aNil))))) (sRet (vSh 1))))
theorem sc_number_of : FnScope ["numeral", "number", "sign"] ["numeral"] (defScope s_number_of) := ⟨rfl, rfl, rfl, by decide +kernel, rfl, by decide +kernel, by decide +kernel⟩
theorem cal_number_of (F : Dfn K mg "number_of" s_number_of) (B : Bn mg)  : Cal Γ P w K mg base "number_of" 1 1 (G_number_of) :=
  F.cal (k := 0) sc_number_of (fun _ _ _ _ _ _ us hl => match us, hl with | [_], _ => rfl) fun f cdv A outer s H E hr =>
    (dss_cons (ds_set 1 sc_number_of.nd de_int) (dss_cons (ds_for PassesOwn.never rfl (di_str (de_var 0)) (dg_name 2 sc_number_of.nd) (dss_one (ds_set 1 sc_number_of.nd (de_add (de_mul (de_var 1) de_int) (de_bm PySem.F.plainAttrs_str PySem.F.slot_str_index PySem.F.type_str_index md_index (de_globS rfl B.c_FIGURES) (da_cons (de_var 2) da_nil)))))) (dss_one (ds_ret (de_var 1)))))
noncomputable def G_read_plan (F_is_plan_row : List D -> Option D) (F_number_of : List D -> Option D) : List D -> Option (List (Key × D)) := runOD 4
    (sSeq (sIf (notT (toB (cF isiD (aCons (vSh 0) (aCons (vC (.ty "str")) aNil))))) sNo sNil) (sSeq (sOdk 1) (sSeq (sIf (toB (b2 eqD (vSh 0) (vC (.str "")))) (sRetD 1) sNil) (sSeq (sSet 2 (vC (.str ""))) (sSeq (sFor (itF (mF splitD (vSh 0) (aCons (vC (.str "; ")) aNil))) (gSet 3) (sSeq (sSet 4 (mF splitD (vSh 3) (aCons (vC (.str " ")) aNil))) (sSeq (sIf (notT (toB (cF F_is_plan_row (aCons (vSh 4) aNil)))) sNo sNil) (sSeq (sIf (toB (b2 leD (b2 ixD (vSh 4) (vC (.int 0))) (vSh 2))) sNo sNil) (sSeq (sDPutO 1 (b2 ixD (vSh 4) (vC (.int 0))) (tupF (szF (aCons (b2 ixD (vSh 4) (vC (.int 1))) (aCons (cF F_number_of (aCons (b2 ixD (vSh 4) (vC (.int 2))) aNil)) aNil))))) (sSet 2 (b2 ixD (vSh 4) (vC (.int 0))))))))) (sRetD 1))))))
theorem sc_read_plan : FnScope ["text", "plan", "step_ahead", "row", "words"] ["text"] (defScope s_read_plan) := ⟨rfl, rfl, rfl, by decide +kernel, rfl, by decide +kernel, by decide +kernel⟩
theorem cal_read_plan {F_is_plan_row : List D -> Option D} {F_number_of : List D -> Option D} (F : Dfn K mg "read_plan" s_read_plan) (B : Bn mg) (c_is_plan_row : Cal Γ P w K mg base "is_plan_row" 1 2 F_is_plan_row) (c_number_of : Cal Γ P w K mg base "number_of" 1 1 F_number_of) : CalD Γ P w K mg base "read_plan" 1 3 (G_read_plan F_is_plan_row F_number_of) :=
  F.calOD (k := 2) sc_read_plan (fun _ _ _ _ _ _ us hl => match us, hl with | [_], _ => rfl) fun f cdv A outer s H E hr =>
    (dss_cons (ds_if (dt_not (dt_val (de_callB bd_isi rfl B.z_isinstance (by rfl) (da_cons (de_var 0) (da_cons (de_ty rfl B.z_str (by rfl)) da_nil))))) (dss_one ds_no) dss_nil) (dss_cons (ds_odk 1 sc_read_plan.nd) (dss_cons (ds_if (dt_cmp cd_eq (de_var 0) de_str (nomark _)) (dss_one (ds_retD 1)) dss_nil) (dss_cons (ds_set 2 sc_read_plan.nd de_str) (dss_cons (ds_for PassesOwn.never rfl (di_seq (de_bm PySem.F.plainAttrs_str PySem.F.slot_str_split PySem.F.type_str_split md_split (de_var 0) (da_cons (de_globS rfl B.c_PARTING) da_nil))) (dg_name 3 sc_read_plan.nd) (dss_cons (ds_set 4 sc_read_plan.nd (de_bm PySem.F.plainAttrs_str PySem.F.slot_str_split PySem.F.type_str_split md_split (de_var 3) (da_cons de_str da_nil))) (dss_cons (ds_if (dt_not (dt_val (de_cal c_is_plan_row hr (by decide) rfl (da_cons (de_var 4) da_nil) ln1))) (dss_one ds_no) dss_nil) (dss_cons (ds_if (dt_cmp cd_le (de_ix (de_var 4) de_int) (de_var 2) (nomark _)) (dss_one ds_no) dss_nil) (dss_cons (ds_dputO 1 (hu66 hr) (de_ix (de_var 4) de_int) (de_tup (da_cons (de_ix (de_var 4) de_int) (da_cons (de_cal c_number_of hr (by decide) rfl (da_cons (de_ix (de_var 4) de_int) da_nil) ln1) da_nil)))) (dss_one (ds_set 2 sc_read_plan.nd (de_ix (de_var 4) de_int)))))))) (dss_one (ds_retD 1)))))))
noncomputable def G_law (F__law_plan : List D -> Option D) (F_shown_plan : List D -> Option D) (F_read_plan : List D -> Option (List (Key × D))) : List D -> Option D := runD 8
    (sSeq (sFor (itF (b2 addD (lstF (szF (aCons (vC (.int 0)) aNil))) (slF (vSh 0) pN (pS (vC (.int 60)))))) (gSet 1) (sSeq (sSet 2 (cF F__law_plan (aCons (vSh 1) aNil))) (sSeq (sSet 3 (mF joinD (vC (.str "; ")) (aCons (lstF (compF (itF (cF sortedD (aCons (vSh 2) aNil))) (gSet 0) tT (mF joinD (vC (.str " ")) (aCons (lstF (szF (aCons (vSh 0) (aCons (b2 ixD (b2 dgetD (vSh 1) (vSh 0)) (vC (.int 0))) (aCons (cF strD (aCons (b2 ixD (b2 dgetD (vSh 1) (vSh 0)) (vC (.int 1))) aNil)) aNil))))) aNil)) [none, some 2])) aNil))) (sSeq (sSet 4 (cF dictKD (aCons (b1 revD (b1 itemsOf (vSh 2))) aNil))) (sSeq (sSet 5 (cF F_shown_plan (aCons (vSh 4) aNil))) (sSeq (sIf (orT (notT (toB (cF isiD (aCons (vSh 5) (aCons (vC (.ty "str")) aNil))))) (orT (toB (b2 neA (vSh 5) (vSh 3))) (toB (b2 dNeD (vSh 4) (vSh 2))))) (sRet (vC (.bl false))) sNil) (sSeq (sOdC 6 F_read_plan (aCons (vSh 3) aNil)) (sSeq (sIf (bwTD 6 (orT (notT (toB (cF isiD (aCons (vSh 6) (aCons (vC (.ty "dict")) aNil))))) (toB (b2 dNeD (vSh 6) (vSh 2))))) (sRet (vC (.bl false))) sNil) (sSeq (sForV 6 (gTupD 2 (gsCons (gSet 7) (gsCons (gSet 8) gsNil))) (sIf (orT (toB (cF isiD (aCons (vSh 8) (aCons (vC (.ty "bool")) aNil)))) (orT (notT (toB (cF isiD (aCons (vSh 8) (aCons (vC (.ty "int")) aNil))))) (notT (toB (cF isiD (aCons (vSh 7) (aCons (vC (.ty "str")) aNil))))))) (sRet (vC (.bl false))) sNil)) (sSeq (sClr 6) (sIf (toB (b2 dNeD (cF (dkF F_read_plan) (aCons (vSh 3) aNil)) (vSh 2))) (sRet (vC (.bl false))) sNil))))))))))) (sRet (vC (.bl true))))
theorem sc_law : FnScope ["_law_script", "_law_cell_here", "_law_plan_here", "_law_due", "_law_handed", "_law_found", "_law_told", "_law_bench", "_law_start"] ["_law_script"] (defScope s_law) := ⟨rfl, rfl, rfl, by decide +kernel, rfl, by decide +kernel, by decide +kernel⟩
theorem bod_law {F__law_plan : List D -> Option D} {F_shown_plan : List D -> Option D} {F_read_plan : List D -> Option (List (Key × D))} (B : Bn mg) (c__law_plan : Cal Γ P w K mg base "_law_plan" 1 2 F__law_plan) (c_shown_plan : Cal Γ P w K mg base "shown_plan" 1 1 F_shown_plan) (c_read_plan : CalD Γ P w K mg base "read_plan" 1 3 F_read_plan) (f : Addr) (cdv : Value) (A : Around) (outer : List Env) (s : Shared) (H : Hp) (E : XK) (hr : Room 3 (A.deeper (envOfC "law" (defScope s_law) s.heap.objs.size f cdv))) : DSs Γ (cxOf CX0 P w K mg base ["_law_script", "_law_cell_here", "_law_plan_here", "_law_due", "_law_handed", "_law_found", "_law_told", "_law_bench", "_law_start"] "law" (defScope s_law) f cdv A outer s H E).nox (defBody s_law)
    (sSeq (sFor (itF (b2 addD (lstF (szF (aCons (vC (.int 0)) aNil))) (slF (vSh 0) pN (pS (vC (.int 60)))))) (gSet 1) (sSeq (sSet 2 (cF F__law_plan (aCons (vSh 1) aNil))) (sSeq (sSet 3 (mF joinD (vC (.str "; ")) (aCons (lstF (compF (itF (cF sortedD (aCons (vSh 2) aNil))) (gSet 0) tT (mF joinD (vC (.str " ")) (aCons (lstF (szF (aCons (vSh 0) (aCons (b2 ixD (b2 dgetD (vSh 1) (vSh 0)) (vC (.int 0))) (aCons (cF strD (aCons (b2 ixD (b2 dgetD (vSh 1) (vSh 0)) (vC (.int 1))) aNil)) aNil))))) aNil)) [none, some 2])) aNil))) (sSeq (sSet 4 (cF dictKD (aCons (b1 revD (b1 itemsOf (vSh 2))) aNil))) (sSeq (sSet 5 (cF F_shown_plan (aCons (vSh 4) aNil))) (sSeq (sIf (orT (notT (toB (cF isiD (aCons (vSh 5) (aCons (vC (.ty "str")) aNil))))) (orT (toB (b2 neA (vSh 5) (vSh 3))) (toB (b2 dNeD (vSh 4) (vSh 2))))) (sRet (vC (.bl false))) sNil) (sSeq (sOdC 6 F_read_plan (aCons (vSh 3) aNil)) (sSeq (sIf (bwTD 6 (orT (notT (toB (cF isiD (aCons (vSh 6) (aCons (vC (.ty "dict")) aNil))))) (toB (b2 dNeD (vSh 6) (vSh 2))))) (sRet (vC (.bl false))) sNil) (sSeq (sForV 6 (gTupD 2 (gsCons (gSet 7) (gsCons (gSet 8) gsNil))) (sIf (orT (toB (cF isiD (aCons (vSh 8) (aCons (vC (.ty "bool")) aNil)))) (orT (notT (toB (cF isiD (aCons (vSh 8) (aCons (vC (.ty "int")) aNil))))) (notT (toB (cF isiD (aCons (vSh 7) (aCons (vC (.ty "str")) aNil))))))) (sRet (vC (.bl false))) sNil)) (sSeq (sClr 6) (sIf (toB (b2 dNeD (cF (dkF F_read_plan) (aCons (vSh 3) aNil)) (vSh 2))) (sRet (vC (.bl false))) sNil))))))))))) (sRet (vC (.bl true)))) :=
    (dss_cons (ds_for PassesOwn.never rfl (di_seq (de_add (DO.de (do_lst (da_cons de_int da_nil))) (de_slice (de_var 0) dp_none (dp_some de_int)))) (dg_name 1 sc_law.nd) (dss_cons (ds_set 2 sc_law.nd (de_cal c__law_plan hr (by decide) rfl (da_cons (de_var 1) da_nil) ln1)) (dss_cons (ds_set 3 sc_law.nd (de_bm PySem.F.plainAttrs_str PySem.F.slot_str_join PySem.F.type_str_join md_join de_str (da_cons (DO.de (do_lc rfl (CompScope.of rfl rfl) (FvOk.of (N' := ["_law_name", "_law_plan_here"]) (fv := [none, some 2]) rfl) (di_seq (de_callB (bd_sorted rfl) rfl B.z_sorted (by rfl) (da_cons (de_var 2) da_nil))) ⟨fun _ _ _ _ _ => ⟨(dg_name 0 (show (["_law_name", "_law_plan_here"] : List Str).Nodup by decide +kernel)), dts_nil, (de_bm PySem.F.plainAttrs_str PySem.F.slot_str_join PySem.F.type_str_join md_join de_str (da_cons (DO.de (do_lst (da_cons (de_var 0) (da_cons (de_ix (de_dget (hu66 hr) (de_var 1) (de_var 0)) de_int) (da_cons (de_callTy td_str rfl B.z_str (by rfl) (da_cons (de_ix (de_dget (hu66 hr) (de_var 1) (de_var 0)) de_int) da_nil)) da_nil))))) da_nil))⟩⟩)) da_nil))) (dss_cons (ds_set 4 sc_law.nd (de_callTy (td_dictK rfl (hu66 hr)) rfl B.z_dict (by rfl) (da_cons (de_rev (de_items rfl rfl B.z_list (de_var 2))) da_nil))) (dss_cons (ds_set 5 sc_law.nd (de_cal c_shown_plan hr (by decide) rfl (da_cons (de_var 4) da_nil) ln1)) (dss_cons (ds_if (DW.dt (dw_or (dt_not (dt_val (de_callB bd_isi rfl B.z_isinstance (by rfl) (da_cons (de_var 5) (da_cons (de_ty rfl B.z_str (by rfl)) da_nil))))) (dw_or (dt_cmp (cd_neA (hu64 hr)) (de_var 5) (de_var 3) (nomark _)) (dw_or1 (dt_cmp (cd_dne (hu66 hr)) (de_var 4) (de_var 2) (nomark _)))))) (dss_one (ds_ret de_bl)) dss_nil) (dss_cons (ds_odC 6 sc_law.nd c_read_plan hr (by decide) rfl (da_cons (de_var 3) da_nil) ln1) (dss_cons (ds_if (dt_bwD 6 (DW.dt (dw_or (dt_not (dt_val (de_callB bd_isi rfl B.z_isinstance (by rfl) (da_cons (de_var 6) (da_cons (de_ty rfl B.z_dict (by rfl)) da_nil))))) (dw_or1 (dt_cmp (cd_dne (hu66 hr)) (de_var 6) (de_var 2) (nomark _)))))) (dss_one (ds_ret de_bl)) dss_nil) (dss_cons (ds_forV 6 PassesOwn.never rfl (dg_tup (n := 2) rfl (dgs_cons (dg_name 7 sc_law.nd) (dgs_cons (dg_name 8 sc_law.nd) dgs_nil))) (dss_one (ds_if (DW.dt (dw_or (dt_val (de_callB bd_isi rfl B.z_isinstance (by rfl) (da_cons (de_var 8) (da_cons (de_ty rfl B.z_bool (by rfl)) da_nil)))) (dw_or (dt_not (dt_val (de_callB bd_isi rfl B.z_isinstance (by rfl) (da_cons (de_var 8) (da_cons (de_ty rfl B.z_int (by rfl)) da_nil))))) (dw_or1 (dt_not (dt_val (de_callB bd_isi rfl B.z_isinstance (by rfl) (da_cons (de_var 7) (da_cons (de_ty rfl B.z_str (by rfl)) da_nil))))))))) (dss_one (ds_ret de_bl)) dss_nil))) (dss_cons (ds_clr 6) (dss_one (ds_if (dt_cmp (cd_dne (hu66 hr)) (de_cal (c_read_plan).cal hr (by decide) rfl (da_cons (de_var 3) da_nil) ln1) (de_var 2) (nomark _)) (dss_one (ds_ret de_bl)) dss_nil)))))))))))) (dss_one (ds_ret de_bl)))
end Law
end
section
namespace Law
open PySem L2 PySem.Spec PyProof.Rows
noncomputable def F__law_digits : List D -> Option D := G__law_digits
noncomputable def F__law_word : List D -> Option D := G__law_word
noncomputable def F__law_plan : List D -> Option D := G__law_plan F__law_digits F__law_word
noncomputable def F_shown_plan : List D -> Option D := G_shown_plan
noncomputable def F_is_numeral : List D -> Option D := G_is_numeral
noncomputable def F_is_name : List D -> Option D := G_is_name
noncomputable def F_is_plan_row : List D -> Option D := G_is_plan_row F_is_numeral F_is_name
noncomputable def F_number_of : List D -> Option D := G_number_of
noncomputable def F_read_plan : List D -> Option (List (Key × D)) := G_read_plan F_is_plan_row F_number_of
noncomputable def F_law : List D -> Option D := G_law F__law_plan F_shown_plan F_read_plan
end Law
end
section
namespace Law
open PySem L2 PySem.StrLaws PySem.Builtin.Str
theorem at_pre {x y : Str} {c0 : Nat} {r : List Nat} (hy : y.cps.toList = c0 :: r) {k : Nat} (h : At x y x.length k) : x.cps.toList[k]? = some c0 := by
  have h2 := h.2
  rw [subAt_eq, hy] at h2
  have e := eq_of_beq h2
  have e0 : ((x.cps.toList.drop k).take y.length)[0]? = some c0 := by rw [e]; rfl
  have hl : 0 < y.length := by
    have : y.cps.toList.length = (c0 :: r).length := by rw [hy]
    simp only [Array.length_toList, List.length_cons] at this
    show 0 < y.cps.size
    omega
  rw [List.getElem?_take_of_lt hl, List.getElem?_drop] at e0
  simpa using e0
theorem at_of {x y : Str} {k : Nat} {l : List Nat} (hk : k <= x.length) (h : x.cps.toList.drop k = y.cps.toList ++ l) : At x y x.length k := by
  have hy : y.cps.toList.length = y.length := by simp [Str.length]
  have hx : x.cps.toList.length = x.length := by simp [Str.length]
  refine ⟨?_, ?_⟩
  · have := congrArg List.length h
    rw [List.length_drop, List.length_append, hy, hx] at this
    omega
  · rw [subAt_eq, h, ← hy, List.take_left]
    simp
theorem strSub_eq {x p : Str} {a b : Nat} {l : List Nat} (h : x.cps.toList.drop a = p.cps.toList ++ l) (hb : b - a = p.length) : strSub x a b = p := by
  apply Str.ext'
  apply Array.toList_inj.mp
  have hp : p.cps.toList.length = p.length := by simp [Str.length]
  rw [strSub_toList, h, hb, ← hp, List.take_left]
theorem join_list (y p q : Str) (r : List Str) : (Str.join y (p :: q :: r)).cps.toList = p.cps.toList ++ (y.cps.toList ++ (Str.join y (q :: r)).cps.toList) := by
  show ((p ++ y ++ Str.join y (q :: r)).cps).toList = _
  simp only [Str.cps_append, Array.toList_append, List.append_assoc]
theorem parts_join {x y : Str} {c0 : Nat} {w : List Nat} (hy : y.cps.toList = c0 :: w) : ∀ (ps : List Str) (p : Str) (a : Nat) (cuts : List Nat) (f : Nat), a <= x.length -> x.cps.toList.drop a = (Str.join y (p :: ps)).cps.toList -> (∀ q ∈ p :: ps, c0 ∉ q.cps.toList) ->
    ChainG x y x.length a cuts f -> (∀ k, f <= k -> ¬ At x y x.length k) -> partsFrom x y.length a cuts = p :: ps
  | [], p, a, cuts, f, ha, hx, hf, hc, hn => by
    have hx' : x.cps.toList.drop a = p.cps.toList := hx
    cases cuts with
    | nil =>
      show [strSub x a x.length] = [p]
      rw [strSub_eq (l := []) (by rw [hx', List.append_nil])]
      have := congrArg List.length hx'
      simp only [List.length_drop, Array.length_toList] at this
      exact this
    | cons c r =>
      have h1 := at_pre hy hc.2.1
      have h2 : (x.cps.toList.drop a)[c - a]? = some c0 := by rw [List.getElem?_drop, Nat.add_sub_cancel' hc.1]; exact h1
      rw [hx'] at h2
      exact absurd (List.mem_of_getElem? h2) (hf p List.mem_cons_self)
  | q :: ps, p, a, cuts, f, ha, hx, hf, hc, hn => by
    rw [join_list] at hx
    have hpl : p.cps.toList.length = p.length := by simp [Str.length]
    have hyl : y.cps.toList.length = y.length := by simp [Str.length]
    have hd : x.cps.toList.drop (a + p.length) = y.cps.toList ++ (Str.join y (q :: ps)).cps.toList := by
      rw [← List.drop_drop, hx, ← hpl, List.drop_left]
    have hle : a + p.length <= x.length := by
      have := congrArg List.length hx
      rw [List.length_drop, List.length_append, hpl] at this
      have hx2 : x.cps.toList.length = x.length := by simp [Str.length]
      omega
    have hA : At x y x.length (a + p.length) := at_of hle hd
    have low : ∀ k, a <= k -> At x y x.length k -> a + p.length <= k := fun k hk h => by
      rcases Nat.lt_or_ge k (a + p.length) with z | z
      · have h1 := at_pre hy h
        have h2 : (x.cps.toList.drop a)[k - a]? = some c0 := by rw [List.getElem?_drop, Nat.add_sub_cancel' hk]; exact h1
        rw [hx, List.getElem?_append_left (by rw [hpl]; omega)] at h2
        exact absurd (List.mem_of_getElem? h2) (hf p List.mem_cons_self)
      · exact z
    cases cuts with
    | nil =>
      have e : f = a := hc
      subst e
      exact absurd hA (hn _ (Nat.le_add_right _ _))
    | cons c r =>
      obtain ⟨c1, c2, c3, c4⟩ := hc
      have e : c = a + p.length := by
        have := low c c1 c2
        rcases Nat.lt_or_ge (a + p.length) c with z | z
        · exact absurd hA (c3 _ (Nat.le_add_right _ _) z)
        · omega
      subst e
      show strSub x a (a + p.length) :: partsFrom x y.length (a + p.length + y.length) r = p :: q :: ps
      rw [strSub_eq hx (by omega), parts_join hy ps q (a + p.length + y.length) r f hA.1 (by rw [← List.drop_drop, hd, ← hyl, List.drop_left]) (fun z hz => hf z (List.mem_cons_of_mem _ hz)) c4 hn]
theorem split_join {y : Str} {c0 : Nat} {w : List Nat} (hy : y.cps.toList = c0 :: w) (hk : Builtin.Str.strKind y = 1) (p : Str) (ps : List Str) (hf : ∀ q ∈ p :: ps, c0 ∉ q.cps.toList) : Txt.split (Txt.join y (p :: ps)) y = p :: ps := by
  have ej : Txt.join y (p :: ps) = Str.join y (p :: ps) := glued_eq_join y _
  rw [ej]
  generalize hX : Str.join y (p :: ps) = x
  have hyl : 1 <= y.length := by
    have : y.cps.toList.length = (c0 :: w).length := by rw [hy]
    simp only [Array.length_toList, List.length_cons] at this
    show 1 <= y.cps.size
    omega
  obtain ⟨f, hc, hn⟩ := occ_tight x y hyl
  have key := parts_join hy ps p 0 _ f (Nat.zero_le _) (by rw [List.drop_zero, hX]) hf hc hn
  have whole : (occurrences x y 0 x.length (x.length + 1)) = [] -> [x] = p :: ps := fun e => by
    rw [e] at key
    rw [← key]
    show [x] = [strSub x 0 x.length]
    rw [sub_whole]
  unfold Txt.split
  split
  · rename_i h1
    rw [Bool.or_eq_true, decide_eq_true_eq, decide_eq_true_eq] at h1
    apply whole
    cases e : occurrences x y 0 x.length (x.length + 1) with
    | nil => rfl
    | cons c r =>
      rw [e] at hc
      have := hc.2.1.1
      rcases h1 with h1 | h1
      · omega
      · rw [hk] at h1
        have : 1 <= Builtin.Str.strKind x := by unfold Builtin.Str.strKind; split; exact Nat.le_refl _; split <;> decide
        omega
  · split
    · rename_i h2
      exact whole (List.isEmpty_iff.mp h2)
    · rw [partsBetween_eq]; exact key
end Law
end
section
namespace Law
open PySem L2
theorem atI_nat {α : Type} (l : List α) (n : Nat) : atI l (n : Int) = l[n]? := by
  unfold atI ixN
  rw [if_pos (by omega)]
  by_cases h : n < l.length
  · rw [if_pos (by omega)]; simp
  · rw [if_neg (by omega)]; simp; omega
theorem mulD_int {a b : Int} (h : (-(2 ^ 64) < a /\ a < 2 ^ 64) \/ (-(2 ^ 64) < b /\ b < 2 ^ 64)) : mulD (.int a) (.int b) = some (.int (a * b)) := if_pos h
theorem comp0 {fe : FE} {r : Env'} {f : D -> D} : ∀ {xs : List D} {a : Option Slot}, (∀ x ∈ xs, fe (some (.sh x) :: r) = some (f x)) -> compL (gSet 0) tT fe xs (a :: r) = some (xs.map f)
  | [], _, _ => rfl
  | x :: xs, a, h => by
    have h1 := h x List.mem_cons_self
    have ih := comp0 (xs := xs) (a := some (.sh x)) fun y hy => h y (List.mem_cons_of_mem _ hy)
    simp only [compL, gSet, List.set_cons_zero, Option.bind_some, tT, if_true, h1, ih, Option.map_some, List.map_cons]
theorem bls_all : ∀ {l : List D}, (∀ x ∈ l, x = .bl true) -> ∃ bs : List Bool, blsD l = some bs /\ bs.all id = true
  | [], _ => ⟨[], rfl, rfl⟩
  | x :: r, h => by
    obtain ⟨bs, h1, h2⟩ := bls_all (l := r) fun y hy => h y (List.mem_cons_of_mem _ hy)
    have hx := h x List.mem_cons_self
    subst hx
    exact ⟨true :: bs, by simp [blsD, h1], by simpa using h2⟩
theorem all_comp {fi : FA} {fe : FE} {fv : List (Option Nat)} {ρ r : Env'} {a : Option Slot} {xs : List D} (h1 : fi ρ = some xs) (h2 : xs.length <= sizeLine) (h3 : fvEnv fv ρ = a :: r) (h : ∀ x ∈ xs, fe (some (.sh x) :: r) = some (.bl true)) :
    cF allD (aCons (lstF (compF fi (gSet 0) tT fe fv)) aNil) ρ = some (.bl true) := by
  have c := comp0 (a := a) (f := fun _ => .bl true) h
  obtain ⟨bs, e1, e2⟩ := bls_all (l := xs.map fun _ => D.bl true) (by simp)
  simp only [cF, aCons, aNil, lstF, compF, h1, Option.bind_some, if_pos h2, h3, c, Option.map_some, allD, e1]
  simpa using e2
theorem list_comp {fi : FA} {fe : FE} {fv : List (Option Nat)} {ρ r : Env'} {a : Option Slot} {xs : List D} {f : D -> D} (h1 : fi ρ = some xs) (h2 : xs.length <= sizeLine) (h3 : fvEnv fv ρ = a :: r) (h : ∀ x ∈ xs, fe (some (.sh x) :: r) = some (f x)) :
    lstF (compF fi (gSet 0) tT fe fv) ρ = some (.lst (xs.map f)) := by
  simp only [lstF, compF, h1, Option.bind_some, if_pos h2, h3, comp0 (a := a) h, Option.map_some]
theorem b2_of {g : D -> D -> Option D} {fa fb : FE} {ρ : Env'} {x y z : D} (h1 : fa ρ = some x) (h2 : fb ρ = some y) (h3 : g x y = some z) : b2 g fa fb ρ = some z := by
  unfold b2; rw [h1, Option.bind_some, h2, Option.bind_some]; exact h3
theorem b1_of {g : D -> Option D} {fa : FE} {ρ : Env'} {x z : D} (h1 : fa ρ = some x) (h3 : g x = some z) : b1 g fa ρ = some z := by
  unfold b1; rw [h1]; exact h3
theorem cF_of {g : List D -> Option D} {fr : FA} {ρ : Env'} {ds : List D} {z : D} (h1 : fr ρ = some ds) (h2 : g ds = some z) : cF g fr ρ = some z := by
  unfold cF; rw [h1]; exact h2
theorem mF_of {g : D -> List D -> Option D} {f : FE} {fr : FA} {ρ : Env'} {d : D} {ds : List D} {z : D} (h0 : f ρ = some d) (h1 : fr ρ = some ds) (h2 : g d ds = some z) : mF g f fr ρ = some z := by
  unfold mF; rw [h0, Option.bind_some, h1]; exact h2
theorem cons_of {f : FE} {fr : FA} {ρ : Env'} {d : D} {ds : List D} (h1 : f ρ = some d) (h2 : fr ρ = some ds) : aCons f fr ρ = some (d :: ds) := by
  unfold aCons; rw [h1, Option.bind_some, h2]; rfl
theorem one_of {f : FE} {ρ : Env'} {d : D} (h1 : f ρ = some d) : aCons f aNil ρ = some [d] := cons_of h1 rfl
theorem run_of {n : Nat} {g : FS} {ds : List D} {d : D} {ρ' : Env'} (h : g (ds.map (fun d => some (Slot.sh d)) ++ List.replicate n none) = some (.rt d, ρ')) : runD n g ds = some d := by
  unfold runD; rw [h]; rfl
theorem run_to {n : Nat} {g : FS} {ds : List D} {d : D} (ρ : Env') {ρ' : Env'} (e : ds.map (fun d => some (Slot.sh d)) ++ List.replicate n none = ρ) (h : g ρ = some (.rt d, ρ')) : runD n g ds = some d := by
  subst e; exact run_of h
theorem ret_of {f : FE} {ρ : Env'} {d : D} (h : f ρ = some d) : sRet f ρ = some (.rt d, ρ) := by unfold sRet; rw [h]; rfl
theorem toB_of {f : FE} {ρ : Env'} {b : Bool} (h : f ρ = some (.bl b)) : toB f ρ = some b := by unfold toB; rw [h]; rfl
theorem skip_of {ft : FT} {X E : FS} {ρ : Env'} (h : ft ρ = some false) : sSeq (sIf ft X sNil) E ρ = E ρ := by
  simp only [sSeq, sIf, h, Option.bind_some, Bool.false_eq_true, if_false, sNil]
theorem take_of {ft : FT} {X Y E : FS} {ρ : Env'} (h : ft ρ = some true) : sSeq (sIf ft X Y) E ρ = sSeq X E ρ := by
  simp only [sSeq, sIf, h, Option.bind_some, if_true]
theorem not_of {A : FE} {ρ : Env'} (hA : A ρ = some (.bl true)) : notT (toB A) ρ = some false := by
  simp only [notT, toB_of hA, Option.map_some, Bool.not_true]
theorem or_of {f g : FT} {ρ : Env'} (h1 : f ρ = some false) (h2 : g ρ = some false) : orT f g ρ = some false := by
  simp only [orT, h1, Option.bind_some, Bool.false_eq_true, if_false, h2]
theorem and_of {A B : FE} {ρ : Env'} (hA : A ρ = some (.bl true)) (hB : B ρ = some (.bl true)) : andD A B ρ = some (.bl true) := by
  simp only [andD, hA, hB, Option.bind_some]
theorem set_of {i : Nat} {f : FE} {g : FS} {ρ : Env'} {d : D} (h : f ρ = some d) : sSeq (sSet i f) g ρ = g (ρ.set i (some (.sh d))) := by
  simp only [sSeq, sSet, h, Option.map_some, Option.bind_some]
theorem for_of {fi : FA} {gg : FG} {body E : FS} {ρ ρ' : Env'} {xs : List D} (h1 : fi ρ = some xs) (h2 : forL gg body xs ρ = some (.nx, ρ')) : sSeq (sFor fi gg body) E ρ = E ρ' := by
  simp only [sSeq, sFor, h1, Option.bind_some, h2]
theorem seq_of {g g' : FS} {ρ ρ1 : Env'} (h : g ρ = some (.nx, ρ1)) : sSeq g g' ρ = g' ρ1 := by
  simp only [sSeq, h, Option.bind_some]
def az (c : Nat) : Bool := !ltS ⟨#[c]⟩ "a" && !ltS "z" ⟨#[c]⟩
theorem az_iff {c : Nat} : az c = true ↔ 97 <= c /\ c <= 122 := by
  have z : ("z" : Str) = ⟨#[122]⟩ := by decide +kernel
  have a : ("a" : Str) = ⟨#[97]⟩ := by decide +kernel
  unfold az ltS
  rw [z, a]
  simp only [Bool.and_eq_true, Bool.not_eq_true', decide_eq_false_iff_not]
  have one : ∀ i j : Nat, (([i] : List Nat) < [j]) ↔ i < j := fun i j => by
    constructor
    · intro h
      cases h with
      | rel h => exact h
      | cons h => cases h
    · intro h; exact List.Lex.rel h
  show ¬ ([c] : List Nat) < [97] /\ ¬ ([122] : List Nat) < [c] ↔ _
  rw [one, one]
  omega
theorem chain_az (c : Nat) (r : Env') : chD leD leD (vC (.str "a")) (vSh 0) (vC (.str "z")) (some (.sh (.str ⟨#[c]⟩)) :: r) = some (.bl (az c)) := by
  simp only [chD, vC, vSh, List.getElem?_cons_zero, Option.bind_some, leD, az]
  cases ltS ⟨#[c]⟩ "a" <;> simp
structure Nm (x : Str) : Prop where
  lo : 1 <= x.length
  hi : x.length <= 8
  az : ∀ c ∈ x.cps.toList, 97 <= c /\ c <= 122
theorem name_ok {x : Str} (h : Nm x) : F_is_name [.str x] = some (.bl true) := by
  have h1 := h.lo
  have h2 := h.hi
  have hz : x.length <= sizeLine := by unfold sizeLine; omega
  have hl : (x.cps.toList.map fun c => D.str ⟨#[c]⟩).length <= sizeLine := by simpa [Str.length] using hz
  have e1 : decide ((1 : Int) <= (x.length : Nat)) = true := decide_eq_true (by omega)
  have e2 : decide (((x.length : Nat) : Int) <= 8) = true := decide_eq_true (by omega)
  have ha := all_comp (fi := itS (vSh 0)) (fe := chD leD leD (vC (.str "a")) (vSh 0) (vC (.str "z"))) (fv := [none]) (ρ := [some (.sh (.str x))]) (r := []) (a := none) (xs := x.cps.toList.map fun c => D.str ⟨#[c]⟩)
    (by simp [itS, vSh, signsD, hz]) hl rfl (fun y hy => by
      obtain ⟨c, hc, rfl⟩ := List.mem_map.mp hy
      rw [chain_az, az_iff.mpr (h.az c hc)])
  refine run_of (ρ' := [some (.sh (.str x))]) ((skip_of (or_of (not_of ?_) (not_of ?_))).trans (ret_of ha))
  · rfl
  · show chD leD leD (vC (.int 1)) (cF lenD (aCons (vSh 0) aNil)) (vC (.int 8)) [some (.sh (.str x))] = _
    simp only [chD, vC, cF, aCons, aNil, vSh, lenD, leD, List.getElem?_cons_zero, Option.bind_some, Option.map_some, if_pos hz, e1, e2]
def numS (m : Nat) : Str := Str.ofString (toString (m : Int))
theorem num_cps (m : Nat) : (numS m).cps.toList = (Nat.toDigits 10 m).map Char.toNat := PySem.W.KIN.signs_num m
theorem num_all (m : Nat) : ∀ c ∈ (numS m).cps.toList, 48 <= c /\ c <= 57 := fun c hc => by
  rw [num_cps] at hc
  obtain ⟨ch, hch, e⟩ := List.mem_map.mp hc
  have r := PyProof.Rows.digit_range (Nat.isDigit_of_mem_toDigits (by decide) (by decide) hch)
  rw [← e]
  exact r
theorem num_head (m : Nat) : ∃ c r, (numS m).cps.toList = c :: r /\ (m = 0 \/ c ≠ 48) := by
  have key : ∀ m : Nat, ∃ c r, Nat.toDigits 10 m = c :: r /\ (m = 0 \/ c.toNat ≠ 48) := fun m => by
    induction m using Nat.strongRecOn with
    | _ m ih =>
      by_cases h : m < 10
      · refine ⟨_, [], Nat.toDigits_of_lt_base h, ?_⟩
        rcases Nat.eq_zero_or_pos m with z | z
        · exact .inl z
        · right
          have : ∀ d : Nat, d < 10 -> 0 < d -> (Nat.digitChar d).toNat ≠ 48 := by decide
          exact this m h z
      · have hm : m % 10 < 10 := Nat.mod_lt m (by decide)
        have t : Nat.toDigits 10 (m / 10) ++ Nat.toDigits 10 (m % 10) = Nat.toDigits 10 (10 * (m / 10) + m % 10) := Nat.toDigits_append_toDigits (by decide) (by omega) hm
        rw [Nat.div_add_mod] at t
        obtain ⟨c, r, e1, e2⟩ := ih (m / 10) (by omega)
        refine ⟨c, r ++ Nat.toDigits 10 (m % 10), by rw [← t, e1]; rfl, ?_⟩
        rcases e2 with e2 | e2
        · omega
        · exact .inr e2
  obtain ⟨c, r, e1, e2⟩ := key m
  exact ⟨c.toNat, r.map Char.toNat, by rw [num_cps, e1]; rfl, e2⟩
theorem num_zero : numS 0 = "0" := by decide +kernel
theorem num_len {m : Nat} (h : m < 10 ^ 30) : 1 <= (numS m).length /\ (numS m).length <= 30 := by
  have e : (numS m).length = (Nat.toDigits 10 m).length := by
    have := congrArg List.length (num_cps m)
    simpa [Str.length] using this
  rw [e]
  exact ⟨PyProof.Rows.tDigits_len_ge 10 m, PyProof.Rows.digits10_le (by decide) h⟩
theorem fig_cps : ("0123456789" : Str).cps.toList = [48, 49, 50, 51, 52, 53, 54, 55, 56, 57] := by decide +kernel
theorem in_fig {c : Nat} (h : 48 <= c /\ c <= 57) : inS ⟨#[c]⟩ "0123456789" = true := by
  unfold inS
  rw [StrLaws.found_one, fig_cps]
  have : c = 48 \/ c = 49 \/ c = 50 \/ c = 51 \/ c = 52 \/ c = 53 \/ c = 54 \/ c = 55 \/ c = 56 \/ c = 57 := by omega
  rcases this with rfl | rfl | rfl | rfl | rfl | rfl | rfl | rfl | rfl | rfl <;> decide
theorem fig_at : ∀ d : Nat, d < 10 -> Builtin.Str.occurrences "0123456789" ⟨#[48 + d]⟩ 0 ("0123456789" : Str).length 1 = [d] := by decide +kernel
theorem ix_str0 {x : Str} {c : Nat} {r : List Nat} (h : x.cps.toList = c :: r) (hz : x.length <= sizeLine) : ixD (.str x) (.int 0) = some (.str ⟨#[c]⟩) := by
  have e : atI x.cps.toList ((0 : Nat) : Int) = some c := by rw [atI_nat, h]; rfl
  show (if x.length <= sizeLine then (atI x.cps.toList 0).map (fun c => D.str ⟨#[c]⟩) else none) = _
  rw [if_pos hz]
  have e' : atI x.cps.toList (0 : Int) = some c := e
  rw [e']
  rfl
theorem numeral_ok {m : Nat} (hm : m < 10 ^ 30) : F_is_numeral [.str (numS m)] = some (.bl true) := by
  obtain ⟨l1, l2⟩ := num_len hm
  obtain ⟨c, r, hc, h0⟩ := num_head m
  have hz : (numS m).length <= sizeLine := by unfold sizeLine; omega
  have hl : ((numS m).cps.toList.map fun c => D.str ⟨#[c]⟩).length <= sizeLine := by simpa [Str.length] using hz
  have ha := all_comp (fi := itS (vSh 0)) (fe := b2 inSD (vSh 0) (vC (.str "0123456789"))) (fv := [none]) (ρ := [some (.sh (.str (numS m)))]) (r := []) (a := none) (xs := (numS m).cps.toList.map fun c => D.str ⟨#[c]⟩)
    (by simp [itS, vSh, signsD]) hl rfl (fun y hy => by
      obtain ⟨c, hc, rfl⟩ := List.mem_map.mp hy
      exact b2_of (x := .str ⟨#[c]⟩) (y := .str "0123456789") rfl rfl (by show some (D.bl (inS ⟨#[c]⟩ "0123456789")) = _; rw [in_fig (num_all m c hc)]))
  have ne : numS m ≠ "" := fun z => by
    rw [z] at l1
    exact absurd l1 (by decide)
  refine run_of (ρ' := [some (.sh (.str (numS m)))]) ((skip_of (or_of ?_ ?_)).trans (ret_of ha))
  · exact toB_of (b2_of (x := .str (numS m)) (y := .str "") rfl rfl (by show some (D.bl (decide (numS m = ""))) = _; rw [decide_eq_false ne]))
  · have f1 : toB (b2 eqD (b2 ixD (vSh 0) (vC (.int 0))) (vC (.str "0"))) [some (.sh (.str (numS m)))] = some (decide ((⟨#[c]⟩ : Str) = "0")) :=
      toB_of (b2_of (x := .str ⟨#[c]⟩) (y := .str "0") (b2_of (x := .str (numS m)) (y := .int 0) rfl rfl (ix_str0 hc hz)) rfl rfl)
    show andT _ _ [some (.sh (.str (numS m)))] = some false
    unfold andT
    rw [f1, Option.bind_some]
    have z0 : ("0" : Str) = ⟨#[48]⟩ := by decide +kernel
    by_cases e : c = 48
    · rcases h0 with h0 | h0
      · subst h0
        rw [if_pos (by rw [e, z0]; exact decide_eq_true rfl)]
        exact toB_of (b2_of (x := .str (numS 0)) (y := .str "0") rfl rfl (by show some (D.bl (!decide (numS 0 = "0"))) = _; rw [decide_eq_true num_zero]; rfl))
      · exact absurd e h0
    · rw [if_neg]
      rw [decide_eq_true_eq, z0]
      intro z
      have := congrArg (fun s : Str => s.cps.toList) z
      simp at this
      exact e this
theorem ix_of {x y : Str} {i : Nat} {r : List Nat} (h : Builtin.Str.occurrences x y 0 x.length 1 = i :: r) : indexD (.str x) [.str y] = some (.int i) := by
  show (match Builtin.Str.occurrences x y 0 x.length 1 with | i :: _ => some (D.int (i : Nat)) | [] => none) = _
  rw [h]
theorem ix_fig {c : Nat} (h : 48 <= c /\ c <= 57) : indexD (.str "0123456789") [.str ⟨#[c]⟩] = some (.int ((c - 48 : Nat))) := by
  have h2 := fig_at (c - 48) (by omega)
  rw [show 48 + (c - 48) = c by omega] at h2
  exact ix_of h2
theorem add_int (i j : Int) : addD (.int i) (.int j) = some (.int (i + j)) := rfl
theorem set1_of {i : Nat} {f : FE} {ρ : Env'} {d : D} (h : f ρ = some d) : sSet i f ρ = some (.nx, ρ.set i (some (.sh d))) := by unfold sSet; rw [h]; rfl
def nV : FE := b2 addD (b2 mulD (vSh 1) (vC (.int 10))) (mF indexD (vC (.str "0123456789")) (aCons (vSh 2) aNil))
theorem nV_ok {S : Option Slot} {n c : Nat} (h : 48 <= c /\ c <= 57) : nV [S, some (.sh (.int n)), some (.sh (.str ⟨#[c]⟩))] = some (.int ((n : Int) * 10 + ((c - 48 : Nat) : Int))) := by
  have m : mulD (.int n) (.int 10) = some (.int ((n : Int) * 10)) := mulD_int (.inr ⟨by decide, by decide⟩)
  exact b2_of (b2_of (x := .int n) (y := .int 10) rfl rfl m) (mF_of (d := .str "0123456789") (ds := [.str ⟨#[c]⟩]) rfl rfl (ix_fig h)) (add_int _ _)
def nB : FS := sSet 1 nV
theorem nB_ok {S : Option Slot} {n c : Nat} (h : 48 <= c /\ c <= 57) : nB [S, some (.sh (.int n)), some (.sh (.str ⟨#[c]⟩))] = some (.nx, [S, some (.sh (.int ((n * 10 + (c - 48) : Nat)))), some (.sh (.str ⟨#[c]⟩))]) := by
  have e : (((n * 10 + (c - 48) : Nat)) : Int) = (n : Int) * 10 + ((c - 48 : Nat) : Int) := by omega
  rw [e]
  exact set1_of (nV_ok h)
theorem forL_cons {gg : FG} {body : FS} {x : D} {xs : List D} {ρ ρ1 ρ2 : Env'} {R : Option (Fl × Env')} (h1 : gg x ρ = some ρ1) (h2 : body ρ1 = some (.nx, ρ2)) (h3 : forL gg body xs ρ2 = R) : forL gg body (x :: xs) ρ = R := by
  simp only [forL, h1, h2, Option.bind_some]
  exact h3
theorem gSet_of {i : Nat} {d : D} {ρ : Env'} : gSet i d ρ = some (ρ.set i (some (.sh d))) := rfl
theorem n_loop {S : Option Slot} (cs : List Nat) : ∀ (n : Nat) (a : Option Slot), (∀ c ∈ cs, 48 <= c /\ c <= 57) -> ∃ a', forL (gSet 2) nB (cs.map fun c => D.str ⟨#[c]⟩) [S, some (.sh (.int n)), a] = some (.nx, [S, some (.sh (.int ((cs.foldl (fun acc c => acc * 10 + (c - 48)) n : Nat)))), a']) := by
  induction cs with
  | nil => intro n a _; exact ⟨a, rfl⟩
  | cons c r ih =>
    intro n a h
    obtain ⟨a', ha'⟩ := ih (n * 10 + (c - 48)) (some (.sh (.str ⟨#[c]⟩))) fun x hx => h x (List.mem_cons_of_mem _ hx)
    refine ⟨a', ?_⟩
    rw [List.map_cons, List.foldl_cons]
    exact forL_cons gSet_of (nB_ok (h c List.mem_cons_self)) ha'
theorem num_val (m : Nat) : (numS m).cps.toList.foldl (fun acc c => acc * 10 + (c - 48)) 0 = m := by
  have h := PySem.W.KIN.val_back m
  rw [← num_cps] at h
  exact h
theorem number_ok (m : Nat) : F_number_of [.str (numS m)] = some (.int m) := by
  obtain ⟨a', ha'⟩ := n_loop (S := some (.sh (.str (numS m)))) (numS m).cps.toList 0 none (num_all m)
  rw [num_val] at ha'
  have e : sSeq (sFor (itS (vSh 0)) (gSet 2) nB) (sRet (vSh 1)) [some (.sh (.str (numS m))), some (.sh (.int 0)), none] = some (.rt (.int m), [some (.sh (.str (numS m))), some (.sh (.int m)), a']) :=
    (for_of (xs := (numS m).cps.toList.map fun c => D.str ⟨#[c]⟩) rfl ha').trans (ret_of rfl)
  exact run_to [some (.sh (.str (numS m))), none, none] rfl ((set_of (d := .int 0) rfl).trans e)
theorem row_ok {x b : Str} {m : Nat} (hx : Nm x) (hb : Nm b) (hm : m < 10 ^ 30) : F_is_plan_row [.lst [.str x, .str b, .str (numS m)]] = some (.bl true) := by
  have e0 : ixD (.lst [.str x, .str b, .str (numS m)]) (.int 0) = some (.str x) := atI_nat _ 0
  have e1 : ixD (.lst [.str x, .str b, .str (numS m)]) (.int 1) = some (.str b) := atI_nat _ 1
  have e2 : ixD (.lst [.str x, .str b, .str (numS m)]) (.int 2) = some (.str (numS m)) := atI_nat _ 2
  refine run_to [some (.sh (.lst [.str x, .str b, .str (numS m)]))] rfl (ret_of (and_of ?_ (and_of ?_ (and_of ?_ ?_))))
  · rfl
  · exact cF_of (one_of (b2_of rfl rfl e0)) (name_ok hx)
  · exact cF_of (one_of (b2_of rfl rfl e1)) (name_ok hb)
  · exact cF_of (one_of (b2_of rfl rfl e2)) (numeral_ok hm)
end Law
end
section
namespace Law
open PySem L2
def kvs (f : Str -> Str × Nat) (ns : List Str) : List (Key × D) := ns.map fun x => (Sum.inr x, D.tup [.str (f x).1, .int ((f x).2 : Nat)])
structure Good (f : Str -> Str × Nat) (ns : List Str) : Prop where
  nd : ns.Nodup
  len : ns.length <= 20
  nm : ∀ x ∈ ns, Nm x /\ Nm (f x).1 /\ (f x).2 < 10 ^ 30
section
variable {f : Str -> Str × Nat} {ns : List Str} {x : Str}
theorem val_in : ∀ {ns : List Str}, x ∈ ns -> valG (kvs f ns) (Sum.inr x) = some (.tup [.str (f x).1, .int ((f x).2 : Nat)])
  | y :: r, h => by
    show Option.map (·.2) (List.find? (fun kv : Key × D => decide (kv.1 = Sum.inr x)) ((Sum.inr y, D.tup [.str (f y).1, .int ((f y).2 : Nat)]) :: kvs f r)) = _
    by_cases e : y = x
    · subst e
      rw [List.find?_cons_of_pos (by simp)]
      rfl
    · rw [List.find?_cons_of_neg (by simp [e])]
      have hx : x ∈ r := by
        rcases List.mem_cons.mp h with z | z
        · exact absurd z.symm e
        · exact z
      exact val_in hx
theorem dget_in (h : x ∈ ns) : dgetD (.dk (kvs f ns)) (.str x) = some (.tup [.str (f x).1, .int ((f x).2 : Nat)]) := by
  show ((some (valG (kvs f ns) (Sum.inr x)) : Option (Option D)).bind id) = _
  rw [val_in h]
  rfl
theorem keys_ok : ∀ ns : List Str, txtKeys (kvs f ns) = some ns
  | [] => rfl
  | y :: r => by
    show (txtKeys (kvs f r)).map (y :: ·) = _
    rw [keys_ok r]
    rfl
theorem sorted_ok (h : ns.length <= 20) : sortedD [.dk (kvs f ns)] = some (.lst ((sortS ns).map D.str)) := by
  show ((txtKeys (kvs f ns)).bind fun ss => if ss.length < 64 then some (D.lst ((sortS ss).map D.str)) else none) = _
  rw [keys_ok, Option.bind_some, if_pos (by omega)]
theorem mem_sort : x ∈ sortS ns ↔ x ∈ ns := (List.mergeSort_perm ns leS).mem_iff
theorem sort_nd (h : ns.Nodup) : (sortS ns).Nodup := (List.mergeSort_perm ns leS).nodup_iff.mpr h
theorem sort_len : (sortS ns).length = ns.length := (List.mergeSort_perm ns leS).length_eq
theorem sort_perm {ms : List Str} (h : ms.Perm ns) : sortS ms = sortS ns :=
  List.Perm.eq_of_pairwise (le := fun a b => leS a b = true) (fun a b _ _ h1 h2 => leS_anti h1 h2) (List.pairwise_mergeSort leS_trans leS_total ms) (List.pairwise_mergeSort leS_trans leS_total ns) (((List.mergeSort_perm ms leS).trans h).trans (List.mergeSort_perm ns leS).symm)
theorem lt_of {a b : Str} (h : leS a b = true) (hn : a ≠ b) : ltS a b = true := by
  cases e : ltS a b with
  | true => rfl
  | false => exact absurd (leS_anti h (by unfold leS; rw [e]; rfl)) hn
theorem sort_lt (h : ns.Nodup) : (sortS ns).Pairwise fun a b => ltS a b = true := by
  have h1 : (sortS ns).Pairwise fun a b => leS a b = true := List.pairwise_mergeSort leS_trans leS_total ns
  exact (h1.and (sort_nd h)).imp fun ⟨p, q⟩ => lt_of p q
def rowS (f : Str -> Str × Nat) (x : Str) : Str := Txt.join " " [x, (f x).1, numS (f x).2]
theorem sp_cps : (" " : Str).cps.toList = [32] := by decide +kernel
theorem sc_cps : ("; " : Str).cps.toList = [59, 32] := by decide +kernel
theorem sp_len : (" " : Str).length = 1 := by decide +kernel
theorem sc_len : ("; " : Str).length = 2 := by decide +kernel
theorem row_eq : rowS f x = x ++ " " ++ ((f x).1 ++ " " ++ numS (f x).2) := by
  unfold rowS
  show Builtin.Str.glued " " _ = _
  rw [StrLaws.glued_eq_join]
  rfl
theorem row_len (h : Nm x /\ Nm (f x).1 /\ (f x).2 < 10 ^ 30) : (rowS f x).length <= 48 := by
  have a1 := h.1.hi
  have a2 := h.2.1.hi
  have a3 := (num_len h.2.2).2
  rw [row_eq]
  simp only [Str.length_append, sp_len]
  omega
theorem row_cps (h : Nm x /\ Nm (f x).1 /\ (f x).2 < 10 ^ 30) : ∀ c ∈ (rowS f x).cps.toList, c ≠ 59 := by
  intro c hc
  rw [row_eq] at hc
  simp only [Str.cps_append, Array.toList_append, sp_cps, List.mem_append, List.mem_singleton] at hc
  rcases hc with (hc | hc) | (hc | hc) | hc
  · have := h.1.az c hc; omega
  · omega
  · have := h.2.1.az c hc; omega
  · omega
  · have := num_all _ c hc; omega
theorem row_split (h : Nm x /\ Nm (f x).1 /\ (f x).2 < 10 ^ 30) : Txt.split (rowS f x) " " = [x, (f x).1, numS (f x).2] := by
  refine split_join (c0 := 32) (w := []) sp_cps (by decide +kernel) x [(f x).1, numS (f x).2] fun q hq hm => ?_
  rcases List.mem_cons.mp hq with rfl | hq
  · have := h.1.az _ hm; omega
  · rcases List.mem_cons.mp hq with rfl | hq
    · have := h.2.1.az _ hm; omega
    · rw [List.mem_singleton.mp hq] at hm
      have := num_all _ _ hm; omega
theorem num_log {m : Nat} (h : m < 10 ^ 30) : ((m : Nat) : Int).natAbs.log2 < 1920 := by
  show m.log2 < 1920
  rcases Nat.eq_zero_or_pos m with z | z
  · subst z; decide
  · rw [Nat.log2_lt (by omega)]
    exact Nat.lt_of_lt_of_le h (by decide +kernel)
theorem catD_cons {acc y : Str} {d : D} {r : List D} (h1 : txtD d = some y) (h2 : (acc ++ y).length <= sizeLine) : catD acc (d :: r) = catD (acc ++ y) r := by
  unfold catD
  rw [h1, Option.bind_some, if_pos h2]
  cases r <;> rfl
theorem txt_str {y : Str} (h : y.length <= 1000) : txtD (.str y) = some y := if_pos (by unfold sizeLine; omega)
theorem txt_int {m : Nat} (h : m < 10 ^ 30) : txtD (.int (m : Nat)) = some (numS m) := if_pos (num_log h)
theorem cat_ok (h : Nm x /\ Nm (f x).1 /\ (f x).2 < 10 ^ 30) : catD Str.empty [.str x, .str " ", .str (f x).1, .str " ", .int ((f x).2 : Nat)] = some (rowS f x) := by
  have a1 := h.1.hi
  have a2 := h.2.1.hi
  have a3 := (num_len h.2.2).2
  have e0 : (Str.empty).length = 0 := by decide
  have hs : sizeLine = 16777216 := sizeLine_eq
  rw [catD_cons (txt_str (by omega)) (by simp only [Str.length_append]; omega), catD_cons (txt_str (y := " ") (by rw [sp_len]; omega)) (by simp only [Str.length_append, sp_len]; omega), catD_cons (txt_str (by omega)) (by simp only [Str.length_append, sp_len]; omega),
    catD_cons (txt_str (y := " ") (by rw [sp_len]; omega)) (by simp only [Str.length_append, sp_len]; omega), catD_cons (txt_int h.2.2) (by simp only [Str.length_append, sp_len]; omega)]
  unfold catD
  rw [if_pos (by simp only [Str.length_append, sp_len]; omega), row_eq]
  simp only [Str.empty_append, Str.append_assoc]
def dueS (f : Str -> Str × Nat) (ns : List Str) : Str := Txt.join "; " ((sortS ns).map (rowS f))
theorem strs_map : ∀ ys : List Str, strsD (ys.map D.str) = some ys
  | [] => rfl
  | y :: r => by
    show (strsD (r.map D.str)).map (y :: ·) = _
    rw [strs_map r]
    rfl
theorem join_ok {sep : Str} {ys : List Str} {B : Nat} (hB : ∀ y ∈ ys, y.length <= B) (hb : B <= 1000) (hs : sep.length <= 10) (hl : ys.length <= 100) : joinD (.str sep) [.lst (ys.map D.str)] = some (.str (Txt.join sep ys)) := by
  show ((strsD (ys.map D.str)).bind fun ys => if (ys.map (·.length)).sum + ys.length * sep.length <= 16777216 then some (D.str (Txt.join sep ys)) else none) = _
  have h1 := StrLaws.sumLen_le (B := B) ys hB
  have h2 : ys.length * B <= 100 * 1000 := Nat.mul_le_mul hl hb
  have h3 : ys.length * sep.length <= 100 * 10 := Nat.mul_le_mul hl hs
  rw [strs_map, Option.bind_some, if_pos (by omega)]
theorem due_join (h : Good f ns) : joinD (.str "; ") [.lst (((sortS ns).map (rowS f)).map D.str)] = some (.str (dueS f ns)) := by
  refine join_ok (B := 48) (fun y hy => ?_) (by omega) (by rw [sc_len]; omega) (by rw [List.length_map, sort_len]; have := h.len; omega)
  obtain ⟨x, hx, rfl⟩ := List.mem_map.mp hy
  exact row_len (h.nm x (mem_sort.mp hx))
end
def shB : FS := sSeq (sSet 3 (b2 ixD (b2 dgetD (vSh 0) (vSh 2)) (vC (.int 0)))) (sSeq (sSet 4 (b2 ixD (b2 dgetD (vSh 0) (vSh 2)) (vC (.int 1)))) (sApp 1 (fsF (aCons (vSh 2) (aCons (vC (.str " ")) (aCons (vSh 3) (aCons (vC (.str " ")) (aCons (vSh 4) aNil))))))))
theorem app_of {i : Nat} {f : FE} {ρ : Env'} {d : D} {ds : List D} (hi : ρ[i]? = some (some (.own ds))) (h : f ρ = some d) (hl : ds.length < sizeLine) : sApp i f ρ = some (.nx, ρ.set i (some (.own (ds ++ [d])))) := by
  unfold sApp
  rw [hi]
  simp only
  rw [h, Option.bind_some, if_pos hl]
section
variable {f : Str -> Str × Nat} {ns : List Str}
theorem shB_ok {x : Str} {ds : List D} {b c : Option Slot} (h : Good f ns) (hx : x ∈ ns) (hl : ds.length <= 100) :
    ∃ b' c', shB [some (.sh (.dk (kvs f ns))), some (.own ds), some (.sh (.str x)), b, c] = some (.nx, [some (.sh (.dk (kvs f ns))), some (.own (ds ++ [.str (rowS f x)])), some (.sh (.str x)), b', c']) := by
  have e0 : ixD (.tup [.str (f x).1, .int ((f x).2 : Nat)]) (.int 0) = some (.str (f x).1) := atI_nat _ 0
  have e1 : ixD (.tup [.str (f x).1, .int ((f x).2 : Nat)]) (.int 1) = some (.int ((f x).2 : Nat)) := atI_nat _ 1
  refine ⟨some (.sh (.str (f x).1)), some (.sh (.int ((f x).2 : Nat))), ?_⟩
  have hs : sizeLine = 16777216 := sizeLine_eq
  refine (set_of (d := .str (f x).1) (b2_of (b2_of (x := .dk (kvs f ns)) (y := .str x) rfl rfl (dget_in hx)) rfl e0)).trans ?_
  refine (set_of (d := .int ((f x).2 : Nat)) (b2_of (b2_of (x := .dk (kvs f ns)) (y := .str x) rfl rfl (dget_in hx)) rfl e1)).trans ?_
  refine (app_of (ds := ds) (d := .str (rowS f x)) rfl ?_ (by omega)).trans rfl
  unfold fsF
  rw [show aCons (vSh 2) (aCons (vC (.str " ")) (aCons (vSh 3) (aCons (vC (.str " ")) (aCons (vSh 4) aNil)))) _ = some [D.str x, .str " ", .str (f x).1, .str " ", .int ((f x).2 : Nat)] from rfl, Option.bind_some, cat_ok (h.nm x hx)]
  rfl
theorem sh_loop (h : Good f ns) : ∀ (zs : List Str) (ds : List D) (a b c : Option Slot), (∀ x ∈ zs, x ∈ ns) -> ds.length + zs.length <= 100 -> ∃ a' b' c', forL (gSet 2) shB (zs.map D.str) [some (.sh (.dk (kvs f ns))), some (.own ds), a, b, c] =
      some (.nx, [some (.sh (.dk (kvs f ns))), some (.own (ds ++ (zs.map (rowS f)).map D.str)), a', b', c'])
  | [], ds, a, b, c, _, _ => ⟨a, b, c, by simp [forL]⟩
  | x :: r, ds, a, b, c, hz, hl => by
    rw [List.length_cons] at hl
    obtain ⟨b1, c1, h1⟩ := shB_ok (b := b) (c := c) h (hz x List.mem_cons_self) (ds := ds) (by omega)
    obtain ⟨a2, b2, c2, h2⟩ := sh_loop h r (ds ++ [.str (rowS f x)]) (some (.sh (.str x))) b1 c1 (fun y hy => hz y (List.mem_cons_of_mem _ hy)) (by rw [List.length_append, List.length_singleton]; omega)
    refine ⟨a2, b2, c2, ?_⟩
    rw [List.map_cons]
    refine forL_cons gSet_of h1 (h2.trans ?_)
    rw [List.map_cons, List.map_cons, List.append_assoc]
    rfl
theorem shown_ok (h : Good f ns) : F_shown_plan [.dk (kvs f ns)] = some (.str (dueS f ns)) := by
  obtain ⟨a, b, c, hl⟩ := sh_loop h (sortS ns) [] none none none (fun x hx => mem_sort.mp hx) (by rw [sort_len]; have := h.len; simp; omega)
  have e1 : sSeq (sFor (itF (cF sortedD (aCons (vSh 0) aNil))) (gSet 2) shB) (sFrz 1 (sRet (mF joinD (vC (.str "; ")) (aCons (vSh 1) aNil)))) [some (.sh (.dk (kvs f ns))), some (.own []), none, none, none] =
      some (.rt (.str (dueS f ns)), [some (.sh (.dk (kvs f ns))), some (.sh (.lst (((sortS ns).map (rowS f)).map D.str))), a, b, c]) := by
    refine (for_of (xs := (sortS ns).map D.str) ?_ hl).trans ?_
    · unfold itF
      rw [cF_of (ds := [.dk (kvs f ns)]) rfl (sorted_ok h.len)]
      rfl
    · exact ret_of (mF_of (d := .str "; ") (ds := [.lst (((sortS ns).map (rowS f)).map D.str)]) rfl rfl (due_join h))
  exact run_to [some (.sh (.dk (kvs f ns))), none, none, none, none] rfl ((show sSeq (sOwn 1 (szF aNil)) _ [some (.sh (.dk (kvs f ns))), none, none, none, none] = _ from rfl).trans e1)
end
end Law
end
section
namespace Law
open PySem L2
noncomputable def rdB : FS := sSeq (sSet 4 (mF splitD (vSh 3) (aCons (vC (.str " ")) aNil))) (sSeq (sIf (notT (toB (cF F_is_plan_row (aCons (vSh 4) aNil)))) sNo sNil) (sSeq (sIf (toB (b2 leD (b2 ixD (vSh 4) (vC (.int 0))) (vSh 2))) sNo sNil)
  (sSeq (sDPutO 1 (b2 ixD (vSh 4) (vC (.int 0))) (tupF (szF (aCons (b2 ixD (vSh 4) (vC (.int 1))) (aCons (cF F_number_of (aCons (b2 ixD (vSh 4) (vC (.int 2))) aNil)) aNil))))) (sSet 2 (b2 ixD (vSh 4) (vC (.int 0)))))))
section
variable {f : Str -> Str × Nat} {ns : List Str}
theorem put_new {x : Str} : ∀ {done : List Str}, x ∉ done -> putG (kvs f done) (Sum.inr x) (.tup [.str (f x).1, .int ((f x).2 : Nat)]) = kvs f (done ++ [x]) := fun {done} h => by
  unfold putG
  have : ((kvs f done).any fun kv => decide (kv.1 = Sum.inr x)) = false := by
    rw [List.any_eq_false]
    intro kv hkv
    obtain ⟨y, hy, rfl⟩ := List.mem_map.mp hkv
    simp only [decide_eq_true_eq]
    intro e
    cases e
    exact h hy
  rw [this, if_neg Bool.false_ne_true]
  unfold kvs
  rw [List.map_append]
  rfl
theorem put_of {i : Nat} {fk fv : FE} {ρ : Env'} {l : List (Key × D)} {x : Str} {d : D} (hi : ρ[i]? = some (some (.odk l))) (hv : fv ρ = some d) (hk : fk ρ = some (.str x)) (hl : l.length < 100000) : sDPutO i fk fv ρ = some (.nx, ρ.set i (some (.odk (putG l (Sum.inr x) d)))) := by
  unfold sDPutO
  rw [hv, Option.bind_some, hk, Option.bind_some, hi]
  show ((some (Sum.inr x : Key)).bind fun k => if l.length < 100000 then some (Fl.nx, ρ.set i (some (.odk (putG l k d)))) else none) = _
  rw [Option.bind_some, if_pos hl]
theorem split_of {x y : Str} (h1 : y.length ≠ 0) (h2 : x.length <= 1000000) : splitD (.str x) [.str y] = some (.lst ((Txt.split x y).map D.str)) := if_pos ⟨h1, h2⟩
theorem rdB_ok {T : D} {x ah : Str} {done : List Str} {w : Option Slot} (h : Nm x /\ Nm (f x).1 /\ (f x).2 < 10 ^ 30) (hn : x ∉ done) (hlt : ltS ah x = true) (hl : done.length <= 100) :
    rdB [some (.sh T), some (.odk (kvs f done)), some (.sh (.str ah)), some (.sh (.str (rowS f x))), w] =
      some (.nx, [some (.sh T), some (.odk (kvs f (done ++ [x]))), some (.sh (.str x)), some (.sh (.str (rowS f x))), some (.sh (.lst [.str x, .str (f x).1, .str (numS (f x).2)]))]) := by
  have e0 : ixD (.lst [.str x, .str (f x).1, .str (numS (f x).2)]) (.int 0) = some (.str x) := atI_nat _ 0
  have e1 : ixD (.lst [.str x, .str (f x).1, .str (numS (f x).2)]) (.int 1) = some (.str (f x).1) := atI_nat _ 1
  have e2 : ixD (.lst [.str x, .str (f x).1, .str (numS (f x).2)]) (.int 2) = some (.str (numS (f x).2)) := atI_nat _ 2
  have hsp : splitD (.str (rowS f x)) [.str " "] = some (.lst [.str x, .str (f x).1, .str (numS (f x).2)]) := by
    rw [split_of (by rw [sp_len]; decide) (by have := row_len h; omega), row_split h]
    rfl
  have hle : leD (.str x) (.str ah) = some (.bl false) := by
    show some (D.bl (!ltS ah x)) = _
    rw [hlt]
    rfl
  refine (set_of (d := .lst [.str x, .str (f x).1, .str (numS (f x).2)]) (mF_of (d := .str (rowS f x)) (ds := [.str " "]) rfl rfl hsp)).trans ?_
  refine (skip_of (not_of (cF_of (ds := [.lst [.str x, .str (f x).1, .str (numS (f x).2)]]) rfl (row_ok h.1 h.2.1 h.2.2)))).trans ?_
  refine (skip_of (toB_of (b2_of (b2_of rfl rfl e0) rfl hle))).trans ?_
  have hv : tupF (szF (aCons (b2 ixD (vSh 4) (vC (.int 1))) (aCons (cF F_number_of (aCons (b2 ixD (vSh 4) (vC (.int 2))) aNil)) aNil))) [some (.sh T), some (.odk (kvs f done)), some (.sh (.str ah)), some (.sh (.str (rowS f x))), some (.sh (.lst [.str x, .str (f x).1, .str (numS (f x).2)]))] = some (.tup [.str (f x).1, .int ((f x).2 : Nat)]) := by
    unfold tupF szF
    rw [cons_of (b2_of rfl rfl e1) (one_of (cF_of (one_of (b2_of rfl rfl e2)) (number_ok (f x).2))), Option.bind_some, if_pos (show [D.str (f x).1, D.int ((f x).2 : Nat)].length <= sizeLine from (show 2 <= sizeLine by decide))]
    rfl
  refine (seq_of (put_of (i := 1) (l := kvs f done) (x := x) rfl hv (b2_of rfl rfl e0) (by unfold kvs; rw [List.length_map]; omega))).trans ?_
  rw [put_new hn]
  exact set1_of (b2_of rfl rfl e0)
theorem rd_loop {T : D} : ∀ (zs done : List Str) (ah : Str) (r w : Option Slot), (∀ x ∈ zs, Nm x /\ Nm (f x).1 /\ (f x).2 < 10 ^ 30) -> (∀ x ∈ zs, x ∉ done) -> (∀ x ∈ zs, ltS ah x = true) -> zs.Pairwise (fun a b => ltS a b = true) -> zs.Nodup -> done.length + zs.length <= 100 ->
    ∃ ah' r' w', forL (gSet 3) rdB ((zs.map (rowS f)).map D.str) [some (.sh T), some (.odk (kvs f done)), some (.sh (.str ah)), r, w] = some (.nx, [some (.sh T), some (.odk (kvs f (done ++ zs))), some (.sh (.str ah')), r', w'])
  | [], done, ah, r, w, _, _, _, _, _, _ => ⟨ah, r, w, by simp [forL]⟩
  | x :: zs, done, ah, r, w, h1, h2, h3, h4, h5, h6 => by
    rw [List.length_cons] at h6
    rw [List.pairwise_cons] at h4
    rw [List.nodup_cons] at h5
    have hx := rdB_ok (T := T) (w := w) (h1 x List.mem_cons_self) (h2 x List.mem_cons_self) (h3 x List.mem_cons_self) (by omega)
    obtain ⟨ah', r', w', hr⟩ := rd_loop (T := T) zs (done ++ [x]) x (some (.sh (.str (rowS f x)))) (some (.sh (.lst [.str x, .str (f x).1, .str (numS (f x).2)]))) (fun y hy => h1 y (List.mem_cons_of_mem _ hy)) (fun y hy z => by
      rcases List.mem_append.mp z with z | z
      · exact h2 y (List.mem_cons_of_mem _ hy) z
      · rw [List.mem_singleton.mp z] at hy; exact h5.1 hy) h4.1 h4.2 h5.2 (by rw [List.length_append, List.length_singleton]; omega)
    refine ⟨ah', r', w', ?_⟩
    rw [List.map_cons, List.map_cons]
    refine forL_cons gSet_of hx (hr.trans ?_)
    rw [List.append_assoc]
    rfl
theorem due_split (h : Good f ns) (hne : ns ≠ []) : Txt.split (dueS f ns) "; " = (sortS ns).map (rowS f) := by
  have hs : sortS ns ≠ [] := fun e => hne (List.length_eq_zero_iff.mp (by rw [← sort_len, e]; rfl))
  unfold dueS
  cases e : sortS ns with
  | nil => exact absurd e hs
  | cons x r =>
    rw [List.map_cons]
    refine split_join (c0 := 59) (w := [32]) sc_cps (by decide +kernel) _ _ fun q hq hm => ?_
    rw [← List.map_cons (f := rowS f), ← e] at hq
    obtain ⟨y, hy, rfl⟩ := List.mem_map.mp hq
    exact row_cps (h.nm y (mem_sort.mp hy)) 59 hm rfl
theorem join_len (sep : Str) (B : Nat) : ∀ ys : List Str, (∀ y ∈ ys, y.length <= B) -> (Str.join sep ys).length <= ys.length * (B + sep.length)
  | [], _ => by show 0 <= _; omega
  | [x], h => by
    show x.length <= _
    have := h x List.mem_cons_self
    simp only [List.length_cons, List.length_nil, Nat.zero_add, Nat.one_mul]
    omega
  | x :: y :: r, h => by
    have ih := join_len sep B (y :: r) fun z hz => h z (List.mem_cons_of_mem _ hz)
    have hx := h x List.mem_cons_self
    show (x ++ sep ++ Str.join sep (y :: r)).length <= _
    rw [Str.length_append, Str.length_append, List.length_cons, Nat.add_mul, Nat.one_mul]
    omega
theorem due_len (h : Good f ns) : (dueS f ns).length <= 1000 := by
  unfold dueS
  show (Builtin.Str.glued "; " _).length <= _
  rw [StrLaws.glued_eq_join]
  have := join_len "; " 48 ((sortS ns).map (rowS f)) fun y hy => by
    obtain ⟨x, hx, rfl⟩ := List.mem_map.mp hy
    exact row_len (h.nm x (mem_sort.mp hx))
  rw [List.length_map, sort_len, sc_len] at this
  have h2 := h.len
  omega
theorem due_ne (h : Good f ns) (hne : ns ≠ []) : dueS f ns ≠ "" := fun e => by
  have hs := due_split h hne
  rw [e] at hs
  have : Txt.split ("" : Str) ("; " : Str) = [("" : Str)] := by decide +kernel
  rw [this] at hs
  cases es : sortS ns with
  | nil => rw [es] at hs; cases hs
  | cons x r =>
    rw [es, List.map_cons] at hs
    have e1 : ("" : Str) = rowS f x := (List.cons.inj hs).1
    have hx : x ∈ ns := mem_sort.mp (by rw [es]; exact List.mem_cons_self)
    have l := congrArg Str.length e1
    rw [row_eq, Str.length_append, Str.length_append, sp_len] at l
    have l0 : ("" : Str).length = 0 := by decide +kernel
    omega
theorem runOD_to {n : Nat} {g : FS} {ds : List D} {l : List (Key × D)} (ρ : Env') {ρ' : Env'} (e : ds.map (fun d => some (Slot.sh d)) ++ List.replicate n none = ρ) (h : g ρ = some (.od l, ρ')) : runOD n g ds = some l := by
  subst e; unfold runOD; rw [h]; rfl
theorem retD_of {i : Nat} {ρ : Env'} {l : List (Key × D)} (hi : ρ[i]? = some (some (.odk l))) : sRetD i ρ = some (.od l, ρ) := by
  unfold sRetD; rw [hi]
theorem take_end {ft : FT} {X Y E : FS} {ρ ρ' : Env'} {l : List (Key × D)} (h : ft ρ = some true) (hx : X ρ = some (.od l, ρ')) : sSeq (sIf ft X Y) E ρ = some (.od l, ρ') := by
  simp only [sSeq, sIf, h, Option.bind_some, if_true, hx]
theorem read_ok (h : Good f ns) : F_read_plan [.str (dueS f ns)] = some (kvs f (sortS ns)) := by
  by_cases hne : ns = []
  · subst hne
    have es : sortS [] = [] := List.length_eq_zero_iff.mp sort_len
    have e : dueS f [] = "" := by
      unfold dueS
      rw [es]
      show Builtin.Str.glued "; " [] = _
      rw [StrLaws.glued_eq_join]
      decide +kernel
    rw [e, es]
    have e1 : ∀ E : FS, sSeq (sIf (toB (b2 eqD (vSh 0) (vC (.str "")))) (sRetD 1) sNil) E [some (.sh (.str "")), some (.odk []), none, none, none] = some (.od [], [some (.sh (.str "")), some (.odk []), none, none, none]) := fun E =>
      take_end (toB_of (b2_of (x := .str "") (y := .str "") rfl rfl (by show some (D.bl (decide (("" : Str) = ""))) = _; rw [decide_eq_true rfl]))) (retD_of rfl)
    show G_read_plan F_is_plan_row F_number_of [.str ""] = some []
    unfold G_read_plan
    exact runOD_to [some (.sh (.str "")), none, none, none, none] (ρ' := [some (.sh (.str "")), some (.odk []), none, none, none]) rfl ((skip_of (not_of rfl)).trans ((seq_of (ρ1 := [some (.sh (.str "")), some (.odk []), none, none, none]) rfl).trans (e1 _)))
  · obtain ⟨ah, r, w, hl⟩ := rd_loop (f := f) (T := .str (dueS f ns)) (sortS ns) [] "" none none (fun x hx => h.nm x (mem_sort.mp hx)) (fun x _ z => by cases z) (fun x hx => by
        have hx' := (h.nm x (mem_sort.mp hx)).1.lo
        unfold ltS
        have e0 : ("" : Str).cps.toList = [] := by decide +kernel
        rw [e0]
        cases e : x.cps.toList with
        | nil =>
          have : x.length = 0 := by show x.cps.size = 0; rw [← Array.length_toList, e]; rfl
          omega
        | cons c r => exact StrLaws.lt_nil_cons c r) (sort_lt h.nd) (sort_nd h.nd) (by rw [sort_len]; have := h.len; simp; omega)
    have e1 : sSeq (sFor (itF (mF splitD (vSh 0) (aCons (vC (.str "; ")) aNil))) (gSet 3) rdB) (sRetD 1) [some (.sh (.str (dueS f ns))), some (.odk []), some (.sh (.str "")), none, none] = some (.od (kvs f (sortS ns)), [some (.sh (.str (dueS f ns))), some (.odk (kvs f (sortS ns))), some (.sh (.str ah)), r, w]) := by
      refine (for_of (xs := ((sortS ns).map (rowS f)).map D.str) ?_ hl).trans (retD_of rfl)
      unfold itF
      rw [mF_of (d := .str (dueS f ns)) (ds := [.str "; "]) rfl rfl (split_of (by rw [sc_len]; decide) (by have := due_len h; omega)), due_split h hne]
      rfl
    have hne2 : toB (b2 eqD (vSh 0) (vC (.str ""))) [some (.sh (.str (dueS f ns))), some (.odk []), none, none, none] = some false :=
      toB_of (b2_of (x := .str (dueS f ns)) (y := .str "") rfl rfl (by show some (D.bl (decide (dueS f ns = ""))) = _; rw [decide_eq_false (due_ne h hne)]))
    exact runOD_to [some (.sh (.str (dueS f ns))), none, none, none, none] rfl ((skip_of (not_of rfl)).trans ((seq_of (ρ1 := [some (.sh (.str (dueS f ns))), some (.odk []), none, none, none]) rfl).trans ((skip_of hne2).trans ((set_of (d := .str "") rfl).trans e1))))
theorem strOk_of {x : Str} (h : Nm x) : PyData.strOk x = true := by
  unfold PyData.strOk
  rw [Array.all_eq_true']
  intro c hc
  have := h.az c (by simpa using hc)
  exact decide_eq_true (by omega)
theorem eqX_ok {b : Str} (h : Nm b) (m : Nat) : eqX (.tup [.str b, .int (m : Nat)]) (.tup [.str b, .int (m : Nat)]) = some true := by
  have sh : SeqAt.shaped (.tuple [.str b, .int (m : Nat)]) = true := by simp [SeqAt.shaped, PyData.canLay0, PyData.canLayAll0, strOk_of h, PyData.depth, PyData.depthAll]
  have pd : pdD (.tup [.str b, .int (m : Nat)]) = some (.tuple [.str b, .int (m : Nat)]) := by simp [pdD, pdDs]
  unfold eqX
  rw [pd, Option.bind_some, Option.bind_some, if_pos ⟨sh, sh⟩]
  simp [PyData.eqv, PyData.eqvAll]
theorem hits_all (h : Good f ns) : ∀ {ms : List Str}, (∀ x ∈ ms, x ∈ ns) -> hitsD (kvs f ns) (kvs f ms) = some true
  | [], _ => rfl
  | x :: r, hm => by
    show (match valG (kvs f ns) (Sum.inr x) with | none => some false | some y => (eqX (.tup [.str (f x).1, .int ((f x).2 : Nat)]) y).bind fun e => (hitsD (kvs f ns) (kvs f r)).map (e && ·)) = _
    have hx := hm x List.mem_cons_self
    rw [val_in hx]
    show ((eqX _ _).bind _) = _
    rw [eqX_ok (h.nm x hx).2.1, Option.bind_some, hits_all h fun y hy => hm y (List.mem_cons_of_mem _ hy)]
    rfl
theorem ne_ok (h : Good f ns) {ms : List Str} (hp : ms.Perm ns) : dNeD (.dk (kvs f ms)) (.dk (kvs f ns)) = some (.bl false) := by
  have : deqD (.dk (kvs f ms)) (.dk (kvs f ns)) = some true := by
    show (if (kvs f ms).length = (kvs f ns).length then hitsD (kvs f ns) (kvs f ms) else some false) = _
    rw [if_pos (by unfold kvs; rw [List.length_map, List.length_map]; exact hp.length_eq)]
    exact hits_all h fun x hx => hp.mem_iff.mp hx
  unfold dNeD
  rw [this]
  rfl
end
end Law
end
section
namespace Law
open PySem L2
theorem fdivD_int {a b : Int} (h : 0 < b /\ b < 1073741824) : fdivD (.int a) (.int b) = some (.int (a / b)) := if_pos h
theorem fdivB_int {a b : Int} (h : 0 < b /\ b.natAbs.log2 < 9000) : fdivB (.int a) (.int b) = some (.int (a / b)) := if_pos h
theorem modD_int {a b : Int} (h : 0 < b) : modD (.int a) (.int b) = some (.int (a % b)) := if_pos h
theorem mulD_lst {x : List D} {j : Int} (h : -(2 ^ 63) <= j /\ j < 2 ^ 63 /\ x.length * j.toNat <= sizeLine) : mulD (.lst x) (.int j) = some (.lst (List.replicate j.toNat x).flatten) := if_pos h
theorem powD_int {i j : Int} (h : 0 <= j /\ j <= 1000000 /\ i.natAbs < 2 ^ 64) : powD (.int i) (.int j) = some (.int (i ^ j.toNat)) := if_pos h
theorem addD_lst {x y : List D} (h : x.length + y.length <= sizeLine) : addD (.lst x) (.lst y) = some (.lst (x ++ y)) := if_pos h
def dEnv (c k : Int) (S : D) (n : Int) (fs : List D) (x y : Option Slot) : Env' := [some (.sh (.int c)), some (.sh (.int k)), some (.sh S), some (.sh (.int n)), some (.own fs), x, y]
def dG : FG := gTupD 2 (gsCons (gSet 5) (gsCons (gSet 6) gsNil))
def dT : FT := orT (toB (b2 eqD (b2 modD (vSh 0) (vC (.int 2))) (vC (.int 1)))) (toB (b2 eqD (vSh 3) (vC (.int 0))))
def dA : FS := sSeq (sSet 3 (b2 addD (b2 modD (b2 addD (vSh 3) (vSh 0)) (vC (.int 2147483629))) (vC (.int 48271)))) (sSeq (sSet 3 (b2 addD (vSh 3) (b2 mulD (b2 mulD (vC (.int 7919)) (b2 addD (vSh 1) (vSh 5))) (b2 addD (vSh 1) (vSh 5))))) (sSeq (sSet 3 (b2 modD (b2 mulD (vSh 3) (vSh 3)) (vC (.int 2147483587)))) (sApp 4 (b2 modD (b2 fdivD (vSh 3) (vC (.int 16))) (vSh 6)))))
def dB : FS := sSeq (sApp 4 (b2 modD (vSh 3) (vSh 6))) (sSet 3 (b2 fdivB (vSh 3) (vSh 6)))
section
variable {c k n t s : Int} {S : D} {fs : List D}
theorem dT_eq : dT (dEnv c k S n fs (some (.sh (.int t))) (some (.sh (.int s)))) = some (decide (c % 2 = 1) || decide (n = 0)) := by
  simp only [dT, dEnv, orT, toB, b2, vSh, vC, List.getElem?_cons_zero, List.getElem?_cons_succ, Option.bind_some, modD_int (show (0 : Int) < 2 by decide), eqD, eqS, Option.map_some]
  cases decide (c % 2 = 1) <;> simp
theorem dB_ok (hn : 0 <= n) (hs : 0 < s /\ s.natAbs.log2 < 9000) (hf : fs.length < sizeLine) : ∃ n' d, 0 <= n' /\ 0 <= d /\ d < s /\
    dB (dEnv c k S n fs (some (.sh (.int t))) (some (.sh (.int s)))) = some (.nx, dEnv c k S n' (fs ++ [.int d]) (some (.sh (.int t))) (some (.sh (.int s)))) := by
  refine ⟨n / s, n % s, Int.ediv_nonneg hn (by omega), Int.emod_nonneg _ (by omega), Int.emod_lt_of_pos _ hs.1, ?_⟩
  refine (seq_of (app_of (ds := fs) (d := .int (n % s)) rfl (b2_of (x := .int n) (y := .int s) rfl rfl (modD_int hs.1)) hf)).trans ?_
  exact set1_of (b2_of (x := .int n) (y := .int s) rfl rfl (fdivB_int hs))
theorem dA_ok (hk : 0 <= k /\ k <= 400) (ht : 0 <= t /\ t <= 100) (hs : 0 < s) (hf : fs.length < sizeLine) : ∃ n' d, 0 <= n' /\ 0 <= d /\ d < s /\
    dA (dEnv c k S n fs (some (.sh (.int t))) (some (.sh (.int s)))) = some (.nx, dEnv c k S n' (fs ++ [.int d]) (some (.sh (.int t))) (some (.sh (.int s)))) := by
  have h1 : 0 <= (n + c) % 2147483629 := Int.emod_nonneg _ (by decide)
  have h2 : (n + c) % 2147483629 < 2147483629 := Int.emod_lt_of_pos _ (by decide)
  have h3 : 0 <= 7919 * (k + t) * (k + t) := Int.mul_nonneg (by omega) (by omega)
  have h4 : 7919 * (k + t) * (k + t) <= 7919 * 500 * 500 := Int.mul_le_mul (by omega) (by omega) (by omega) (by decide)
  refine ⟨((n + c) % 2147483629 + 48271 + 7919 * (k + t) * (k + t)) * ((n + c) % 2147483629 + 48271 + 7919 * (k + t) * (k + t)) % 2147483587, ((n + c) % 2147483629 + 48271 + 7919 * (k + t) * (k + t)) * ((n + c) % 2147483629 + 48271 + 7919 * (k + t) * (k + t)) % 2147483587 / 16 % s,
    Int.emod_nonneg _ (by decide), Int.emod_nonneg _ (by omega), Int.emod_lt_of_pos _ hs, ?_⟩
  have m1 : mulD (.int 7919) (.int (k + t)) = some (.int (7919 * (k + t))) := mulD_int (.inl ⟨by decide, by decide⟩)
  have m2 : mulD (.int (7919 * (k + t))) (.int (k + t)) = some (.int (7919 * (k + t) * (k + t))) := mulD_int (.inr ⟨by omega, by omega⟩)
  have m3 : mulD (.int ((n + c) % 2147483629 + 48271 + 7919 * (k + t) * (k + t))) (.int ((n + c) % 2147483629 + 48271 + 7919 * (k + t) * (k + t))) = some (.int (((n + c) % 2147483629 + 48271 + 7919 * (k + t) * (k + t)) * ((n + c) % 2147483629 + 48271 + 7919 * (k + t) * (k + t)))) := mulD_int (.inl ⟨by omega, by omega⟩)
  refine (set_of (b2_of (b2_of (b2_of (x := .int n) (y := .int c) rfl rfl (add_int _ _)) rfl (modD_int (by decide))) rfl (add_int _ _))).trans ?_
  refine (set_of (b2_of rfl (b2_of (b2_of (x := .int 7919) rfl (b2_of (x := .int k) (y := .int t) rfl rfl (add_int _ _)) m1) (b2_of (x := .int k) (y := .int t) rfl rfl (add_int _ _)) m2) (add_int _ _))).trans ?_
  refine (set_of (b2_of (b2_of rfl rfl m3) rfl (modD_int (by decide)))).trans ?_
  exact app_of (ds := fs) rfl (b2_of (b2_of rfl rfl (fdivD_int (by decide))) rfl (modD_int hs)) hf
end
def tups (t0 : Nat) : List Int -> List D
  | [] => []
  | s :: r => .tup [.int t0, .int s] :: tups (t0 + 1) r
def Bd : List Int -> List Int -> Prop
  | [], [] => True
  | d :: ds, s :: ss => (0 <= d /\ d < s) /\ Bd ds ss
  | _, _ => False
theorem d_loop {c k : Int} {S : D} (hk : 0 <= k /\ k <= 400) : ∀ (ss : List Int) (t0 : Nat) (n : Int) (fs : List D) (x y : Option Slot), (∀ s ∈ ss, 0 < s /\ s.natAbs.log2 < 9000) -> 0 <= n -> t0 + ss.length <= 100 -> fs.length + ss.length < sizeLine ->
    ∃ n' ds x' y', Bd ds ss /\ forL dG (sIf dT dA dB) (tups t0 ss) (dEnv c k S n fs x y) = some (.nx, dEnv c k S n' (fs ++ ds.map D.int) x' y')
  | [], t0, n, fs, x, y, _, _, _, _ => ⟨n, [], x, y, True.intro, by simp [forL, tups]⟩
  | s :: r, t0, n, fs, x, y, hs, hn, ht, hf => by
    have hs0 := hs s List.mem_cons_self
    have hsr : ∀ s ∈ r, 0 < s /\ s.natAbs.log2 < 9000 := fun s h => hs s (List.mem_cons_of_mem _ h)
    rw [List.length_cons] at ht hf
    have hfs : fs.length < sizeLine := by omega
    have step : ∃ n' d, 0 <= n' /\ 0 <= d /\ d < s /\ sIf dT dA dB (dEnv c k S n fs (some (.sh (.int (t0 : Nat)))) (some (.sh (.int s)))) = some (.nx, dEnv c k S n' (fs ++ [.int d]) (some (.sh (.int (t0 : Nat)))) (some (.sh (.int s)))) := by
      unfold sIf
      rw [dT_eq]
      cases hb : (decide (c % 2 = 1) || decide (n = 0)) with
      | true =>
        obtain ⟨n', d, h1, h2, h3, h4⟩ := dA_ok (c := c) (n := n) (S := S) hk (t := (t0 : Nat)) (by omega) hs0.1 hfs
        exact ⟨n', d, h1, h2, h3, by rw [Option.bind_some, if_pos rfl]; exact h4⟩
      | false =>
        obtain ⟨n', d, h1, h2, h3, h4⟩ := dB_ok (c := c) (k := k) (S := S) (t := (t0 : Nat)) hn hs0 hfs
        exact ⟨n', d, h1, h2, h3, by rw [Option.bind_some, if_neg Bool.false_ne_true]; exact h4⟩
    obtain ⟨n', d, h1, h2, h3, h4⟩ := step
    obtain ⟨n2, ds, x', y', hb, hl⟩ := d_loop (c := c) (S := S) hk r (t0 + 1) n' (fs ++ [.int d]) (some (.sh (.int (t0 : Nat)))) (some (.sh (.int s))) hsr h1 (by omega) (by simp; omega)
    refine ⟨n2, d :: ds, x', y', ⟨⟨h2, h3⟩, hb⟩, ?_⟩
    have hg : dG (.tup [.int (t0 : Nat), .int s]) (dEnv c k S n fs x y) = some (dEnv c k S n fs (some (.sh (.int (t0 : Nat)))) (some (.sh (.int s)))) := rfl
    refine forL_cons hg h4 (hl.trans ?_)
    rw [List.map_cons, List.append_assoc]
    rfl
def big : Int := 1000000000000000000000000000000
def sizes : List Int := [8, 26, 26, 26, 26, 26, 26, 26, 26, 8, 26, 26, 26, 26, 26, 26, 26, 26, 10, big, 2]
theorem sizes_ok : ∀ s ∈ sizes, 0 < s /\ s.natAbs.log2 < 9000 := by decide +kernel
theorem sizes_big : ∀ s ∈ sizes, s <= big := by decide +kernel
structure Row (ds : List Int) : Prop where
  len : ds.length = 21
  rng : ∀ d ∈ ds, 0 <= d /\ d < big
theorem bd_row : ∀ {ds ss : List Int}, Bd ds ss -> ds.length = ss.length /\ ∀ d ∈ ds, ∃ s ∈ ss, 0 <= d /\ d < s
  | [], [], _ => ⟨rfl, fun d h => (nomatch h)⟩
  | d :: ds, s :: ss, h => by
    obtain ⟨h1, h2⟩ := bd_row h.2
    refine ⟨by rw [List.length_cons, List.length_cons, h1], fun e he => ?_⟩
    rcases List.mem_cons.mp he with rfl | he
    · exact ⟨s, List.mem_cons_self, h.1⟩
    · obtain ⟨s', q1, q2⟩ := h2 e he
      exact ⟨s', List.mem_cons_of_mem _ q1, q2⟩
  | [], _ :: _, h => h.elim
  | _ :: _, [], h => h.elim
theorem digits_ok (c k : Int) (hk : 0 <= k /\ k <= 400) : ∃ ds, Row ds /\ F__law_digits [.int c, .int k, .lst (sizes.map D.int)] = some (.lst (ds.map D.int)) := by
  have habs : 0 <= (if c < 0 then -c else c) := by split <;> omega
  obtain ⟨n', ds, x', y', hb, hl⟩ := d_loop (c := c) (S := .lst (sizes.map D.int)) hk sizes 0 ((if c < 0 then -c else c) / 2) [] none none sizes_ok (Int.ediv_nonneg habs (by decide)) (by decide) (by decide)
  obtain ⟨b1, b2'⟩ := bd_row hb
  refine ⟨ds, ⟨b1, fun d hd => by
    obtain ⟨s, q1, q2, q3⟩ := b2' d hd
    exact ⟨q2, Int.lt_of_lt_of_le q3 (sizes_big s q1)⟩⟩, ?_⟩
  have he : enumD (.lst (sizes.map D.int)) = some (tups 0 sizes) := rfl
  have hfor : sSeq (sFor (itE (vSh 2)) dG (sIf dT dA dB)) (sFrz 4 (sRet (vSh 4))) (dEnv c k (.lst (sizes.map D.int)) ((if c < 0 then -c else c) / 2) [] none none) = some (.rt (.lst (ds.map D.int)), [some (.sh (.int c)), some (.sh (.int k)), some (.sh (.lst (sizes.map D.int))), some (.sh (.int n')), some (.sh (.lst (ds.map D.int))), x', y']) := by
    refine (for_of (xs := tups 0 sizes) (by unfold itE; exact he) hl).trans ?_
    rfl
  have e1 : sSeq (sSet 3 (b2 fdivD (cF absD (aCons (vSh 0) aNil)) (vC (.int 2)))) (sSeq (sOwn 4 (szF aNil)) (sSeq (sFor (itE (vSh 2)) dG (sIf dT dA dB)) (sFrz 4 (sRet (vSh 4))))) [some (.sh (.int c)), some (.sh (.int k)), some (.sh (.lst (sizes.map D.int))), none, none, none, none] = _ :=
    (set_of (b2_of (cF_of (ds := [.int c]) rfl rfl) rfl (fdivD_int (by decide)))).trans ((seq_of rfl).trans hfor)
  exact run_to [some (.sh (.int c)), some (.sh (.int k)), some (.sh (.lst (sizes.map D.int))), none, none, none, none] rfl e1
end Law
end
section
namespace Law
open PySem L2
theorem cut_in {α : Type} {xs : List α} {lo hi : Option Int} {x : α} (h : x ∈ cutL xs lo hi) : x ∈ xs := List.mem_of_mem_drop (List.mem_of_mem_take h)
theorem cut_len {α : Type} {l : List α} {a b : Nat} (h1 : a <= b) (h2 : b <= l.length) : (cutL l (some (a : Int)) (some (b : Int))).length = b - a := by
  unfold cutL
  rw [HT.sIx_nat, HT.sIx_nat, List.length_take, List.length_drop]
  omega
theorem cut_from {α : Type} {l : List α} {a : Nat} (h : a <= l.length) : (cutL l (some (a : Int)) none).length = l.length - a := by
  unfold cutL
  rw [HT.sIx_nat, HT.sIx_none, List.length_take, List.length_drop]
  omega
theorem cut_to {α : Type} {l : List α} {a : Nat} (h : a <= l.length) : (cutL l none (some (a : Int))).length = a := by
  unfold cutL
  rw [HT.sIx_nat, HT.sIx_none, List.length_take, List.length_drop]
  omega
theorem sl_of {fe : FE} {fl fh : Env' -> Option (Option Int)} {ρ : Env'} {l : List D} {lo hi : Option Int} (h : fe ρ = some (.lst l)) (h1 : fl ρ = some lo) (h2 : fh ρ = some hi) : slF fe fl fh ρ = some (.lst (cutL l lo hi)) := by
  unfold slF
  rw [h, Option.bind_some, h1, Option.bind_some, h2]
  rfl
theorem pS_of {fe : FE} {ρ : Env'} {i : Int} (h : fe ρ = some (.int i)) : pS fe ρ = some (some i) := by
  unfold pS
  rw [h]
  rfl
theorem lst_of {fr : FA} {ρ : Env'} {l : List D} (h : fr ρ = some l) (hl : l.length <= 1000) : lstF (szF fr) ρ = some (.lst l) := by
  unfold lstF szF
  rw [h, Option.bind_some, if_pos (by unfold sizeLine; omega)]
  rfl
theorem ix_lst {l : List Int} {i : Nat} (h : i < l.length) : ixD (.lst (l.map D.int)) (.int (i : Nat)) = some (.int l[i]) := by
  show atI (l.map D.int) ((i : Nat) : Int) = _
  rw [atI_nat, List.getElem?_map, List.getElem?_eq_getElem h]
  rfl
theorem abc_at : ∀ e : Nat, e < 26 -> ("abcdefghijklmnopqrstuvwxyz" : Str).cps.toList[e]? = some (97 + e) := by decide +kernel
theorem abc_len : ("abcdefghijklmnopqrstuvwxyz" : Str).length <= sizeLine := by decide +kernel
def letter (e : Int) : Str := ⟨#[97 + e.toNat]⟩
theorem ix_abc {e : Int} (h : 0 <= e /\ e < 26) : ixD (.str "abcdefghijklmnopqrstuvwxyz") (.int e) = some (.str (letter e)) := by
  obtain ⟨m, rfl⟩ := Int.eq_ofNat_of_zero_le h.1
  show (if ("abcdefghijklmnopqrstuvwxyz" : Str).length <= sizeLine then (atI ("abcdefghijklmnopqrstuvwxyz" : Str).cps.toList ((m : Nat) : Int)).map (fun c => D.str ⟨#[c]⟩) else none) = _
  rw [if_pos abc_len, atI_nat, abc_at m (by omega)]
  rfl
theorem join_nil : ∀ ys : List Str, (Str.join "" ys).cps.toList = ys.flatMap fun y => y.cps.toList
  | [] => by decide
  | [x] => by simp [Str.join]
  | x :: y :: r => by
    have e0 : ("" : Str).cps.toList = [] := by decide +kernel
    rw [join_list, e0, List.nil_append, join_nil (y :: r)]
    rfl
theorem join_nm {es : List Int} (h1 : 1 <= es.length) (h2 : es.length <= 8) (h3 : ∀ e ∈ es, 0 <= e /\ e < 26) : Nm (Txt.join "" (es.map letter)) := by
  have e : (Txt.join "" (es.map letter)).cps.toList = es.map fun e => 97 + e.toNat := by
    show (Builtin.Str.glued "" (es.map letter)).cps.toList = _
    rw [StrLaws.glued_eq_join, join_nil]
    clear h1 h2 h3
    induction es with
    | nil => rfl
    | cons x r ih => rw [List.map_cons, List.flatMap_cons, ih]; rfl
  have el : (Txt.join "" (es.map letter)).length = es.length := by
    show (Txt.join "" (es.map letter)).cps.size = _
    rw [← Array.length_toList, e, List.length_map]
  refine ⟨by omega, by omega, fun c hc => ?_⟩
  rw [e] at hc
  obtain ⟨x, hx, rfl⟩ := List.mem_map.mp hc
  have := h3 x hx
  omega
theorem word_ok {w0 : Int} {es : List Int} (h0 : 0 <= w0 /\ w0 < 8) (hl : es.length = 8) (he : ∀ e ∈ es, 0 <= e /\ e < 26) : ∃ x, Nm x /\ F__law_word [.lst ((w0 :: es).map D.int)] = some (.str x) := by
  obtain ⟨m, rfl⟩ := Int.eq_ofNat_of_zero_le h0.1
  have hm : m < 8 := by omega
  have hlen : ((((m : Nat) : Int) :: es).map D.int).length = 9 := by rw [List.length_map, List.length_cons, hl]
  have hcl := cut_len (l := (((m : Nat) : Int) :: es)) (a := 1) (b := 2 + m) (by omega) (by rw [List.length_cons, hl]; omega)
  have hce : ∀ e ∈ cutL (((m : Nat) : Int) :: es) (some ((1 : Nat) : Int)) (some ((2 + m : Nat) : Int)), 0 <= e /\ e < 26 := fun e h => by
    have h1 : e ∈ (((m : Nat) : Int) :: es).drop 1 := by
      unfold cutL at h
      rw [HT.sIx_nat, Nat.min_eq_left (by rw [List.length_cons]; omega)] at h
      exact List.mem_of_mem_take h
    exact he e h1
  generalize hcut : cutL (((m : Nat) : Int) :: es) (some ((1 : Nat) : Int)) (some ((2 + m : Nat) : Int)) = cs at hcl hce
  refine ⟨Txt.join "" (cs.map letter), join_nm (by omega) (by omega) hce, ?_⟩
  have hi : itF (slF (vSh 0) (pS (vC (.int 1))) (pS (b2 addD (vC (.int 2)) (b2 ixD (vSh 0) (vC (.int 0)))))) [some (.sh (.lst ((((m : Nat) : Int) :: es).map D.int)))] = some (cs.map D.int) := by
    unfold itF
    have e0 : ixD (.lst ((((m : Nat) : Int) :: es).map D.int)) (.int 0) = some (.int (m : Nat)) := atI_nat _ 0
    rw [sl_of (l := (((m : Nat) : Int) :: es).map D.int) (lo := some 1) (hi := some (2 + ((m : Nat) : Int))) rfl rfl (pS_of (b2_of rfl (b2_of rfl rfl e0) (add_int _ _))), Option.bind_some]
    show some (cutL ((((m : Nat) : Int) :: es).map D.int) (some 1) (some (2 + ((m : Nat) : Int)))) = _
    have e2 : (2 : Int) + ((m : Nat) : Int) = ((2 + m : Nat) : Int) := by omega
    rw [e2]
    have e3 : cutL ((((m : Nat) : Int) :: es).map D.int) (some ((1 : Nat) : Int)) (some ((2 + m : Nat) : Int)) = cs.map D.int := by rw [cutL_map, hcut]
    exact congrArg some e3
  have hc := list_comp (fi := itF (slF (vSh 0) (pS (vC (.int 1))) (pS (b2 addD (vC (.int 2)) (b2 ixD (vSh 0) (vC (.int 0))))))) (fe := b2 ixD (vC (.str "abcdefghijklmnopqrstuvwxyz")) (vSh 0)) (fv := [none]) (a := none) (r := []) (f := fun d => match d with | .int e => .str (letter e) | _ => .non) hi (by rw [List.length_map]; unfold sizeLine; omega) rfl (fun x hx => by
    obtain ⟨e, h1, rfl⟩ := List.mem_map.mp hx
    exact b2_of rfl rfl (ix_abc (hce e h1)))
  have hm2 : (cs.map D.int).map (fun d => match d with | .int e => D.str (letter e) | _ => .non) = (cs.map letter).map D.str := by
    rw [List.map_map, List.map_map]
    rfl
  rw [hm2] at hc
  refine run_to [some (.sh (.lst ((((m : Nat) : Int) :: es).map D.int)))] rfl (ret_of (mF_of (d := .str "") rfl (one_of hc) (join_ok (B := 1) (fun y hy => ?_) (by omega) (by decide) (by rw [List.length_map]; omega))))
  obtain ⟨e, _, rfl⟩ := List.mem_map.mp hy
  exact Nat.le_refl _
def pSz : FE := b2 addD (b2 addD (b2 addD (b2 addD (lstF (szF (aCons (vC (.int 8)) aNil))) (b2 mulD (lstF (szF (aCons (vC (.int 26)) aNil))) (vC (.int 8)))) (lstF (szF (aCons (vC (.int 8)) aNil)))) (b2 mulD (lstF (szF (aCons (vC (.int 26)) aNil))) (vC (.int 8)))) (lstF (szF (aCons (vC (.int 10)) (aCons (b2 powD (vC (.int 10)) (vC (.int 30))) (aCons (vC (.int 2)) aNil)))))
theorem pSz_ok (ρ : Env') : pSz ρ = some (.lst (sizes.map D.int)) := by
  have l1 : ∀ i : Int, lstF (szF (aCons (vC (.int i)) aNil)) ρ = some (.lst [.int i]) := fun i => lst_of (one_of rfl) (by simp)
  have m : mulD (.lst [.int 26]) (.int 8) = some (.lst (List.replicate (8 : Int).toNat [D.int 26]).flatten) := mulD_lst (by decide)
  have p : powD (.int 10) (.int 30) = some (.int big) := (powD_int (by decide)).trans (congrArg (fun z => some (D.int z)) (by decide +kernel))
  have l3 : lstF (szF (aCons (vC (.int 10)) (aCons (b2 powD (vC (.int 10)) (vC (.int 30))) (aCons (vC (.int 2)) aNil)))) ρ = some (.lst [.int 10, .int big, .int 2]) := lst_of (cons_of rfl (cons_of (b2_of rfl rfl p) (one_of rfl))) (by simp)
  refine (b2_of (b2_of (b2_of (b2_of (l1 8) (b2_of (l1 26) rfl m) (addD_lst (by decide))) (l1 8) (addD_lst (by decide))) (b2_of (l1 26) rfl m) (addD_lst (by decide))) l3 (addD_lst (by decide))).trans ?_
  rfl
theorem row_cut {ds : List Int} (h : Row ds) {j : Nat} (hj : j <= 8) : Row (cutL ds (some (j : Int)) none ++ cutL ds none (some (j : Int))) := by
  have hl := h.len
  refine ⟨by rw [List.length_append, cut_from (by omega), cut_to (by omega)]; omega, fun d hd => ?_⟩
  rcases List.mem_append.mp hd with hd | hd
  · exact h.rng d (cut_in hd)
  · exact h.rng d (cut_in hd)
noncomputable def nmF (i j k : Int) : FE := cF F__law_word (aCons (b2 addD (lstF (szF (aCons (b2 modD (b2 ixD (vSh 4) (vC (.int i))) (vC (.int 8))) aNil))) (lstF (compF (itF (slF (vSh 4) (pS (vC (.int j))) (pS (vC (.int k))))) (gSet 0) tT (b2 modD (vSh 0) (vC (.int 26))) [none]))) aNil)
theorem nm_ok {ds : List Int} {ρ : Env'} {a : Nat} (h : Row ds) (hρ : vSh 4 ρ = some (.lst (ds.map D.int))) (ha : a + 9 <= 21) : ∃ x, Nm x /\ nmF (a : Nat) ((a + 1 : Nat)) ((a + 9 : Nat)) ρ = some (.str x) := by
  have hl := h.len
  have r0 := h.rng ds[a] (List.getElem_mem _)
  have m0 : 0 <= ds[a] % 8 /\ ds[a] % 8 < 8 := ⟨Int.emod_nonneg _ (by decide), Int.emod_lt_of_pos _ (by decide)⟩
  have hcl := cut_len (l := ds) (a := a + 1) (b := a + 9) (by omega) (by omega)
  generalize hcut : cutL ds (some ((a + 1 : Nat) : Int)) (some ((a + 9 : Nat) : Int)) = cs at hcl
  obtain ⟨x, hx, hw⟩ := word_ok (w0 := ds[a] % 8) (es := cs.map (· % 26)) m0 (by rw [List.length_map]; omega) (fun e he => by
    obtain ⟨z, _, rfl⟩ := List.mem_map.mp he
    exact ⟨Int.emod_nonneg _ (by decide), Int.emod_lt_of_pos _ (by decide)⟩)
  refine ⟨x, hx, ?_⟩
  have hi : itF (slF (vSh 4) (pS (vC (.int ((a + 1 : Nat))))) (pS (vC (.int ((a + 9 : Nat)))))) ρ = some (cs.map D.int) := by
    unfold itF
    rw [sl_of (l := ds.map D.int) (lo := some ((a + 1 : Nat) : Int)) (hi := some ((a + 9 : Nat) : Int)) hρ rfl rfl, Option.bind_some]
    have e3 : cutL (ds.map D.int) (some ((a + 1 : Nat) : Int)) (some ((a + 9 : Nat) : Int)) = cs.map D.int := by rw [cutL_map, hcut]
    exact congrArg some e3
  have hc := list_comp (fi := itF (slF (vSh 4) (pS (vC (.int ((a + 1 : Nat))))) (pS (vC (.int ((a + 9 : Nat))))))) (fe := b2 modD (vSh 0) (vC (.int 26))) (fv := [none]) (a := none) (r := []) (f := fun d => match d with | .int e => .int (e % 26) | _ => .non) hi (by rw [List.length_map]; unfold sizeLine; omega) rfl (fun x hx => by
    obtain ⟨e, h1, rfl⟩ := List.mem_map.mp hx
    exact b2_of rfl rfl (modD_int (by decide)))
  have hm2 : (cs.map D.int).map (fun d => match d with | .int e => D.int (e % 26) | _ => .non) = (cs.map (· % 26)).map D.int := by
    rw [List.map_map, List.map_map]
    rfl
  rw [hm2] at hc
  have hix : b2 modD (b2 ixD (vSh 4) (vC (.int (a : Nat)))) (vC (.int 8)) ρ = some (.int (ds[a] % 8)) := b2_of (b2_of hρ rfl (ix_lst (by omega))) rfl (modD_int (by decide))
  refine cF_of (one_of (b2_of (lst_of (one_of hix) (by simp)) hc (addD_lst (by simp only [List.length_cons, List.length_nil, List.length_map]; unfold sizeLine; omega)))) ?_
  exact hw
end Law
end
section
namespace Law
open PySem L2
def stF : FE := b2 ixD (lstF (szF (aCons (b2 modD (b2 ixD (vSh 4) (vC (.int 18))) (vC (.int 10))) (aCons (b2 ixD (vSh 4) (vC (.int 19))) aNil)))) (b2 modD (b2 ixD (vSh 4) (vC (.int 20))) (vC (.int 2)))
theorem st_ok {ds : List Int} {ρ : Env'} (h : Row ds) (hρ : vSh 4 ρ = some (.lst (ds.map D.int))) : ∃ m : Nat, m < 10 ^ 30 /\ stF ρ = some (.int (m : Nat)) := by
  have hl := h.len
  have r18 := h.rng ds[18] (List.getElem_mem _)
  have r19 := h.rng ds[19] (List.getElem_mem _)
  have e18 : b2 modD (b2 ixD (vSh 4) (vC (.int 18))) (vC (.int 10)) ρ = some (.int (ds[18] % 10)) := b2_of (b2_of hρ rfl (ix_lst (i := 18) (by omega))) rfl (modD_int (by decide))
  have e19 : b2 ixD (vSh 4) (vC (.int 19)) ρ = some (.int ds[19]) := b2_of hρ rfl (ix_lst (i := 19) (by omega))
  have e20 : b2 modD (b2 ixD (vSh 4) (vC (.int 20))) (vC (.int 2)) ρ = some (.int (ds[20] % 2)) := b2_of (b2_of hρ rfl (ix_lst (i := 20) (by omega))) rfl (modD_int (by decide))
  have hl2 : lstF (szF (aCons (b2 modD (b2 ixD (vSh 4) (vC (.int 18))) (vC (.int 10))) (aCons (b2 ixD (vSh 4) (vC (.int 19))) aNil))) ρ = some (.lst [.int (ds[18] % 10), .int ds[19]]) := lst_of (cons_of e18 (one_of e19)) (by simp)
  have hbig : big = ((10 ^ 30 : Nat) : Int) := by decide +kernel
  have c0 : 0 <= ds[18] % 10 := Int.emod_nonneg _ (by decide)
  have c1 : ds[18] % 10 < 10 := Int.emod_lt_of_pos _ (by decide)
  rcases (by omega : ds[20] % 2 = 0 \/ ds[20] % 2 = 1) with z | z
  · refine ⟨(ds[18] % 10).toNat, Nat.lt_of_lt_of_le (m := 10) (by omega) (by decide +kernel), ?_⟩
    rw [z] at e20
    have : ixD (.lst [.int (ds[18] % 10), .int ds[19]]) (.int 0) = some (.int (ds[18] % 10)) := atI_nat _ 0
    rw [show stF ρ = _ from b2_of hl2 e20 this, Int.toNat_of_nonneg c0]
  · refine ⟨ds[19].toNat, ?_, ?_⟩
    · have := r19.2
      rw [hbig] at this
      omega
    · rw [z] at e20
      have : ixD (.lst [.int (ds[18] % 10), .int ds[19]]) (.int 1) = some (.int ds[19]) := atI_nat _ 1
      rw [show stF ρ = _ from b2_of hl2 e20 this, Int.toNat_of_nonneg r19.1]
def fSet (f : Str -> Str × Nat) (x b : Str) (m : Nat) : Str -> Str × Nat := fun y => if y = x then (b, m) else f y
theorem put_any {f : Str -> Str × Nat} {ns : List Str} {x b : Str} {m : Nat} (hx : Nm x) (hb : Nm b) (hm : m < 10 ^ 30) (hl : ns.length <= 19) (h : Good f ns) :
    ∃ f' ns', Good f' ns' /\ ns'.length <= ns.length + 1 /\ putG (kvs f ns) (Sum.inr x) (.tup [.str b, .int (m : Nat)]) = kvs f' ns' := by
  have hs : fSet f x b m x = (b, m) := if_pos rfl
  have ho : ∀ y, y ≠ x -> fSet f x b m y = f y := fun y hy => if_neg hy
  by_cases hin : x ∈ ns
  · refine ⟨fSet f x b m, ns, ⟨h.nd, h.len, fun y hy => ?_⟩, by omega, ?_⟩
    · by_cases e : y = x
      · subst e; rw [hs]; exact ⟨hx, hb, hm⟩
      · rw [ho y e]; exact h.nm y hy
    · unfold putG
      rw [if_pos]
      · unfold kvs
        rw [List.map_map]
        refine List.map_congr_left fun y hy => ?_
        show (if (Sum.inr y : Key) = Sum.inr x then ((Sum.inr y : Key), D.tup [.str b, .int (m : Nat)]) else (Sum.inr y, D.tup [.str (f y).1, .int ((f y).2 : Nat)])) = _
        by_cases e : y = x
        · subst e; rw [if_pos rfl, hs]
        · rw [if_neg (fun z => e (Sum.inr.inj z)), ho y e]
      · rw [List.any_eq_true]
        exact ⟨_, List.mem_map.mpr ⟨x, hin, rfl⟩, decide_eq_true rfl⟩
  · have ek : kvs (fSet f x b m) ns = kvs f ns := by
      unfold kvs
      refine List.map_congr_left fun y hy => ?_
      rw [ho y fun e => hin (e ▸ hy)]
    refine ⟨fSet f x b m, ns ++ [x], ⟨?_, by rw [List.length_append, List.length_singleton]; omega, fun y hy => ?_⟩, by rw [List.length_append, List.length_singleton]; exact Nat.le_refl _, ?_⟩
    · rw [List.nodup_append]
      exact ⟨h.nd, List.pairwise_singleton _ _, fun a ha b hb e => by rw [List.mem_singleton.mp hb] at e; exact hin (e ▸ ha)⟩
    · by_cases e : y = x
      · subst e; rw [hs]; exact ⟨hx, hb, hm⟩
      · rw [ho y e]
        rcases List.mem_append.mp hy with hy | hy
        · exact h.nm y hy
        · exact absurd (List.mem_singleton.mp hy) e
    · rw [← put_new (f := fSet f x b m) hin, hs, ek]
noncomputable def plB : FS := sSeq (sSet 4 (cF F__law_digits (aCons (b2 fdivD (vSh 0) (vC (.int 21))) (aCons (b2 mulD (vC (.int 20)) (vSh 3)) (aCons pSz aNil))))) (sSeq (sIf (toB (b2 eqD (b2 modD (vSh 0) (vC (.int 2))) (vC (.int 0)))) (sSet 4 (b2 addD (slF (vSh 4) (pS (b2 modD (vSh 3) (vC (.int 8)))) pN) (slF (vSh 4) pN (pS (b2 modD (vSh 3) (vC (.int 8))))))) sNil)
  (sSeq (sSet 5 (nmF 0 1 9)) (sSeq (sSet 6 (nmF 9 10 18)) (sDPutO 1 (vSh 5) (tupF (szF (aCons (vSh 6) (aCons stF aNil))))))))
def pEnv (c n k : Int) (l : List (Key × D)) (a b d : Option Slot) : Env' := [some (.sh (.int c)), some (.odk l), some (.sh (.int n)), some (.sh (.int k)), a, b, d]
theorem plB_ok {f : Str -> Str × Nat} {ns : List Str} {c n : Int} {k : Nat} {a b d : Option Slot} (h : Good f ns) (hl : ns.length <= k) (hk : k <= 19) :
    ∃ f' ns' a' b' d', Good f' ns' /\ ns'.length <= k + 1 /\ plB (pEnv c n k (kvs f ns) a b d) = some (.nx, pEnv c n k (kvs f' ns') a' b' d') := by
  obtain ⟨ds, hr, hd⟩ := digits_ok (c / 21) (20 * ((k : Nat) : Int)) (by omega)
  have e4 : cF F__law_digits (aCons (b2 fdivD (vSh 0) (vC (.int 21))) (aCons (b2 mulD (vC (.int 20)) (vSh 3)) (aCons pSz aNil))) (pEnv c n k (kvs f ns) a b d) = some (.lst (ds.map D.int)) :=
    cF_of (cons_of (b2_of (x := .int c) rfl rfl (fdivD_int (by decide))) (cons_of (b2_of (x := .int 20) (y := .int (k : Nat)) rfl rfl (mulD_int (.inl ⟨by decide, by decide⟩))) (one_of (pSz_ok _)))) hd
  have turn : ∃ es, Row es /\ ∀ E : FS, sSeq (sIf (toB (b2 eqD (b2 modD (vSh 0) (vC (.int 2))) (vC (.int 0)))) (sSet 4 (b2 addD (slF (vSh 4) (pS (b2 modD (vSh 3) (vC (.int 8)))) pN) (slF (vSh 4) pN (pS (b2 modD (vSh 3) (vC (.int 8))))))) sNil) E (pEnv c n k (kvs f ns) (some (.sh (.lst (ds.map D.int)))) b d) = E (pEnv c n k (kvs f ns) (some (.sh (.lst (es.map D.int)))) b d) := by
    have ht : toB (b2 eqD (b2 modD (vSh 0) (vC (.int 2))) (vC (.int 0))) (pEnv c n k (kvs f ns) (some (.sh (.lst (ds.map D.int)))) b d) = some (decide (c % 2 = 0)) := toB_of (b2_of (b2_of (x := .int c) rfl rfl (modD_int (by decide))) rfl rfl)
    by_cases hc : c % 2 = 0
    · rw [decide_eq_true hc] at ht
      have hj : (k : Int) % 8 = ((k % 8 : Nat) : Int) := by omega
      have hp : pS (b2 modD (vSh 3) (vC (.int 8))) (pEnv c n k (kvs f ns) (some (.sh (.lst (ds.map D.int)))) b d) = some (some ((k % 8 : Nat) : Int)) := by
        rw [← hj]
        exact pS_of (b2_of (x := .int (k : Nat)) rfl rfl (modD_int (by decide)))
      have hlen := (row_cut hr (j := k % 8) (by omega)).len
      rw [List.length_append] at hlen
      have hv : b2 addD (slF (vSh 4) (pS (b2 modD (vSh 3) (vC (.int 8)))) pN) (slF (vSh 4) pN (pS (b2 modD (vSh 3) (vC (.int 8))))) (pEnv c n k (kvs f ns) (some (.sh (.lst (ds.map D.int)))) b d) = some (.lst ((cutL ds (some ((k % 8 : Nat) : Int)) none ++ cutL ds none (some ((k % 8 : Nat) : Int))).map D.int)) := by
        refine (b2_of (sl_of (l := ds.map D.int) (lo := some ((k % 8 : Nat) : Int)) (hi := none) rfl hp rfl) (sl_of (l := ds.map D.int) (lo := none) (hi := some ((k % 8 : Nat) : Int)) rfl rfl hp) (addD_lst ?_)).trans ?_
        · rw [cutL_map, cutL_map, List.length_map, List.length_map]
          unfold sizeLine
          omega
        · rw [cutL_map, cutL_map, List.map_append]
      exact ⟨_, row_cut hr (j := k % 8) (by omega), fun E => (take_of ht).trans (set_of hv)⟩
    · rw [decide_eq_false hc] at ht
      exact ⟨ds, hr, fun E => skip_of ht⟩
  obtain ⟨es, hes, hturn⟩ := turn
  obtain ⟨x, hx, e5⟩ := nm_ok (ρ := pEnv c n k (kvs f ns) (some (.sh (.lst (es.map D.int)))) b d) (a := 0) hes rfl (by omega)
  obtain ⟨y, hy, e6⟩ := nm_ok (ρ := pEnv c n k (kvs f ns) (some (.sh (.lst (es.map D.int)))) (some (.sh (.str x))) d) (a := 9) hes rfl (by omega)
  obtain ⟨m, hm, e7⟩ := st_ok (ρ := pEnv c n k (kvs f ns) (some (.sh (.lst (es.map D.int)))) (some (.sh (.str x))) (some (.sh (.str y)))) hes rfl
  obtain ⟨f', ns', g1, g2, g3⟩ := put_any hx hy hm (by omega) h
  refine ⟨f', ns', some (.sh (.lst (es.map D.int))), some (.sh (.str x)), some (.sh (.str y)), g1, by omega, ?_⟩
  refine (set_of e4).trans ((hturn _).trans ((set_of e5).trans ((set_of e6).trans ?_)))
  have hv : tupF (szF (aCons (vSh 6) (aCons stF aNil))) (pEnv c n k (kvs f ns) (some (.sh (.lst (es.map D.int)))) (some (.sh (.str x))) (some (.sh (.str y)))) = some (.tup [.str y, .int (m : Nat)]) := by
    unfold tupF szF
    rw [cons_of (d := .str y) rfl (one_of e7), Option.bind_some, if_pos (show [D.str y, D.int (m : Nat)].length <= sizeLine from (show 2 <= sizeLine by decide))]
    rfl
  refine (put_of (i := 1) (l := kvs f ns) (x := x) rfl hv rfl (by unfold kvs; rw [List.length_map]; omega)).trans ?_
  rw [g3]
  rfl
theorem rng1_ok {j : Nat} (h : j <= 1000) : rng1 [.int (j : Nat)] = some ((List.range j).map fun i : Nat => D.int (0 + i)) := by
  have big62 : (2 : Int) ^ 62 = 4611686018427387904 := by decide +kernel
  unfold rng1
  rw [big62]
  exact if_pos ⟨by omega, by omega⟩
theorem plan_ok (c : Int) : ∃ f ns, Good f ns /\ F__law_plan [.int c] = some (.dk (kvs f ns)) := by
  have h0 : 0 <= c % 21 := Int.emod_nonneg _ (by decide)
  have h1 : c % 21 < 21 := Int.emod_lt_of_pos _ (by decide)
  obtain ⟨n, hn⟩ := Int.eq_ofNat_of_zero_le h0
  have hn20 : n <= 20 := by omega
  have loop : ∀ (m k : Nat) (f : Str -> Str × Nat) (ns : List Str) (q a b d : Option Slot), k + m = n -> Good f ns -> ns.length <= k -> ∃ f' ns' q' a' b' d', Good f' ns' /\ forL (gSet 3) plB ((List.range' k m).map fun i : Nat => D.int (0 + i)) [some (.sh (.int c)), some (.odk (kvs f ns)), some (.sh (.int n)), q, a, b, d] =
      some (.nx, [some (.sh (.int c)), some (.odk (kvs f' ns')), some (.sh (.int n)), q', a', b', d']) := by
    intro m
    induction m with
    | zero => intro k f ns q a b d _ hg _; exact ⟨f, ns, q, a, b, d, hg, rfl⟩
    | succ m ih =>
      intro k f ns q a b d hk hg hl
      obtain ⟨f1, ns1, a1, b1, d1, g1, g2, g3⟩ := plB_ok (c := c) (n := n) (k := k) (a := a) (b := b) (d := d) hg hl (by omega)
      obtain ⟨f2, ns2, q2, a2, b2, d2, k1, k2⟩ := ih (k + 1) f1 ns1 (some (.sh (.int (k : Nat)))) a1 b1 d1 (by omega) g1 g2
      refine ⟨f2, ns2, q2, a2, b2, d2, k1, ?_⟩
      rw [List.range'_succ, List.map_cons, Int.zero_add]
      exact forL_cons gSet_of g3 k2
  obtain ⟨f, ns, q, a, b, d, g, hl⟩ := loop n 0 (fun _ => ("", 0)) [] none none none none (by omega) ⟨List.Pairwise.nil, by simp, fun x hx => (nomatch hx)⟩ (Nat.le_refl _)
  refine ⟨f, ns, g, ?_⟩
  have e1 : sSeq (sFor (itR rng1 (aCons (vSh 2) aNil)) (gSet 3) plB) (sFrzD 1 (sRet (vSh 1))) [some (.sh (.int c)), some (.odk []), some (.sh (.int n)), none, none, none, none] = some (.rt (.dk (kvs f ns)), [some (.sh (.int c)), some (.sh (.dk (kvs f ns))), some (.sh (.int n)), q, a, b, d]) := by
    have hi : itR rng1 (aCons (vSh 2) aNil) [some (.sh (.int c)), some (.odk []), some (.sh (.int n)), none, none, none, none] = some ((List.range n).map fun i : Nat => D.int (0 + i)) := by
      unfold itR
      rw [one_of (d := .int (n : Nat)) rfl, Option.bind_some]
      exact rng1_ok (by omega)
    rw [← List.range_eq_range'] at hl
    exact (for_of hi hl).trans rfl
  have e2 : sSeq (sOdk 1) (sSeq (sSet 2 (b2 modD (vSh 0) (vC (.int 21)))) (sSeq (sFor (itR rng1 (aCons (vSh 2) aNil)) (gSet 3) plB) (sFrzD 1 (sRet (vSh 1))))) [some (.sh (.int c)), none, none, none, none, none, none] = _ :=
    (seq_of (ρ1 := [some (.sh (.int c)), some (.odk []), none, none, none, none, none]) rfl).trans ((set_of (d := .int (n : Nat)) (b2_of (x := .int c) rfl rfl (by rw [modD_int (by decide), hn]))).trans e1)
  exact run_to [some (.sh (.int c)), none, none, none, none, none, none] rfl e2
end Law
end
section
namespace Law
open PySem L2
section
variable {f : Str -> Str × Nat} {ns : List Str}
def lwF : FE := mF joinD (vC (.str " ")) (aCons (lstF (szF (aCons (vSh 0) (aCons (b2 ixD (b2 dgetD (vSh 1) (vSh 0)) (vC (.int 0))) (aCons (cF strD (aCons (b2 ixD (b2 dgetD (vSh 1) (vSh 0)) (vC (.int 1))) aNil)) aNil))))) aNil)
theorem lw_ok {x : Str} (h : Good f ns) (hx : x ∈ ns) : lwF [some (.sh (.str x)), some (.sh (.dk (kvs f ns)))] = some (.str (rowS f x)) := by
  have e0 : ixD (.tup [.str (f x).1, .int ((f x).2 : Nat)]) (.int 0) = some (.str (f x).1) := atI_nat _ 0
  have e1 : ixD (.tup [.str (f x).1, .int ((f x).2 : Nat)]) (.int 1) = some (.int ((f x).2 : Nat)) := atI_nat _ 1
  have hn := h.nm x hx
  have hs : strD [.int ((f x).2 : Nat)] = some (.str (numS (f x).2)) := if_pos (num_log hn.2.2)
  have a1 := hn.1.hi
  have a2 := hn.2.1.hi
  have a3 := (num_len hn.2.2).2
  refine mF_of (d := .str " ") (ds := [.lst ([x, (f x).1, numS (f x).2].map D.str)]) rfl (one_of (lst_of (cons_of (d := .str x) rfl (cons_of (b2_of (b2_of (x := .dk (kvs f ns)) (y := .str x) rfl rfl (dget_in hx)) rfl e0) (one_of (cF_of (one_of (b2_of (b2_of (x := .dk (kvs f ns)) (y := .str x) rfl rfl (dget_in hx)) rfl e1)) hs)))) (by simp))) ?_
  refine join_ok (B := 30) (fun y hy => ?_) (by omega) (by rw [sp_len]; omega) (by simp)
  rcases List.mem_cons.mp hy with rfl | hy
  · omega
  · rcases List.mem_cons.mp hy with rfl | hy
    · omega
    · rw [List.mem_singleton.mp hy]; exact a3
def dueF : FE := mF joinD (vC (.str "; ")) (aCons (lstF (compF (itF (cF sortedD (aCons (vSh 2) aNil))) (gSet 0) tT lwF [none, some 2])) aNil)
theorem dueF_ok {ρ : Env'} {a b : Option Slot} {r : Env'} (h : Good f ns) (hρ : ρ = a :: b :: some (.sh (.dk (kvs f ns))) :: r) : dueF ρ = some (.str (dueS f ns)) := by
  subst hρ
  have hi : itF (cF sortedD (aCons (vSh 2) aNil)) (a :: b :: some (.sh (.dk (kvs f ns))) :: r) = some ((sortS ns).map D.str) := by
    unfold itF
    rw [cF_of (ds := [.dk (kvs f ns)]) rfl (sorted_ok h.len)]
    rfl
  have hc := list_comp (fi := itF (cF sortedD (aCons (vSh 2) aNil))) (fe := lwF) (fv := [none, some 2]) (a := none) (r := [some (.sh (.dk (kvs f ns)))]) (f := fun d => match d with | .str x => .str (rowS f x) | _ => .non) hi (by rw [List.length_map, sort_len]; have := h.len; unfold sizeLine; omega) rfl (fun d hd => by
    obtain ⟨x, hx, rfl⟩ := List.mem_map.mp hd
    exact lw_ok h (mem_sort.mp hx))
  have hm : ((sortS ns).map D.str).map (fun d => match d with | .str x => D.str (rowS f x) | _ => .non) = ((sortS ns).map (rowS f)).map D.str := by
    rw [List.map_map, List.map_map]
    rfl
  rw [hm] at hc
  exact mF_of (d := .str "; ") rfl (one_of hc) (due_join h)
theorem mrg_all : ∀ (zs done : List Str), (∀ x ∈ zs, x ∉ done) -> zs.Nodup -> (kvs f zs).foldl (fun acc kv => putG acc kv.1 kv.2) (kvs f done) = kvs f (done ++ zs)
  | [], done, _, _ => by simp [kvs]
  | x :: r, done, h1, h2 => by
    rw [List.nodup_cons] at h2
    show (kvs f r).foldl (fun acc kv => putG acc kv.1 kv.2) (putG (kvs f done) (Sum.inr x) (.tup [.str (f x).1, .int ((f x).2 : Nat)])) = _
    rw [put_new (h1 x List.mem_cons_self), mrg_all r (done ++ [x]) (fun y hy z => by
      rcases List.mem_append.mp z with z | z
      · exact h1 y (List.mem_cons_of_mem _ hy) z
      · rw [List.mem_singleton.mp z] at hy; exact h2.1 hy) h2.2, List.append_assoc]
    rfl
theorem pairs_ok : ∀ zs : List Str, pairsK ((kvs f zs).map fun kv => D.tup [keyD kv.1, kv.2]) = some (kvs f zs)
  | [] => rfl
  | x :: r => by
    show ((some (Sum.inr x : Key)).bind fun kk => (pairsK ((kvs f r).map fun kv => D.tup [keyD kv.1, kv.2])).map ((kk, D.tup [.str (f x).1, .int ((f x).2 : Nat)]) :: ·)) = _
    rw [pairs_ok r]
    rfl
theorem rev_ok (h : Good f ns) : dictKD [.lst ((kvs f ns).map fun kv => D.tup [keyD kv.1, kv.2]).reverse] = some (.dk (kvs f ns.reverse)) := by
  have e : ((kvs f ns).map fun kv => D.tup [keyD kv.1, kv.2]).reverse = (kvs f ns.reverse).map fun kv => D.tup [keyD kv.1, kv.2] := by
    unfold kvs
    rw [← List.map_reverse, ← List.map_reverse]
  rw [e]
  have hl : ((kvs f ns.reverse).map fun kv => D.tup [keyD kv.1, kv.2]).length <= 1000 := by
    unfold kvs
    rw [List.length_map, List.length_map, List.length_reverse]
    have := h.len
    omega
  show (if ((kvs f ns.reverse).map fun kv => D.tup [keyD kv.1, kv.2]).length <= 1000 then (pairsK ((kvs f ns.reverse).map fun kv => D.tup [keyD kv.1, kv.2])).map (fun ps => D.dk (mrgD ps)) else none) = _
  rw [if_pos hl, pairs_ok]
  have := mrg_all (f := f) ns.reverse [] (fun _ _ z => by cases z) ((List.reverse_perm ns).nodup_iff.mpr h.nd)
  show some (D.dk (mrgD (kvs f ns.reverse))) = _
  unfold mrgD
  exact congrArg (fun l => some (D.dk l)) this
theorem good_rev (h : Good f ns) : Good f ns.reverse := ⟨(List.reverse_perm ns).nodup_iff.mpr h.nd, by rw [List.length_reverse]; exact h.len, fun x hx => h.nm x (List.mem_reverse.mp hx)⟩
theorem due_rev : dueS f ns.reverse = dueS f ns := by unfold dueS; rw [sort_perm (List.reverse_perm ns)]
def vB : FS := sIf (orT (toB (cF isiD (aCons (vSh 8) (aCons (vC (.ty "bool")) aNil)))) (orT (notT (toB (cF isiD (aCons (vSh 8) (aCons (vC (.ty "int")) aNil))))) (notT (toB (cF isiD (aCons (vSh 7) (aCons (vC (.ty "str")) aNil))))))) (sRet (vC (.bl false))) sNil
def vG : FG := gTupD 2 (gsCons (gSet 7) (gsCons (gSet 8) gsNil))
variable {s0 s1 s2 s3 s4 s5 s6 : Option Slot}
theorem vB_ok {b : Str} {m : Int} : vB [s0, s1, s2, s3, s4, s5, s6, some (.sh (.str b)), some (.sh (.int m))] = some (.nx, [s0, s1, s2, s3, s4, s5, s6, some (.sh (.str b)), some (.sh (.int m))]) := by
  have t : orT (toB (cF isiD (aCons (vSh 8) (aCons (vC (.ty "bool")) aNil)))) (orT (notT (toB (cF isiD (aCons (vSh 8) (aCons (vC (.ty "int")) aNil))))) (notT (toB (cF isiD (aCons (vSh 7) (aCons (vC (.ty "str")) aNil)))))) [s0, s1, s2, s3, s4, s5, s6, some (.sh (.str b)), some (.sh (.int m))] = some false :=
    or_of (toB_of (cF_of (ds := [.int m, .ty "bool"]) rfl rfl)) (or_of (not_of (cF_of (ds := [.int m, .ty "int"]) rfl rfl)) (not_of (cF_of (ds := [.str b, .ty "str"]) rfl rfl)))
  unfold vB sIf
  rw [t, Option.bind_some, if_neg Bool.false_ne_true]
  rfl
theorem v_loop : ∀ (zs : List Str) (s7 s8 : Option Slot), ∃ s7' s8', ∀ s6 : Option Slot, forL vG vB ((kvs f zs).map (·.2)) [s0, s1, s2, s3, s4, s5, s6, s7, s8] = some (.nx, [s0, s1, s2, s3, s4, s5, s6, s7', s8'])
  | [], s7, s8 => ⟨s7, s8, fun _ => rfl⟩
  | x :: r, s7, s8 => by
    obtain ⟨s7', s8', h⟩ := v_loop r (some (.sh (.str (f x).1))) (some (.sh (.int ((f x).2 : Nat))))
    refine ⟨s7', s8', fun s6 => ?_⟩
    exact forL_cons (x := .tup [.str (f x).1, .int ((f x).2 : Nat)]) (ρ1 := [s0, s1, s2, s3, s4, s5, s6, some (.sh (.str (f x).1)), some (.sh (.int ((f x).2 : Nat)))]) rfl vB_ok (h s6)
noncomputable def lB : FS := sSeq (sSet 2 (cF F__law_plan (aCons (vSh 1) aNil))) (sSeq (sSet 3 dueF) (sSeq (sSet 4 (cF dictKD (aCons (b1 revD (b1 itemsOf (vSh 2))) aNil))) (sSeq (sSet 5 (cF F_shown_plan (aCons (vSh 4) aNil)))
  (sSeq (sIf (orT (notT (toB (cF isiD (aCons (vSh 5) (aCons (vC (.ty "str")) aNil))))) (orT (toB (b2 neA (vSh 5) (vSh 3))) (toB (b2 dNeD (vSh 4) (vSh 2))))) (sRet (vC (.bl false))) sNil)
  (sSeq (sOdC 6 F_read_plan (aCons (vSh 3) aNil)) (sSeq (sIf (bwTD 6 (orT (notT (toB (cF isiD (aCons (vSh 6) (aCons (vC (.ty "dict")) aNil))))) (toB (b2 dNeD (vSh 6) (vSh 2))))) (sRet (vC (.bl false))) sNil)
  (sSeq (sForV 6 vG vB) (sSeq (sClr 6) (sIf (toB (b2 dNeD (cF (dkF F_read_plan) (aCons (vSh 3) aNil)) (vSh 2))) (sRet (vC (.bl false))) sNil)))))))))
theorem lB_ok {S s2 s3 s4 s5 s6 s7 s8 : Option Slot} (c : Int) : ∃ s2' s3' s4' s5' s6' s7' s8', lB [S, some (.sh (.int c)), s2, s3, s4, s5, s6, s7, s8] = some (.nx, [S, some (.sh (.int c)), s2', s3', s4', s5', s6', s7', s8']) := by
  obtain ⟨f, ns, h, hp⟩ := plan_ok c
  obtain ⟨s7', s8', hv⟩ := v_loop (f := f) (s0 := S) (s1 := some (.sh (.int c))) (s2 := some (.sh (.dk (kvs f ns)))) (s3 := some (.sh (.str (dueS f ns)))) (s4 := some (.sh (.dk (kvs f ns.reverse)))) (s5 := some (.sh (.str (dueS f ns)))) (sortS ns) s7 s8
  refine ⟨some (.sh (.dk (kvs f ns))), some (.sh (.str (dueS f ns))), some (.sh (.dk (kvs f ns.reverse))), some (.sh (.str (dueS f ns))), some (.odk []), s7', s8', ?_⟩
  have hne : neA (.str (dueS f ns)) (.str (dueS f ns)) = some (.bl false) := by
    unfold neA orG
    have : neD (.str (dueS f ns)) (.str (dueS f ns)) = some (.bl false) := by
      show some (D.bl (!decide (dueS f ns = dueS f ns))) = _
      rw [decide_eq_true rfl]
      rfl
    rw [this]
  have hps : (sortS ns).Perm ns := List.mergeSort_perm ns leS
  have hsh : F_shown_plan [.dk (kvs f ns.reverse)] = some (.str (dueS f ns)) := by rw [shown_ok (good_rev h), due_rev]
  refine (set_of (cF_of (ds := [.int c]) rfl hp)).trans ?_
  refine (set_of (dueF_ok h rfl)).trans ?_
  refine (set_of (cF_of (ds := [.lst ((kvs f ns).map fun kv => D.tup [keyD kv.1, kv.2]).reverse]) (one_of (b1_of (g := revD) (x := .lst ((kvs f ns).map fun kv => D.tup [keyD kv.1, kv.2])) (b1_of (g := itemsOf) (x := .dk (kvs f ns)) rfl rfl) rfl)) (rev_ok h))).trans ?_
  refine (set_of (cF_of (ds := [.dk (kvs f ns.reverse)]) rfl hsh)).trans ?_
  refine (skip_of (or_of (not_of (cF_of (ds := [.str (dueS f ns), .ty "str"]) rfl rfl)) (or_of (toB_of (b2_of rfl rfl hne)) (toB_of (b2_of rfl rfl (ne_ok h (List.reverse_perm ns))))))).trans ?_
  have hod : sOdC 6 F_read_plan (aCons (vSh 3) aNil) [S, some (.sh (.int c)), some (.sh (.dk (kvs f ns))), some (.sh (.str (dueS f ns))), some (.sh (.dk (kvs f ns.reverse))), some (.sh (.str (dueS f ns))), s6, s7, s8] =
      some (.nx, [S, some (.sh (.int c)), some (.sh (.dk (kvs f ns))), some (.sh (.str (dueS f ns))), some (.sh (.dk (kvs f ns.reverse))), some (.sh (.str (dueS f ns))), some (.odk (kvs f (sortS ns))), s7, s8]) := by
    unfold sOdC
    rw [one_of (d := .str (dueS f ns)) rfl, Option.bind_some, read_ok h]
    rfl
  refine (seq_of hod).trans ?_
  refine (skip_of ?_).trans ?_
  · show orT (notT (toB (cF isiD (aCons (vSh 6) (aCons (vC (.ty "dict")) aNil))))) (toB (b2 dNeD (vSh 6) (vSh 2))) [S, some (.sh (.int c)), some (.sh (.dk (kvs f ns))), some (.sh (.str (dueS f ns))), some (.sh (.dk (kvs f ns.reverse))), some (.sh (.str (dueS f ns))), some (.sh (.dk (kvs f (sortS ns)))), s7, s8] = some false
    exact or_of (not_of (cF_of (ds := [.dk (kvs f (sortS ns)), .ty "dict"]) rfl rfl)) (toB_of (b2_of rfl rfl (ne_ok h hps)))
  refine (seq_of (sForV_of (i := 6) (kvs := kvs f (sortS ns)) (R := [S, some (.sh (.int c)), some (.sh (.dk (kvs f ns))), some (.sh (.str (dueS f ns))), some (.sh (.dk (kvs f ns.reverse))), some (.sh (.str (dueS f ns))), none, s7', s8']) rfl fun a => hv (some (.pin a)))).trans ?_
  refine (seq_of (ρ1 := [S, some (.sh (.int c)), some (.sh (.dk (kvs f ns))), some (.sh (.str (dueS f ns))), some (.sh (.dk (kvs f ns.reverse))), some (.sh (.str (dueS f ns))), some (.odk []), s7', s8']) rfl).trans ?_
  have hlast : toB (b2 dNeD (cF (dkF F_read_plan) (aCons (vSh 3) aNil)) (vSh 2)) [S, some (.sh (.int c)), some (.sh (.dk (kvs f ns))), some (.sh (.str (dueS f ns))), some (.sh (.dk (kvs f ns.reverse))), some (.sh (.str (dueS f ns))), some (.odk []), s7', s8'] = some false := by
    refine toB_of (b2_of (x := .dk (kvs f (sortS ns))) (y := .dk (kvs f ns)) (cF_of (ds := [.str (dueS f ns)]) rfl ?_) rfl (ne_ok h hps))
    unfold dkF
    rw [read_ok h]
    rfl
  unfold sIf
  rw [hlast, Option.bind_some, if_neg Bool.false_ne_true]
  rfl
theorem l_loop {S : Option Slot} : ∀ (cs : List Int) (s1 s2 s3 s4 s5 s6 s7 s8 : Option Slot), ∃ s1' s2' s3' s4' s5' s6' s7' s8', forL (gSet 1) lB (cs.map D.int) [S, s1, s2, s3, s4, s5, s6, s7, s8] = some (.nx, [S, s1', s2', s3', s4', s5', s6', s7', s8'])
  | [], s1, s2, s3, s4, s5, s6, s7, s8 => ⟨s1, s2, s3, s4, s5, s6, s7, s8, rfl⟩
  | c :: r, s1, s2, s3, s4, s5, s6, s7, s8 => by
    obtain ⟨a2, a3, a4, a5, a6, a7, a8, h1⟩ := lB_ok (S := S) (s2 := s2) (s3 := s3) (s4 := s4) (s5 := s5) (s6 := s6) (s7 := s7) (s8 := s8) c
    obtain ⟨b1, b2, b3, b4, b5, b6, b7, b8, h2⟩ := l_loop (S := S) r (some (.sh (.int c))) a2 a3 a4 a5 a6 a7 a8
    exact ⟨b1, b2, b3, b4, b5, b6, b7, b8, forL_cons gSet_of h1 h2⟩
theorem law_true (ns : List Int) (hlen : ns.length <= 63) : F_law [.scr ns] = some (.bl true) := by
  obtain ⟨b1, b2', b3, b4, b5, b6, b7, b8, hl⟩ := l_loop (S := some (.sh (.scr ns))) (0 :: cutL ns none (some 60)) none none none none none none none none
  have hc : (cutL ns none (some 60)).length <= 63 := by
    unfold cutL
    rw [List.length_take, List.length_drop]
    omega
  have hs : slF (vSh 0) pN (pS (vC (.int 60))) [some (.sh (.scr ns)), none, none, none, none, none, none, none, none] = some (.lst ((cutL ns none (some 60)).map D.int)) := rfl
  have hi : itF (b2 addD (lstF (szF (aCons (vC (.int 0)) aNil))) (slF (vSh 0) pN (pS (vC (.int 60))))) [some (.sh (.scr ns)), none, none, none, none, none, none, none, none] = some ((0 :: cutL ns none (some 60)).map D.int) := by
    unfold itF
    rw [b2_of (lst_of (one_of (d := .int 0) rfl) (by simp)) hs (addD_lst (by simp only [List.length_cons, List.length_nil, List.length_map]; unfold sizeLine; omega)), Option.bind_some]
    rfl
  have e1 : sSeq (sFor (itF (b2 addD (lstF (szF (aCons (vC (.int 0)) aNil))) (slF (vSh 0) pN (pS (vC (.int 60)))))) (gSet 1) lB) (sRet (vC (.bl true))) [some (.sh (.scr ns)), none, none, none, none, none, none, none, none] = some (.rt (.bl true), _) :=
    (for_of hi hl).trans (ret_of rfl)
  exact run_to [some (.sh (.scr ns)), none, none, none, none, none, none, none, none] rfl e1
end
end Law
end
section
namespace Law
open PySem L2 PySem.Spec PyProof.Rows
def Gam : Cn := ⟨fun _ => none, none⟩
def spLaw (K : PySem.W.Frag) : Sp := fun vs H Q _ => ∃ (a : Addr) (ns : List Int), vs = [.ref a] /\ SqL K H a (ns.map V.int) /\ ns.length <= 63 /\ ∀ H', Q (.bl true) H'
theorem all_mk {l : PySem.W.OpenLaw} {w : World} {K : PySem.W.Frag} {h : Heap} {mg : Str -> Option Value} {fa : Addr} (X : K.In h) (G : h.Ns mainGlobals mg) (hfa : mg "law" = some (.ref fa))
    (d0 : Dfn K mg "_law_digits" s__law_digits)
    (d1 : Dfn K mg "_law_word" s__law_word)
    (d2 : Dfn K mg "_law_plan" s__law_plan)
    (d3 : Dfn K mg "shown_plan" s_shown_plan)
    (d4 : Dfn K mg "is_numeral" s_is_numeral)
    (d5 : Dfn K mg "is_name" s_is_name)
    (d6 : Dfn K mg "is_plan_row" s_is_plan_row)
    (d7 : Dfn K mg "number_of" s_number_of)
    (d8 : Dfn K mg "read_plan" s_read_plan)
    (a9 : PySem.W.nsIn K mainGlobals "law" = some (some (.ref f9))) (l9 : K.lookup f9 = some ⟨oc9, od9, .func (PySem.W.fnOf "law" "law" (defArgs s_law) (defBody s_law) (defScope s_law) .none kV9 dc9 pm9 an9 cd9 ct9), sl9⟩) (c9 : PySem.W.codeIn K cd9 "law" = true) (k9 : PySem.W.keepIn K (.ref f9) = true)
    (z_abs : PySem.W.nsIn K mainGlobals "abs" = some none)
    (z_all : PySem.W.nsIn K mainGlobals "all" = some none)
    (z_bool : PySem.W.nsIn K mainGlobals "bool" = some none)
    (z_dict : PySem.W.nsIn K mainGlobals "dict" = some none)
    (z_enumerate : PySem.W.nsIn K mainGlobals "enumerate" = some none)
    (z_int : PySem.W.nsIn K mainGlobals "int" = some none)
    (z_isinstance : PySem.W.nsIn K mainGlobals "isinstance" = some none)
    (z_len : PySem.W.nsIn K mainGlobals "len" = some none)
    (z_list : PySem.W.nsIn K mainGlobals "list" = some none)
    (z_range : PySem.W.nsIn K mainGlobals "range" = some none)
    (z_sorted : PySem.W.nsIn K mainGlobals "sorted" = some none)
    (z_str : PySem.W.nsIn K mainGlobals "str" = some none)
    {tk_FIGURES : Tok} (z_FIGURES : PySem.W.nsIn K mainGlobals "FIGURES" = some (some (.str "0123456789" tk_FIGURES)))
    {tk_LONGEST_NAME : Tok} (z_LONGEST_NAME : PySem.W.nsIn K mainGlobals "LONGEST_NAME" = some (some (.int 8 tk_LONGEST_NAME)))
    {tk_PARTING : Tok} (z_PARTING : PySem.W.nsIn K mainGlobals "PARTING" = some (some (.str "; " tk_PARTING)))
    : ∃ fd : FuncData, (∀ (s : Shared) (v : Value), BindsTo s fd ⟨[v], []⟩ [("_law_script", v)]) /\ ∀ base : Heap, K.In base -> base.Ns mainGlobals mg -> FnOk l.prog w K mg base CX0 4 fa fd ["_law_script"] (spLaw K) := by
  have e := hfa.symm.trans (PySem.W.mg_of X G a9)
  have e2 := Value.ref.inj (Option.some.inj e)
  subst e2
  have B : Bn mg := ⟨PySem.W.mg_none_of X G z_abs, PySem.W.mg_none_of X G z_all, PySem.W.mg_none_of X G z_bool, PySem.W.mg_none_of X G z_dict, PySem.W.mg_none_of X G z_enumerate, PySem.W.mg_none_of X G z_int, PySem.W.mg_none_of X G z_isinstance, PySem.W.mg_none_of X G z_len, PySem.W.mg_none_of X G z_list, PySem.W.mg_none_of X G z_range, PySem.W.mg_none_of X G z_sorted, PySem.W.mg_none_of X G z_str, by have q := PySem.W.mg_of X G z_FIGURES; rw [q]; unfold t_FIGURES; rw [q], by have q := PySem.W.mg_of X G z_LONGEST_NAME; rw [q]; unfold t_LONGEST_NAME; rw [q], by have q := PySem.W.mg_of X G z_PARTING; rw [q]; unfold t_PARTING; rw [q]⟩
  refine ⟨PySem.W.fnOf "law" "law" (defArgs s_law) (defBody s_law) (defScope s_law) .none kV9 dc9 pm9 an9 cd9 ct9, fun s v => .of_eq rfl, fun base _ _ => ?_⟩
  have C__law_digits : Cal Gam l.prog w K mg base "_law_digits" 3 1 F__law_digits := cal__law_digits d0 B
  have C__law_word : Cal Gam l.prog w K mg base "_law_word" 1 1 F__law_word := cal__law_word d1 B
  have C__law_plan : Cal Gam l.prog w K mg base "_law_plan" 1 2 F__law_plan := cal__law_plan d2 B C__law_digits C__law_word
  have C_shown_plan : Cal Gam l.prog w K mg base "shown_plan" 1 1 F_shown_plan := cal_shown_plan d3 B
  have C_is_numeral : Cal Gam l.prog w K mg base "is_numeral" 1 1 F_is_numeral := cal_is_numeral d4 B
  have C_is_name : Cal Gam l.prog w K mg base "is_name" 1 1 F_is_name := cal_is_name d5 B
  have C_is_plan_row : Cal Gam l.prog w K mg base "is_plan_row" 1 2 F_is_plan_row := cal_is_plan_row d6 B C_is_numeral C_is_name
  have C_number_of : Cal Gam l.prog w K mg base "number_of" 1 1 F_number_of := cal_number_of d7 B
  have C_read_plan : CalD Gam l.prog w K mg base "read_plan" 1 3 F_read_plan := cal_read_plan d8 B C_is_plan_row C_number_of
  have FL := fun_mk (st := s_law) l9 c9 k9
  have ok : FnOk l.prog w K mg base CX0 4 fa _ ["_law_script"] (spF Gam K 1 F_law) := FL.okD (k := 3) sc_law (bod_law B C__law_plan C_shown_plan C_read_plan fa)
  refine ok.imp fun vs H Q E hq => ?_
  obtain ⟨a, ns, rfl, hS, hlen, k⟩ := hq
  exact ⟨H, [.scr ns], .bl true, Same.refl H, .cons (.scr hS) .nil, rfl, law_true ns hlen, fun v G' H' _ r => by rw [r.bl_inv]; exact k H'⟩
theorem walk {l : PySem.W.OpenLaw} {q : Program} {loose : List Str} {XP : (Str -> Option Value) -> Heap -> Prop} {YP : World -> Heap -> Prop} {d : DefRec} {K : Params -> PySem.W.Frag} (hn : l.most = some 63) (hdf : d.params.defaults = [])
    (hY : ∀ (w : World) (h : Heap), YP w h -> (K w.params).In h)
    (F : ∀ (w : World) (mg : Str -> Option Value) (fa : Addr) (h : Heap), (K w.params).In h -> h.Ns mainGlobals mg -> mg d.name = some (.ref fa) ->
      ∃ fd : FuncData, (∀ (s : Shared) (u : Value), BindsTo s fd ⟨[u], []⟩ [("_law_script", u)]) /\ ∀ base : Heap, (K w.params).In base -> base.Ns mainGlobals mg -> FnOk l.prog w (K w.params) mg base CX0 4 fa fd ["_law_script"] (spLaw (K w.params))) :
    PySem.W.WalkO q loose XP YP l.row.toRowW d [] (fun f vs => PySem.call f vs) :=
  L2.walk_of (n := 63) (k := 4) (x := "_law_script") (CX := fun _ => CX0) (sp := fun w => spLaw (K w.params)) hn (by decide) hdf ⟨rfl, by decide, by decide⟩ hY F (fun _ _ a ns hl _ hS => ⟨a, ns, rfl, hS, hl, fun _ => rfl⟩) fun _ _ _ _ _ z => z
end Law
open PySem PySem.W PyProof.Rows L2
set_option maxRecDepth 100000 in
set_option maxHeartbeats 0 in
theorem PySem.Challenge.cw_shopbound_k23_plans_written_holds : PySem.Challenge.rw_shopbound_k23_plans_written.Holds := by
  w_on; o_law; k_head; (case hw => w_witness2)
  k_fill
  refine Law.walk (l := PySem.Challenge.rw_shopbound_k23_plans_written) rfl rfl (fun w h Y => PySem.W.kIn_of Y) ?F
  case F =>
    intro w mg fa h KX G hmg
    refine' Law.all_mk KX G hmg ?d0 ?d1 ?d2 ?d3 ?d4 ?d5 ?d6 ?d7 ?d8 ?a9 ?l9 ?c9 ?k9 ?z_abs ?z_all ?z_bool ?z_dict ?z_enumerate ?z_int ?z_isinstance ?z_len ?z_list ?z_range ?z_sorted ?z_str ?z_FIGURES ?z_LONGEST_NAME ?z_PARTING
    (case d0 => refine' Dfn.mk' KX G ?a ?l ?c ?k; (case a => k_is); (case l => k_is); (case c => k_is); (case k => k_is))
    (case d1 => refine' Dfn.mk' KX G ?a ?l ?c ?k; (case a => k_is); (case l => k_is); (case c => k_is); (case k => k_is))
    (case d2 => refine' Dfn.mk' KX G ?a ?l ?c ?k; (case a => k_is); (case l => k_is); (case c => k_is); (case k => k_is))
    (case d3 => refine' Dfn.mk' KX G ?a ?l ?c ?k; (case a => k_is); (case l => k_is); (case c => k_is); (case k => k_is))
    (case d4 => refine' Dfn.mk' KX G ?a ?l ?c ?k; (case a => k_is); (case l => k_is); (case c => k_is); (case k => k_is))
    (case d5 => refine' Dfn.mk' KX G ?a ?l ?c ?k; (case a => k_is); (case l => k_is); (case c => k_is); (case k => k_is))
    (case d6 => refine' Dfn.mk' KX G ?a ?l ?c ?k; (case a => k_is); (case l => k_is); (case c => k_is); (case k => k_is))
    (case d7 => refine' Dfn.mk' KX G ?a ?l ?c ?k; (case a => k_is); (case l => k_is); (case c => k_is); (case k => k_is))
    (case d8 => refine' Dfn.mk' KX G ?a ?l ?c ?k; (case a => k_is); (case l => k_is); (case c => k_is); (case k => k_is))
    (case a9 => k_is)
    (case l9 => k_is)
    (case c9 => k_is)
    (case k9 => k_is)
    (case z_abs => k_is)
    (case z_all => k_is)
    (case z_bool => k_is)
    (case z_dict => k_is)
    (case z_enumerate => k_is)
    (case z_int => k_is)
    (case z_isinstance => k_is)
    (case z_len => k_is)
    (case z_list => k_is)
    (case z_range => k_is)
    (case z_sorted => k_is)
    (case z_str => k_is)
    (case z_FIGURES => k_is)
    (case z_LONGEST_NAME => k_is)
    (case z_PARTING => k_is)
end
