import PyProof.Rows.All
import Wide.All
import OpenK.AllK
import Wide.FinOn
import Lean
import PyProof.EqAt
import PyProof.EqKinds
import PyProof.TupleCall
import KE.KDictOf
import PyProof.AttrMiss
import PyProof.IsiH_list
import PySem.SetOps
import KE.KEqDict
import KE.KItemsList
import KE.KDictSum
import KE.KRevSl
import PyProof.Rows.SortStr
import PyProof.Rows.SortWalk
import PyProof.DictWalks
import PyProof.StrLawsTight
import KE.KIntText
import PyProof.Rows.StrIntSpec
import PyProof.StrLawsJoin
import KE.KTryMore
import PyProof.NsDelKeeps
import PyProof.ExcAttrAll.ValueError
import PyProof.StrReplace2
import PyProof.ReprStr
import PyProof.Rows.RuleU_int
import KE.RegKIsAll
import KE.RegKTryMore
import PySem.Challenge.RW_shopbound_k24_no_plan
set_option Elab.async false
set_option linter.all false
set_option maxRecDepth 100000
section
namespace L2
open PySem PySem.Spec PyProof.Rows
abbrev Key := Sum Int Str
def keyIs : Key -> Value -> Bool
  | .inl k, v => Value.isInt k v
  | .inr x, v => Value.isStrOf x v
def keyH (w : World) : Key -> Int
  | .inl k => hashInt k
  | .inr x => hashStr w x
theorem keyIs_shape : ∀ {k : Key} {v : Value}, keyIs k v = true -> (∃ i t, k = Sum.inl i /\ v = Value.int i t) \/ (∃ x t, k = Sum.inr x /\ v = Value.str x t)
  | .inl i, v, h => by
    obtain ⟨t, e⟩ := Value.isInt_shape (k := i) (v := v) h
    exact .inl ⟨i, t, rfl, e⟩
  | .inr x, v, h => by
    obtain ⟨t, e⟩ := Value.isStrOf_shape (x := x) (v := v) h
    exact .inr ⟨x, t, rfl, e⟩
theorem keyIs_int (i : Int) (t : Tok) : keyIs (.inl i) (.int i t) = true := by simp [keyIs, Value.isInt]
theorem keyIs_str (x : Str) (t : Tok) : keyIs (.inr x) (.str x t) = true := by simp [keyIs, Value.isStrOf]
theorem key_ll (a b : Int) : decide ((Sum.inl a : Key) = Sum.inl b) = (a == b) := by
  by_cases e : a = b
  · subst e; simp
  · have h : ¬ (Sum.inl a : Key) = Sum.inl b := fun q => e (Sum.inl.inj q)
    rw [decide_eq_false h]
    exact (beq_eq_false_iff_ne.mpr e).symm
theorem key_rr (a b : Str) : decide ((Sum.inr a : Key) = Sum.inr b) = decide (a = b) := by
  by_cases e : a = b
  · subst e; simp
  · have h : ¬ (Sum.inr a : Key) = Sum.inr b := fun q => e (Sum.inr.inj q)
    rw [decide_eq_false h, decide_eq_false e]
theorem key_lr (a : Int) (b : Str) : decide ((Sum.inl a : Key) = Sum.inr b) = false := decide_eq_false (fun q => nomatch q)
theorem key_rl (a : Str) (b : Int) : decide ((Sum.inr a : Key) = Sum.inl b) = false := decide_eq_false (fun q => nomatch q)
def mixKind (prog : Program) (w : World) : PySem.KeyKind prog w Key where
  is := keyIs
  hash := keyH w
  inj := fun v a b ha hb => by
    rcases keyIs_shape ha with ⟨i, t, rfl, rfl⟩ | ⟨x, t, rfl, rfl⟩
    · rcases keyIs_shape hb with ⟨j, u, rfl, e⟩ | ⟨y, u, rfl, e⟩
      · injection e with e1 _; rw [e1]
      · exact nomatch e
    · rcases keyIs_shape hb with ⟨j, u, rfl, e⟩ | ⟨y, u, rfl, e⟩
      · exact nomatch e
      · injection e with e1 _; rw [e1]
  byValue := fun k v h => by
    rcases keyIs_shape h with ⟨i, t, rfl, rfl⟩ | ⟨x, t, rfl, rfl⟩ <;> rfl
  pyHash := fun hv h => by
    rcases keyIs_shape hv with ⟨i, t, rfl, rfl⟩ | ⟨x, t, rfl, rfl⟩
    · exact wpAny_pyHash_int h
    · exact wpAny_pyHash_str h
  eqBool := fun hu hv h => by
    rcases keyIs_shape hu with ⟨i, t, rfl, rfl⟩ | ⟨x, t, rfl, rfl⟩
    · rcases keyIs_shape hv with ⟨j, u, rfl, rfl⟩ | ⟨y, u, rfl, rfl⟩
      · rw [key_ll] at h; exact wpAny_eqBool_int h
      · rw [key_lr] at h; exact SeqAt.EqAt.int_str i t y u _ _ _ _ h
    · rcases keyIs_shape hv with ⟨j, u, rfl, rfl⟩ | ⟨y, u, rfl, rfl⟩
      · rw [key_rl] at h; exact SeqAt.EqAt.str_int x t j u _ _ _ _ h
      · rw [key_rr] at h; exact wpAny_eqBool_str h
  «strs» := fun k x t v h => by
    rcases keyIs_shape h with ⟨i, u, rfl, e⟩ | ⟨y, u, rfl, e⟩
    · exact nomatch e
    · injection e with e1 _
      subst e1
      cases v <;> rfl
theorem mixKind_int (prog : Program) (w : World) (i : Int) (t : Tok) : (mixKind prog w).is (.inl i) (.int i t) = true := keyIs_int i t
theorem mixKind_str (prog : Program) (w : World) (x : Str) (t : Tok) : (mixKind prog w).is (.inr x) (.str x t) = true := keyIs_str x t
end L2
namespace L2
open PySem PySem.Spec PyProof.Rows
inductive V where
  | non | bl (b : Bool) | int (i : Int) | str (x : Str) | byt (b : Array UInt8) | flt (b : UInt64) | ref (a : Addr) | ty (n : String)
  deriving DecidableEq
def RelV : V -> Value -> Prop
  | .non, u => u = Value.none
  | .bl b, u => u = Value.bool b
  | .int i, u => ∃ t, u = Value.int i t
  | .str x, u => ∃ t, u = Value.str x t
  | .byt b, u => ∃ t, u = Value.bytes b t
  | .flt b, u => ∃ t, u = Value.float b t
  | .ref a, u => u = Value.ref a
  | .ty n, u => u = Value.type n
abbrev Vals : List V -> List Value -> Prop := Paired RelV
theorem Vals.length {xs : List V} {us : List Value} (r : Vals xs us) : xs.length = us.length := Paired.length r
theorem Vals.get : ∀ {xs : List V} {us : List Value} {i : Nat} {x : V}, Vals xs us -> xs[i]? = some x -> ∃ u, us[i]? = some u /\ RelV x u
  | _, _, _, _, .nil, e => by simp at e
  | _, _, 0, _, .cons r _, e => by simp at e; subst e; exact ⟨_, rfl, r⟩
  | _, _, i + 1, x, .cons _ t, e => by
    obtain ⟨u, h1, h2⟩ := Vals.get (i := i) (x := x) t (by simpa using e)
    exact ⟨u, by simpa using h1, h2⟩
theorem Vals.append : ∀ {xs ys : List V} {us ws : List Value}, Vals xs us -> Vals ys ws -> Vals (xs ++ ys) (us ++ ws)
  | _, _, _, _, .nil, s => s
  | _, _, _, _, .cons r t, s => .cons r (Vals.append t s)
theorem Vals.take : ∀ {xs : List V} {us : List Value} (n : Nat), Vals xs us -> Vals (xs.take n) (us.take n)
  | _, _, 0, _ => .nil
  | _, _, _ + 1, .nil => .nil
  | _, _, n + 1, .cons r t => .cons r (Vals.take n t)
theorem Vals.drop : ∀ {xs : List V} {us : List Value} (n : Nat), Vals xs us -> Vals (xs.drop n) (us.drop n)
  | _, _, 0, r => r
  | _, _, _ + 1, .nil => .nil
  | _, _, n + 1, .cons _ t => Vals.drop n t
def RelO : Option V -> Option Value -> Prop
  | some v, some u => RelV v u
  | none, none => True
  | _, _ => False
def KV {κ : Type} : List (κ × V) -> List (κ × Value) -> Prop := Paired fun (p : κ × V) (q : κ × Value) => p.1 = q.1 /\ RelV p.2 q.2
def kV : Key -> V
  | .inl i => .int i
  | .inr x => .str x
inductive HO where
  | lst (xs : List V)
  | tup (xs : List V)
  | dK (kvs : List (Key × V)) | dT (kvs : List (List Key × V))
  | set (S : Int -> Bool) (n : Nat)
  | ins (C dx : Addr) (fs : List (Str × V))
  | own (x : Addr)
  | xd (fs : List (Str × V))
  | met (f x : Addr)
  | rng (lo hi : Int)
  | frz (o : Obj) (u : HO)
  | tbl (ps : Array Value)
  | ext (φ : Heap -> Prop)
abbrev Hp := Addr -> Option HO
def upd (H : Hp) (a : Addr) (o : HO) : Hp := fun b => if b = a then some o else H b
theorem upd_same {H : Hp} {a : Addr} {o : HO} : upd H a o a = some o := by unfold upd; rw [if_pos rfl]
theorem upd_ne {H : Hp} {a b : Addr} {o : HO} (h : b ≠ a) : upd H a o b = H b := by unfold upd; rw [if_neg h]
theorem ne_of {H : Hp} {a b : Addr} {o u : HO} (h : H a = some o) (h' : H b = some u) (d : o ≠ u) : a ≠ b := by
  intro e; subst e; rw [h] at h'; exact d (Option.some.inj h')
theorem ne_of_none {H : Hp} {a b : Addr} {o : HO} (h : H a = some o) (h' : H b = none) : a ≠ b := by
  intro e; subst e; rw [h] at h'; cases h'
section
variable (P : Program) (w : World)
def ObjOk (H : Hp) (h : Heap) (a : Addr) : HO -> Prop
  | .lst xs => xs.length <= sizeLine /\ ∃ (its : List Value) (n : Nat), Vals xs its /\ h.get? a = some { cls := .type "list", data := .seq its.toArray n }
  | .tup xs => xs.length <= sizeLine /\ ∃ its : List Value, Vals xs its /\ IsTup h a its.toArray
  | .dK kvs => kvs.length <= sizeLine /\ (a == sysModules) = false /\ ∃ vs, KV kvs vs /\ h.DictOf (mixKind P w) a vs
  | .dT kvs => kvs.length <= sizeLine /\ (a == sysModules) = false /\ ∃ xs : List (List Key × Addr × Value),
      Paired (fun (p : List Key × V) (q : List Key × Addr × Value) => p.1 = q.1 /\ H q.2.1 = some (.tup (p.1.map kV)) /\ RelV p.2 q.2.2) kvs xs /\
      ∃ o es ep, h.get? a = some o /\ o.ExactDict /\ o.data = .dict es ep /\ es.toList = xs.map (entryOfKey (tupleKind (mixKind P w))) /\ (xs.map (·.1)).Nodup
  | .set S n => h.SetOf (intKind P w) a S n
  | .ins C dx fs => H dx = some (.own a) /\ fs.length <= 1000 /\ dx ≠ a /\ h.get? a = some (PySem.W.instObj C dx) /\
      ∃ mA, h.Ns1 dx mA /\ (∀ f, RelO (fs.lookup f) (mA f)) /\ PySem.Within mA (fs.map (·.1))
  | .own _ => ∃ o, h.get? a = some o
  | .xd fs => ∃ mA, h.Ns1 a mA /\ ∀ f, RelO (fs.lookup f) (mA f)
  | .rng lo hi => ∃ t u v, h.get? a = some { cls := .type "range", data := .fields #[.int lo t, .int hi u, .int 1 v] }
  | .frz o u => h.get? a = some o /\ ObjOk H h a u
  | .tbl ps => h.get? a = some { cls := .none, data := .fields ps }
  | .met f x => h.get? a = some (PySem.W.methodObj (.ref f) (.ref x))
  | .ext φ => φ h /\ (∃ o, h.get? a = some o) /\ ∀ h1 h2 : Heap, φ h1 -> (∀ o, h1.get? a = some o -> h2.get? a = some o) -> φ h2
def HOk (H : Hp) (h : Heap) : Prop := ∀ a o, H a = some o -> ObjOk P w H h a o
end
section
variable {P : Program} {w : World} {H H' : Hp} {h h' : Heap} {a : Addr} {o : HO}
theorem ObjOk.lt (x : ObjOk P w H h a o) : a < h.objs.size := by
  cases o with
  | lst xs => obtain ⟨_, _, _, _, e⟩ := x; exact Heap.lt_size e
  | tup xs => obtain ⟨_, _, _, p⟩ := x; exact p.lt
  | dK kvs => obtain ⟨_, _, _, _, o, _, _, e, _⟩ := x; exact Heap.lt_size e
  | dT kvs => obtain ⟨_, _, _, _, o, _, _, e, _⟩ := x; exact Heap.lt_size e
  | set S n => obtain ⟨o, _, _, _, e, _⟩ := x; exact Heap.lt_size e
  | ins C dx fs => obtain ⟨_, _, _, e, _⟩ := x; exact Heap.lt_size e
  | own y => obtain ⟨_, e⟩ := x; exact Heap.lt_size e
  | xd fs => obtain ⟨_, ⟨_, _, _, e, _⟩, _⟩ := x; exact Heap.lt_size e
  | rng lo hi => obtain ⟨_, _, _, e⟩ := x; exact Heap.lt_size e
  | frz ob u => obtain ⟨e, _⟩ := x; exact Heap.lt_size e
  | tbl ps => exact Heap.lt_size (show h.get? a = some _ from x)
  | met f y => exact Heap.lt_size (show h.get? a = some _ from x)
  | ext φ => obtain ⟨_, ⟨_, e⟩, _⟩ := x; exact Heap.lt_size e
theorem Paired.mapP {α β : Type} {F G : α -> β -> Prop} : ∀ {l₁ : List α} {l₂ : List β}, Paired F l₁ l₂ -> (∀ a b, F a b -> G a b) -> Paired G l₁ l₂
  | _, _, .nil, _ => .nil
  | _, _, .cons r t, f => .cons (f _ _ r) (Paired.mapP t f)
theorem ObjOk.stay (x : ObjOk P w H h a o) (k : ∀ b u, (b = a \/ H b = some (.own a)) -> h.get? b = some u -> h'.get? b = some u)
    (ho : ∀ b, H b = some (.own a) -> H' b = some (.own a)) (ht : ∀ b xs, H b = some (.tup xs) -> H' b = some (.tup xs)) : ObjOk P w H' h' a o := by
  induction o with
  | lst xs => obtain ⟨z, its, n, r, e⟩ := x; exact ⟨z, its, n, r, k _ _ (.inl rfl) e⟩
  | tup xs => obtain ⟨z, its, r, ob, e, c⟩ := x; exact ⟨z, its, r, ob, k _ _ (.inl rfl) e, c⟩
  | dK kvs => obtain ⟨z, y, vs, r, ob, es, ep, e, c⟩ := x; exact ⟨z, y, vs, r, ob, es, ep, k _ _ (.inl rfl) e, c⟩
  | dT kvs =>
    obtain ⟨z, y, xs, r, ob, es, ep, e, c⟩ := x
    exact ⟨z, y, xs, Paired.mapP r fun p q z => ⟨z.1, ht _ _ z.2.1, z.2.2⟩, ob, es, ep, k _ _ (.inl rfl) e, c⟩
  | set S n => obtain ⟨ob, es, ep, t, e, c⟩ := x; exact ⟨ob, es, ep, t, k _ _ (.inl rfl) e, c⟩
  | ins C dx fs =>
    obtain ⟨d, z, ne, e, mA, ⟨od, es, ep, e2, c⟩, r⟩ := x
    exact ⟨ho _ d, z, ne, k _ _ (.inl rfl) e, mA, ⟨od, es, ep, k _ _ (.inr d) e2, c⟩, r⟩
  | own y => obtain ⟨ob, e⟩ := x; exact ⟨ob, k _ _ (.inl rfl) e⟩
  | xd fs => obtain ⟨mA, ⟨od, es, ep, e, c⟩, r⟩ := x; exact ⟨mA, ⟨od, es, ep, k _ _ (.inl rfl) e, c⟩, r⟩
  | rng lo hi => obtain ⟨t, u, v, e⟩ := x; exact ⟨t, u, v, k _ _ (.inl rfl) e⟩
  | frz ob u ih => obtain ⟨e, q⟩ := x; exact ⟨k _ _ (.inl rfl) e, ih q⟩
  | tbl ps =>
    have e : h.get? a = some { cls := .none, data := .fields ps } := x
    show h'.get? a = some { cls := .none, data := .fields ps }
    exact k a _ (.inl rfl) e
  | met f y =>
    have e : h.get? a = some (PySem.W.methodObj (.ref f) (.ref y)) := x
    show h'.get? a = some (PySem.W.methodObj (.ref f) (.ref y))
    exact k a _ (.inl rfl) e
  | ext φ => obtain ⟨p, ⟨o, e⟩, st⟩ := x; exact ⟨st _ _ p fun o q => k _ _ (.inl rfl) q, ⟨o, k _ _ (.inl rfl) e⟩, st⟩
theorem HOk.lt (x : HOk P w H h) (e : H a = some o) : a < h.objs.size := (x a o e).lt
theorem HOk.fresh (x : HOk P w H h) (e : h.objs.size <= a) : H a = none := by
  cases q : H a with
  | none => rfl
  | some u => exact absurd (Nat.lt_of_lt_of_le (x.lt q) e) (Nat.lt_irrefl _)
theorem HOk.kept (x : HOk P w H h) (k : ∀ b u, h.get? b = some u -> h'.get? b = some u) : HOk P w H h' := fun a o e =>
  (x a o e).stay (fun b u _ q => k b u q) (fun _ q => q) fun _ _ q => q
theorem HOk.laid (x : HOk P w H h) (k : ∀ b u, h.get? b = some u -> h'.get? b = some u) (hp : h.objs.size <= a) (new : ObjOk P w (upd H a o) h' a o) : HOk P w (upd H a o) h' := fun b u e => by
  have hn := x.fresh hp
  by_cases hb : b = a
  · subst hb; rw [upd_same] at e; cases e; exact new
  · rw [upd_ne hb] at e
    exact (x b u e).stay (fun c v _ q => k c v q) (fun c q => by rw [upd_ne (ne_of_none q hn)]; exact q) fun c xs q => by rw [upd_ne (ne_of_none q hn)]; exact q
end
def Rd (H : Hp) (a : Addr) (u : HO) : Prop := H a = some u \/ ∃ o, H a = some (.frz o u)
theorem Rd.ok {P : Program} {w : World} {H : Hp} {h : Heap} {a : Addr} {u : HO} (r : Rd H a u) (x : HOk P w H h) : ObjOk P w H h a u := by
  rcases r with r | ⟨o, r⟩
  · exact x a u r
  · obtain ⟨_, q⟩ := x a _ r
    exact q
def Mut : Option HO -> Prop
  | some (.lst _) => True
  | some (.dK _) => True
  | some (.dT _) => True
  | some (.set _ _) => True
  | some (.ins _ _ _) => True
  | some (.ext _) => True
  | _ => False
section
variable {P : Program} {w : World} {H : Hp} {h h' : Heap} {x e : Addr} {o' : HO}
theorem HOk.write (ok : HOk P w H h) (mu : Mut (H x)) (he : e = x \/ H e = some (.own x)) (k : ∀ b u, b ≠ e -> h.get? b = some u -> h'.get? b = some u) (heo : ∃ u, h'.get? e = some u)
    (new : ObjOk P w (upd H x o') h' x o') : HOk P w (upd H x o') h' := fun b u q => by
  have nown : ∀ c y, H c = some (.own y) -> c ≠ x := fun c y r z => by subst z; rw [r] at mu; exact mu
  have ntup : ∀ c xs, H c = some (.tup xs) -> c ≠ x := fun c xs r z => by subst z; rw [r] at mu; exact mu
  by_cases hb : b = x
  · subst hb; rw [upd_same] at q; cases q; exact new
  · rw [upd_ne hb] at q
    by_cases hbe : b = e
    · have q' : H b = some (.own x) := by
        rcases he with z | z
        · exact absurd (hbe.trans z) hb
        · rw [hbe]; exact z
      rw [q] at q'; cases q'
      obtain ⟨v, hv⟩ := heo
      exact ⟨v, by rw [hbe]; exact hv⟩
    · refine (ok b u q).stay (fun c v hc r => k c v ?_ r) (fun c r => by rw [upd_ne (nown c b r)]; exact r) fun c xs r => by rw [upd_ne (ntup c xs r)]; exact r
      rcases hc with rfl | hc
      · exact hbe
      · rintro rfl
        rcases he with z | z
        · exact nown c b hc z
        · rw [hc] at z; cases z; exact hb rfl
end
structure Un (fs ex : List Addr) (H H' : Hp) (h h' : Heap) : Prop where
  keep : ∀ b o, h.get? b = some o -> H b = none -> b ∉ fs -> b ∉ ex -> h'.get? b = some o
  slot : ∀ b o, h.get? b = some o -> H b = none -> b ∈ fs -> b ∉ ex -> ∃ sl, h'.get? b = some { o with slots := sl }
  free : ∀ b o, h.get? b = some o -> H b = none -> b ∉ ex -> H' b = none
  there : ∀ b o, h.get? b = some o -> b ∉ ex -> ∃ o', h'.get? b = some o'
  tups : ∀ b xs, H b = some (.tup xs) -> H' b = some (.tup xs)
  frzs : ∀ b o u, H b = some (.frz o u) -> H' b = some (.frz o u)
  tbls : ∀ b ps, H b = some (.tbl ps) -> ∃ more, H' b = some (.tbl (ps ++ more))
section
variable {fs fs' ex ex' : List Addr} {H H1 H2 : Hp} {h h1 h2 h' : Heap} {a x e : Addr} {o : HO}
theorem Un.any (u : Un fs ex H H1 h h1) {b : Addr} {ob : Obj} (q : h.get? b = some ob) (n : H b = none) (hx : b ∉ ex) : ∃ sl, h1.get? b = some { ob with slots := sl } := by
  by_cases hb : b ∈ fs
  · exact u.slot b ob q n hb hx
  · exact ⟨ob.slots, u.keep b ob q n hb hx⟩
theorem Un.kept (k : ∀ b u, h.get? b = some u -> h'.get? b = some u) : Un fs ex H H h h' :=
  ⟨fun b ob q _ _ _ => k b ob q, fun b ob q _ _ _ => ⟨ob.slots, k b ob q⟩, fun _ _ _ n _ => n, fun b ob q _ => ⟨ob, k b ob q⟩, fun _ _ q => q, fun _ _ _ q => q, fun _ ps q => ⟨#[], by rw [q]; simp⟩⟩
theorem Un.refl : Un fs ex H H h h := Un.kept fun _ _ q => q
theorem Un.laid (k : ∀ b u, h.get? b = some u -> h'.get? b = some u) (hp : h.objs.size <= a) (hn : H a = none) : Un fs ex H (upd H a o) h h' where
  keep := fun b u q _ _ _ => k b u q
  slot := fun b u q _ _ _ => ⟨u.slots, k b u q⟩
  free := fun b u q n _ => by rw [upd_ne (Nat.ne_of_lt (Nat.lt_of_lt_of_le (Heap.lt_size q) hp))]; exact n
  there := fun b u q _ => ⟨u, k b u q⟩
  tups := fun b xs q => by rw [upd_ne (ne_of_none q hn)]; exact q
  frzs := fun b u xs q => by rw [upd_ne (ne_of_none q hn)]; exact q
  tbls := fun b ps q => ⟨#[], by rw [upd_ne (ne_of_none q hn), q]; simp⟩
theorem Un.write (mu : Mut (H x)) (he : e = x \/ H e = some (.own x)) (k : ∀ b u, b ≠ e -> h.get? b = some u -> h'.get? b = some u) (heo : ∃ u, h'.get? e = some u) : Un fs ex H (upd H x o) h h' := by
  have hx : ∀ b, H b = none -> b ≠ x := fun b n z => by subst z; rw [n] at mu; exact mu
  have hb : ∀ b, H b = none -> b ≠ e := fun b n z => by
    subst z
    rcases he with r | r
    · exact hx b n r
    · rw [n] at r; cases r
  have hm : ∀ b u, H b = some u -> ¬ Mut (some u) -> b ≠ x := fun b u q nm z => by subst z; rw [q] at mu; exact nm mu
  refine ⟨fun b u q n _ _ => k b u (hb b n) q, fun b u q n _ _ => ⟨u.slots, k b u (hb b n) q⟩, fun b u q n _ => by rw [upd_ne (hx b n)]; exact n, fun b u q _ => ?_,
    fun b xs q => by rw [upd_ne (hm b _ q fun z => z)]; exact q, fun b u xs q => by rw [upd_ne (hm b _ q fun z => z)]; exact q, fun b ps q => ⟨#[], by rw [upd_ne (hm b _ q fun z => z), q]; simp⟩⟩
  by_cases hbe : b = e
  · subst hbe; exact heo
  · exact ⟨u, k b u hbe q⟩
end
def trk (h : Heap) (H : Hp) : List Addr := (List.range h.objs.size).filter fun a => (H a).isSome
def hidT (h : Heap) (H : Hp) : Heap := PySem.W.hideAll h (trk h H)
theorem hidT_size (h : Heap) (H : Hp) : (hidT h H).objs.size = h.objs.size := PySem.W.hideAll_size _ _
theorem hidT_get {h : Heap} {H : Hp} {b : Addr} {o : Obj} (e : h.get? b = some o) (n : H b = none) : (hidT h H).get? b = some o :=
  PySem.W.hideAll_get _ e fun hm => by
    have q : (H b).isSome = true := (List.mem_filter.mp hm).2
    rw [n] at q; simp at q
theorem of_hidT {h : Heap} {H : Hp} {b : Addr} {o : Obj} (e : (hidT h H).get? b = some o) : h.get? b = some o /\ H b = none := by
  have e' : h.get? b = some o := PySem.W.of_hideAll (trk h H) e
  refine ⟨e', ?_⟩
  cases q : H b with
  | none => rfl
  | some x =>
    have hm : b ∈ trk h H := List.mem_filter.mpr ⟨List.mem_range.mpr (Heap.lt_size e'), by simp [q]⟩
    have z : (hidT h H).get? b = none := PySem.W.hideAll_none (trk h H) hm
    rw [z] at e; cases e
def allNews (g h : Heap) (L : Addr) : List (Addr × Obj) := (List.range h.objs.size).filterMap fun a => if a = L \/ (g.get? a).isSome = true then none else (h.get? a).map fun o => (a, o)
def rest (g h : Heap) (L d : Addr) : List (Addr × Obj) := (allNews g h L).filter fun p => decide (p.1 ≠ d)
end L2
namespace L2
open PySem PySem.Spec PyProof.Rows
structure Mod (K : PySem.W.Frag) (mg : Str -> Option Value) (base : Heap) : Prop where
  kin : K.In base
  glob : base.Ns mainGlobals mg
  blt : ∃ mb, base.Ns builtinsNs mb /\ ∀ x : Str, x ≠ "__name__" -> mb x = bootBuiltins x
  nolimit : base.NoLimit
structure Cx where
  prog : Program
  w : World
  K : PySem.W.Frag
  mg : Str -> Option Value
  base : Heap
  A : Around
  N : List Str
  s₀ : Shared
  H₀ : Hp
  env : Env
  outer : List Env
  stack : List Env
  ex : List Addr
  fn : Str -> Bool
  calm : Bool
  pn : List (Addr × Obj)
  xe : Value -> Shared -> Prop
def frs (l : List Env) : List Addr := l.filterMap (·.frame)
abbrev Cx.fs (X : Cx) : List Addr := frs X.outer
def Vis (sc : Scope) (x : Str) : Prop := sc.names.lookup x = some .local \/ sc.names.lookup x = some .cell \/ sc.names.lookup x = some .free
def Loc (sc : Scope) (x : Str) : Prop := sc.names.lookup x = some .local \/ sc.names.lookup x = some .cell
def Look (env : Env) (h : Heap) (m : Str -> Option Value) (x : Str) (u : Value) : Prop :=
  (env.kindOf x = some .local /\ m x = some u) \/ ((env.kindOf x = some .cell \/ env.kindOf x = some .free) /\ ∃ c, env.cells.lookup x = some c /\ h.IsCell c (some u))
structure Cx.Ok (X : Cx) : Prop where
  mod : Mod X.K X.mg X.base
  kind : X.env.scope.kind = .function
  glob : X.env.globals = mainGlobals
  blt : X.env.builtins = builtinsNs
  above : X.s₀.heap.objs.size <= X.env.locals
  inj : ∀ x y c, X.env.cells.lookup x = some c -> X.env.cells.lookup y = some c -> x = y
  has : ∀ x, (X.env.kindOf x = some .cell \/ X.env.kindOf x = some .free) -> ∃ c, X.env.cells.lookup x = some c
  cab : ∀ x c, X.fn x = true -> X.env.cells.lookup x = some c -> X.s₀.heap.objs.size <= c
  hd : X.calm = true -> X.A.handled = none
  frames : X.A.frames = some X.stack
  stk : X.stack = X.outer \/ (X.stack = X.env :: X.outer /\ X.env.frame = some X.env.locals)
  exf : ∀ b ∈ X.ex, b ≠ X.env.locals /\ ∀ x c, X.env.cells.lookup x = some c -> c ≠ b
  bs : ∀ b o, X.base.get? b = some o -> X.s₀.heap.get? b = some o /\ X.H₀ b = none
  bsz : X.base.objs.size <= X.s₀.heap.objs.size
  noex : ∀ b o, X.base.get? b = some o -> b ∉ X.ex
  exfs : ∀ b ∈ X.ex, b ∉ X.fs
  funs : X.s₀.heap.FunFrames X.base X.outer
  frf : ∀ b ∈ X.fs, X.H₀ b = none
structure Inv (X : Cx) (pins : List (Addr × Obj)) (σ : List (Option V)) (H : Hp) (s : Shared) : Prop where
  ok : X.Ok
  os : s.os = X.s₀.os
  bare : AllBare s.gens
  base : Un X.fs X.ex X.H₀ H X.s₀.heap s.heap
  loc : ∃ m, s.heap.Ns X.env.locals m /\ ∀ (i : Nat) (x : Str) (v : V), X.N[i]? = some x -> σ[i]? = some (some v) -> Vis X.env.scope x -> ∃ u, RelV v u /\ Look X.env s.heap m x u
  cell : ∀ x c, X.env.cells.lookup x = some c -> ∃ v, s.heap.IsCell c v
  free : H X.env.locals = none
  freeC : ∀ x c, X.env.cells.lookup x = some c -> H c = none
  pin : ∀ p ∈ X.pn ++ pins, s.heap.get? p.1 = some p.2 /\ H p.1 = none /\ p.1 ≠ X.env.locals /\ p.1 ∉ X.fs /\ ∀ v, p.2.data ≠ .cell v
  hok : HOk X.prog X.w H s.heap
  len : σ.length = X.N.length
section
variable {X : Cx} {pins : List (Addr × Obj)} {σ : List (Option V)} {H H' : Hp} {s : Shared} {h' : Heap}
theorem Cx.Ok.nofr (ok : X.Ok) {b : Addr} {o : Obj} (e : X.base.get? b = some o) : b ∉ X.fs := fun hb => by
  have := (ok.funs.mem hb).1
  rw [e] at this; cases this
theorem Inv.bs (I : Inv X pins σ H s) : ∀ b o, X.base.get? b = some o -> s.heap.get? b = some o /\ H b = none := fun b o e =>
  ⟨I.base.keep b o (I.ok.bs b o e).1 (I.ok.bs b o e).2 (I.ok.nofr e) (I.ok.noex b o e), I.base.free b o (I.ok.bs b o e).1 (I.ok.bs b o e).2 (I.ok.noex b o e)⟩
theorem Inv.bk (I : Inv X pins σ H s) : ∀ b o, X.base.get? b = some o -> s.heap.get? b = some o := fun b o e => (I.bs b o e).1
theorem Inv.mod (I : Inv X pins σ H s) : Mod X.K X.mg X.base := I.ok.mod
theorem Inv.kIn (I : Inv X pins σ H s) : X.K.In s.heap := I.ok.mod.kin.keeps I.bk
theorem Inv.lt (I : Inv X pins σ H s) : X.env.locals < s.heap.objs.size := let ⟨_, hn, _⟩ := I.loc; hn.lt
theorem Inv.sz (I : Inv X pins σ H s) : X.s₀.heap.objs.size <= s.heap.objs.size := Nat.le_trans I.ok.above (Nat.le_of_lt I.lt)
theorem Inv.nofs (I : Inv X pins σ H s) {a : Addr} (h : s.heap.objs.size <= a) : a ∉ X.fs := fun hb => by
  obtain ⟨_, o, ho, _⟩ := I.ok.funs.mem hb
  exact absurd (Nat.lt_of_lt_of_le (Heap.lt_size ho) (Nat.le_trans I.sz h)) (Nat.lt_irrefl _)
theorem Inv.cne (I : Inv X pins σ H s) : ∀ x c, X.env.cells.lookup x = some c -> c ≠ X.env.locals := fun x c e z => by
  obtain ⟨v, o, ho, hd⟩ := I.cell x c e
  obtain ⟨m, ⟨o', es, ep, ho', hd', _⟩, _⟩ := I.loc
  rw [z, ho'] at ho; cases ho; rw [hd'] at hd; cases hd
theorem Inv.funs (I : Inv X pins σ H s) : s.heap.FunFrames X.base X.outer := by
  have all : ∀ (l : List Env), (∀ b ∈ frs l, b ∈ X.fs) -> X.s₀.heap.FunFrames X.base l -> s.heap.FunFrames X.base l := by
    intro l
    induction l with
    | nil => intro _ _; trivial
    | cons env r ih =>
      intro hs hl
      obtain ⟨hk, ⟨L, o, hf, hn, ho, hd⟩, hr⟩ := hl
      have hL : L ∈ X.fs := hs L (by unfold frs; rw [List.filterMap_cons, hf]; exact List.mem_cons_self)
      obtain ⟨sl, e⟩ := I.base.slot L o ho (I.ok.frf L hL) hL fun z => I.ok.exfs L z hL
      exact ⟨hk, ⟨L, _, hf, hn, e, hd⟩, ih (fun b hb => hs b (by unfold frs; rw [List.filterMap_cons, hf]; exact List.mem_cons_of_mem _ hb)) hr⟩
  exact all X.outer (fun _ hb => hb) I.ok.funs
theorem Inv.stack (I : Inv X pins σ H s) : s.heap.FunFrames X.base X.stack := by
  rcases I.ok.stk with e | ⟨e, hf⟩
  · rw [e]; exact I.funs
  · rw [e]
    obtain ⟨m, hn, _⟩ := I.loc
    refine .cons (by rw [I.ok.kind]; decide) hf hn ?_ I.funs
    exact Heap.get?_none_of_le (Nat.le_trans I.ok.bsz I.ok.above)
theorem Inv.stkSub (I : Inv X pins σ H s) : ∀ b ∈ frs X.stack, b ∈ X.env.locals :: X.fs := fun b hb => by
  rcases I.ok.stk with e | ⟨e, hf⟩
  · rw [e] at hb; exact List.mem_cons_of_mem _ hb
  · rw [e] at hb
    unfold frs at hb
    rw [List.filterMap_cons, hf] at hb
    exact hb
theorem Inv.stkFree (I : Inv X pins σ H s) : ∀ b ∈ frs X.stack, H b = none := fun b hb => by
  rcases List.mem_cons.mp (I.stkSub b hb) with e | hb
  · rw [e]; exact I.free
  · obtain ⟨_, o, ho, _⟩ := I.ok.funs.mem hb
    exact I.base.free b o ho (I.ok.frf b hb) fun z => I.ok.exfs b z hb
theorem Inv.step {g' : Array GenState} {t' : Nat} {d' : Drawn} {ch : List Addr} (I : Inv X pins σ H s)
    (hch : ∀ b ∈ ch, (b ∈ X.ex \/ X.s₀.heap.objs.size <= b) /\ b ≠ X.env.locals /\ (∀ x c, X.env.cells.lookup x = some c -> c ≠ b) /\ ∀ p ∈ X.pn ++ pins, p.1 ≠ b)
    (keep : ∀ b o, b ≠ X.env.locals -> b ∉ X.fs -> b ∉ ch -> s.heap.get? b = some o -> H b = none -> h'.get? b = some o)
    (slot : ∀ b o, b ≠ X.env.locals -> b ∈ X.fs -> b ∉ ch -> s.heap.get? b = some o -> H b = none -> ∃ sl, h'.get? b = some { o with slots := sl }) (free : ∀ b o, b ∉ ch -> s.heap.get? b = some o -> H b = none -> H' b = none)
    (there : ∀ b o, b ∉ ch -> s.heap.get? b = some o -> ∃ o', h'.get? b = some o')
    (tups : ∀ b xs, H b = some (.tup xs) -> H' b = some (.tup xs)) (frzs : ∀ b o u, H b = some (.frz o u) -> H' b = some (.frz o u)) (tbls : ∀ b ps, H b = some (.tbl ps) -> ∃ more, H' b = some (.tbl (ps ++ more)))
    (ns : ∀ m, s.heap.Ns X.env.locals m -> h'.Ns X.env.locals m) (hok : HOk X.prog X.w H' h') (hg : AllBare g') :
    Inv X pins σ H' { s with heap := h', gens := g', drawn := d', toks := t' } := by
  have neL : ∀ b o, X.s₀.heap.get? b = some o -> b ≠ X.env.locals := fun b o e => Nat.ne_of_lt (Nat.lt_of_lt_of_le (Heap.lt_size e) I.ok.above)
  have neC : ∀ b o, X.s₀.heap.get? b = some o -> b ∉ X.ex -> b ∉ ch := fun b o e hx hb => by
    rcases (hch b hb).1 with z | z
    · exact hx z
    · exact absurd (Nat.lt_of_lt_of_le (Heap.lt_size e) z) (Nat.lt_irrefl _)
  have cellK : ∀ x c, X.env.cells.lookup x = some c -> ∀ v, s.heap.IsCell c v -> h'.IsCell c v := fun x c e v ⟨o, ho, hd⟩ => by
    have nch : c ∉ ch := fun z => (hch c z).2.2.1 x c e rfl
    by_cases hc : c ∈ X.fs
    · obtain ⟨sl, q⟩ := slot c o (I.cne x c e) hc nch ho (I.freeC x c e)
      exact ⟨_, q, hd⟩
    · exact ⟨o, keep c o (I.cne x c e) hc nch ho (I.freeC x c e), hd⟩
  refine ⟨I.ok, I.os, hg, ⟨fun b o e n hb hx => ?_, fun b o e n hb hx => ?_, fun b o e n hx => ?_, fun b o e hx => ?_, fun b xs e => tups b xs (I.base.tups b xs e), fun b o xs e => frzs b o xs (I.base.frzs b o xs e), fun b ps e => ?_⟩, ?_, fun x c e => ?_, ?_, fun x c e => ?_, fun p hp => ?_, hok, I.len⟩
  · exact keep b o (neL b o e) hb (neC b o e hx) (I.base.keep b o e n hb hx) (I.base.free b o e n hx)
  · obtain ⟨sl, e1⟩ := I.base.slot b o e n hb hx
    obtain ⟨sl', e2⟩ := slot b _ (neL b o e) hb (neC b o e hx) e1 (I.base.free b o e n hx)
    exact ⟨sl', e2⟩
  · obtain ⟨o', e1⟩ := I.base.there b o e hx
    exact free b o' (neC b o e hx) e1 (I.base.free b o e n hx)
  · obtain ⟨o', e1⟩ := I.base.there b o e hx
    exact there b o' (neC b o e hx) e1
  · obtain ⟨m1, e1⟩ := I.base.tbls b ps e
    obtain ⟨m2, e2⟩ := tbls b _ e1
    exact ⟨m1 ++ m2, by rw [e2, Array.append_assoc]⟩
  · obtain ⟨m, hn, hl⟩ := I.loc
    refine ⟨m, ns m hn, fun i x v e1 e2 e3 => ?_⟩
    obtain ⟨u, r, l⟩ := hl i x v e1 e2 e3
    refine ⟨u, r, ?_⟩
    rcases l with l | ⟨k, c, e, z⟩
    · exact .inl l
    · exact .inr ⟨k, c, e, cellK x c e _ z⟩
  · obtain ⟨v, z⟩ := I.cell x c e
    exact ⟨v, cellK x c e v z⟩
  · obtain ⟨m, ⟨o, _, _, ho, _⟩, _⟩ := I.loc
    exact free _ o (fun z => (hch _ z).2.1 rfl) ho I.free
  · obtain ⟨v, o, ho, hd⟩ := I.cell x c e
    exact free c o (fun z => (hch c z).2.2.1 x c e rfl) ho (I.freeC x c e)
  · obtain ⟨e, n, ne, nf, d⟩ := I.pin p hp
    have nch : p.1 ∉ ch := fun z => (hch p.1 z).2.2.2 p hp rfl
    exact ⟨keep p.1 p.2 ne nf nch e n, free p.1 p.2 nch e n, ne, nf, d⟩
theorem Inv.un {t' : Nat} (I : Inv X pins σ H s) (u : Un X.fs [] H H' s.heap h') (hok : HOk X.prog X.w H' h') : Inv X pins σ H' { s with heap := h', toks := t' } := by
  obtain ⟨m, ⟨o, es, ep, ho, r⟩, _⟩ := id I.loc
  obtain ⟨sl, hL⟩ := u.any ho I.free (by simp)
  exact I.step (g' := s.gens) (d' := s.drawn) (ch := []) (fun _ z => nomatch z) (fun b o _ hb _ e n => u.keep b o e n hb (by simp)) (fun b o _ hb _ e n => u.slot b o e n hb (by simp)) (fun b o _ e n => u.free b o e n (by simp)) (fun b o _ e => u.there b o e (by simp)) u.tups u.frzs u.tbls (fun m' hm => by
    obtain ⟨o', es', ep', ho', r'⟩ := hm
    rw [ho] at ho'; cases ho'
    exact ⟨_, es', ep', hL, r'⟩) hok I.bare
theorem Inv.call {g' : Array GenState} {t' : Nat} {d' : Drawn} {ch : List Addr} (I : Inv X pins σ H s) (u : Un (frs X.stack) ch H H' s.heap h') (hok : HOk X.prog X.w H' h') (hg : AllBare g')
    (hch : ∀ b ∈ ch, (b ∈ X.ex \/ X.s₀.heap.objs.size <= b) /\ b ≠ X.env.locals /\ (∀ x c, X.env.cells.lookup x = some c -> c ≠ b) /\ ∀ p ∈ X.pn ++ pins, p.1 ≠ b) :
    Inv X pins σ H' { s with heap := h', gens := g', drawn := d', toks := t' } := by
  obtain ⟨m, ⟨o, es, ep, ho, r⟩, _⟩ := id I.loc
  obtain ⟨sl, hL⟩ := u.any ho I.free fun z => (hch _ z).2.1 rfl
  exact I.step (ch := ch) hch (fun b o hL hb hc e n => u.keep b o e n (fun z => (List.mem_cons.mp (I.stkSub b z)).elim hL hb) hc) (fun b o _ _ hc e n => u.any e n hc) (fun b o hc e n => u.free b o e n hc) (fun b o hc e => u.there b o e hc) u.tups u.frzs u.tbls (fun m' hm => by
    obtain ⟨o', es', ep', ho', r'⟩ := hm
    rw [ho] at ho'; cases ho'
    exact ⟨_, es', ep', hL, r'⟩) hok hg
theorem Inv.turned {t' : Nat} {it : Addr} (I : Inv X pins σ H s) (k : ∀ b o, b ≠ it -> s.heap.get? b = some o -> h'.get? b = some o) (hn : H it = none) (hL : it ≠ X.env.locals)
    (h1 : it ∈ X.ex \/ X.s₀.heap.objs.size <= it) (h2 : ∀ x c, X.env.cells.lookup x = some c -> c ≠ it) (h3 : ∀ p ∈ X.pn ++ pins, p.1 ≠ it) : Inv X pins σ H { s with heap := h', toks := t' } := by
  have nit : ∀ b u, H b = some u -> b ≠ it := fun b u e z => by rw [z, hn] at e; cases e
  refine I.step (g' := s.gens) (d' := s.drawn) (ch := [it]) (fun b hb => ?_) (fun b o _ _ hc e _ => k b o (fun z => hc (by simp [z])) e) (fun b o _ _ hc e _ => ⟨o.slots, k b o (fun z => hc (by simp [z])) e⟩) (fun _ _ _ _ n => n)
    (fun b o hc e => ⟨o, k b o (fun z => hc (by simp [z])) e⟩) (fun _ _ e => e) (fun _ _ _ e => e) (fun b ps e => ⟨#[], by rw [e]; simp⟩) (fun m hm => ?_) (fun b u e => ?_) I.bare
  · have e : b = it := by simpa using hb
    subst e
    exact ⟨h1, hL, h2, h3⟩
  · obtain ⟨o, es, ep, ho, r⟩ := hm
    exact ⟨o, es, ep, k _ o (Ne.symm hL) ho, r⟩
  · refine (I.hok b u e).stay (fun c v hc q => k c v ?_ q) (fun _ q => q) fun _ _ q => q
    rcases hc with z | z
    · rw [z]; exact nit b u e
    · exact nit c _ z
theorem Inv.tok (I : Inv X pins σ H s) (t : Nat) : Inv X pins σ H { s with toks := t } := I.un (h' := s.heap) (t' := t) Un.refl I.hok
theorem Inv.kept {t' : Nat} (I : Inv X pins σ H s) (k : ∀ b u, s.heap.get? b = some u -> h'.get? b = some u) : Inv X pins σ H { s with heap := h', toks := t' } := I.un (Un.kept k) (I.hok.kept k)
theorem Inv.laid {a : Addr} {o : HO} {t' : Nat} (I : Inv X pins σ H s) (k : ∀ b u, s.heap.get? b = some u -> h'.get? b = some u) (hp : s.heap.objs.size <= a) (new : ObjOk X.prog X.w (upd H a o) h' a o) :
    Inv X pins σ (upd H a o) { s with heap := h', toks := t' } := I.un (Un.laid k hp (I.hok.fresh hp)) (I.hok.laid k hp new)
theorem Inv.write {x e : Addr} {o : HO} {t' : Nat} (I : Inv X pins σ H s) (mu : Mut (H x)) (he : e = x \/ H e = some (.own x)) (k : ∀ b u, b ≠ e -> s.heap.get? b = some u -> h'.get? b = some u) (heo : ∃ u, h'.get? e = some u)
    (new : ObjOk X.prog X.w (upd H x o) h' x o) : Inv X pins σ (upd H x o) { s with heap := h', toks := t' } := I.un (Un.write mu he k heo) (I.hok.write mu he k heo new)
theorem Inv.pins_of {pins' : List (Addr × Obj)} (I : Inv X pins σ H s) (h : ∀ p ∈ pins', s.heap.get? p.1 = some p.2 /\ H p.1 = none /\ p.1 ≠ X.env.locals /\ p.1 ∉ X.fs /\ ∀ v, p.2.data ≠ .cell v) : Inv X pins' σ H s :=
  ⟨I.ok, I.os, I.bare, I.base, I.loc, I.cell, I.free, I.freeC, fun p hp => (List.mem_append.mp hp).elim (fun z => I.pin p (List.mem_append_left _ z)) (h p), I.hok, I.len⟩
theorem nodup_ix {N : List Str} (hN : N.Nodup) {i j : Nat} {x : Str} (a : N[i]? = some x) (b : N[j]? = some x) : i = j := by
  obtain ⟨h1, e1⟩ := List.getElem?_eq_some_iff.mp a
  obtain ⟨h2, e2⟩ := List.getElem?_eq_some_iff.mp b
  exact (List.getElem_inj hN).mp (e1.trans e2.symm)
theorem store_ok2 {M : Model} {A : Around} {E : Value -> Shared -> Prop} {i : Nat} {x : Str} {v : V} {u : Value} {Q : Unit -> Shared -> Prop} (I : Inv X pins σ H s) (hN : X.N.Nodup) (hi : X.N[i]? = some x) (hx : Loc X.env.scope x) (r : RelV v u)
    (h : ∀ s', Inv X pins (σ.set i (some v)) H s' -> (∃ a, Heap.SameBut a s.heap s'.heap /\ (a = X.env.locals \/ X.env.cells.lookup x = some a)) -> Q () s') (hf : X.fn x = true \/ X.env.scope.names.lookup x = some .local := by first | exact .inl rfl | exact .inr rfl | assumption) : wpAny M A (storeName X.env x u) Q E s := by
  obtain ⟨m, hn, hl⟩ := id I.loc
  have hcls : (X.env.scope.kind == .class || (X.env.scope.kind == .module && X.env.locals != X.env.globals)) = false := by rw [I.ok.kind]; rfl
  have hiσ : i < σ.length := by rw [I.len]; exact (List.getElem?_eq_some_iff.mp hi).1
  have cne := I.cne
  have tracked : ∀ {a : Addr} {h' : Heap}, (∃ o, s.heap.get? a = some o /\ H a = none) -> Heap.SameBut a s.heap h' -> HOk X.prog X.w H h' := fun {a h'} ha hs b ob e => by
    obtain ⟨_, _, hfree⟩ := ha
    refine (I.hok b ob e).stay (fun c w' hc q => (hs.2 c ?_).trans q) (fun _ q => q) fun _ _ q => q
    rintro rfl
    rcases hc with rfl | hc
    · rw [hfree] at e; cases e
    · rw [hfree] at hc; cases hc
  rcases hx with hk | hk
  · refine wpAny_storeName_local hk hn (fun h' hn' hs => ?_) hcls
    obtain ⟨oL, _, _, hoL, _⟩ := id hn
    refine h _ ⟨I.ok, I.os, I.bare, ⟨fun b o e n hb hx => ?_, fun b o e n hb hx => ?_, I.base.free, fun b o e hx => ?_, I.base.tups, I.base.frzs, I.base.tbls⟩, ⟨_, hn', fun j y v' e1 e2 e3 => ?_⟩, fun y c e => ?_, I.free, I.freeC, fun p hp => ?_, tracked ⟨oL, hoL, I.free⟩ hs, by simpa using I.len⟩ ⟨_, hs, .inl rfl⟩
    · exact (hs.2 b (Nat.ne_of_lt (Nat.lt_of_lt_of_le (Heap.lt_size e) I.ok.above))).trans (I.base.keep b o e n hb hx)
    · obtain ⟨sl, e1⟩ := I.base.slot b o e n hb hx
      exact ⟨sl, (hs.2 b (Nat.ne_of_lt (Nat.lt_of_lt_of_le (Heap.lt_size e) I.ok.above))).trans e1⟩
    · obtain ⟨o', e1⟩ := I.base.there b o e hx
      exact ⟨o', (hs.2 b (Nat.ne_of_lt (Nat.lt_of_lt_of_le (Heap.lt_size e) I.ok.above))).trans e1⟩
    · by_cases hj : j = i
      · subst hj
        rw [hi] at e1; cases e1
        rw [List.getElem?_set_self hiσ] at e2
        cases e2
        exact ⟨u, r, .inl ⟨hk, by simp⟩⟩
      · rw [List.getElem?_set_ne (Ne.symm hj)] at e2
        obtain ⟨u', r', q⟩ := hl j y v' e1 e2 e3
        refine ⟨u', r', ?_⟩
        rcases q with ⟨k, e⟩ | ⟨k, c, e, z⟩
        · refine .inl ⟨k, ?_⟩
          have : y ≠ x := fun e => hj (nodup_ix hN e1 (e ▸ hi))
          simp [this, e]
        · exact .inr ⟨k, c, e, z.sameBut hs (cne y c e)⟩
    · obtain ⟨w', z⟩ := I.cell y c e
      exact ⟨w', z.sameBut hs (cne y c e)⟩
    · obtain ⟨e, n, ne, nf, d⟩ := I.pin p hp
      exact ⟨(hs.2 p.1 ne).trans e, n, ne, nf, d⟩
  · have hfn : X.fn x = true := by
      rcases hf with z | z
      · exact z
      · rw [z] at hk; cases hk
    obtain ⟨c, hc⟩ := I.ok.has x (.inl hk)
    obtain ⟨w', z⟩ := I.cell x c hc
    refine wpAny_storeName_cell I.ok.kind hk hc z (fun h' hc' hs => ?_)
    obtain ⟨oc, hoc, hocd⟩ := id z
    refine h { s with heap := h' } ⟨I.ok, I.os, I.bare, ⟨fun b o e n hb hx => ?_, fun b o e n hb hx => ?_, I.base.free, fun b o e hx => ?_, I.base.tups, I.base.frzs, I.base.tbls⟩, ⟨m, hn.sameBut hs (Ne.symm (cne x c hc)), fun j y v' e1 e2 e3 => ?_⟩, fun y c' e => ?_, I.free, I.freeC, fun p hp => ?_, tracked ⟨oc, hoc, I.freeC x c hc⟩ hs, by simpa using I.len⟩ ⟨c, hs, .inr hc⟩
    · exact (hs.2 b (Nat.ne_of_lt (Nat.lt_of_lt_of_le (Heap.lt_size e) (I.ok.cab x c hfn hc)))).trans (I.base.keep b o e n hb hx)
    · obtain ⟨sl, e1⟩ := I.base.slot b o e n hb hx
      exact ⟨sl, (hs.2 b (Nat.ne_of_lt (Nat.lt_of_lt_of_le (Heap.lt_size e) (I.ok.cab x c hfn hc)))).trans e1⟩
    · obtain ⟨o', e1⟩ := I.base.there b o e hx
      exact ⟨o', (hs.2 b (Nat.ne_of_lt (Nat.lt_of_lt_of_le (Heap.lt_size e) (I.ok.cab x c hfn hc)))).trans e1⟩
    · by_cases hj : j = i
      · subst hj
        rw [hi] at e1; cases e1
        rw [List.getElem?_set_self hiσ] at e2
        cases e2
        exact ⟨u, r, .inr ⟨.inl hk, c, hc, hc'⟩⟩
      · rw [List.getElem?_set_ne (Ne.symm hj)] at e2
        obtain ⟨u', r', q⟩ := hl j y v' e1 e2 e3
        refine ⟨u', r', ?_⟩
        rcases q with q | ⟨k, c', e, z'⟩
        · exact .inl q
        · refine .inr ⟨k, c', e, z'.sameBut hs ?_⟩
          rintro rfl
          exact hj (nodup_ix hN e1 (I.ok.inj _ _ _ e hc ▸ hi))
    · by_cases hcc : c' = c
      · subst hcc; exact ⟨_, hc'⟩
      · obtain ⟨w2, z2⟩ := I.cell y c' e
        exact ⟨w2, z2.sameBut hs hcc⟩
    · obtain ⟨e, n, ne, nf, d⟩ := I.pin p hp
      refine ⟨(hs.2 p.1 ?_).trans e, n, ne, nf, d⟩
      intro q
      rw [q, hoc] at e
      have q' : oc = p.2 := Option.some.inj e
      exact d w' (by rw [← q']; exact hocd)
theorem store_ok {M : Model} {A : Around} {E : Value -> Shared -> Prop} {i : Nat} {x : Str} {v : V} {u : Value} {Q : Unit -> Shared -> Prop} (I : Inv X pins σ H s) (hN : X.N.Nodup) (hi : X.N[i]? = some x) (hx : Loc X.env.scope x) (r : RelV v u)
    (h : ∀ s', Inv X pins (σ.set i (some v)) H s' -> Q () s') (hf : X.fn x = true \/ X.env.scope.names.lookup x = some .local := by first | exact .inl rfl | exact .inr rfl | assumption) : wpAny M A (storeName X.env x u) Q E s :=
  store_ok2 I hN hi hx r (fun s' I' _ => h s' I') hf
theorem Inv.call' {s' : Shared} {ch : List Addr} (I : Inv X pins σ H s) (ho : s'.os = s.os) (u : Un (frs X.stack) ch H H' s.heap s'.heap) (hok : HOk X.prog X.w H' s'.heap) (hg : AllBare s'.gens)
    (hch : ∀ b ∈ ch, (b ∈ X.ex \/ X.s₀.heap.objs.size <= b) /\ b ≠ X.env.locals /\ (∀ x c, X.env.cells.lookup x = some c -> c ≠ b) /\ ∀ p ∈ X.pn ++ pins, p.1 ≠ b) : Inv X pins σ H' s' := by
  obtain ⟨h', g', d', t', o'⟩ := s'
  have e : o' = s.os := ho
  subst e
  exact I.call (g' := g') (t' := t') (d' := d') u hok hg hch
end
abbrev XK := Value -> Option Addr -> Hp -> Prop
abbrev St := List (Option V)
abbrev VK := V -> Hp -> Prop
abbrev TE := St -> Hp -> VK -> Prop
abbrev TT := St -> Hp -> (Bool -> Hp -> Prop) -> Prop
abbrev TA := St -> Hp -> (List V -> Hp -> Prop) -> Prop
structure Ends where
  nx : St -> Hp -> Prop
  rt : VK
  bk : St -> Hp -> Prop := fun _ _ => False
  ct : St -> Hp -> Prop := fun _ _ => False
abbrev TS := Ends -> St -> Hp -> Prop
def EP (X : Cx) (pins : List (Addr × Obj)) (σ : St) (Q : VK) (u : Value) (s' : Shared) : Prop := ∃ v H', Inv X pins σ H' s' /\ RelV v u /\ Q v H'
def TP (X : Cx) (pins : List (Addr × Obj)) (σ : St) (Q : Bool -> Hp -> Prop) (b : Bool) (s' : Shared) : Prop := ∃ H', Inv X pins σ H' s' /\ Q b H'
def AP (X : Cx) (pins : List (Addr × Obj)) (σ : St) (Q : List V -> Hp -> Prop) (us : List Value) (s' : Shared) : Prop := ∃ vs H', Inv X pins σ H' s' /\ Vals vs us /\ Q vs H'
def SP (X : Cx) (pins : List (Addr × Obj)) (D : Ends) (f : Flow) (s' : Shared) : Prop :=
  match f with
  | .next => ∃ σ' H', Inv X pins σ' H' s' /\ D.nx σ' H'
  | .brk => ∃ σ' H', Inv X pins σ' H' s' /\ D.bk σ' H'
  | .cont => ∃ σ' H', Inv X pins σ' H' s' /\ D.ct σ' H'
  | .ret u => ∃ v σ' H', Inv X pins σ' H' s' /\ RelV v u /\ D.rt v H'
def PE (X : Cx) (e : Expr) (t : TE) : Prop :=
  ∀ (pins : List (Addr × Obj)) (s : Shared) (σ : St) (H : Hp) (Q : VK), Inv X pins σ H s -> t σ H Q -> wpAny (model X.prog X.w) X.A (eval e X.env) (EP X pins σ Q) X.xe s
def PT (X : Cx) (e : Expr) (t : TT) : Prop :=
  ∀ (pins : List (Addr × Obj)) (s : Shared) (σ : St) (H : Hp) (Q : Bool -> Hp -> Prop), Inv X pins σ H s -> t σ H Q -> wpAny (model X.prog X.w) X.A (isTrue e X.env (eval e X.env)) (TP X pins σ Q) X.xe s
def PW (X : Cx) (e : Expr) (t : TT) : Prop :=
  ∀ (whole : Sem Value) (pins : List (Addr × Obj)) (s : Shared) (σ : St) (H : Hp) (Q : Bool -> Hp -> Prop), Inv X pins σ H s -> t σ H Q -> wpAny (model X.prog X.w) X.A (isTrue e X.env whole) (TP X pins σ Q) X.xe s
theorem PW.pt {X : Cx} {e : Expr} {t : TT} (h : PW X e t) : PT X e t := h _
def PA (X : Cx) (es : List Expr) (t : TA) : Prop :=
  ∀ (pos : Pos) (pins : List (Addr × Obj)) (s : Shared) (σ : St) (H : Hp) (Q : List V -> Hp -> Prop), Inv X pins σ H s -> t σ H Q -> wpAny (model X.prog X.w) X.A (spliced (backTo pos (starEach es X.env))) (AP X pins σ Q) X.xe s
def PS (X : Cx) (st : Stmt) (t : TS) : Prop :=
  ∀ (pins : List (Addr × Obj)) (s : Shared) (σ : St) (H : Hp) (D : Ends), Inv X pins σ H s -> t D σ H -> wpAny (model X.prog X.w) X.A (exec st X.env) (SP X pins D) X.xe s
def PSs (X : Cx) (st : List Stmt) (t : TS) : Prop :=
  ∀ (pins : List (Addr × Obj)) (s : Shared) (σ : St) (H : Hp) (D : Ends), Inv X pins σ H s -> t D σ H -> wpAny (model X.prog X.w) X.A (execs st X.env) (SP X pins D) X.xe s
theorem thn {α : Type} {t : Sem α} {Q Q' : α -> Shared -> Prop} {M : Model} {A : Around} {E : Value -> Shared -> Prop} {s : Shared} (h : wpAny M A t Q E s) (hQ : ∀ a s, Q a s -> Q' a s) : wpAny M A t Q' E s := wpAny_mono h hQ fun _ _ x => x
end L2
namespace L2
open PySem PySem.Spec PyProof.Rows
section
variable {X : Cx}
theorem bin {a b : Expr} {ta tb : TE} (ha : PE X a ta) (hb : PE X b tb) {pins : List (Addr × Obj)} {s : Shared} {σ : St} {H : Hp} {R : V -> V -> Hp -> Prop} (I : Inv X pins σ H s) (h : ta σ H fun x H1 => tb σ H1 fun y H2 => R x y H2)
    {α : Type} {Q : α -> Shared -> Prop} {f : Value -> Value -> Sem α}
    (hf : ∀ v u s2 x y H2, Inv X pins σ H2 s2 -> RelV x v -> RelV y u -> R x y H2 -> wpAny (model X.prog X.w) X.A (f v u) Q X.xe s2) :
    wpAny (model X.prog X.w) X.A (eval a X.env) (fun v s₁ => wpAny (model X.prog X.w) X.A (eval b X.env) (fun u s₂ => wpAny (model X.prog X.w) X.A (f v u) Q X.xe s₂) X.xe s₁) X.xe s := by
  refine thn (ha pins s σ H _ I h) fun v s1 ⟨x, H1, I1, r1, q1⟩ => ?_
  refine thn (hb pins s1 σ H1 _ I1 q1) fun u s2 ⟨y, H2, I2, r2, q2⟩ => ?_
  exact hf v u s2 x y H2 I2 r1 r2 q2
def tVar (i : Nat) : TE := fun σ H Q => ∃ v, σ[i]? = some (some v) /\ Q v H
def tC (v : V) : TE := fun _ H Q => Q v H
theorem pe_var {i : Nat} {x : Str} {pos : Pos} (hN : X.N[i]? = some x) (hv : Vis X.env.scope x) (hd : (x == ("__debug__" : Str)) = false := by decide) (hcd : (x == ("__classdict__" : Str)) = false := by decide) : PE X (.Name x pos) (tVar i) := by
  intro pins s σ H Q I h
  obtain ⟨v, e, h⟩ := h
  obtain ⟨m, hn, hl⟩ := I.loc
  obtain ⟨u, r, l⟩ := hl i x v hN e hv
  have fin : EP X pins σ Q u s := ⟨v, H, I, r, h⟩
  rcases l with ⟨hk, hm⟩ | ⟨hk, c, hc, hcell⟩
  · exact wpAny_Name (wpAny_loadName_local I.ok.kind hk hn hm fin) hd
  · rcases hk with hk | hk
    · exact wpAny_Name (wpAny_loadName_cell I.ok.kind hk hc hcell fin) hd
    · exact wpAny_Name (wpAny_loadName_free I.ok.kind hk hc hcell fin hcd) hd
theorem pe_int {i j pos} : PE X (.Constant (.int i) j pos) (tC (.int i)) := fun _ _ _ H _ I h => wpAny_Constant_int ⟨.int i, H, I.tok _, ⟨_, rfl⟩, h⟩
theorem pe_bl {b j pos} : PE X (.Constant (.bool b) j pos) (tC (.bl b)) := fun _ _ _ H _ I h => Constant_bool ⟨.bl b, H, I, rfl, h⟩
theorem pe_non {j pos} : PE X (.Constant .none j pos) (tC .non) := fun _ _ _ H _ I h => Constant_none ⟨.non, H, I, rfl, h⟩
theorem pe_str {x j pos} : PE X (.Constant (.str x) j pos) (tC (.str x)) := fun _ _ _ H _ I h => Calls.Constant_str ⟨.str x, H, I.tok _, ⟨_, rfl⟩, h⟩
def Gl (X : Cx) (x : Str) : Prop := X.env.kindOf x = some .globalImplicit
theorem ld_glob {E : Value -> Shared -> Prop} {pins : List (Addr × Obj)} {s : Shared} {σ : St} {H : Hp} {x : Str} {u : Value} {pos : Pos} {Q : Value -> Shared -> Prop} (I : Inv X pins σ H s) (hg : Gl X x) (hm : X.mg x = some u) (h : Q u s)
    (hd : (x == ("__debug__" : Str)) = false := by decide) : wpAny (model X.prog X.w) X.A (eval (.Name x pos) X.env) Q E s :=
  Calls.Name_function_global I.ok.kind hg (Calls.loadGlobal_global (by rw [I.ok.glob]; exact I.mod.glob.keeps I.bk) hm h) hd
theorem ld_blt {E : Value -> Shared -> Prop} {pins : List (Addr × Obj)} {s : Shared} {σ : St} {H : Hp} {x : Str} {u : Value} {pos : Pos} {Q : Value -> Shared -> Prop} (I : Inv X pins σ H s) (hg : Gl X x) (hm : X.mg x = none) (hv : bootBuiltins x = some u) (h : Q u s)
    (hn : x ≠ "__name__" := by decide) (hd : (x == ("__debug__" : Str)) = false := by decide) : wpAny (model X.prog X.w) X.A (eval (.Name x pos) X.env) Q E s := by
  obtain ⟨mb, h1, h2⟩ := I.mod.blt
  exact Calls.Name_function_global I.ok.kind hg (Calls.loadGlobal_builtin (by rw [I.ok.glob]; exact I.mod.glob.keeps I.bk) hm (by rw [I.ok.blt]; exact h1.keeps I.bk) ((h2 x hn).trans hv) h) hd
theorem pe_glob {x : Str} {v : V} {u : Value} {pos : Pos} (hg : Gl X x) (hm : X.mg x = some u) (r : RelV v u) (hd : (x == ("__debug__" : Str)) = false := by decide) : PE X (.Name x pos) (tC v) :=
  fun _ _ _ H _ I h => ld_glob I hg hm ⟨v, H, I, r, h⟩ hd
theorem pe_bltn {x : Str} {v : V} {u : Value} {pos : Pos} (hg : Gl X x) (hm : X.mg x = none) (hv : bootBuiltins x = some u) (r : RelV v u) (hn : x ≠ "__name__" := by decide) (hd : (x == ("__debug__" : Str)) = false := by decide) : PE X (.Name x pos) (tC v) :=
  fun _ _ _ H _ I h => ld_blt I hg hm hv ⟨v, H, I, r, h⟩ hn hd
variable {a b : Expr} {ta tb : TE} {pos : Pos}
def PC (X : Cx) (op : CmpOp) (a b : Expr) (t : TE) : Prop :=
  ∀ (pins : List (Addr × Obj)) (s : Shared) (σ : St) (H : Hp) (Q : VK), Inv X pins σ H s -> t σ H Q ->
    wpAny (model X.prog X.w) X.A (eval a X.env) (fun v s₁ => wpAny (model X.prog X.w) X.A (eval b X.env) (fun u s₂ => wpAny (model X.prog X.w) X.A (compareOp op v u) (EP X pins σ Q) X.xe s₂) X.xe s₁) X.xe s
theorem nobehind (b : Expr) {op : CmpOp} (h : op ≠ .In) (h2 : op ≠ .NotIn) : behindInMarks op b = false := by
  have e1 : (op == CmpOp.In) = false := by cases op <;> first | rfl | exact absurd rfl h
  have e2 : (op == CmpOp.NotIn) = false := by cases op <;> first | rfl | exact absurd rfl h2
  cases b <;> simp [behindInMarks, e1, e2]
def tB (t : TE) : TT := fun σ H Q => t σ H fun x H1 => ∃ c, x = .bl c /\ Q c H1
theorem pt_cmp {op : CmpOp} {t : TE} (h : PC X op a b t) (h1 : behindInMarks op b = false := by first | exact nobehind _ (by decide) (by decide) | rfl) : PT X (.Compare a [op] [b] pos) (tB t) := by
  intro pins s σ H Q I hw
  refine wpAny_isTrue_Compare1 (thn (h pins s σ H _ I hw) fun v s1 h1 => thn h1 fun u s2 h2 => thn h2 fun c s3 ⟨x, H1, I1, r1, q1⟩ => ?_) h1
  obtain ⟨d, rfl, q⟩ := q1
  cases r1
  exact wpAny_truthy_bool ⟨H1, I1, q⟩
theorem pt_val {e : Expr} {t : TE} (h : PE X e t) (he : ∀ whole, isTrue e X.env whole = (do let v ← whole; standAt e.pos; holding [v] (truthy v)) := by intro _; rfl) : PT X e (tB t) := by
  intro pins s σ H Q I hw
  refine isTrue_plain (thn (h pins s σ H _ I hw) fun v s1 ⟨x, H1, I1, r1, q1⟩ => ?_) (he _)
  obtain ⟨d, rfl, q⟩ := q1
  cases r1
  exact wpAny_truthy_bool ⟨H1, I1, q⟩
variable {tA tB' : TT} {rest : List Expr}
def tAnd (t u : TT) : TT := fun σ H Q => t σ H fun c H1 => if c = true then u σ H1 Q else Q false H1
def tOr (t u : TT) : TT := fun σ H Q => t σ H fun c H1 => if c = true then Q true H1 else u σ H1 Q
def tNot (t : TT) : TT := fun σ H Q => t σ H fun c H1 => Q (!c) H1
theorem pw_and1 (ha : PT X a tA) : PW X (.BoolOp .And [a] pos) tA := by
  intro wh pins s σ H Q I h
  refine isTrue_and (thn (ha pins s σ H Q I h) fun c s1 e => ?_)
  cases c with
  | true => exact isTrue_and_nil e
  | false => exact e
theorem pw_or1 (ha : PT X a tA) : PW X (.BoolOp .Or [a] pos) tA := by
  intro wh pins s σ H Q I h
  refine isTrue_or (thn (ha pins s σ H Q I h) fun c s1 e => ?_)
  cases c with
  | false => exact isTrue_or_nil e
  | true => exact e
theorem pw_and (ha : PT X a tA) (hb : PW X (.BoolOp .And (b :: rest) pos) tB') : PW X (.BoolOp .And (a :: b :: rest) pos) (tAnd tA tB') := by
  intro wh pins s σ H Q I h
  refine isTrue_and (thn (ha pins s σ H _ I h) fun c s1 ⟨H1, I1, q1⟩ => ?_)
  cases c with
  | true => exact hb wh pins s1 σ H1 Q I1 q1
  | false => exact ⟨H1, I1, q1⟩
theorem pw_or (ha : PT X a tA) (hb : PW X (.BoolOp .Or (b :: rest) pos) tB') : PW X (.BoolOp .Or (a :: b :: rest) pos) (tOr tA tB') := by
  intro wh pins s σ H Q I h
  refine isTrue_or (thn (ha pins s σ H _ I h) fun c s1 ⟨H1, I1, q1⟩ => ?_)
  cases c with
  | true => exact ⟨H1, I1, q1⟩
  | false => exact hb wh pins s1 σ H1 Q I1 q1
theorem pt_not (ha : PT X a tA) : PT X (.UnaryOp .Not a pos) (tNot tA) := by
  intro pins s σ H Q I h
  exact isTrue_not (ha pins s σ H (fun c H1 => Q (!c) H1) I h)
def tAndV (ta tb : TE) : TE := fun σ H Q => ta σ H fun x H1 => ∃ c, x = .bl c /\ if c = true then tb σ H1 Q else Q (.bl false) H1
def tNotV (ta : TE) : TE := fun σ H Q => ta σ H fun x H1 => ∃ c, x = .bl c /\ Q (.bl (!c)) H1
theorem pe_one {op} {t : TE} (h : PE X a t) : PE X (.BoolOp op [a] pos) t := fun pins s σ H Q I hw => BoolOp_one (h pins s σ H Q I hw)
theorem pe_and (ha : PE X a ta) (hb : PE X (.BoolOp .And (b :: rest) pos) tb) : PE X (.BoolOp .And (a :: b :: rest) pos) (tAndV ta tb) := by
  intro pins s σ H Q I h
  refine BoolOp_and (thn (ha pins s σ H _ I h) fun v s1 ⟨x, H1, I1, r1, q1⟩ => ?_)
  obtain ⟨c, rfl, q1⟩ := q1
  cases r1
  refine wpAny_truthy_bool ?_
  cases c with
  | true => exact hb pins s1 σ H1 Q I1 q1
  | false => exact ⟨.bl false, H1, I1, rfl, q1⟩
theorem pe_not (ha : PE X a ta) : PE X (.UnaryOp .Not a pos) (tNotV ta) := by
  intro pins s σ H Q I h
  refine UnaryOp_ (thn (ha pins s σ H _ I h) fun v s1 ⟨x, H1, I1, r1, q1⟩ => ?_)
  obtain ⟨c, rfl, q1⟩ := q1
  cases r1
  exact not_of (wpAny_truthy_bool ⟨.bl (!c), H1, I1, rfl, q1⟩)
end
end L2
namespace L2
open PySem PySem.Spec PyProof.Rows
def SqL (K : PySem.W.Frag) (H : Hp) (a : Addr) (xs : List V) : Prop :=
  Rd H a (.lst xs) \/
    ∃ (o : Obj) (its : Array Value) (n : Nat), K.lookup a = some o /\ o.cls = .type "list" /\ o.dict = none /\ o.data = .seq its n /\ its.size <= sizeLine /\ Vals xs its.toList
def SqT (K : PySem.W.Frag) (H : Hp) (a : Addr) (xs : List V) : Prop :=
  Rd H a (.tup xs) \/
    ∃ (o : Obj) (its : Array Value) (n : Nat), K.lookup a = some o /\ o.cls = .type "tuple" /\ o.data = .seq its n /\ its.size <= sizeLine /\ Vals xs its.toList
def absV : Value -> Option V
  | .none => some .non
  | .bool b => some (.bl b)
  | .int i _ => some (.int i)
  | .str x _ => some (.str x)
  | .bytes b _ => some (.byt b)
  | .float b _ => some (.flt b)
  | .ref a => some (.ref a)
  | .type n => some (.ty n)
  | _ => none
theorem RelV.abs {x : V} {u : Value} (r : RelV x u) : absV u = some x := by
  cases x with
  | non => cases r; rfl
  | bl _ => cases r; rfl
  | int _ => obtain ⟨t, rfl⟩ := r; rfl
  | str _ => obtain ⟨t, rfl⟩ := r; rfl
  | byt _ => obtain ⟨t, rfl⟩ := r; rfl
  | flt _ => obtain ⟨t, rfl⟩ := r; rfl
  | ref _ => cases r; rfl
  | ty _ => cases r; rfl
theorem RelV.inj {x y : V} {u : Value} (r : RelV x u) (q : RelV y u) : x = y := Option.some.inj (r.abs.symm.trans q.abs)
theorem Vals.inj : ∀ {xs ys : List V} {us : List Value}, Vals xs us -> Vals ys us -> xs = ys
  | _, _, _, .nil, .nil => rfl
  | _, _, _, .cons r t, .cons r' t' => by rw [r.inj r', Vals.inj t t']
section
variable {X : Cx} {pins : List (Addr × Obj)} {σ : St} {H : Hp} {s : Shared} {a : Addr} {xs ys : List V}
theorem Inv.list (I : Inv X pins σ H s) (h : SqL X.K H a xs) : ∃ its : List Value, Vals xs its /\ PlainL s.heap a its.toArray /\ xs.length <= sizeLine := by
  rcases h with h | ⟨o, its, n, hk, hc, hd, hs, hz, r⟩
  · obtain ⟨z, its, n, r, e⟩ := h.ok I.hok
    exact ⟨its, r, ⟨_, n, e, rfl, rfl, rfl⟩, z⟩
  · refine ⟨its.toList, r, ⟨o, n, I.kIn a o hk, hc, hd, by simpa using hs⟩, ?_⟩
    have e := r.length
    simp only [Array.length_toList] at e
    omega
theorem Inv.tuple (I : Inv X pins σ H s) (h : SqT X.K H a xs) : ∃ its : List Value, Vals xs its /\ IsTup s.heap a its.toArray /\ xs.length <= sizeLine := by
  rcases h with h | ⟨o, its, n, hk, hc, hs, hz, r⟩
  · obtain ⟨z, its, r, p⟩ := h.ok I.hok
    exact ⟨its, r, p, z⟩
  · refine ⟨its.toList, r, ⟨o, I.kIn a o hk, hc, n, by simpa using hs⟩, ?_⟩
    have e := r.length
    simp only [Array.length_toList] at e
    omega
theorem Inv.list_inj (I : Inv X pins σ H s) (h : SqL X.K H a xs) (h' : SqL X.K H a ys) : xs = ys := by
  obtain ⟨its, r, ⟨o, n, e, _, _, d⟩, _⟩ := I.list h
  obtain ⟨its', r', ⟨o', n', e', _, _, d'⟩, _⟩ := I.list h'
  rw [e] at e'; cases e'
  rw [d] at d'
  injection d' with d1 _
  have : its = its' := by simpa using congrArg Array.toList d1
  subst this
  exact r.inj r'
theorem Inv.tuple_inj (I : Inv X pins σ H s) (h : SqT X.K H a xs) (h' : SqT X.K H a ys) : xs = ys := by
  obtain ⟨its, r, ⟨o, e, _, n, d⟩, _⟩ := I.tuple h
  obtain ⟨its', r', ⟨o', e', _, n', d'⟩, _⟩ := I.tuple h'
  rw [e] at e'; cases e'
  rw [d] at d'
  injection d' with d1 _
  have : its = its' := by simpa using congrArg Array.toList d1
  subst this
  exact r.inj r'
end
abbrev Cx.wish (X : Cx) (E : Value -> Shared -> Prop) : Cx := { X with xe := E }
abbrev Cx.nox (X : Cx) : Cx := X.wish fun _ _ => False
theorem Cx.Ok.wish {X : Cx} (ok : X.Ok) (E : Value -> Shared -> Prop) : (X.wish E).Ok :=
  ⟨ok.mod, ok.kind, ok.glob, ok.blt, ok.above, ok.inj, ok.has, ok.cab, ok.hd, ok.frames, ok.stk, ok.exf, ok.bs, ok.bsz, ok.noex, ok.exfs, ok.funs, ok.frf⟩
theorem Cx.Ok.unwish {X : Cx} {E : Value -> Shared -> Prop} (ok : (X.wish E).Ok) : X.Ok :=
  ⟨ok.mod, ok.kind, ok.glob, ok.blt, ok.above, ok.inj, ok.has, ok.cab, ok.hd, ok.frames, ok.stk, ok.exf, ok.bs, ok.bsz, ok.noex, ok.exfs, ok.funs, ok.frf⟩
section
variable {X : Cx} {pins : List (Addr × Obj)} {σ : St} {H : Hp} {s : Shared} {E : Value -> Shared -> Prop}
theorem Inv.wish (I : Inv X pins σ H s) (E : Value -> Shared -> Prop) : Inv (X.wish E) pins σ H s := ⟨I.ok.wish E, I.os, I.bare, I.base, I.loc, I.cell, I.free, I.freeC, I.pin, I.hok, I.len⟩
theorem Inv.unwish (I : Inv (X.wish E) pins σ H s) : Inv X pins σ H s := ⟨I.ok.unwish, I.os, I.bare, I.base, I.loc, I.cell, I.free, I.freeC, I.pin, I.hok, I.len⟩
theorem SP.unwish {D : Ends} {f : Flow} {s' : Shared} (h : SP (X.wish E) pins D f s') : SP X pins D f s' := by
  cases f with
  | next => obtain ⟨σ', H', I, q⟩ := h; exact ⟨σ', H', I.unwish, q⟩
  | brk => obtain ⟨σ', H', I, q⟩ := h; exact ⟨σ', H', I.unwish, q⟩
  | cont => obtain ⟨σ', H', I, q⟩ := h; exact ⟨σ', H', I.unwish, q⟩
  | ret u => obtain ⟨v, σ', H', I, r, q⟩ := h; exact ⟨v, σ', H', I.unwish, r, q⟩
theorem PSs.nox {st : List Stmt} {t : TS} (h : PSs X.nox st t) : PSs X st t := fun pins s σ H D I hw =>
  wpAny_mono (h pins s σ H D (I.wish _) hw) (fun _ _ q => q.unwish) fun _ _ z => False.elim z
end
section
variable {X : Cx} {st : Stmt} {rest : List Stmt} {t u : TS} {e : Expr} {te : TE} {pos : Pos}
def tNext : TS := fun D σ H => D.nx σ H
def tSeq (t u : TS) : TS := fun D σ H => t { D with nx := u D } σ H
theorem pss_nil : PSs X [] tNext := fun _ _ σ H _ I h => wpAny_execs_nil ⟨σ, H, I, h⟩
theorem pss_cons (h1 : PS X st t) (h2 : PSs X rest u) : PSs X (st :: rest) (tSeq t u) := by
  intro pins s σ H D I h
  refine wpAny_execs_cons (thn (h1 pins s σ H { D with nx := u D } I h) fun f s1 q => ?_)
  cases f with
  | next =>
    obtain ⟨σ', H', I', q⟩ := q
    exact h2 pins s1 σ' H' D I' q
  | ret v => exact q
  | brk => exact q
  | cont => exact q
theorem pss_one (h1 : PS X st t) : PSs X [st] t := by
  intro pins s σ H D I h
  refine wpAny_execs_cons (thn (h1 pins s σ H D I h) fun f s1 q => ?_)
  cases f with
  | next => exact wpAny_execs_nil q
  | ret v => exact q
  | brk => exact q
  | cont => exact q
theorem Inv.quiet {pins : List (Addr × Obj)} {σ : St} {H : Hp} {s : Shared} (I : Inv X pins σ H s) : interactive X.env = false := by simp [interactive, I.ok.kind]
def tRet (te : TE) : TS := fun D σ H => te σ H D.rt
theorem ps_ret (he : PE X e te) : PS X (.Return (some e) pos) (tRet te) := by
  intro pins s σ H D I h
  exact wpAny_Return_some (thn (he pins s σ H _ I h) fun v s1 ⟨x, H1, I1, r1, q1⟩ => ⟨x, σ, H1, I1, r1, q1⟩)
def tIfS (c : TT) (t u : TS) : TS := fun D σ H => c σ H fun b H1 => if b = true then t D σ H1 else u D σ H1
theorem ps_if {c : Expr} {a b : List Stmt} {tc : TT} (hc : PT X c tc) (ha : PSs X a t) (hb : PSs X b u) : PS X (.If c a b pos) (tIfS tc t u) := by
  intro pins s σ H D I h
  refine wpAny_If (thn (hc pins s σ H _ I h) fun d s1 ⟨H1, I1, q1⟩ => ?_)
  cases d with
  | true => exact ha pins s1 σ H1 D I1 q1
  | false => exact hb pins s1 σ H1 D I1 q1
end
abbrev TG := V -> St -> Hp -> (St -> Hp -> Prop) -> Prop
abbrev TGs := List V -> St -> Hp -> (St -> Hp -> Prop) -> Prop
def PG (X : Cx) (target : Expr) (t : TG) : Prop :=
  ∀ (pins : List (Addr × Obj)) (s : Shared) (σ : St) (H : Hp) (v : V) (u : Value) (Q : St -> Hp -> Prop), Inv X pins σ H s -> RelV v u -> t v σ H Q ->
    wpAny (model X.prog X.w) X.A (assign target X.env u) (fun _ s' => ∃ σ' H', Inv X pins σ' H' s' /\ Q σ' H') X.xe s
def PGs (X : Cx) (ts : List Expr) (t : TGs) : Prop :=
  ∀ (pins : List (Addr × Obj)) (s : Shared) (σ : St) (H : Hp) (vs : List V) (us : List Value) (Q : St -> Hp -> Prop), Inv X pins σ H s -> Vals vs us -> t vs σ H Q ->
    wpAny (model X.prog X.w) X.A (assignInOrder ((assignEach ts X.env).map (·.2)) us) (fun _ s' => ∃ σ' H', Inv X pins σ' H' s' /\ Q σ' H') X.xe s
section
variable {X : Cx} {pos : Pos}
def gName (i : Nat) : TG := fun v σ H Q => Q (σ.set i (some v)) H
theorem pg_name {i : Nat} {x : Str} (hN : X.N.Nodup) (hi : X.N[i]? = some x) (hx : Loc X.env.scope x) (hf : X.fn x = true \/ X.env.scope.names.lookup x = some .local := by first | exact .inl rfl | exact .inr rfl | assumption) : PG X (.Name x pos) (gName i) := by
  intro pins s σ H v u Q I r h
  exact wpAny_assign_Name (store_ok I hN hi hx r (fun s' I' => ⟨_, H, I', h⟩) hf)
def gNil : TGs := fun vs σ H Q => vs = [] /\ Q σ H
def gCons (t : TG) (u : TGs) : TGs := fun vs σ H Q => ∃ v r, vs = v :: r /\ t v σ H fun σ' H' => u r σ' H' Q
theorem pgs_nil : PGs X [] gNil := by
  intro pins s σ H vs us Q I r h
  obtain ⟨e, h⟩ := h
  subst e
  cases r
  exact assignInOrder_nil ⟨σ, H, I, h⟩
theorem pgs_cons {e : Expr} {es : List Expr} {t : TG} {u : TGs} (h1 : PG X e t) (h2 : PGs X es u)
    (hs : (assignEach (e :: es) X.env).map (·.2) = assign e X.env :: (assignEach es X.env).map (·.2) := by rfl) : PGs X (e :: es) (gCons t u) := by
  intro pins s σ H vs us Q I r h
  obtain ⟨v, vr, e1, h⟩ := h
  subst e1
  cases r with
  | cons r rr =>
    rw [hs]
    refine assignInOrder_cons (thn (h1 pins s σ H _ _ _ I r h) fun _ s1 ⟨σ1, H1, I1, q1⟩ => ?_)
    exact h2 pins s1 σ1 H1 _ _ Q I1 rr q1
def gTup (K : PySem.W.Frag) (n : Nat) (t : TGs) : TG := fun v σ H Q => ∃ a xs, v = .ref a /\ SqT K H a xs /\ xs.length = n /\ t xs σ H Q
theorem pg_tup {es : List Expr} {k : Nat} {t : TGs} {n : Nat} (hc : X.calm = true) (h : PGs X es t)
    (hn : (assignEach es X.env).length = n := by rfl) (hst : (assignEach es X.env).findIdx? (·.1) = none := by rfl) : PG X (.Tuple es k pos) (gTup X.K n t) := by
  intro pins s σ H v u Q I r hw
  obtain ⟨a, xs, e1, hq, hl, hw⟩ := hw
  subst e1
  cases r
  obtain ⟨its, rv, ht, hz⟩ := I.tuple hq
  refine assign_Tuple_tuple (I.ok.hd hc) ht (by simp [hn, ← hl, rv.length]) hst fun h' hx => ?_
  have I1 : Inv X pins σ H { s with heap := h' } := I.kept (t' := s.toks) fun b o e => hx b o (Nat.ne_of_lt (Heap.lt_size e)) e
  exact h pins _ σ H xs _ Q I1 (by simpa using rv) hw
def tAsg (te : TE) (g : TG) : TS := fun D σ H => te σ H fun x H1 => g x σ H1 D.nx
theorem ps_set {i : Nat} {x : Str} {e : Expr} {te : TE} {pos' : Pos} (hN : X.N.Nodup) (hi : X.N[i]? = some x) (hx : Loc X.env.scope x) (he : PE X e te) (hs : swapsWith e (some (.Name x pos')) pos.line X.env = pure false := by rfl) (hf : X.fn x = true \/ X.env.scope.names.lookup x = some .local := by first | exact .inl rfl | exact .inr rfl | assumption) :
    PS X (.Assign [.Name x pos'] e pos) (tAsg te (gName i)) := by
  intro pins s σ H D I h
  refine wpAny_Assign_Name (thn (he pins s σ H _ I h) fun v s1 ⟨y, H1, I1, r1, q1⟩ => ?_) hs
  exact store_ok I1 hN hi hx r1 (fun s2 I2 => ⟨_, H1, I2, q1⟩) hf
end
section
variable {X : Cx} {pos : Pos}
end
structure It where
  go : Nat -> Hp -> Prop
  yld : Nat -> Hp -> V -> Hp -> Prop
  stop : Nat -> Hp -> Prop
def FpOk (X : Cx) (pins : List (Addr × Obj)) (H : Hp) (b : Addr) : Prop :=
  H b = none /\ b ≠ X.env.locals /\ b ∉ X.fs /\ (b ∈ X.ex \/ X.s₀.heap.objs.size <= b) /\ (∀ x c, X.env.cells.lookup x = some c -> c ≠ b) /\ ∀ p ∈ X.pn ++ pins, p.1 ≠ b
theorem Inv.fpOk {X : Cx} {pins : List (Addr × Obj)} {σ : St} {H H' : Hp} {s : Shared} {b : Addr} (I : Inv X pins σ H s) (hb : s.heap.objs.size <= b) (hn : H' b = none) : FpOk X pins H' b := by
  refine ⟨hn, Nat.ne_of_gt (Nat.lt_of_lt_of_le I.lt hb), I.nofs hb, .inr (Nat.le_trans I.sz hb), fun x c e z => ?_, fun p hp z => ?_⟩
  · obtain ⟨v, q⟩ := I.cell x c e
    exact absurd (Nat.lt_of_lt_of_le q.lt (by rw [z]; exact hb)) (Nat.lt_irrefl _)
  · exact absurd (Nat.lt_of_lt_of_le (Heap.lt_size (I.pin p hp).1) (by rw [z]; exact hb)) (Nat.lt_irrefl _)
structure Turn (P : Program) (w : World) (K : PySem.W.Frag) (tg : Expr) (J : It) (fp : List Addr) (it : Addr) (tn : Nat -> Heap -> Prop) : Prop where
  mem : it ∈ fp
  obj : ∀ i h, tn i h -> ∀ b ∈ fp, ∃ o, h.get? b = some o /\ ∀ v, o.data ≠ .cell v
  keep : ∀ i h h', tn i h -> (∀ b ∈ fp, ∀ o, h.get? b = some o -> h'.get? b = some o) -> tn i h'
  item : ∀ (X : Cx), X.prog = P -> X.w = w -> X.K = K -> X.calm = true -> ∀ (i : Nat) (pins : List (Addr × Obj)) (s : Shared) (σ : St) (H : Hp) (E : Value -> Shared -> Prop), Inv X pins σ H s -> (∀ b ∈ fp, FpOk X pins H b) -> tn i s.heap -> J.go i H ->
    wpAny (model P w) X.A (pyNext (.ref it)) (fun r s1 => ∃ u, r = some u /\
      wpAny (model P w) X.A (letOwnedTupleGo tg (.ref it) u) (fun _ s2 => ∃ x H', Inv X pins σ H' s2 /\ RelV x u /\ J.yld i H x H' /\ tn (i + 1) s2.heap /\ ∀ b ∈ fp, H' b = none) E s1) E s
  done : ∀ (X : Cx), X.prog = P -> X.w = w -> X.K = K -> X.calm = true -> ∀ (i : Nat) (pins : List (Addr × Obj)) (s : Shared) (σ : St) (H : Hp) (E : Value -> Shared -> Prop), Inv X pins σ H s -> (∀ b ∈ fp, FpOk X pins H b) -> tn i s.heap -> J.stop i H ->
    wpAny (model P w) X.A (pyNext (.ref it)) (fun r s1 => r = none /\ Inv X pins σ H s1) E s
  self : ∀ (A : Around) (i : Nat) (s : Shared) (Q : Value -> Shared -> Prop) (E : Value -> Shared -> Prop), tn i s.heap -> Q (.ref it) s -> wpAny (model P w) A (pyIter (.ref it)) Q E s
abbrev TI := St -> Hp -> (It -> Hp -> Prop) -> Prop
def PIE (X : Cx) (pins : List (Addr × Obj)) (σ : St) (tg : Expr) (R : It -> Hp -> Prop) (itv : Value) (s2 : Shared) : Prop :=
  ∃ (it : Addr) (fp : List Addr) (tn : Nat -> Heap -> Prop) (J : It) (H' : Hp), itv = .ref it /\ Inv X pins σ H' s2 /\ Turn X.prog X.w X.K tg J fp it tn /\ tn 0 s2.heap /\ (∀ b ∈ fp, FpOk X pins H' b) /\ R J H'
def PI (X : Cx) (tg iter : Expr) (wi : TI) : Prop :=
  ∀ (pins : List (Addr × Obj)) (s : Shared) (σ : St) (H : Hp) (R : It -> Hp -> Prop), Inv X pins σ H s -> wi σ H R ->
    wpAny (model X.prog X.w) X.A (eval iter X.env) (fun v s1 => wpAny (model X.prog X.w) X.A (pyIter v) (PIE X pins σ tg R) X.xe s1) X.xe s
theorem go_of {M : Model} {A : Around} {E : Value -> Shared -> Prop} {s : Shared} {tg : Expr} {it : Addr} {u : Value} {o : Obj} {n : String} {vs : Array Value} {Q : Unit -> Shared -> Prop} (ho : s.heap.get? it = some o) (hc : o.cls = .type n) (hd : o.data = .fields vs)
    (hn : ["enumerate", "zip", "dict_itemiterator", "dict_reverseitemiterator", "odict_iterator", "itertools.zip_longest", "itertools.pairwise"].contains n = false) (hQ : Q () s) : wpAny M A (letOwnedTupleGo tg (.ref it) u) Q E s := by
  unfold letOwnedTupleGo
  cases tg <;> first
    | exact wpAny_pure hQ
    | (cases u <;> first
        | exact wpAny_pure hQ
        | (refine wpAny_bind (wpAny_load ho ?_)
           rw [hc, hd]
           show wpAny M A (if (["enumerate", "zip", "dict_itemiterator", "dict_reverseitemiterator", "odict_iterator", "itertools.zip_longest", "itertools.pairwise"].contains n && vs[0]? == some (rawInt _)) = true then _ else _) Q E s
           rw [if_neg (by intro h; rw [hn, Bool.false_and] at h; cases h)]
           exact wpAny_pure hQ))
def Itl (K : PySem.W.Frag) (a : Addr) : It :=
  ⟨fun i H => ∃ xs x, SqL K H a xs /\ xs[i]? = some x, fun i H x H' => H' = H /\ ∀ xs, SqL K H a xs -> xs[i]? = some x, fun i H => ∃ xs, SqL K H a xs /\ xs.length <= i⟩
def Itt (K : PySem.W.Frag) (a : Addr) : It :=
  ⟨fun i H => ∃ xs x, SqT K H a xs /\ xs[i]? = some x, fun i H x H' => H' = H /\ ∀ xs, SqT K H a xs -> xs[i]? = some x, fun i H => ∃ xs, SqT K H a xs /\ xs.length <= i⟩
def Itr (lo : Int) (n : Nat) : It := ⟨fun i _ => i < n, fun i H x H' => H' = H /\ x = .int (lo + i), fun i _ => n <= i⟩
theorem turn_list {P : Program} {w : World} {K : PySem.W.Frag} {tg : Expr} (a it : Addr) : Turn P w K tg (Itl K a) [it] it (fun i h => h.IsListIter it a i) where
  mem := by simp
  obj := fun i h st b hb => by
    have e : b = it := by simpa using hb
    subst e
    obtain ⟨o, e, c, d⟩ := st
    exact ⟨o, e, fun v z => by rw [d] at z; cases z⟩
  keep := fun i h h' st k => st.at fun o e => k it (by simp) o e
  item := by
    intro X hP hw hK hc i pins s σ H E I hf st hg
    subst hP hw hK
    obtain ⟨xs, x, hq, hx⟩ := hg
    obtain ⟨its, rv, p, hz⟩ := I.list hq
    obtain ⟨u, hu, ru⟩ := rv.get hx
    obtain ⟨f0, f1, f2, f3, f4, f5⟩ := hf it (by simp)
    refine wpAny_pyNext_list_item st p.isList (x := u) (by simpa using hu) fun h' st' sb => ?_
    have I1 : Inv X pins σ H { s with heap := h' } := I.turned (t' := s.toks) (fun b o hb e => (sb.2 b hb).trans e) f0 f1 f3 f4 f5
    obtain ⟨o, e, c, d⟩ := id st'
    exact ⟨u, rfl, go_of (s := { s with heap := h' }) e c d (by decide) ⟨x, H, I1, ru, ⟨rfl, fun ys hy => by rw [I.list_inj hy hq]; exact hx⟩, st', fun b hb => (hf b hb).1⟩⟩
  done := by
    intro X hP hw hK hc i pins s σ H E I hf st hg
    subst hP hw hK
    obtain ⟨xs, hq, hx⟩ := hg
    obtain ⟨its, rv, p, hz⟩ := I.list hq
    obtain ⟨f0, f1, f2, f3, f4, f5⟩ := hf it (by simp)
    have hl := rv.length
    exact wpAny_pyNext_list_end (I.ok.hd hc) st p.isList (by simp; omega) fun h' eb => ⟨rfl, I.turned (t' := s.toks) (fun b o hb e => eb b o hb e) f0 f1 f3 f4 f5⟩
  self := fun _ _ _ _ _ st h => wpAny_pyIter_listiter st h
theorem turn_tuple {P : Program} {w : World} {K : PySem.W.Frag} {tg : Expr} (a it : Addr) : Turn P w K tg (Itt K a) [it] it (fun i h => h.IsTupleIter it a i) where
  mem := by simp
  obj := fun i h st b hb => by
    have e : b = it := by simpa using hb
    subst e
    obtain ⟨o, e, c, d⟩ := st
    exact ⟨o, e, fun v z => by rw [d] at z; cases z⟩
  keep := fun i h h' st k => st.at fun o e => k it (by simp) o e
  item := by
    intro X hP hw hK hc i pins s σ H E I hf st hg
    subst hP hw hK
    obtain ⟨xs, x, hq, hx⟩ := hg
    obtain ⟨its, rv, p, hz⟩ := I.tuple hq
    obtain ⟨u, hu, ru⟩ := rv.get hx
    obtain ⟨f0, f1, f2, f3, f4, f5⟩ := hf it (by simp)
    refine wpAny_pyNext_tuple_item st (show s.heap.IsTuple a its.toArray from p) (x := u) (by simpa using hu) fun h' st' sb => ?_
    have I1 : Inv X pins σ H { s with heap := h' } := I.turned (t' := s.toks) (fun b o hb e => (sb.2 b hb).trans e) f0 f1 f3 f4 f5
    obtain ⟨o, e, c, d⟩ := id st'
    exact ⟨u, rfl, go_of (s := { s with heap := h' }) e c d (by decide) ⟨x, H, I1, ru, ⟨rfl, fun ys hy => by rw [I.tuple_inj hy hq]; exact hx⟩, st', fun b hb => (hf b hb).1⟩⟩
  done := by
    intro X hP hw hK hc i pins s σ H E I hf st hg
    subst hP hw hK
    obtain ⟨xs, hq, hx⟩ := hg
    obtain ⟨its, rv, p, hz⟩ := I.tuple hq
    obtain ⟨f0, f1, f2, f3, f4, f5⟩ := hf it (by simp)
    have hl := rv.length
    exact wpAny_pyNext_tuple_end (I.ok.hd hc) st (show s.heap.IsTuple a its.toArray from p) (by simp; omega) fun h' eb => ⟨rfl, I.turned (t' := s.toks) (fun b o hb e => eb b o hb e) f0 f1 f3 f4 f5⟩
  self := fun _ _ _ _ _ st h => wpAny_pyIter_tupleiter st h
theorem turn_range {P : Program} {w : World} {K : PySem.W.Frag} {tg : Expr} (it : Addr) (lo : Int) (n : Nat) : Turn P w K tg (Itr lo n) [it] it (fun i h => IsRangeIter h it (lo + (i : Nat) * 1) ((n : Int) - (i : Nat)) 1) where
  mem := by simp
  obj := fun i h st b hb => by
    have e : b = it := by simpa using hb
    subst e
    exact ⟨_, st, fun v z => by
      have z' : Data.fields _ = Data.cell v := z
      cases z'⟩
  keep := fun i h h' st k => k it (by simp) _ st
  item := by
    intro X hP hw hK hc i pins s σ H E I hf st hg
    subst hP hw hK
    obtain ⟨f0, f1, f2, f3, f4, f5⟩ := hf it (by simp)
    have W := Walks.range (prog := X.prog) (w := X.w) (I.ok.hd hc) it lo 1 n
    refine W.item i s _ _ hg st fun v h' tk hv st' kk => ?_
    obtain ⟨t, rfl⟩ := hv
    have I1 : Inv X pins σ H { s with heap := h', toks := tk } := I.turned (fun b o hb e => kk b o (by simpa using hb) e) f0 f1 f3 f4 f5
    refine ⟨_, rfl, go_of (s := { s with heap := h', toks := tk }) (n := "range_iterator") st' rfl rfl (by decide) ⟨.int (lo + i), H, I1, ⟨t, ?_⟩, ⟨rfl, rfl⟩, st', fun b hb => (hf b hb).1⟩⟩
    rw [Int.mul_one]
  done := by
    intro X hP hw hK hc i pins s σ H E I hf st hg
    subst hP hw hK
    obtain ⟨f0, f1, f2, f3, f4, f5⟩ := hf it (by simp)
    exact wpAny_pyNext_range_end (I.ok.hd hc) st (by have : n <= i := hg; omega) fun h' eb => ⟨rfl, I.turned (t' := s.toks) (fun b o hb e => eb b o hb e) f0 f1 f3 f4 f5⟩
  self := fun _ _ _ _ _ st h => wpAny_pyIter_rangeiter st h
end L2
namespace L2
open PySem PySem.Spec PyProof.Rows
section
variable {X : Cx} {tg : Expr}
theorem range_it {pins : List (Addr × Obj)} {σ : St} {H : Hp} {s : Shared} {R : It -> Hp -> Prop} {E : Value -> Shared -> Prop} {lo hi : Int} {t u v : Tok} {tk : Nat} (I : Inv X pins σ H s) (h1 : -(2 ^ 62) <= lo) (h2 : lo < 2 ^ 62) (h3 : -(2 ^ 62) <= hi) (h4 : hi < 2 ^ 62)
    (q : R (Itr lo (hi - lo).toNat) H) : wpAny (model X.prog X.w) X.A (pyIter (.ref s.heap.objs.size)) (PIE X pins σ tg R) E { s with heap := s.heap.push { cls := .type "range", data := .fields #[.int lo t, .int hi u, .int 1 v] }, toks := tk } := by
  refine wpAny_pyIter_range (IsRange.new ..) (small_one h1 h2 h3 h4) ?_
  have I1 : Inv X pins σ H { s with heap := s.heap.push { cls := .type "range", data := .fields #[.int lo t, .int hi u, .int 1 v] }, toks := tk } := I.kept fun b o e => Heap.get?_push_of_some _ e
  refine ⟨(s.heap.push { cls := .type "range", data := .fields #[.int lo t, .int hi u, .int 1 v] }).objs.size, [(s.heap.push { cls := .type "range", data := .fields #[.int lo t, .int hi u, .int 1 v] }).objs.size], _, _, H, rfl,
    I1.kept (t' := tk) fun b o e => Heap.get?_push_of_some _ e, turn_range _ lo (hi - lo).toNat, ?_, fun b hb => ?_, q⟩
  · have e1 : lo + ((0 : Nat) : Int) * 1 = lo := by simp
    have e2 : (((hi - lo).toNat : Nat) : Int) - ((0 : Nat) : Int) = Builtin.Range.rangeSize lo hi 1 := by rw [rangeSize_one]; split <;> omega
    show IsRangeIter _ _ (lo + ((0 : Nat) : Int) * 1) ((((hi - lo).toNat : Nat) : Int) - ((0 : Nat) : Int)) 1
    rw [e1, e2]
    exact Heap.get?_push_size _ rfl
  · have e : b = (s.heap.push { cls := .type "range", data := .fields #[.int lo t, .int hi u, .int 1 v] }).objs.size := by simpa using hb
    subst e
    exact I1.fpOk (Nat.le_refl _) (I1.hok.fresh (Nat.le_refl _))
def iRng1 (ta : TA) : TI := fun σ H R => ta σ H fun vs H1 => ∃ j : Int, vs = [.int j] /\ -(2 ^ 62) <= j /\ j < 2 ^ 62 /\ R (Itr 0 j.toNat) H1
theorem pi_range1 {a : Expr} {ta : TA} {p pos : Pos} (hg : Gl X "range") (hm : X.mg "range" = none) (ha : PA X [a] ta) (hs : starEach [a] X.env = [(false, eval a X.env)] := by rfl) : PI X tg (.Call (.Name "range" p) [a] [] pos) (iRng1 ta) := by
  intro pins s σ H R I h
  refine Call_ (ld_blt I hg hm boot_range (PyProof.Rows.callWith_type1 (thn (ha pos pins s σ H _ I h) fun us s1 ⟨vs, H1, I1, r1, q1⟩ => ?_) hs rfl))
  obtain ⟨j, e, q1, q2, q⟩ := q1
  subst e
  cases r1 with
  | cons r rr =>
    cases rr
    obtain ⟨t, rfl⟩ := r
    exact call_range_1 (range_it I1 (by omega) (by omega) q1 q2 (by simpa using q))
def tFor (wi : TI) (g : TG) (tb : TS) : TS := fun D σ H => wi σ H fun J H1 => ∃ W : Nat -> Nat -> St -> Hp -> Prop, (∃ m, W 0 m σ H1) /\ ∀ i m σ H, W i m σ H ->
  (J.stop i H /\ D.nx σ H) \/ (J.go i H /\ ∃ N : St -> Hp -> Prop, (∀ σ' H', N σ' H' -> ∃ m', m' < m /\ W (i + 1) m' σ' H') /\ ∀ x H', J.yld i H x H' -> g x σ H' fun σ2 H2 => tb { D with nx := N, ct := N, bk := D.nx } σ2 H2)
def pinsAt (fp : List Addr) (h : Heap) : List (Addr × Obj) := fp.filterMap fun b => (h.get? b).map fun o => (b, o)
theorem mem_pinsAt {fp : List Addr} {h : Heap} {b : Addr} {o : Obj} (hb : b ∈ fp) (e : h.get? b = some o) : (b, o) ∈ pinsAt fp h := List.mem_filterMap.mpr ⟨b, hb, by rw [e]; rfl⟩
theorem of_pinsAt {fp : List Addr} {h : Heap} {p : Addr × Obj} (hp : p ∈ pinsAt fp h) : p.1 ∈ fp /\ h.get? p.1 = some p.2 := by
  obtain ⟨b, hb, e⟩ := List.mem_filterMap.mp hp
  cases q : h.get? b with
  | none => rw [q] at e; cases e
  | some o =>
    rw [q] at e
    have e' : (b, o) = p := Option.some.inj e
    subst e'
    exact ⟨hb, q⟩
theorem Inv.pinned {pins : List (Addr × Obj)} {σ : St} {H : Hp} {s : Shared} {fp : List Addr} (I : Inv X pins σ H s) (hf : ∀ b ∈ fp, FpOk X pins H b) (ho : ∀ b ∈ fp, ∃ o, s.heap.get? b = some o /\ ∀ v, o.data ≠ .cell v) : Inv X (pins ++ pinsAt fp s.heap) σ H s :=
  I.pins_of fun p hp => (List.mem_append.mp hp).elim (fun z => I.pin p (List.mem_append_right _ z)) fun z => by
    obtain ⟨hb, e⟩ := of_pinsAt z
    obtain ⟨f0, f1, f2, _⟩ := hf p.1 hb
    obtain ⟨o, e', d⟩ := ho p.1 hb
    rw [e] at e'; cases e'
    exact ⟨e, f0, f1, f2, d⟩
theorem Inv.unpinned {pins pl : List (Addr × Obj)} {σ : St} {H : Hp} {s : Shared} (I : Inv X (pins ++ pl) σ H s) : Inv X pins σ H s := I.pins_of fun p hp => I.pin p (List.mem_append_right _ (List.mem_append_left _ hp))
theorem ps_for {iter : Expr} {body : List Stmt} {wi : TI} {g : TG} {tb : TS} {pos : Pos} (hp : PassesOwn (model X.prog X.w) X.A X.env X.xe) (hc : X.calm = true) (hi : PI X tg iter wi) (hg : PG X tg g) (hb : PSs X body tb)
    (hs : ∀ x, foldedSetIterable iter X.env x = pure x := by intro _; rfl) : PS X (.For tg iter body [] pos) (tFor wi g tb) := by
  intro pins s σ H D I h
  refine wpAny_For (thn (hi pins s σ H _ I h) fun v s1 h1 => thn h1 fun itv s2 h2 => ?_) hs
  obtain ⟨it, fp, tn, J, H2, e, I2, T, st2, f2, W, ⟨m0, w0⟩, turn⟩ := h2
  subst e
  have stat : ∀ {H' : Hp}, (∀ b ∈ fp, H' b = none) -> ∀ b ∈ fp, FpOk X pins H' b := fun hn b hb => ⟨hn b hb, (f2 b hb).2⟩
  refine codeAny_forLoop_any (fun n s' => ∃ i σ' H', Inv X pins σ' H' s' /\ tn i s'.heap /\ (∀ b ∈ fp, H' b = none) /\ W i n σ' H') ?_ m0 ⟨0, σ, H2, I2, st2, fun b hb => (f2 b hb).1, w0⟩
  rintro n s3 ⟨i, σ3, H3, I3, st3, fr3, w3⟩
  rcases turn i n σ3 H3 w3 with ⟨stop, qn⟩ | ⟨go, N, hN, step⟩
  · refine wpAny_passesOwn hp (thn (T.done X rfl rfl rfl hc i pins s3 σ3 H3 X.xe I3 (stat fr3) st3 stop) fun r s4 ⟨hr, I4⟩ => ?_)
    subst hr
    exact wpAny_execs_nil ⟨σ3, H3, I4, qn⟩
  · refine wpAny_passesOwn hp (thn (T.item X rfl rfl rfl hc i pins s3 σ3 H3 X.xe I3 (stat fr3) st3 go) fun r s4 ⟨u, hr, h4⟩ => ?_)
    subst hr
    refine wpAny_passesOwn hp (thn h4 fun _ s5 ⟨x, H5, I5, r5, y5, st5, fr5⟩ => ?_)
    have I5' := I5.pinned (stat fr5) (T.obj _ _ st5)
    refine wpAny_passesOwn hp (thn (hg _ s5 σ3 H5 x u _ I5' r5 (step x H5 y5)) fun _ s6 ⟨σ6, H6, I6, q6⟩ => ?_)
    refine wpAny_passesOwn hp (thn (hb _ s6 σ6 H6 _ I6 q6) fun f s7 q7 => ?_)
    have again : ∀ {σ7 : St} {H7 : Hp}, Inv X (pins ++ pinsAt fp s5.heap) σ7 H7 s7 -> N σ7 H7 -> ∃ m, m < n /\ ∃ i σ' H', Inv X pins σ' H' s7 /\ tn i s7.heap /\ (∀ b ∈ fp, H' b = none) /\ W i m σ' H' := fun {σ7 H7} I7 n7 => by
      obtain ⟨m', hm, w7⟩ := hN σ7 H7 n7
      refine ⟨m', hm, i + 1, σ7, H7, I7.unpinned, T.keep _ _ _ st5 fun b hb o e => (I7.pin (b, o) (List.mem_append_right _ (List.mem_append_right _ (mem_pinsAt hb e)))).1, fun b hb => ?_, w7⟩
      obtain ⟨o, e, d⟩ := T.obj _ _ st5 b hb
      exact (I7.pin (b, o) (List.mem_append_right _ (List.mem_append_right _ (mem_pinsAt hb e)))).2.1
    cases f with
    | next => obtain ⟨σ7, H7, I7, n7⟩ := q7; exact again I7 n7
    | cont => obtain ⟨σ7, H7, I7, n7⟩ := q7; exact again I7 n7
    | brk => obtain ⟨σ7, H7, I7, q7⟩ := q7; exact ⟨σ7, H7, I7.unpinned, q7⟩
    | ret v => obtain ⟨x7, σ7, H7, I7, r7, q7⟩ := q7; exact ⟨x7, σ7, H7, I7.unpinned, r7, q7⟩
end
end L2
namespace L2
open PySem PySem.Spec PyProof.Rows
abbrev R2 := V -> V -> Hp -> VK -> Prop
def OpR (X : Cx) (f : Value -> Value -> Sem Value) (r : R2) : Prop :=
  ∀ (pins : List (Addr × Obj)) (s : Shared) (σ : St) (H : Hp) (x y : V) (v u : Value) (Q : VK), Inv X pins σ H s -> RelV x v -> RelV y u -> r x y H Q ->
    wpAny (model X.prog X.w) X.A (f v u) (EP X pins σ Q) X.xe s
def UnR (X : Cx) (f : Value -> Sem Value) (r : V -> Hp -> VK -> Prop) : Prop :=
  ∀ (pins : List (Addr × Obj)) (s : Shared) (σ : St) (H : Hp) (x : V) (v : Value) (Q : VK), Inv X pins σ H s -> RelV x v -> r x H Q ->
    wpAny (model X.prog X.w) X.A (f v) (EP X pins σ Q) X.xe s
def CallR (X : Cx) (f : Value) (r : List V -> Hp -> VK -> Prop) : Prop :=
  ∀ (pins : List (Addr × Obj)) (s : Shared) (σ : St) (H : Hp) (xs : List V) (us : List Value) (Q : VK), Inv X pins σ H s -> Vals xs us -> r xs H Q ->
    wpAny (model X.prog X.w) X.A (call f us) (EP X pins σ Q) X.xe s
def TruR (X : Cx) (r : V -> Hp -> (Bool -> Hp -> Prop) -> Prop) : Prop :=
  ∀ (pins : List (Addr × Obj)) (s : Shared) (σ : St) (H : Hp) (x : V) (v : Value) (Q : Bool -> Hp -> Prop), Inv X pins σ H s -> RelV x v -> r x H Q ->
    wpAny (model X.prog X.w) X.A (truthy v) (TP X pins σ Q) X.xe s
def tOp (r : R2) (ta tb : TE) : TE := fun σ H Q => ta σ H fun x H1 => tb σ H1 fun y H2 => r x y H2 Q
def tUn (r : V -> Hp -> VK -> Prop) (ta : TE) : TE := fun σ H Q => ta σ H fun x H1 => r x H1 Q
def rI (C : Int -> Int -> Prop) (g : Int -> Int -> V) : R2 := fun x y H Q => ∃ i j, x = .int i /\ y = .int j /\ C i j /\ Q (g i j) H
def rI0 (g : Int -> Int -> V) : R2 := fun x y H Q => ∃ i j, x = .int i /\ y = .int j /\ Q (g i j) H
def rU (g : Int -> V) : V -> Hp -> VK -> Prop := fun x H Q => ∃ i, x = .int i /\ Q (g i) H
section
variable {X : Cx} {a b c : Expr} {ta tb tc : TE} {pos : Pos}
theorem binT (ha : PE X a ta) (hb : PE X b tb) {pins : List (Addr × Obj)} {s : Shared} {σ : St} {H : Hp} {R : V -> V -> Hp -> Prop} (I : Inv X pins σ H s)
    (h : ta σ H fun x H1 => tb σ H1 fun y H2 => R x y H2) {Q : Value -> Shared -> Prop} {f : Value -> Value -> Sem Value}
    (hf : ∀ v u s2 x y H2, Inv X pins σ H2 s2 -> RelV x v -> RelV y u -> R x y H2 -> wpAny (model X.prog X.w) X.A (f v u) Q X.xe s2) :
    wpAny (model X.prog X.w) X.A (eval a X.env) (fun v s₁ => wpAny (model X.prog X.w) X.A (eval b X.env) (fun u s₂ => wpAny (model X.prog X.w) X.A (f v u) Q X.xe s₂) X.xe s₁) X.xe s := by
  refine thn (ha pins s σ H _ I h) fun v s1 ⟨x, H1, I1, r1, q1⟩ => ?_
  refine thn (hb pins s1 σ H1 _ I1 q1) fun u s2 ⟨y, H2, I2, r2, q2⟩ => ?_
  exact hf v u s2 x y H2 I2 r1 r2 q2
theorem pe_op {op : Operator} {r : R2} (ho : OpR X (binaryOp op) r) (ha : PE X a ta) (hb : PE X b tb) : PE X (.BinOp a op b pos) (tOp r ta tb) := by
  intro pins s σ H Q I h
  exact wpAny_BinOp (binT ha hb I h fun v u s2 x y H2 I2 rx ry q => ho pins s2 σ H2 x y v u Q I2 rx ry q)
theorem pe_un {op : UnaryOp} {r : V -> Hp -> VK -> Prop} (ho : UnR X (unaryOp op) r) (ha : PE X a ta) : PE X (.UnaryOp op a pos) (tUn r ta) := by
  intro pins s σ H Q I h
  exact UnaryOp_ (thn (ha pins s σ H _ I h) fun v s1 ⟨x, H1, I1, r1, q1⟩ => ho pins s1 σ H1 x v Q I1 r1 q1)
theorem opI {f : Value -> Value -> Sem Value} {C : Int -> Int -> Prop} {g : Int -> Int -> Int}
    (rule : ∀ (i j : Int) (t u : Tok) (s : Shared) (Q : Value -> Shared -> Prop) (E : Value -> Shared -> Prop), C i j -> Q (.int (g i j) s.toks) { s with toks := s.toks + 1 } -> wpAny (model X.prog X.w) X.A (f (.int i t) (.int j u)) Q E s) :
    OpR X f (rI C fun i j => .int (g i j)) := by
  intro pins s σ H x y v u Q I rx ry h
  obtain ⟨i, j, rfl, rfl, hc, q⟩ := h
  obtain ⟨t, rfl⟩ := rx
  obtain ⟨t', rfl⟩ := ry
  exact rule i j t t' s _ _ hc ⟨.int (g i j), H, I.tok _, ⟨_, rfl⟩, q⟩
theorem opI0 {f : Value -> Value -> Sem Value} {g : Int -> Int -> Int}
    (rule : ∀ (i j : Int) (t u : Tok) (s : Shared) (Q : Value -> Shared -> Prop) (E : Value -> Shared -> Prop), Q (.int (g i j) s.toks) { s with toks := s.toks + 1 } -> wpAny (model X.prog X.w) X.A (f (.int i t) (.int j u)) Q E s) :
    OpR X f (rI0 fun i j => .int (g i j)) := by
  intro pins s σ H x y v u Q I rx ry h
  obtain ⟨i, j, rfl, rfl, q⟩ := h
  obtain ⟨t, rfl⟩ := rx
  obtain ⟨t', rfl⟩ := ry
  exact rule i j t t' s _ _ ⟨.int (g i j), H, I.tok _, ⟨_, rfl⟩, q⟩
theorem opB0 {f : Value -> Value -> Sem Value} {g : Int -> Int -> Bool}
    (rule : ∀ (i j : Int) (t u : Tok) (s : Shared) (Q : Value -> Shared -> Prop) (E : Value -> Shared -> Prop), Q (.bool (g i j)) s -> wpAny (model X.prog X.w) X.A (f (.int i t) (.int j u)) Q E s) :
    OpR X f (rI0 fun i j => .bl (g i j)) := by
  intro pins s σ H x y v u Q I rx ry h
  obtain ⟨i, j, rfl, rfl, q⟩ := h
  obtain ⟨t, rfl⟩ := rx
  obtain ⟨t', rfl⟩ := ry
  exact rule i j t t' s _ _ ⟨.bl (g i j), H, I, rfl, q⟩
def CDiv (i j : Int) : Prop := 0 < j /\ j < 1073741824
def CMul (i j : Int) : Prop := (-(2 ^ 64) < i /\ i < 2 ^ 64) \/ (-(2 ^ 64) < j /\ j < 2 ^ 64)
theorem CMul.ok {i j : Int} (h : CMul i j) : IntMulOk i j := by
  rcases h with ⟨h1, h2⟩ | ⟨h1, h2⟩
  · exact .of_left (intBits_le_64 h1 h2)
  · exact .of_right (intBits_le_64 h1 h2)
theorem op_add : OpR X (binaryOp .Add) (rI0 fun i j => .int (i + j)) := opI0 fun _ _ _ _ _ _ _ q => add_int q
theorem op_mul : OpR X (binaryOp .Mult) (rI CMul fun i j => .int (i * j)) := opI fun _ _ _ _ _ _ _ hc q => mul_int q hc.ok
theorem op_fdiv : OpR X (binaryOp .FloorDiv) (rI CDiv fun i j => .int (i / j)) := opI fun i j _ _ _ _ _ hc q => by
  have h1 : (0 : Int) < j := hc.1
  have h2 : j < 1073741824 := hc.2
  exact floordiv_int (by omega) (by rw [Int.fdiv_eq_ediv_of_nonneg i (by omega)]; exact q) (.inl (PyProof.noPylong_small (by omega)))
theorem op_mod : OpR X (binaryOp .Mod) (rI (fun _ j => 0 < j) fun i j => .int (i % j)) := opI fun i j _ _ _ _ _ hc q => by
  have h1 : (0 : Int) < j := hc
  exact mod_int' (by omega) (by rw [Int.fmod_eq_emod_of_nonneg i (by omega)]; exact q)
theorem unI {f : Value -> Sem Value} {g : Int -> Int}
    (rule : ∀ (i : Int) (t : Tok) (s : Shared) (Q : Value -> Shared -> Prop) (E : Value -> Shared -> Prop), Q (.int (g i) s.toks) { s with toks := s.toks + 1 } -> wpAny (model X.prog X.w) X.A (f (.int i t)) Q E s) :
    UnR X f (rU fun i => .int (g i)) := by
  intro pins s σ H x v Q I rx h
  obtain ⟨i, rfl, q⟩ := h
  obtain ⟨t, rfl⟩ := rx
  exact rule i t s _ _ ⟨.int (g i), H, I.tok _, ⟨_, rfl⟩, q⟩
theorem un_neg : UnR X (unaryOp .USub) (rU fun i => .int (-i)) := unI fun _ _ _ _ _ q => neg_int q
end
def scal : V -> V -> Bool
  | .non, .non => true | .non, .int _ => true | .int _, .non => true | .non, .bl _ => true | .bl _, .non => true | .non, .str _ => true | .str _, .non => true
  | .int _, .int _ => true | .bl _, .bl _ => true | .str _, .str _ => true | .byt _, .byt _ => true
  | .int _, .str _ => true | .str _, .int _ => true | .bl _, .str _ => true | .str _, .bl _ => true
  | _, _ => false
def rEq : R2 := fun x y H Q => scal x y = true /\ Q (.bl (decide (x = y))) H
def rNe : R2 := fun x y H Q => scal x y = true /\ Q (.bl (!decide (x = y))) H
theorem dec_int {i j : Int} : decide (V.int i = V.int j) = (i == j) := by
  rw [Bool.eq_iff_iff]
  simp
theorem dec_bl {i j : Bool} : decide (V.bl i = V.bl j) = (i == j) := by
  rw [Bool.eq_iff_iff]
  simp
theorem dec_str {i j : Str} : decide (V.str i = V.str j) = (i == j) := by
  rw [Bool.eq_iff_iff]
  simp
theorem dec_byt {i j : Array UInt8} : decide (V.byt i = V.byt j) = (i.toList == j.toList) := by
  rw [Bool.eq_iff_iff]
  cases i
  cases j
  simp
section
variable {X : Cx} {a b c : Expr} {ta tb tc : TE} {pos : Pos}
theorem fin_bl {pins : List (Addr × Obj)} {σ : St} {H : Hp} {s : Shared} {Q : VK} {k k' : Bool} (I : Inv X pins σ H s) (q : Q (.bl k) H) (e : k = k') : EP X pins σ Q (.bool k') s := by
  subst e
  exact ⟨.bl k, H, I, rfl, q⟩
theorem op_eq : OpR X (compareOp .Eq) rEq := by
  intro pins s σ H x y v u Q I rx ry h
  obtain ⟨hs, q⟩ := h
  cases x with
  | non =>
    cases rx
    cases y with
    | non => cases ry; exact PySem.EqNone.eq_none_none (fin_bl I q (by simp))
    | bl j => cases ry; exact PySem.EqNone.eq_none_bool (fin_bl I q (by simp))
    | int j => obtain ⟨t', rfl⟩ := ry; exact PySem.EqNone.eq_none_int (fin_bl I q (by simp))
    | str j => obtain ⟨t', rfl⟩ := ry; exact PySem.EqNone.eq_none_str (fin_bl I q (by simp))
    | _ => exact absurd (show false = true from hs) Bool.false_ne_true
  | bl i =>
    cases rx
    cases y with
    | non => cases ry; exact PySem.EqNone.eq_bool_none (fin_bl I q (by simp))
    | bl j => cases ry; exact eq_bool (fin_bl I q dec_bl)
    | str j => obtain ⟨t', rfl⟩ := ry; exact PySem.EqMixed.eq_bool_str (fin_bl I q (by simp))
    | _ => exact absurd (show false = true from hs) Bool.false_ne_true
  | int i =>
    obtain ⟨t, rfl⟩ := rx
    cases y with
    | non => cases ry; exact PySem.EqNone.eq_int_none (fin_bl I q (by simp))
    | int j => obtain ⟨t', rfl⟩ := ry; exact eq_int (fin_bl I q dec_int)
    | str j => obtain ⟨t', rfl⟩ := ry; exact PySem.EqMixed.eq_int_str (fin_bl I q (by simp))
    | _ => exact absurd (show false = true from hs) Bool.false_ne_true
  | str i =>
    obtain ⟨t, rfl⟩ := rx
    cases y with
    | non => cases ry; exact PySem.EqNone.eq_str_none (fin_bl I q (by simp))
    | bl j => cases ry; exact PySem.EqMixed.eq_str_bool (fin_bl I q (by simp))
    | int j => obtain ⟨t', rfl⟩ := ry; exact PySem.EqMixed.eq_str_int (fin_bl I q (by simp))
    | str j => obtain ⟨t', rfl⟩ := ry; exact eq_str (fin_bl I q dec_str)
    | _ => exact absurd (show false = true from hs) Bool.false_ne_true
  | byt i =>
    obtain ⟨t, rfl⟩ := rx
    cases y with
    | byt j => obtain ⟨t', rfl⟩ := ry; exact PySem.W.eq_bytes (fin_bl I q dec_byt)
    | _ => exact absurd (show false = true from hs) Bool.false_ne_true
  | _ => cases y <;> exact absurd (show false = true from hs) Bool.false_ne_true
theorem op_ne : OpR X (compareOp .NotEq) rNe := by
  intro pins s σ H x y v u Q I rx ry h
  obtain ⟨hs, q⟩ := h
  cases x with
  | non =>
    cases rx
    cases y with
    | non => cases ry; exact PySem.EqNone.ne_none_none (fin_bl I q (by simp))
    | bl j => cases ry; exact PySem.EqNone.ne_none_bool (fin_bl I q (by simp))
    | int j => obtain ⟨t', rfl⟩ := ry; exact PySem.EqNone.ne_none_int (fin_bl I q (by simp))
    | str j => obtain ⟨t', rfl⟩ := ry; exact PySem.EqNone.ne_none_str (fin_bl I q (by simp))
    | _ => exact absurd (show false = true from hs) Bool.false_ne_true
  | bl i =>
    cases rx
    cases y with
    | non => cases ry; exact PySem.EqNone.ne_bool_none (fin_bl I q (by simp))
    | bl j => cases ry; exact ne_bool (fin_bl I q (congrArg not dec_bl))
    | str j => obtain ⟨t', rfl⟩ := ry; exact PySem.EqMixed.ne_bool_str (fin_bl I q (by simp))
    | _ => exact absurd (show false = true from hs) Bool.false_ne_true
  | int i =>
    obtain ⟨t, rfl⟩ := rx
    cases y with
    | non => cases ry; exact PySem.EqNone.ne_int_none (fin_bl I q (by simp))
    | int j => obtain ⟨t', rfl⟩ := ry; exact ne_int (fin_bl I q (congrArg not dec_int))
    | str j => obtain ⟨t', rfl⟩ := ry; exact PySem.EqMixed.ne_int_str (fin_bl I q (by simp))
    | _ => exact absurd (show false = true from hs) Bool.false_ne_true
  | str i =>
    obtain ⟨t, rfl⟩ := rx
    cases y with
    | non => cases ry; exact PySem.EqNone.ne_str_none (fin_bl I q (by simp))
    | bl j => cases ry; exact PySem.EqMixed.ne_str_bool (fin_bl I q (by simp))
    | int j => obtain ⟨t', rfl⟩ := ry; exact PySem.EqMixed.ne_str_int (fin_bl I q (by simp))
    | str j => obtain ⟨t', rfl⟩ := ry; exact ne_str (fin_bl I q (congrArg not dec_str))
    | _ => exact absurd (show false = true from hs) Bool.false_ne_true
  | byt i =>
    obtain ⟨t, rfl⟩ := rx
    cases y with
    | byt j => obtain ⟨t', rfl⟩ := ry; exact PySem.W.ne_bytes (fin_bl I q (congrArg not dec_byt))
    | _ => exact absurd (show false = true from hs) Bool.false_ne_true
  | _ => cases y <;> exact absurd (show false = true from hs) Bool.false_ne_true
theorem op_le : OpR X (compareOp .LtE) (rI0 fun i j => .bl (decide (i <= j))) := opB0 fun _ _ _ _ _ _ _ q => le_int q
theorem op_gt : OpR X (compareOp .Gt) (rI0 fun i j => .bl (decide (j < i))) := opB0 fun _ _ _ _ _ _ _ q => gt_int q
theorem op_in_str : OpR X (compareOp .In) (fun x y H Q => ∃ i j, x = .str i /\ y = .str j /\ Q (.bl (!(Builtin.Str.occurrences j i 0 j.length 1).isEmpty)) H) := by
  intro pins s σ H x y v u Q I rx ry h
  obtain ⟨i, j, rfl, rfl, q⟩ := h
  obtain ⟨t, rfl⟩ := rx
  obtain ⟨t', rfl⟩ := ry
  exact in_str (fin_bl I q rfl)
theorem OpR.or {f : Value -> Value -> Sem Value} {r r' : R2} (h : OpR X f r) (h' : OpR X f r') : OpR X f (fun x y H Q => r x y H Q \/ r' x y H Q) := by
  intro pins s σ H x y v u Q I rx ry q
  rcases q with q | q
  · exact h pins s σ H x y v u Q I rx ry q
  · exact h' pins s σ H x y v u Q I rx ry q
theorem nomark (b : Expr) {op : CmpOp} (h : op ≠ .In := by decide) (h2 : op ≠ .NotIn := by decide) : behindInMarks op b = false := by
  have e1 : (op == CmpOp.In) = false := by cases op <;> first | rfl | exact absurd rfl h
  have e2 : (op == CmpOp.NotIn) = false := by cases op <;> first | rfl | exact absurd rfl h2
  cases b <;> simp [behindInMarks, e1, e2]
theorem pe_cmpR {op : CmpOp} {r : R2} (ho : OpR X (compareOp op) r) (ha : PE X a ta) (hb : PE X b tb) (hm : behindInMarks op b = false) : PE X (.Compare a [op] [b] pos) (tOp r ta tb) := by
  intro pins s σ H Q I h
  exact wpAny_Compare1 (binT ha hb I h fun v u s2 x y H2 I2 rx ry q => ho pins s2 σ H2 x y v u Q I2 rx ry q) hm
def tTest (t : TE) : TT := fun σ H Q => t σ H fun x H' => ∃ k, x = .bl k /\ Q k H'
theorem pt_cmpR {op : CmpOp} {r : R2} (ho : OpR X (compareOp op) r) (ha : PE X a ta) (hb : PE X b tb) (hm : behindInMarks op b = false) : PT X (.Compare a [op] [b] pos) (tTest (tOp r ta tb)) := by
  intro pins s σ H Q I h
  refine wpAny_isTrue_Compare1 (thn (ha pins s σ H _ I h) fun v s1 ⟨x, H1, I1, r1, q1⟩ => thn (hb pins s1 σ H1 _ I1 q1) fun u s2 ⟨y, H2, I2, r2, q2⟩ =>
    thn (ho pins s2 σ H2 x y v u _ I2 r1 r2 q2) fun c s3 ⟨z, H3, I3, r3, k, e, q3⟩ => ?_) hm
  subst e
  cases r3
  exact wpAny_truthy_bool ⟨H3, I3, q3⟩
def tChain (r r' : R2) (ta tb tc : TE) : TE := fun σ H Q => ta σ H fun x H1 => tb σ H1 fun y H2 => r x y H2 fun z H3 => ∃ k, z = .bl k /\
  (if k = true then tc σ H3 fun w' H4 => r' y w' H4 Q else Q (.bl false) H3)
theorem pe_chain {op op' : CmpOp} {r r' : R2} (ho : OpR X (compareOp op) r) (ho' : OpR X (compareOp op') r') (ha : PE X a ta) (hb : PE X b tb) (hc : PE X c tc)
    (hm : lastMarks [op, op'] [b, c] = false := by with_unfolding_all rfl) : PE X (.Compare a [op, op'] [b, c] pos) (tChain r r' ta tb tc) := by
  intro pins s σ H Q I h
  refine Compare_chain (thn (ha pins s σ H _ I h) fun v s1 ⟨x, H1, I1, r1, q1⟩ => chain_link (thn (hb pins s1 σ H1 _ I1 q1) fun u s2 ⟨y, H2, I2, r2, q2⟩ =>
    thn (ho pins s2 σ H2 x y v u _ I2 r1 r2 q2) fun d s3 ⟨z, H3, I3, r3, k, e, q3⟩ => ?_)) hm
  subst e
  cases r3
  refine wpAny_truthy_bool ?_
  cases k with
  | false => exact ite_ff ⟨.bl false, H3, I3, rfl, q3⟩
  | true => exact ite_tt (chain_last (thn (hc pins s3 σ H3 _ I3 q3) fun w' s4 ⟨z', H4, I4, r4, q4⟩ => ho' pins s4 σ H4 y z' u w' Q I4 r2 r4 q4))
theorem pt_chain {op op' : CmpOp} {r r' : R2} (ho : OpR X (compareOp op) r) (ho' : OpR X (compareOp op') r') (ha : PE X a ta) (hb : PE X b tb) (hc : PE X c tc)
    (hm : lastMarks [op, op'] [b, c] = false := by with_unfolding_all rfl) : PT X (.Compare a [op, op'] [b, c] pos) (tTest (tChain r r' ta tb tc)) := by
  intro pins s σ H Q I h
  refine isTrue_chain (thn (ha pins s σ H _ I h) fun v s1 ⟨x, H1, I1, r1, q1⟩ => test_link (thn (hb pins s1 σ H1 _ I1 q1) fun u s2 ⟨y, H2, I2, r2, q2⟩ =>
    thn (ho pins s2 σ H2 x y v u _ I2 r1 r2 q2) fun d s3 ⟨z, H3, I3, r3, k, e, q3⟩ => ?_)) hm
  subst e
  cases r3
  refine wpAny_truthy_bool ?_
  cases k with
  | false =>
    obtain ⟨k', e', q'⟩ := q3
    cases e'
    exact ite_ff ⟨H3, I3, q'⟩
  | true =>
    refine ite_tt (test_last (thn (hc pins s3 σ H3 _ I3 q3) fun w' s4 ⟨z', H4, I4, r4, q4⟩ => thn (ho' pins s4 σ H4 y z' u w' _ I4 r2 r4 q4) fun d' s5 ⟨z2, H5, I5, r5, k2, e2, q5⟩ => ?_))
    subst e2
    cases r5
    exact wpAny_truthy_bool ⟨H5, I5, q5⟩
def TruV (K : PySem.W.Frag) (x : V) (H : Hp) (k : Bool) : Prop :=
  match x with
  | .non => k = false
  | .bl b => k = b
  | .int i => k = (i != 0)
  | .str y => y.length <= sizeLine /\ k = ((y.length : Int) != 0)
  | .byt y => y.size <= sizeLine /\ k = ((y.size : Int) != 0)
  | .ref p => (∃ xs, SqL K H p xs /\ k = !xs.isEmpty) \/ (∃ xs, SqT K H p xs /\ k = !xs.isEmpty) \/ ∃ kvs, H p = some (.dK kvs) /\ k = !kvs.isEmpty
  | _ => False
theorem isEmpty_kv {κ : Type} {kvs : List (κ × V)} {vs : List (κ × Value)} (r : KV kvs vs) : (!vs.isEmpty) = !kvs.isEmpty := by
  cases r <;> rfl
theorem isEmpty_of {xs : List V} {its : List Value} (r : Vals xs its) : (!its.toArray.isEmpty) = !xs.isEmpty := by
  cases r <;> simp
theorem line63 : (sizeLine : Nat) < 2 ^ 63 := by rw [sizeLine_eq]; decide
theorem tru_ok : TruR X (fun x H Q => ∃ k, TruV X.K x H k /\ Q k H) := by
  intro pins s σ H x v Q I rx h
  obtain ⟨k, e, q⟩ := h
  have hl := line63
  have hs : sizeLine = 16777216 := sizeLine_eq
  cases x with
  | non =>
    cases rx
    have e' : k = false := e
    subst e'
    exact truthy_none ⟨H, I, q⟩
  | bl b =>
    cases rx
    have e' : k = b := e
    subst e'
    exact wpAny_truthy_bool ⟨H, I, q⟩
  | int i =>
    obtain ⟨t, rfl⟩ := rx
    have e' : k = (i != 0) := e
    subst e'
    exact PySem.P.truthy_int ⟨H, I, q⟩
  | str y =>
    obtain ⟨t, rfl⟩ := rx
    obtain ⟨hy, e'⟩ : y.length <= sizeLine /\ k = ((y.length : Int) != 0) := e
    subst e'
    exact PySem.P.truthy_str (by omega) ⟨H, I.tok _, q⟩
  | byt y =>
    obtain ⟨t, rfl⟩ := rx
    obtain ⟨hy, e'⟩ : y.size <= sizeLine /\ k = ((y.size : Int) != 0) := e
    subst e'
    exact PySem.W.truthy_bytes (by omega) ⟨H, I.tok _, q⟩
  | ref p =>
    cases rx
    have e' : (∃ xs, SqL X.K H p xs /\ k = !xs.isEmpty) \/ (∃ xs, SqT X.K H p xs /\ k = !xs.isEmpty) \/ ∃ kvs, H p = some (.dK kvs) /\ k = !kvs.isEmpty := e
    rcases e' with ⟨xs, hx, e'⟩ | ⟨xs, hx, e'⟩ | ⟨kvs, hx, e'⟩
    · subst e'
      obtain ⟨its, r, pl, hz⟩ := I.list hx
      have hlen := r.length
      exact wpAny_truthy_list pl.isList (by simp only [List.size_toArray]; omega) ⟨H, I.tok _, by rw [isEmpty_of r]; exact q⟩
    · subst e'
      obtain ⟨its, r, pl, hz⟩ := I.tuple hx
      have hlen := r.length
      exact truthy_tuple pl (by simp only [List.size_toArray]; omega) ⟨H, I.tok _, by rw [isEmpty_of r]; exact q⟩
    · subst e'
      obtain ⟨hz, hS, vs, r, m⟩ : kvs.length <= sizeLine /\ (p == sysModules) = false /\ ∃ vs, KV kvs vs /\ s.heap.DictOf (mixKind X.prog X.w) p vs := I.hok p _ hx
      have hlen : kvs.length = vs.length := Paired.length r
      exact wpAny_truthy_dict hS m (by omega) ⟨H, I.tok _, by rw [isEmpty_kv r]; exact q⟩
  | _ => exact (show False from e).elim
theorem op_add_str : OpR X (binaryOp .Add) (fun x y H Q => ∃ i j, x = .str i /\ y = .str j /\ i.length + j.length <= sizeLine /\ Q (.str (i ++ j)) H) := by
  intro pins s σ H x y v u Q I rx ry h
  obtain ⟨i, j, rfl, rfl, hz, q⟩ := h
  obtain ⟨t, rfl⟩ := rx
  obtain ⟨t', rfl⟩ := ry
  exact add_str (fun t' tk => ⟨.str (i ++ j), H, I.tok _, ⟨_, rfl⟩, q⟩) hz
theorem vals1 {x : V} {us : List Value} (r : Vals [x] us) : ∃ u, us = [u] /\ RelV x u := by
  cases r with
  | cons r1 r2 => cases r2; exact ⟨_, rfl, r1⟩
theorem vals2 {x y : V} {us : List Value} (r : Vals [x, y] us) : ∃ u w', us = [u, w'] /\ RelV x u /\ RelV y w' := by
  cases r with
  | cons r1 r2 =>
    cases r2 with
    | cons r3 r4 => cases r4; exact ⟨_, _, rfl, r1, r3⟩
theorem call_str_int : CallR X (.type "str") (fun xs H Q => ∃ i, xs = [.int i] /\ i.natAbs.log2 < 1920 /\ Q (.str (toString i)) H) := by
  intro pins s σ H xs us Q I r h
  obtain ⟨i, rfl, hz, q⟩ := h
  obtain ⟨u, rfl, t, rfl⟩ := vals1 r
  exact PySem.P.str_of_int hz ⟨.str _, H, I.tok _, ⟨_, rfl⟩, q⟩
def LenV (K : PySem.W.Frag) (x : V) (H : Hp) (n : Nat) : Prop :=
  match x with
  | .str y => y.length <= sizeLine /\ n = y.length
  | .byt y => y.size <= sizeLine /\ n = y.size
  | .ref p => (∃ xs, SqL K H p xs /\ n = xs.length) \/ ∃ xs, SqT K H p xs /\ n = xs.length
  | _ => False
theorem call_len : CallR X (.builtin "len") (fun xs H Q => ∃ x n, xs = [x] /\ LenV X.K x H n /\ Q (.int n) H) := by
  intro pins s σ H xs us Q I r h
  obtain ⟨x, n, rfl, e, q⟩ := h
  obtain ⟨u, rfl, rx⟩ := vals1 r
  have hl := line63
  have hs : sizeLine = 16777216 := sizeLine_eq
  cases x with
  | str y =>
    obtain ⟨t, rfl⟩ := rx
    obtain ⟨hy, e'⟩ : y.length <= sizeLine /\ n = y.length := e
    subst e'
    exact len_str (by omega) ⟨.int _, H, I.tok _, ⟨_, rfl⟩, q⟩
  | byt y =>
    obtain ⟨t, rfl⟩ := rx
    obtain ⟨hy, e'⟩ : y.size <= sizeLine /\ n = y.size := e
    subst e'
    exact PySem.W.len_bytes (by omega) ⟨.int _, H, I.tok _, ⟨_, rfl⟩, q⟩
  | ref p =>
    cases rx
    have e' : (∃ xs, SqL X.K H p xs /\ n = xs.length) \/ ∃ xs, SqT X.K H p xs /\ n = xs.length := e
    rcases e' with ⟨xs, hx, e'⟩ | ⟨xs, hx, e'⟩
    · subst e'
      obtain ⟨its, r', pl, hz⟩ := I.list hx
      have hlen := r'.length
      exact Calls.call_len_list pl.isList (by simp only [List.size_toArray]; omega) ⟨.int xs.length, H, I.tok _, ⟨_, by simp only [List.size_toArray]; rw [hlen]⟩, q⟩
    · subst e'
      obtain ⟨its, r', pl, hz⟩ := I.tuple hx
      have hlen := r'.length
      exact len_tuple pl (by simp only [List.size_toArray]; omega) ⟨.int xs.length, H, I.tok _, ⟨_, by simp only [List.size_toArray]; rw [hlen]⟩, q⟩
  | _ => exact (show False from e).elim
end
end L2
namespace L2
open PySem PySem.Spec PyProof.Rows
structure ObjM (h : Heap) (x dx C : Addr) (mA : Str -> Option Value) : Prop where
  obj : h.get? x = some (PySem.W.instObj C dx)
  ns : h.Ns1 dx mA
  ne : dx ≠ x
theorem lookIn_ns {h : Heap} {dx : Addr} {mA : Str -> Option Value} (n : h.Ns1 dx mA) : ∃ od, h.get? dx = some od /\ ∀ name, PySem.W.lookIn name od = some (mA name) := by
  obtain ⟨o, es, ep, ho, hd, hk, _, hm⟩ := n
  refine ⟨o, ho, fun name => ?_⟩
  have e := hm name
  unfold nsFind findBy at e
  rw [← Array.find?_toList] at e
  unfold PySem.W.lookIn
  rw [hd]
  dsimp only
  split
  · rename_i y q
    rw [q] at e
    exact congrArg some e
  · rename_i q
    rw [q] at e
    have a : es.toList.any (·.refKey) = false := by
      rw [List.any_eq_false]
      intro y hy
      obtain ⟨z, t, hkey⟩ := hk y (Array.mem_toList_iff.mp hy)
      simp [DictEntry.refKey, hkey]
    have a' : ¬ es.toList.any (·.refKey) = true := by rw [a]; exact Bool.false_ne_true
    rw [if_neg a']
    exact congrArg some e
theorem ObjM.look {h : Heap} {x dx C : Addr} {mA : Str -> Option Value} (I : ObjM h x dx C mA) : ∃ od, PySem.W.InstAt h x (PySem.W.instObj C dx) C (some od) /\ ∀ name, PySem.W.lookIn name od = some (mA name) :=
  let ⟨od, ho, hl⟩ := lookIn_ns I.ns
  ⟨od, ⟨I.obj, rfl, rfl, ho⟩, hl⟩
section
variable {prog : Program} {w : World} {A : Around} {E : Value -> Shared -> Prop} {s : Shared} {K : PySem.W.Frag} {x dx C f : Addr} {mA : Str -> Option Value} {name : Str} {v : Value}
end
theorem RelO.some_of {v : V} {o : Option Value} (r : RelO (some v) o) : ∃ u, o = some u /\ RelV v u := by
  cases o with
  | none => exact (show False from r).elim
  | some u => exact ⟨u, rfl, r⟩
theorem RelO.none_of {o : Option Value} (r : RelO none o) : o = none := by
  cases o with
  | none => rfl
  | some u => exact (show False from r).elim
section
variable {P : Program} {w : World} {H H' : Hp} {h h' : Heap} {a C dx : Addr} {fs fs' : List (Str × V)}
theorem ins_get (hok : HOk P w H h) (e : H a = some (.ins C dx fs)) : ∃ mA, ObjM h a dx C mA /\ (∀ f, RelO (fs.lookup f) (mA f)) /\ PySem.Within mA (fs.map (·.1)) /\ fs.length <= 1000 /\ H dx = some (.own a) := by
  obtain ⟨d, z, ne, ob, mA, n, r, q⟩ := (show ObjOk P w H h a (.ins C dx fs) from hok a _ e)
  exact ⟨mA, ⟨ob, n, ne⟩, r, q, z, d⟩
end
structure Cls (K : PySem.W.Frag) (C : Addr) : Prop where
  pg : PySem.W.plainGet K C Str.empty = true
  hd : PySem.W.hasDictIn K C = true
  po : PySem.W.plainOver K C = true
  sa : PySem.W.findIn K (.ref C) "__setattr__" = some (some (.builtin "object.__setattr__"))
theorem Cls.get {K : PySem.W.Frag} {C : Addr} (c : Cls K C) (f : Str) : PySem.W.plainGet K C f = true := c.pg
def NoAttr (K : PySem.W.Frag) (C : Addr) (f : Str) : Prop := PySem.W.findIn K (.ref C) f = some none
structure Con (K : PySem.W.Frag) (C : Addr) (f : Str) (v : V) (u : Value) : Prop where
  at_ : PySem.W.findIn K (.ref C) f = some (some u)
  rel : RelV v u
  get : PySem.W.specialIn K u "__get__" = some none
  cp : PySem.W.copiedNames.contains f = false
structure Meth (K : PySem.W.Frag) (C : Addr) (m : Str) (f : Addr) : Prop where
  at_ : PySem.W.findIn K (.ref C) m = some (some (.ref f))
  fn : PySem.W.isFn K (.ref f) = true
  kp : PySem.W.keepIn K (.ref f) = true
section
variable {X : Cx} {pins : List (Addr × Obj)} {σ : St} {H : Hp} {s : Shared} {a C dx : Addr} {fs : List (Str × V)} {f : Str} {v : V} {A : Around} {E : Value -> Shared -> Prop}
end
section
variable {X : Cx} {o e value : Expr} {f : Str} {pos pos' tpos : Pos} {ta tv : TE}
end
section
variable {X : Cx} {pins : List (Addr × Obj)} {σ : St} {H : Hp} {s : Shared} {A : Around} {E : Value -> Shared -> Prop} {Q : Value -> Shared -> Prop} {c : Value} {b : Bool}
inductive TyOf (K : PySem.W.Frag) (H : Hp) : V -> Value -> Prop where
  | non : TyOf K H .non (.type "NoneType")
  | bl (x : Bool) : TyOf K H (.bl x) (.type "bool")
  | int (i : Int) : TyOf K H (.int i) (.type "int")
  | str (x : Str) : TyOf K H (.str x) (.type "str")
  | flt (x : UInt64) : TyOf K H (.flt x) (.type "float")
  | lst {a : Addr} {xs : List V} (e : H a = some (.lst xs)) : TyOf K H (.ref a) (.type "list")
  | frz {a : Addr} {o : Obj} {xs : List V} (e : H a = some (.frz o (.lst xs))) : TyOf K H (.ref a) (.type "list")
  | tup {a : Addr} {xs : List V} (e : H a = some (.tup xs)) : TyOf K H (.ref a) (.type "tuple")
  | dK {a : Addr} {kvs : List (Key × V)} (e : H a = some (.dK kvs)) : TyOf K H (.ref a) (.type "dict")
  | dT {a : Addr} {kvs : List (List Key × V)} (e : H a = some (.dT kvs)) : TyOf K H (.ref a) (.type "dict")
  | ins {a C dx : Addr} {fs : List (Str × V)} (e : H a = some (.ins C dx fs)) (cl : Cls K C) (ha : PySem.W.findIn K (.ref C) "__class__" = some (some (.builtin "object.__class__")))
      (hn : PySem.W.specialIn K (.builtin "object.__class__") "__get__" = some (some (.builtin "getset_descriptor.__get__"))) (htk : PySem.W.takesIn K (.builtin "object.__class__") = some true)
      (hm : PySem.W.mroIn K C (.type "object") = some true) : TyOf K H (.ref a) (.ref C)
theorem isinst_ok {x : V} {u t : Value} (I : Inv X pins σ H s) (rx : RelV x u) (ty : TyOf X.K H x t) (e : PySem.W.kitOne X.K t c = some b) (h : ∀ tk, Q (.bool b) { s with toks := tk }) :
    wpAny (model X.prog X.w) A (call (.builtin "isinstance") [u, c]) Q E s := by
  cases ty with
  | non => cases (show u = Value.none from rx); exact PySem.W.kia_one PySem.W.kitx_none I.kIn True.intro e (fun z => nomatch z) h
  | bl y => cases (show u = Value.bool y from rx); exact PySem.W.kia_one PySem.W.kitx_bool I.kIn True.intro e (fun z => nomatch z) h
  | int i => obtain ⟨t, q⟩ := (show ∃ t, u = Value.int i t from rx); cases q; exact PySem.W.kia_one PySem.W.kitx_int I.kIn True.intro e (fun z => nomatch z) h
  | str y => obtain ⟨t, q⟩ := (show ∃ t, u = Value.str y t from rx); cases q; exact PySem.W.kia_one PySem.W.kitx_str I.kIn True.intro e (fun z => nomatch z) h
  | flt y => obtain ⟨t, q⟩ := (show ∃ t, u = Value.float y t from rx); cases q; exact PySem.W.kia_one PySem.W.kitx_float I.kIn True.intro e (fun z => nomatch z) h
  | @lst a xs ea =>
    cases (show u = Value.ref a from rx)
    obtain ⟨_, _, n, _, h1⟩ := (show ObjOk X.prog X.w H s.heap a (.lst xs) from I.hok a _ ea)
    exact PySem.W.kia_one PySem.W.kitx_list I.kIn ⟨_, h1, rfl⟩ e (fun z => nomatch z) h
  | @frz a ob xs ea =>
    cases (show u = Value.ref a from rx)
    obtain ⟨_, _, _, n, _, h1⟩ := (show ObjOk X.prog X.w H s.heap a (.frz ob (.lst xs)) from I.hok a _ ea)
    exact PySem.W.kia_one PySem.W.kitx_list I.kIn ⟨_, h1, rfl⟩ e (fun z => nomatch z) h
  | @tup a xs ea =>
    cases (show u = Value.ref a from rx)
    obtain ⟨_, _, _, p⟩ := (show ObjOk X.prog X.w H s.heap a (.tup xs) from I.hok a _ ea)
    obtain ⟨o, h1, h2, _⟩ := p
    exact PySem.W.kia_one PySem.W.kitx_tuple I.kIn ⟨o, h1, h2⟩ e (fun z => nomatch z) h
  | @dK a kvs ea =>
    cases (show u = Value.ref a from rx)
    obtain ⟨_, _, vs, _, p⟩ := (show ObjOk X.prog X.w H s.heap a (.dK kvs) from I.hok a _ ea)
    obtain ⟨o, es, ep, h1, h2, _⟩ := p
    exact PySem.W.kia_one PySem.W.kitx_dict I.kIn ⟨o, h1, h2.1⟩ e (fun z => nomatch z) h
  | @dT a kvs ea =>
    cases (show u = Value.ref a from rx)
    obtain ⟨_, _, xs, _, o, es, ep, h1, h2, _⟩ := (show ObjOk X.prog X.w H s.heap a (.dT kvs) from I.hok a _ ea)
    exact PySem.W.kia_one PySem.W.kitx_dict I.kIn ⟨o, h1, h2.1⟩ e (fun z => nomatch z) h
  | @ins a C dx fs ea cl ha hn htk hm =>
    cases (show u = Value.ref a from rx)
    obtain ⟨mA, O, _⟩ := ins_get I.hok ea
    obtain ⟨od, J, _⟩ := O.look
    exact PySem.W.kia_one (PySem.W.kitx_own (cl.get _) cl.hd ha hn htk hm) I.kIn J e (fun z => nomatch z) h
end
end L2
namespace L2
open PySem PySem.Spec PyProof.Rows
structure Room (k : Nat) (A : Around) : Prop where
  hd : A.handled = none
  dp : A.depth + 3 * k + 5 < recursionLimit
  un : A.units + 16 * k + 200 < cLine
theorem Room.mono {j k : Nat} {A : Around} (r : Room k A) (h : j <= k) : Room j A := ⟨r.hd, by have := r.dp; omega, by have := r.un; omega⟩
theorem Room.deeper {k : Nat} {A : Around} (r : Room (k + 1) A) (env : Env) : Room k (A.deeper env) :=
  ⟨r.hd, by have := r.dp; show A.depth + 1 + 3 * k + 5 < _; omega, by have := r.un; show A.units + 3 + 16 * k + 200 < _; omega⟩
theorem Room.depth {k : Nat} {A : Around} (r : Room k A) : A.depth < recursionLimit := by have := r.dp; omega
def tNil : TA := fun _ H Q => Q [] H
def tCons (ta : TE) (tr : TA) : TA := fun σ H Q => ta σ H fun x H1 => tr σ H1 fun xs H2 => Q (x :: xs) H2
section
variable {X : Cx} {e : Expr} {es : List Expr} {te : TE} {t : TA} {pos : Pos}
theorem pa_nil : PA X [] tNil := fun _ _ _ _ H Q I h => Calls.spliced_nil ⟨[], H, I, .nil, h⟩
theorem pa_cons (ha : PE X e te) (hr : PA X es t) (hs : starEach (e :: es) X.env = (false, eval e X.env) :: starEach es X.env := by rfl) : PA X (e :: es) (tCons te t) := by
  intro pos pins s σ H Q I h
  rw [hs]
  show wpAny _ _ (spliced ((false, eval e X.env) :: backTo pos (starEach es X.env))) _ _ s
  refine Calls.spliced_cons (thn (ha pins s σ H _ I h) fun u s1 ⟨x, H1, I1, r1, q1⟩ => ?_)
  exact thn (hr pos pins s1 σ H1 _ I1 q1) fun us s2 ⟨xs, H2, I2, r2, q2⟩ => ⟨x :: xs, H2, I2, .cons r1 r2, q2⟩
def tTup (t : TA) : TE := fun σ H Q => t σ H fun xs H1 => xs.length <= sizeLine /\ ∀ p, H1 p = none -> Q (.ref p) (upd H1 p (.tup xs))
def tLst (t : TA) : TE := fun σ H Q => t σ H fun xs H1 => xs.length <= sizeLine /\ ∀ p, H1 p = none -> Q (.ref p) (upd H1 p (.lst xs))
theorem pe_tup {x1} (h : PA X es t) : PE X (.Tuple es x1 pos) (tTup t) := by
  intro pins s σ H Q I hq
  refine wpAny_Tuple_spliced (thn (h pos pins s σ H _ I hq) fun us s1 ⟨xs, H1, I1, r, z, q⟩ => ⟨by rw [← r.length]; exact z, ?_⟩)
  have hf : H1 s1.heap.objs.size = none := I1.hok.fresh (Nat.le_refl _)
  refine ⟨.ref s1.heap.objs.size, upd H1 s1.heap.objs.size (.tup xs), I1.laid (t' := s1.toks) (fun b u e => Heap.get?_push_of_some _ e) (Nat.le_refl _) ?_, rfl, q _ hf⟩
  exact ⟨z, us, r, ⟨_, Heap.get?_push_size _ rfl, rfl, _, rfl⟩⟩
theorem pe_lst (h : PA X es t) : PE X (.List es pos) (tLst t) := by
  intro pins s σ H Q I hq
  refine wpAny_List_spliced (thn (h pos pins s σ H _ I hq) fun us s1 ⟨xs, H1, I1, r, z, q⟩ => ⟨by rw [← r.length]; exact z, ?_⟩)
  have hf : H1 s1.heap.objs.size = none := I1.hok.fresh (Nat.le_refl _)
  refine ⟨.ref s1.heap.objs.size, upd H1 s1.heap.objs.size (.lst xs), I1.laid (t' := s1.toks) (fun b u e => Heap.get?_push_of_some _ e) (Nat.le_refl _) ?_, rfl, q _ hf⟩
  exact ⟨z, us, 0, r, Heap.get?_push_size _ rfl⟩
end
abbrev Sp := List V -> Hp -> VK -> XK -> Prop
abbrev CXT := List Env -> Hp -> Shared -> XK -> Value -> Shared -> Prop
structure Env0 (P : Program) (w : World) (K : PySem.W.Frag) (mg : Str -> Option Value) (base : Heap) (A : Around) (outer : List Env) (s : Shared) (H : Hp) : Prop where
  frames : A.frames = some outer
  mod : Mod K mg base
  bs : ∀ b o, base.get? b = some o -> s.heap.get? b = some o /\ H b = none
  bsz : base.objs.size <= s.heap.objs.size
  funs : s.heap.FunFrames base outer
  frf : ∀ b ∈ frs outer, H b = none
  hok : HOk P w H s.heap
  bare : AllBare s.gens
def CE (outer : List Env) (P : Program) (w : World) (H : Hp) (s : Shared) (Q : VK) (u : Value) (s' : Shared) : Prop :=
  ∃ v H', s'.os = s.os /\ AllBare s'.gens /\ Un (frs outer) [] H H' s.heap s'.heap /\ HOk P w H' s'.heap /\ RelV v u /\ Q v H'
def CR (CX : CXT) (outer : List Env) (P : Program) (w : World) (H : Hp) (s : Shared) (Q : VK) (E : XK) (r : Result) (s' : Shared) : Prop :=
  match r with
  | .ok (.ret u) => CE outer P w H s Q u s'
  | .ok _ => False
  | .error e => CX outer H s E e s'
structure FnOk (P : Program) (w : World) (K : PySem.W.Frag) (mg : Str -> Option Value) (base : Heap) (CX : CXT) (k : Nat) (f : Addr) (fd : FuncData) (ps : List Str) (sp : Sp) : Prop where
  len : ∀ vs H Q E, sp vs H Q E -> vs.length = ps.length
  run : ∀ (A : Around) (outer : List Env) (s : Shared) (H : Hp) (args : Args) (us : List Value) (vs : List V) (Q : VK) (E : XK), Room k A -> Env0 P w K mg base A outer s H -> BindsTo s fd args (ps.zip us) -> Vals vs us -> sp vs H Q E ->
    codeAny (model P w) A (.call (.ref f) args) (CR CX outer P w H s Q E) s
theorem FnOk.imp {P : Program} {w : World} {K : PySem.W.Frag} {mg : Str -> Option Value} {base : Heap} {CX : CXT} {k : Nat} {f : Addr} {fd : FuncData} {ps : List Str} {sp sp' : Sp} (F : FnOk P w K mg base CX k f fd ps sp)
    (h : ∀ vs H Q E, sp' vs H Q E -> sp vs H Q E) : FnOk P w K mg base CX k f fd ps sp' :=
  ⟨fun vs H Q E q => F.len vs H Q E (h _ _ _ _ q), fun A outer s H args us vs Q E hr he hb hv hs => F.run A outer s H args us vs Q E hr he hb hv (h _ _ _ _ hs)⟩
section
variable {X : Cx} {pins : List (Addr × Obj)} {σ : St} {H : Hp} {s s' : Shared}
theorem Inv.env0 (I : Inv X pins σ H s) : Env0 X.prog X.w X.K X.mg X.base X.A X.stack s H :=
  ⟨I.ok.frames, I.ok.mod, I.bs, Nat.le_trans I.ok.bsz I.sz, I.stack, I.stkFree, I.hok, I.bare⟩
theorem Inv.after {Q : VK} {u : Value} (I : Inv X pins σ H s) (h : CE X.stack X.prog X.w H s Q u s') : EP X pins σ Q u s' := by
  obtain ⟨v, H', os, bare, un, hok, r, q⟩ := h
  obtain ⟨hh, g, d, t, os'⟩ := s'
  obtain rfl : os' = s.os := os
  exact ⟨v, H', I.call (h' := hh) (g' := g) (d' := d) (t' := t) (ch := []) un hok bare (fun b z => absurd z (by simp)), r, q⟩
end
def tCall (sp : Sp) (dvs : List V) (E : XK) (t : TA) : TE := fun σ H Q => t σ H fun vs H1 => sp (vs ++ dvs) H1 Q E
def Binds (K : PySem.W.Frag) (fd : FuncData) (ps : List Str) (ds : List Value) : Prop :=
  ∀ (s : Shared) (us : List Value), K.In s.heap -> (us ++ ds).length = ps.length -> BindsTo s fd ⟨us, []⟩ (ps.zip (us ++ ds))
theorem Binds.all {K : PySem.W.Frag} {fd : FuncData} {ps : List Str} (h : ∀ us : List Value, us.length = ps.length -> bindArgs fd ⟨us, []⟩ = pure (ps.zip us)) : Binds K fd ps [] := fun s us _ hl => by
  rw [List.append_nil] at hl ⊢
  exact .of_eq (h us hl)
def Passes (CX : CXT) (X : Cx) (E : XK) : Prop := ∀ (pins : List (Addr × Obj)) (σ : St) (H : Hp) (s : Shared) (e : Value) (s' : Shared), Inv X pins σ H s -> CX X.stack H s E e s' -> X.xe e s'
section
variable {X : Cx} {CX : CXT} {k : Nat} {f C : Addr} {fd : FuncData} {ps : List Str} {sp : Sp} {dvs : List V} {ds : List Value} {E : XK} {x m : Str} {p pos apos : Pos} {e o : Expr} {es : List Expr} {ta : TE} {t : TA}
theorem run_fn {pins : List (Addr × Obj)} {σ : St} {H : Hp} {s : Shared} {Q : VK} {us : List Value} {vs : List V} (F : FnOk X.prog X.w X.K X.mg X.base CX k f fd ps sp) (hr : Room k X.A) (hb : Binds X.K fd ps ds) (hd : Vals dvs ds) (hx : Passes CX X E)
    (I : Inv X pins σ H s) (r : Vals vs us) (h : sp (vs ++ dvs) H Q E) : wpAny (model X.prog X.w) X.A (call (.ref f) us) (EP X pins σ Q) X.xe s := by
  have r2 : Vals (vs ++ dvs) (us ++ ds) := r.append hd
  have hl : (us ++ ds).length = ps.length := by rw [← r2.length]; exact F.len _ _ _ _ h
  refine wpAny_call (codeAny_mono (F.run X.A X.stack s H ⟨us, []⟩ (us ++ ds) (vs ++ dvs) Q E hr I.env0 (hb s us I.kIn hl) r2 h) fun r s' hq => ?_)
  cases r with
  | error e => exact hx pins σ H s e s' I hq
  | ok fl =>
    cases fl with
    | ret u => exact I.after hq
    | next => exact False.elim hq
    | brk => exact False.elim hq
    | cont => exact False.elim hq
theorem pe_call (F : FnOk X.prog X.w X.K X.mg X.base CX k f fd ps sp) (hr : Room k X.A) (hg : Gl X x) (hm : X.mg x = some (.ref f)) (hk : PySem.W.keepIn X.K (.ref f) = true) (hb : Binds X.K fd ps ds) (hd : Vals dvs ds) (hx : Passes CX X E)
    (ha : PA X (e :: es) t) (hdb : (x == ("__debug__" : Str)) = false := by decide) (he : starEach (e :: es) X.env = (false, eval e X.env) :: starEach es X.env := by rfl) (hpl : (backTo pos (starEach es X.env)).any (·.1) = false := by rfl) :
    PE X (.Call (.Name x p) (e :: es) [] pos) (tCall sp dvs E t) := by
  intro pins s σ H Q I h
  refine wpAny_Call_Name_kw (ld_glob I hg hm ?_ hdb)
  refine PySem.W.callWith_K (h₀ := X.base) I.ok.mod.kin hk (thn (ha pos pins s σ H _ I h) fun us s1 ⟨vs, H1, I1, r, q⟩ => ⟨I1.kIn, ?_⟩) he hpl
  exact run_fn F hr hb hd hx I1 r q
structure Mk (K : PySem.W.Frag) (C f : Addr) : Prop where
  makes : PySem.W.makesIn K C = true
  init : PySem.W.findIn K (.ref C) "__init__" = some (some (.ref f))
  fn : PySem.W.isFn K (.ref f) = true
  kp : PySem.W.keepIn K (.ref C) = true
end
section
variable {X : Cx} {CX : CXT} {k : Nat} {f C : Addr} {fd : FuncData} {ps ks : List Str} {sp : Sp} {E : XK} {x m : Str} {p pos apos kpos : Pos} {e o : Expr} {es : List Expr} {kws : List Keyword} {te ta : TE} {t tk : TA} {nm : Option Str}
structure KBinds (K : PySem.W.Frag) (fd : FuncData) (ps ks : List Str) (g : List Value -> List Value -> List Value) (gV : List V -> List V -> List V) : Prop where
  to : ∀ (s : Shared) (us ws : List Value), K.In s.heap -> (g us ws).length = ps.length -> BindsTo s fd ⟨us, ks.zip ws⟩ (ps.zip (g us ws))
  rel : ∀ {vs : List V} {us : List Value} {zs : List V} {ws : List Value}, Vals vs us -> Vals zs ws -> Vals (gV vs zs) (g us ws)
variable {g : List Value -> List Value -> List Value} {gV : List V -> List V -> List V}
end
structure FnScope (N P : List Str) (sc : Scope) : Prop where
  kind : sc.kind = .function
  co : sc.isCoroutine = false
  gen : sc.isGenerator = false
  nd : N.Nodup
  pre : N.take P.length = P
  par : ∀ x ∈ P, sc.names.lookup x = some .local \/ sc.names.lookup x = some .cell
  nofree : ∀ y ∈ sc.names, y.2 ≠ .free
theorem bindL_out {kindOf : Str -> Option NameKind} {x : Str} : ∀ {binds : List (Str × Value)} {m : Str -> Option Value}, (∀ v, (x, v) ∉ binds) -> bindL kindOf binds m x = m x
  | [], _, _ => rfl
  | (n, v) :: r, m, h => by
    unfold bindL
    rw [bindL_out fun w hw => h w (List.mem_cons_of_mem _ hw)]
    split
    · have : x ≠ n := by rintro rfl; exact h v List.mem_cons_self
      simp [this]
    · rfl
theorem bindC_out {kindOf : Str -> Option NameKind} {x : Str} : ∀ {binds : List (Str × Value)} {m : Str -> Option Value}, (∀ v, (x, v) ∉ binds) -> bindC kindOf binds m x = m x
  | [], _, _ => rfl
  | (n, v) :: r, m, h => by
    unfold bindC
    rw [bindC_out fun w hw => h w (List.mem_cons_of_mem _ hw)]
    split
    · rfl
    · have : x ≠ n := by rintro rfl; exact h v List.mem_cons_self
      simp [this]
theorem bindL_get {kindOf : Str -> Option NameKind} {x : Str} {v : Value} : ∀ {P : List Str} {vs : List Value} {i : Nat} {m : Str -> Option Value}, P.Nodup -> P[i]? = some x -> vs[i]? = some v -> kindOf x = some .local ->
    bindL kindOf (P.zip vs) m x = some v
  | [], _, _, _, _, h, _, _ => by simp at h
  | _ :: _, [], _, _, _, _, h, _ => by simp at h
  | p :: P, w :: vs, 0, m, nd, h1, h2, hk => by
    simp at h1 h2; subst h1; subst h2
    show bindL kindOf ((p, w) :: P.zip vs) m p = _
    unfold bindL
    rw [bindL_out fun v hv => (List.nodup_cons.mp nd).1 (List.of_mem_zip hv).1, if_pos hk]
    simp
  | p :: P, w :: vs, i + 1, m, nd, h1, h2, hk => by
    show bindL kindOf ((p, w) :: P.zip vs) m x = _
    unfold bindL
    exact bindL_get (i := i) (List.nodup_cons.mp nd).2 (by simpa using h1) (by simpa using h2) hk
theorem bindC_get {kindOf : Str -> Option NameKind} {x : Str} {v : Value} : ∀ {P : List Str} {vs : List Value} {i : Nat} {m : Str -> Option Value}, P.Nodup -> P[i]? = some x -> vs[i]? = some v -> kindOf x ≠ some .local ->
    bindC kindOf (P.zip vs) m x = some v
  | [], _, _, _, _, h, _, _ => by simp at h
  | _ :: _, [], _, _, _, _, h, _ => by simp at h
  | p :: P, w :: vs, 0, m, nd, h1, h2, hk => by
    simp at h1 h2; subst h1; subst h2
    show bindC kindOf ((p, w) :: P.zip vs) m p = _
    unfold bindC
    rw [bindC_out fun v hv => (List.nodup_cons.mp nd).1 (List.of_mem_zip hv).1, if_neg hk]
    simp
  | p :: P, w :: vs, i + 1, m, nd, h1, h2, hk => by
    show bindC kindOf ((p, w) :: P.zip vs) m x = _
    unfold bindC
    exact bindC_get (i := i) (List.nodup_cons.mp nd).2 (by simpa using h1) (by simpa using h2) hk
def start (N : List Str) (vs : List V) : St := vs.map some ++ List.replicate (N.length - vs.length) none
def cxOf (CX : CXT) (P : Program) (w : World) (K : PySem.W.Frag) (mg : Str -> Option Value) (base : Heap) (N : List Str) (qual : Str) (scope : Scope) (f : Addr) (cd : Value) (A : Around) (outer : List Env) (s : Shared) (H : Hp) (E : XK) : Cx where
  prog := P
  w := w
  K := K
  mg := mg
  base := base
  A := A.deeper (envOfC qual scope s.heap.objs.size f cd)
  N := N
  s₀ := s
  H₀ := H
  env := envOfC qual scope s.heap.objs.size f cd
  outer := outer
  stack := envOfC qual scope s.heap.objs.size f cd :: outer
  ex := []
  calm := true
  fn := fun _ => true
  pn := []
  xe := fun e s' => wpAny (model P w) (A.deeper (envOfC qual scope s.heap.objs.size f cd)) (leaving (envOfC qual scope s.heap.objs.size f cd) e) (fun _ s'' => CX outer H s E e s'') (fun e' s'' => CX outer H s E e' s'') s'
theorem cell_has {sc : Scope} {n : Nat} {x : Str} (h : sc.names.lookup x = some .cell) : ∃ c, (cellsFrom n sc.names []).lookup x = some c := by
  have q := PySem.W.cellsFrom_some sc.names n [] (.inl h)
  exact Option.isSome_iff_exists.mp q
theorem inv_start {CX : CXT} {P : Program} {w : World} {K : PySem.W.Frag} {mg : Str -> Option Value} {base : Heap} {N ps : List Str} {qual : Str} {scope : Scope} {f : Addr} {cd : Value} {A : Around} {outer : List Env} {s s1 : Shared} {H : Hp} {E : XK} {us : List Value} {vs : List V}
    (S : FnScope N ps scope) (hd : A.handled = none) (e0 : Env0 P w K mg base A outer s H) (hl : vs.length = ps.length) (r : Vals vs us)
    (x : InCallC s s.heap.objs.size (bindL (envOfC qual scope s.heap.objs.size f cd).kindOf (ps.zip us) fun _ => none) (cellsFrom (s.heap.objs.size + 1) scope.names []) (bindC (envOfC qual scope s.heap.objs.size f cd).kindOf (ps.zip us) fun _ => none) s1) :
    Inv (cxOf CX P w K mg base N qual scope f cd A outer s H E) [] (start N vs) H s1 := by
  have hpl : ps.length <= N.length := by have := congrArg List.length S.pre; rw [List.length_take] at this; omega
  obtain ⟨h1, tk, rfl, hk⟩ := x.done
  have noA : ∀ b : Addr, b ∉ (cxOf CX P w K mg base N qual scope f cd A outer s H E).ex := fun b z => absurd (show b ∈ ([] : List Addr) from z) (by simp)
  refine ⟨⟨e0.mod, S.kind, rfl, rfl, Nat.le_refl _, fun y z c h1 h2 => ?_, fun y hy => ?_, fun y c _ h => ?_, fun _ => hd, Around.frames_deeper e0.frames, .inr ⟨rfl, rfl⟩, fun b z => absurd z (noA b), e0.bs, e0.bsz, fun b _ _ => noA b, fun b z => absurd z (noA b), e0.funs, e0.frf⟩,
    rfl, e0.bare, Un.kept hk, ⟨_, x.toInCall.ns, fun i y v h1 h2 h3 => ?_⟩, fun y c h => ⟨_, x.cell y c h⟩, e0.hok.fresh (Nat.le_refl _), fun y c h => ?_, fun p hp => absurd (show p ∈ ([] : List (Addr × Obj)) from hp) (by simp), e0.hok.kept hk, ?_⟩
  · exact name_of_addr x.apart (PySem.mem_of_lookup h1) (PySem.mem_of_lookup h2)
  · have hy : scope.names.lookup y = some .cell \/ scope.names.lookup y = some .free := hy
    rcases hy with hy | hy
    · exact cell_has hy
    · exact absurd rfl (S.nofree _ (PySem.mem_of_lookup hy))
  · exact Nat.le_of_lt (x.above y c (PySem.mem_of_lookup h))
  · have hi : i < vs.length := by
      unfold start at h2
      by_cases hi : i < vs.length
      · exact hi
      · rw [List.getElem?_append_right (by simpa using hi)] at h2
        rw [List.getElem?_replicate] at h2
        split at h2 <;> cases h2
    have ha : vs[i]? = some v := by
      unfold start at h2
      rw [List.getElem?_append_left (by simpa using hi), List.getElem?_map] at h2
      cases e : vs[i]? with
      | none => rw [e] at h2; cases h2
      | some a => rw [e] at h2; cases h2; rfl
    obtain ⟨u, hu, rv⟩ := r.get ha
    have hp : ps[i]? = some y := by
      rw [← S.pre, List.getElem?_take_of_lt (by omega)]; exact h1
    have ndP : ps.Nodup := by rw [← S.pre]; exact S.nd.sublist (List.take_sublist _ _)
    refine ⟨u, rv, ?_⟩
    rcases S.par y (List.mem_of_getElem? hp) with k | k
    · exact .inl ⟨k, bindL_get ndP hp hu k⟩
    · obtain ⟨c, e⟩ := cell_has (n := s.heap.objs.size + 1) k
      refine .inr ⟨.inl k, c, e, ?_⟩
      have q := x.cell y c e
      rw [bindC_get ndP hp hu (by show scope.names.lookup y ≠ _; rw [k]; decide)] at q
      exact q
  · exact e0.hok.fresh (Nat.le_of_lt (x.above y c (PySem.mem_of_lookup h)))
  · unfold start
    show _ = N.length
    rw [List.length_append, List.length_map, List.length_replicate]
    omega
theorem fn_of {CX : CXT} {P : Program} {w : World} {K : PySem.W.Frag} {mg : Str -> Option Value} {base : Heap} {k : Nat} {f : Addr} {name qual : Str} {params : Arguments} {body : List Stmt} {scope : Scope} {dV kV doc pm cdv ct oc : Value} {an od : Option Addr}
    {osl : Array (Option Value)} {N ps : List Str} {sp : Sp} (lk : K.lookup f = some ⟨oc, od, .func (PySem.W.fnOf name qual params body scope dV kV doc pm an cdv ct), osl⟩) (hcd : PySem.W.codeIn K cdv qual = true) (S : FnScope N ps scope)
    (len : ∀ vs H Q E, sp vs H Q E -> vs.length = ps.length)
    (hbody : ∀ (A : Around) (outer : List Env) (s : Shared) (H : Hp) (vs : List V) (Q : VK) (E : XK), Room k (A.deeper (envOfC qual scope s.heap.objs.size f cdv)) -> sp vs H Q E ->
      ∃ t, PSs (cxOf CX P w K mg base N qual scope f cdv A outer s H E) body t /\ t { nx := fun _ H' => Q .non H', rt := Q } (start N vs) H) :
    FnOk P w K mg base CX (k + 1) f (PySem.W.fnOf name qual params body scope dV kV doc pm an cdv ct) ps sp := by
  refine ⟨len, fun A outer s H args us vs Q E hr e0 hb r hsp => ?_⟩
  have hl := len _ _ _ _ hsp
  have KX : K.In s.heap := e0.mod.kin.keeps fun b o e => (e0.bs b o e).1
  have lim : s.heap.NoLimit := e0.mod.nolimit.keeps fun b o e => (e0.bs b o e).1
  have hkind : ∀ y ∈ ps.zip us, scope.names.lookup y.1 = some .local \/ (scope.names.lookup y.1 = some .cell /\ ((cellsFrom (s.heap.objs.size + 1) scope.names []).lookup y.1).isSome = true) := fun ⟨n, v⟩ hy => by
    rcases S.par n (List.of_mem_zip hy).1 with q | q
    · exact .inl q
    · exact .inr ⟨q, PySem.W.cellsFrom_some _ _ _ (.inl q)⟩
  refine codeAny_call_function hr.depth (KX _ _ lk) rfl S.co S.gen rfl (PySem.W.codeRec_of KX hcd) (hb _ _ _ _ ?_)
  refine wpAny_newFunctionEnv_cells S.kind hkind fun env he s1 x => ?_
  subst he
  refine ⟨lim.keeps x.toInCall.keep, codeAny_func ?_⟩
  obtain ⟨t, ht, hq⟩ := hbody A outer s H vs Q E (hr.deeper _) hsp
  have I : Inv (cxOf CX P w K mg base N qual scope f cdv A outer s H E) [] (start N vs) H s1 := inv_start S hr.hd e0 hl r x
  refine wpAny_mono (ht [] s1 (start N vs) H _ I hq) (fun fl s' hs => ?_) fun e s' hs => hs
  have fin : ∀ {σ' : St} {H' : Hp} {v : V} {u : Value}, Inv (cxOf CX P w K mg base N qual scope f cdv A outer s H E) [] σ' H' s' -> RelV v u -> Q v H' -> CE outer P w H s Q u s' :=
    fun {σ' H' v u} J rv q => ⟨v, H', J.os, J.bare, J.base, J.hok, rv, q⟩
  cases fl with
  | ret u =>
    obtain ⟨v, σ', H', J, rv, q⟩ := hs
    exact fin J rv q
  | next =>
    obtain ⟨σ', H', J, q⟩ := hs
    exact fin (v := V.non) (u := Value.none) J rfl q
  | brk =>
    obtain ⟨_, _, _, q⟩ := hs
    exact False.elim q
  | cont =>
    obtain ⟨_, _, _, q⟩ := hs
    exact False.elim q
end L2
namespace L2
open PySem PySem.Spec PyProof.Rows
section
variable {X : Cx} {x : Str} {p pos : Pos} {e : Expr} {es : List Expr} {t : TA} {id T : String} {r : List V -> Hp -> VK -> Prop}
def tCB (r : List V -> Hp -> VK -> Prop) (t : TA) : TE := fun σ H Q => t σ H fun vs H1 => r vs H1 Q
theorem pe_callB (hc : CallR X (.builtin id) r) (hg : Gl X x) (hm : X.mg x = none) (hv : bootBuiltins x = some (.builtin id)) (ha : PA X (e :: es) t) (hn : x ≠ "__name__" := by decide) (hdb : (x == ("__debug__" : Str)) = false := by decide)
    (he : starEach (e :: es) X.env = (false, eval e X.env) :: starEach es X.env := by rfl) (hpl : (backTo pos (starEach es X.env)).any (·.1) = false := by rfl) : PE X (.Call (.Name x p) (e :: es) [] pos) (tCB r t) := by
  intro pins s σ H Q I h
  refine wpAny_Call_Name_kw (ld_blt I hg hm hv ?_ hn hdb)
  exact PyProof.Rows.callWith_builtin1 (thn (ha pos pins s σ H _ I h) fun us s1 ⟨vs, H1, I1, r1, q1⟩ => hc pins s1 σ H1 vs us Q I1 r1 q1) he hpl
theorem pe_callTy (hc : CallR X (.type T) r) (hg : Gl X x) (hm : X.mg x = none) (hv : bootBuiltins x = some (.type T)) (ha : PA X (e :: es) t) (hn : x ≠ "__name__" := by decide) (hdb : (x == ("__debug__" : Str)) = false := by decide)
    (he : starEach (e :: es) X.env = (false, eval e X.env) :: starEach es X.env := by rfl) (hpl : (backTo pos (starEach es X.env)).any (·.1) = false := by rfl) : PE X (.Call (.Name x p) (e :: es) [] pos) (tCB r t) := by
  intro pins s σ H Q I h
  refine wpAny_Call_Name_kw (ld_blt I hg hm hv ?_ hn hdb)
  exact PyProof.Rows.callWith_type1 (thn (ha pos pins s σ H _ I h) fun us s1 ⟨vs, H1, I1, r1, q1⟩ => hc pins s1 σ H1 vs us Q I1 r1 q1) he hpl
end
end L2
end
section
namespace HT
open PySem PyProof.Rows
section
open PySem.SeqAt
open PySem.AutoSeq1 (wpAny_loadPart')
open PySem.MeetsSeq PySem.MeetsSeq2 PySem.MeetsSeq3
end
section
variable {prog : Program} {w : World} {A : Around} {E : Value -> Shared -> Prop} {s : Shared}
def sIx (n d : Nat) : Option Int -> Nat
  | none => d
  | some v => if v < 0 then (v + (n : Int)).toNat else min v.toNat n
theorem sIx_le (n d : Nat) (hd : d <= n) (o : Option Int) : sIx n d o <= n := by
  cases o with
  | none => exact hd
  | some v =>
    show (if v < 0 then (v + (n : Int)).toNat else min v.toNat n) <= n
    by_cases hv : v < 0
    · rw [if_pos hv]; omega
    · rw [if_neg hv]; exact Nat.min_le_right _ _
theorem clip_eq (v : Int) (n d : Nat) : (if v < 0 then max (v + (n : Int)) 0 else min v (n : Int)) = ((sIx n d (some v) : Nat) : Int) := by
  show (if v < 0 then max (v + (n : Int)) 0 else min v (n : Int)) = (((if v < 0 then (v + (n : Int)).toNat else min v.toNat n) : Nat) : Int)
  by_cases hv : v < 0
  · simp only [if_pos hv]; omega
  · simp only [if_neg hv]; omega
theorem adjust_gen (lo hi : Option Int) (n : Nat) : Builtin.Slice.sliceAdjust lo hi 1 (n : Int) = (((sIx n 0 lo : Nat) : Int), ((sIx n n hi : Nat) : Int)) := by
  have h1 : ¬ ((1 : Int) < 0) := by omega
  unfold Builtin.Slice.sliceAdjust
  simp only [h1, if_false]
  refine Prod.ext ?_ ?_
  · cases lo with
    | none => rfl
    | some v => exact clip_eq v n 0
  · cases hi with
    | none => rfl
    | some v => exact clip_eq v n n
theorem places_gen (i j : Nat) : Builtin.Slice.slicePlaces (i : Int) (j : Int) 1 = j - i := by
  unfold Builtin.Slice.slicePlaces
  have h1 : (1 : Int) > 0 := by omega
  simp only [h1, if_true, Int.ediv_one]
  split <;> omega
theorem slicePart_ {v : Value} {o : Option Int} {Q : Option Int -> Shared -> Prop} (p : IsPart v o) (h : Q o s) : wpAny (model prog w) A (Builtin.Slice.slicePartIndex v) Q E s := by
  cases p with
  | none => exact slicePart_none h
  | int i t => exact slicePart_int h
theorem sliceApplied_gen {sl : Addr} {vl vu : Value} {lo hi : Option Int} {n : Nat} {Q : Int × Int × Nat -> Shared -> Prop} (hs : s.heap.IsSliceOf sl vl vu .none) (pl : IsPart vl lo) (pu : IsPart vu hi)
    (h : Q (((sIx n 0 lo : Nat) : Int), 1, sIx n n hi - sIx n 0 lo) s) : wpAny (model prog w) A (Builtin.Slice.sliceApplied (.ref sl) (pure (n : Int))) Q E s := by
  obtain ⟨os, hos, hcs, hds⟩ := id hs
  unfold Builtin.Slice.sliceApplied Builtin.Slice.sliceFields
  refine wpAny_bind (wpAny_bind (wpAny_field hos hds (x := vl) rfl (wpAny_bind (wpAny_field hos hds (x := vu) rfl (wpAny_bind (wpAny_field hos hds (x := .none) rfl (wpAny_pure ?_)))))))
  refine wpAny_bind (slicePart_none ?_)
  show wpAny _ _ (if ((1 : Int) == 0) = true then _ else _) _ _ s
  rw [if_neg (by decide)]
  refine wpAny_bind (slicePart_ pl (wpAny_bind (slicePart_ pu (wpAny_bind (wpAny_pure ?_)))))
  show wpAny _ _ (match Builtin.Slice.sliceAdjust lo hi 1 (n : Int) with | (lo, hi) => pure (lo, (1 : Int), Builtin.Slice.slicePlaces lo hi 1)) _ _ s
  rw [adjust_gen lo hi n]
  show wpAny _ _ (pure (((sIx n 0 lo : Nat) : Int), (1 : Int), Builtin.Slice.slicePlaces ((sIx n 0 lo : Nat) : Int) ((sIx n n hi : Nat) : Int) 1)) _ _ s
  rw [places_gen]
  exact wpAny_pure h
theorem pick_gen (xs : Array Value) (i k : Nat) : ((List.range k).filterMap fun (m : Nat) => xs[((i : Int) + (m : Int) * 1).toNat]?).toArray = ((xs.toList.drop i).take k).toArray := by
  have e : (fun (m : Nat) => xs[((i : Int) + (m : Int) * 1).toNat]?) = fun m => xs[i + m]? := by
    funext m
    have : ((i : Int) + (m : Int) * 1).toNat = i + m := by omega
    rw [this]
  rw [e]
  have := pick_run xs i k
  rw [List.filterMap_map] at this
  have e2 : ((fun x => xs[x]?) ∘ fun x => i + x) = fun m => xs[i + m]? := rfl
  rw [e2] at this
  rw [this]
theorem getItem_tuple_cut {t sl : Addr} {items : Array Value} {vl vu : Value} {lo hi : Option Int} {Q : Value -> Shared -> Prop} (ht : IsTup s.heap t items) (hs : s.heap.IsSliceOf sl vl vu .none) (pl : IsPart vl lo) (pu : IsPart vu hi)
    (hw : ¬ (sIx items.size 0 lo = 0 /\ sIx items.size items.size hi = items.size))
    (h : Q (.ref s.heap.objs.size) { s with heap := s.heap.push { cls := .type "tuple", data := .seq ((items.toList.drop (sIx items.size 0 lo)).take (sIx items.size items.size hi - sIx items.size 0 lo)).toArray } })
    (hsz : items.size <= sizeLine) : wpAny (model prog w) A (getItem (.ref t) (.ref sl)) Q E s := by
  have htake : sizeOk (.seq ((items.toList.drop (sIx items.size 0 lo)).take (sIx items.size items.size hi - sIx items.size 0 lo)).toArray) := by
    show ((items.toList.drop (sIx items.size 0 lo)).take (sIx items.size items.size hi - sIx items.size 0 lo)).toArray.size <= sizeLine
    rw [List.size_toArray, List.length_take, List.length_drop, Array.length_toList]
    omega
  have hj : sIx items.size items.size hi <= items.size := sIx_le _ _ (Nat.le_refl _) hi
  obtain ⟨os, hos, hcs, hds⟩ := id hs
  have hTs : s.TypeIs (.ref sl) "slice" := ⟨os, hos, hcs⟩
  unfold getItem
  try with_reducible refine wpAny_holding ?_
  first | refine wpAny_bind (wpAny_pure ?_) | skip
  refine wpAny_bind (wpAny_sequenceKey ht.typeIs (by decide) ?_)
  refine wpAny_bind (wpAny_callSpecial?_slot (name := Str.ofString "__getitem__") ht.typeIs PyProof.Rows.slot_tuple_getitem
    (wpAny_call_entry PyProof.Rows.slot_tuple_getitem ht.typeIs entry_tuple_getitem ?_ (args_tuple_getitem _ _)))
  show wpAny _ _ (Builtin.Tuple.tupleItemsOf (.ref t) >>= _) _ _ s
  refine wpAny_bind (tupleItemsOf_ ht ?_)
  refine wpAny_bind (wpAny_typeOf hTs ?_)
  rw [if_pos (by decide)]
  refine wpAny_bind (sliceApplied_gen hs pl pu ?_)
  have hno : ¬ ((((sIx items.size 0 lo : Nat) : Int) == 0 && (1 : Int) == 1 && (sIx items.size items.size hi - sIx items.size 0 lo) == items.size) = true) := by
    intro q
    rw [Bool.and_eq_true, Bool.and_eq_true] at q
    have q1 : ((sIx items.size 0 lo : Nat) : Int) = 0 := eq_of_beq q.1.1
    have q2 : sIx items.size items.size hi - sIx items.size 0 lo = items.size := eq_of_beq q.2
    exact hw ⟨by omega, by omega⟩
  show wpAny _ _ (if (((sIx items.size 0 lo : Nat) : Int) == 0 && (1 : Int) == 1 && (sIx items.size items.size hi - sIx items.size 0 lo) == items.size) = true then _ else _) _ _ s
  rw [if_neg hno, pick_gen]
  first
    | exact wpAny_bind (m := Builtin.Tuple.tupleExact _) (wpAny_newObj_type (wpAny_pure ⟨_, rfl, wpAny_pure h⟩) htake)
    | exact wpAny_bind (m := Builtin.Tuple.tupleExact _) (wpAny_newObj_type (wpAny_bind (wpAny_pure (wpAny_pure ⟨_, rfl, wpAny_pure h⟩))) htake)
    | exact wpAny_bind (wpAny_bind (m := Builtin.Tuple.tupleExact _) (wpAny_newObj_type (wpAny_pure (wpAny_pure ⟨_, rfl, wpAny_pure h⟩)) htake))
    | exact wpAny_bind (wpAny_bind (m := Builtin.Tuple.tupleExact _) (wpAny_newObj_type (wpAny_pure ⟨_, rfl, wpAny_pure h⟩) htake))
end
end HT
namespace L2
open PySem PySem.Spec PyProof.Rows
abbrev TO := St -> Hp -> (Option Int -> Hp -> Prop) -> Prop
def PO (X : Cx) (e : Option Expr) (t : TO) : Prop :=
  ∀ (pins : List (Addr × Obj)) (s : Shared) (σ : St) (H : Hp) (Q : Option Int -> Hp -> Prop), Inv X pins σ H s -> t σ H Q ->
    wpAny (model X.prog X.w) X.A (evalPart e X.env) (fun u s' => ∃ o H', Inv X pins σ H' s' /\ IsPart u o /\ Q o H') X.xe s
def tNoPart : TO := fun _ H Q => Q none H
def tPart (t : TE) : TO := fun σ H Q => t σ H fun x H1 => ∃ i, x = .int i /\ Q (some i) H1
section
variable {X : Cx} {e : Expr} {te : TE} {lo hi : Option Expr} {tl th : TO} {pos p2 : Pos}
theorem po_none : PO X none tNoPart := by
  intro pins s σ H Q I h
  rw [evalPart_none]
  exact wpAny_pure ⟨none, H, I, .none, h⟩
theorem po_some (h : PE X e te) : PO X (some e) (tPart te) := by
  intro pins s σ H Q I hw
  rw [evalPart_some]
  refine thn (h pins s σ H _ I hw) fun u s1 ⟨x, H1, I1, r1, q1⟩ => ?_
  obtain ⟨i, rfl, q⟩ := q1
  obtain ⟨t, rfl⟩ := r1
  exact ⟨some i, H1, I1, .int i t, q⟩
def SlR (X : Cx) (r : V -> Option Int -> Option Int -> Hp -> VK -> Prop) : Prop :=
  ∀ (pins : List (Addr × Obj)) (s : Shared) (σ : St) (H : Hp) (x : V) (v vl vu : Value) (lo hi : Option Int) (sl : Addr) (Q : VK), Inv X pins σ H s -> RelV x v -> s.heap.IsSliceOf sl vl vu .none -> IsPart vl lo -> IsPart vu hi -> r x lo hi H Q ->
    ∃ T id, typeLookup (.type T) "__getitem__" = pure (some (.builtin id)) /\ s.TypeIs v T /\ wpAny (model X.prog X.w) X.A (getItem v (.ref sl)) (EP X pins σ Q) X.xe s
theorem SlR.or {r r' : V -> Option Int -> Option Int -> Hp -> VK -> Prop} (h : SlR X r) (h' : SlR X r') : SlR X (fun x lo hi H Q => r x lo hi H Q \/ r' x lo hi H Q) := by
  intro pins s σ H x v vl vu lo hi sl Q I rx hs pl pu q
  rcases q with q | q
  · exact h pins s σ H x v vl vu lo hi sl Q I rx hs pl pu q
  · exact h' pins s σ H x v vl vu lo hi sl Q I rx hs pl pu q
def tSl (r : V -> Option Int -> Option Int -> Hp -> VK -> Prop) (te : TE) (tl th : TO) : TE := fun σ H Q => te σ H fun x H1 => tl σ H1 fun l H2 => th σ H2 fun u H3 => r x l u H3 Q
theorem pe_slice {r : V -> Option Int -> Option Int -> Hp -> VK -> Prop} (hr : SlR X r) (he : PE X e te) (hl : PO X lo tl) (hu : PO X hi th) : PE X (.Subscript e (.Slice lo hi none p2) pos) (tSl r te tl th) := by
  intro pins s σ H Q I h
  refine Subscript_ (thn (he pins s σ H _ I h) fun v s1 ⟨x, H1, I1, r1, q1⟩ => ?_)
  refine wpAny_Slice (thn (hl pins s1 σ H1 _ I1 q1) fun vl s2 ⟨l, H2, I2, pl, q2⟩ => thn (hu pins s2 σ H2 _ I2 q2) fun vu s3 ⟨u, H3, I3, pu, q3⟩ => ?_)
  rw [evalPart_none]
  refine wpAny_pure ?_
  have I4 : Inv X pins σ H3 { s3 with heap := s3.heap.push { cls := .type "slice", data := .fields #[vl, vu, .none] } } := I3.kept (t' := s3.toks) fun b ob q => Heap.get?_push_of_some _ q
  obtain ⟨T, id, hT, ht, hg⟩ := hr pins { s3 with heap := s3.heap.push { cls := .type "slice", data := .fields #[vl, vu, .none] } } σ H3 x v vl vu l u s3.heap.objs.size Q I4 r1 (Heap.IsSliceOf.new ..) pl pu q3
  show wpAny (model X.prog X.w) X.A (subscriptTail e (.Slice lo hi none p2) v (.ref s3.heap.objs.size)) (EP X pins σ Q) X.xe { s3 with heap := s3.heap.push { cls := .type "slice", data := .fields #[vl, vu, .none] } }
  exact tail_any (ops := [.ref s3.heap.objs.size, v]) ht hT hg (by with_unfolding_all rfl)
def cutV (xs : List V) (lo hi : Option Int) : List V := (xs.drop (HT.sIx xs.length 0 lo)).take (HT.sIx xs.length xs.length hi - HT.sIx xs.length 0 lo)
theorem cutV_length (xs : List V) (lo hi : Option Int) : (cutV xs lo hi).length <= xs.length := by
  unfold cutV
  rw [List.length_take, List.length_drop]
  omega
def rSlT (K : PySem.W.Frag) : V -> Option Int -> Option Int -> Hp -> VK -> Prop := fun x lo hi H Q => ∃ a xs, x = .ref a /\ SqT K H a xs /\
  ¬ (HT.sIx xs.length 0 lo = 0 /\ HT.sIx xs.length xs.length hi = xs.length) /\ ∀ p, H p = none -> Q (.ref p) (upd H p (.tup (cutV xs lo hi)))
theorem sl_tup : SlR X (rSlT X.K) := by
  intro pins s σ H x v vl vu lo hi sl Q I rx hs pl pu h
  obtain ⟨a, xs, rfl, hx, hw, q⟩ := h
  cases rx
  obtain ⟨its, r, ht, hz⟩ := I.tuple hx
  have hlen : its.toArray.size = xs.length := by rw [List.size_toArray]; exact r.length.symm
  refine ⟨"tuple", _, PyProof.Rows.slot_tuple_getitem.lookup, ht.typeIs, ?_⟩
  refine HT.getItem_tuple_cut ht hs pl pu (by rw [hlen]; exact hw) ?_ (by rw [hlen]; exact hz)
  rw [hlen]
  refine ⟨.ref s.heap.objs.size, _, I.laid (t' := s.toks) (o := .tup (cutV xs lo hi)) (fun b ob q => Heap.get?_push_of_some _ q) (Nat.le_refl _) ?_, rfl, q _ (I.hok.fresh (Nat.le_refl _))⟩
  exact ⟨Nat.le_trans (cutV_length xs lo hi) hz, _, (r.drop (HT.sIx xs.length 0 lo)).take (HT.sIx xs.length xs.length hi - HT.sIx xs.length 0 lo), IsTup.new _ _⟩
end
end L2
namespace L2
open PySem PySem.Spec PyProof.Rows
def ixN (n : Nat) (i : Int) : Option Nat := if 0 <= i then (if i < n then some i.toNat else none) else if -(n : Int) <= i then some (i + n).toNat else none
def atI {α : Type} (xs : List α) (i : Int) : Option α := (ixN xs.length i).bind fun j => xs[j]?
theorem ixN_seq {n : Nat} {i : Int} {j : Nat} (h : ixN n i = some j) : seqIndex? i n = some j /\ j < n /\ -(n : Int) <= i /\ i < n := by
  unfold ixN at h
  by_cases h0 : 0 <= i
  · rw [if_pos h0] at h
    by_cases h1 : i < n
    · rw [if_pos h1] at h
      have e : i.toNat = j := Option.some.inj h
      exact ⟨by rw [seqIndex_of h0 h1, e], by omega, by omega, h1⟩
    · rw [if_neg h1] at h; cases h
  · rw [if_neg h0] at h
    by_cases h1 : -(n : Int) <= i
    · rw [if_pos h1] at h
      have e : (i + n).toNat = j := Option.some.inj h
      exact ⟨by rw [seqIndex_neg (by omega) h1, e], by omega, h1, by omega⟩
    · rw [if_neg h1] at h; cases h
theorem atI_get {α : Type} {xs : List α} {i : Int} {v : α} (h : atI xs i = some v) : ∃ j, seqIndex? i xs.length = some j /\ xs[j]? = some v /\ j < xs.length /\ -(xs.length : Int) <= i /\ i < xs.length := by
  unfold atI at h
  cases e : ixN xs.length i with
  | none => rw [e] at h; cases h
  | some j =>
    rw [e] at h
    obtain ⟨h1, h2, h3, h4⟩ := ixN_seq e
    exact ⟨j, h1, h, h2, h3, h4⟩
theorem atI_nat {α : Type} {xs : List α} {j : Nat} {v : α} (h : xs[j]? = some v) : atI xs (j : Int) = some v := by
  have hj : j < xs.length := (List.getElem?_eq_some_iff.mp h).1
  have e : ixN xs.length (j : Int) = some j := by
    unfold ixN
    rw [if_pos (by omega), if_pos (by omega)]; simp
  unfold atI; rw [e]; exact h
def PlainIx (b : Expr) : Prop := ∀ o i, subscripted b false o i = operate [o, i] (getItem o i)
def IxR (X : Cx) (r : R2) : Prop :=
  ∀ (value slice : Expr) (pins : List (Addr × Obj)) (s : Shared) (σ : St) (H : Hp) (x y : V) (v u : Value) (Q : VK), Inv X pins σ H s -> RelV x v -> RelV y u -> r x y H Q ->
    subscripted slice false v u = operate [v, u] (getItem v u) -> wpAny (model X.prog X.w) X.A (subscriptTail value slice v u) (EP X pins σ Q) X.xe s
def MtR (X : Cx) (id : String) (r : V -> List V -> Hp -> VK -> Prop) : Prop :=
  ∀ (pins : List (Addr × Obj)) (s : Shared) (σ : St) (H : Hp) (x : V) (xs : List V) (v : Value) (us : List Value) (Q : VK), Inv X pins σ H s -> RelV x v -> Vals xs us -> r x xs H Q ->
    wpAny (model X.prog X.w) X.A (call (.builtin id) (v :: us)) (EP X pins σ Q) X.xe s
section
variable {X : Cx} {a b : Expr} {ta tb : TE} {pos : Pos}
theorem IxR.or {r r' : R2} (h : IxR X r) (h' : IxR X r') : IxR X (fun x y H Q => r x y H Q \/ r' x y H Q) := by
  intro value slice pins s σ H x y v u Q I rx ry q hs
  rcases q with q | q
  · exact h value slice pins s σ H x y v u Q I rx ry q hs
  · exact h' value slice pins s σ H x y v u Q I rx ry q hs
theorem pe_ix {r : R2} (hr : IxR X r) (ha : PE X a ta) (hb : PE X b tb) (hs : PlainIx b) : PE X (.Subscript a b pos) (tOp r ta tb) := by
  intro pins s σ H Q I h
  exact Subscript_ (binT ha hb I h fun v u s2 x y H2 I2 rx ry q => hr a b pins s2 σ H2 x y v u Q I2 rx ry q (hs _ _))
def rIxL (K : PySem.W.Frag) : R2 := fun x y H Q => ∃ p xs i v, x = .ref p /\ y = .int i /\ SqL K H p xs /\ atI xs i = some v /\ Q v H
def rIxT (K : PySem.W.Frag) : R2 := fun x y H Q => ∃ p xs i v, x = .ref p /\ y = .int i /\ SqT K H p xs /\ atI xs i = some v /\ Q v H
def rIxS : R2 := fun x y H Q => ∃ z i c, x = .str z /\ y = .int i /\ z.length <= sizeLine /\ atI z.cps.toList i = some c /\ Q (.str ⟨#[c]⟩) H
theorem ix_list : IxR X (rIxL X.K) := by
  intro value slice pins s σ H x y v u Q I rx ry h hs
  obtain ⟨p, xs, i, z, rfl, rfl, hq, he, q⟩ := h
  cases rx
  obtain ⟨t, rfl⟩ := ry
  obtain ⟨its, r, pl, hz⟩ := I.list hq
  obtain ⟨j, h1, h2, h3, h4, h5⟩ := atI_get he
  obtain ⟨w, ew, rw'⟩ := r.get h2
  have hl := r.length
  have hn := line63
  have fin : EP X pins σ Q w s := ⟨z, H, I, rw', q⟩
  by_cases h0 : 0 <= i
  · have hj : i.toNat = j := by
      rw [seqIndex_of h0 h5] at h1
      exact Option.some.inj h1
    exact item_listR pl.isList h0 (by omega) (by rw [hj]; simpa using ew) fin hs
  · have hj : (i + (its.toArray.size : Int)).toNat = j := by
      rw [seqIndex_neg (by omega) h4] at h1
      rw [List.size_toArray, ← hl]
      exact Option.some.inj h1
    exact subscriptTail_builtinR (x := w) pl.isList.typeIs slot_list_getitem.lookup
      (wpAny_getItem_list_neg (Q := fun r s' => r = w /\ EP X pins σ Q r s') pl.isList (by omega) (by rw [List.size_toArray] <;> omega) (by omega) (by rw [hj]; simpa using ew) ⟨rfl, fin⟩) hs
theorem ix_tup : IxR X (rIxT X.K) := by
  intro value slice pins s σ H x y v u Q I rx ry h hs
  obtain ⟨p, xs, i, z, rfl, rfl, hq, he, q⟩ := h
  cases rx
  obtain ⟨t, rfl⟩ := ry
  obtain ⟨its, r, pl, hz⟩ := I.tuple hq
  obtain ⟨j, h1, h2, h3, h4, h5⟩ := atI_get he
  obtain ⟨w, ew, rw'⟩ := r.get h2
  have hl := r.length
  have hn := line63
  have fin : EP X pins σ Q w s := ⟨z, H, I, rw', q⟩
  exact subscriptTail_builtinR (x := w) pl.typeIs slot_tuple_getitem.lookup
    (getItem_tuple (j := j) (Q := fun r s' => r = w /\ EP X pins σ Q r s') pl (by omega) (by omega) (by rw [List.size_toArray, ← hl]; exact h1) (by simpa using ew) ⟨rfl, fin⟩) hs
theorem ix_str : IxR X rIxS := by
  intro value slice pins s σ H x y v u Q I rx ry h hs
  obtain ⟨z, i, c, rfl, rfl, hz, he, q⟩ := h
  obtain ⟨t, rfl⟩ := rx
  obtain ⟨t', rfl⟩ := ry
  obtain ⟨j, h1, h2, h3, h4, h5⟩ := atI_get he
  have hl : z.cps.toList.length = z.length := by simp [Str.length]
  rw [hl] at h1 h4 h5
  have hn := line63
  exact tail_any (typeIs_str s z t) slot_str_getitem.lookup (getItem_str (c := c) (by
    have e1 : decide (i < -(2 ^ 63 : Int)) = false := decide_eq_false (by omega)
    have e2 : decide (i ≥ 2 ^ 63) = false := decide_eq_false (by omega)
    rw [e1, e2, Bool.or_false]) (by rw [h1]; simpa using h2) ⟨.str ⟨#[c]⟩, H, I.tok _, ⟨_, rfl⟩, q⟩) hs
def rIx (K : PySem.W.Frag) : R2 := fun x y H Q => rIxL K x y H Q \/ rIxT K x y H Q \/ rIxS x y H Q
theorem ix_seq : IxR X (rIx X.K) := ix_list.or (ix_tup.or ix_str)
theorem slice_bounds (lo hi : Option Int) (n : Nat) : (sliceBounds lo hi none n).1 = ((HT.sIx n 0 lo : Nat) : Int) /\ (sliceBounds lo hi none n).2.1 = ((HT.sIx n n hi : Nat) : Int) /\ (sliceBounds lo hi none n).2.2 = 1 := by
  refine ⟨?_, ?_, rfl⟩
  · cases lo with
    | none => simp [sliceBounds, HT.sIx]
    | some i =>
      simp only [sliceBounds, HT.sIx, Option.getD_none, show (1 : Int) > 0 by decide, if_true]
      by_cases h : i < 0
      · simp only [h, if_true] <;> omega
      · simp only [h, if_false] <;> omega
  · cases hi with
    | none => simp [sliceBounds, HT.sIx]
    | some i =>
      simp only [sliceBounds, HT.sIx, Option.getD_none, show (1 : Int) > 0 by decide, if_true]
      by_cases h : i < 0
      · simp only [h, if_true] <;> omega
      · simp only [h, if_false] <;> omega
theorem slicePick_cut (its : List Value) (lo hi : Option Int) : slicePick its.toArray lo hi none = ((its.drop (HT.sIx its.length 0 lo)).take (HT.sIx its.length its.length hi - HT.sIx its.length 0 lo)).toArray := by
  obtain ⟨h1, h2, h3⟩ := slice_bounds lo hi its.toArray.size
  unfold slicePick
  rw [h1, h2, h3]
  simp only [sliceRange_one, pick_run, List.size_toArray] <;> rfl
def rSlL (K : PySem.W.Frag) : V -> Option Int -> Option Int -> Hp -> VK -> Prop := fun x lo hi H Q => ∃ a xs, x = .ref a /\ SqL K H a xs /\ ∀ p, H p = none -> Q (.ref p) (upd H p (.lst (cutV xs lo hi)))
theorem sl_list : SlR X (rSlL X.K) := by
  intro pins s σ H x v vl vu lo hi sl Q I rx hs pl pu h
  obtain ⟨a, xs, rfl, hx, q⟩ := h
  cases rx
  obtain ⟨its, r, ht, hz⟩ := I.list hx
  have hlen := r.length
  refine ⟨"list", _, slot_list_getitem.lookup, ht.isList.typeIs, ?_⟩
  refine wpAny_getItem_list_slice ht.isList hs pl pu .none (by simp) ?_ (by rw [List.size_toArray] <;> omega)
  rw [slicePick_cut, ← hlen]
  refine ⟨.ref s.heap.objs.size, _, I.laid (t' := s.toks) (o := .lst (cutV xs lo hi)) (fun b ob q => Heap.get?_push_of_some _ q) (Nat.le_refl _) ?_, rfl, q _ (I.hok.fresh (Nat.le_refl _))⟩
  exact ⟨Nat.le_trans (cutV_length xs lo hi) hz, _, 0, (r.drop (HT.sIx xs.length 0 lo)).take (HT.sIx xs.length xs.length hi - HT.sIx xs.length 0 lo), Heap.get?_push_size _ rfl⟩
def tyV (K : PySem.W.Frag) (T : String) (x : V) (H : Hp) : Prop := match x with
  | .str _ => T = "str"
  | .int _ => T = "int"
  | .ref p => (T = "list" /\ ∃ xs, SqL K H p xs) \/ (T = "tuple" /\ ∃ o, K.lookup p = some o /\ o.cls = .type "tuple" /\ o.dict = none) \/
      (T = "dict" /\ ((∃ kvs, H p = some (.dK kvs)) \/ ∃ kvs, H p = some (.dT kvs))) \/ (T = "set" /\ ∃ S n, H p = some (.set S n))
  | _ => False
theorem tyV_is {pins : List (Addr × Obj)} {σ : St} {H : Hp} {s : Shared} {T : String} {x : V} {v : Value} (I : Inv X pins σ H s) (r : RelV x v) (ty : tyV X.K T x H) :
    s.TypeIs v T /\ ∀ a, v = .ref a -> ∃ ob, s.heap.get? a = some ob /\ ob.dict = none := by
  cases x with
  | str z =>
    obtain ⟨t, rfl⟩ := r
    cases (show T = "str" from ty)
    exact ⟨typeIs_str s z t, fun _ e => nomatch e⟩
  | int i =>
    obtain ⟨t, rfl⟩ := r
    cases (show T = "int" from ty)
    exact ⟨typeIs_int s i t, fun _ e => nomatch e⟩
  | ref p =>
    cases r
    rcases ty with ⟨rfl, xs, hq⟩ | ⟨rfl, o, hk, hc, hd⟩ | ⟨rfl, hk⟩ | ⟨rfl, S, n, hk⟩
    · obtain ⟨its, _, pl, _⟩ := I.list hq
      refine ⟨pl.isList.typeIs, fun a e => ?_⟩
      cases e
      obtain ⟨o, n, e, c, hd, _⟩ := pl
      exact ⟨o, e, hd⟩
    · refine ⟨⟨o, I.kIn p o hk, hc⟩, fun a e => ?_⟩
      cases e
      exact ⟨o, I.kIn _ o hk, hd⟩
    · have z : ∃ o, s.heap.get? p = some o /\ o.ExactDict := by
        rcases hk with ⟨kvs, hk⟩ | ⟨kvs, hk⟩
        · obtain ⟨_, _, _, _, o, _, _, e, ex, _⟩ := I.hok p _ hk
          exact ⟨o, e, ex⟩
        · obtain ⟨_, _, _, _, o, _, _, e, ex, _⟩ := I.hok p _ hk
          exact ⟨o, e, ex⟩
      obtain ⟨o, e, ex⟩ := z
      refine ⟨⟨o, e, ex.1⟩, fun a e2 => ?_⟩
      cases e2
      exact ⟨o, e, ex.2.1⟩
    · obtain ⟨o, _, _, _, e, ex, _⟩ := I.hok p _ hk
      refine ⟨⟨o, e, ex.1⟩, fun a e2 => ?_⟩
      cases e2
      exact ⟨o, e, ex.2.1⟩
  | _ => exact False.elim ty
def tBM0 (K : PySem.W.Frag) (T : String) (r : V -> List V -> Hp -> VK -> Prop) (to : TE) : TE := fun σ H Q => to σ H fun x H1 => tyV K T x H1 /\ r x [] H1 Q
def tBM (K : PySem.W.Frag) (T : String) (r : V -> List V -> Hp -> VK -> Prop) (to : TE) (t : TA) : TE := fun σ H Q => to σ H fun x H1 => tyV K T x H1 /\ t σ H1 fun xs H2 => r x xs H2 Q
variable {o e : Expr} {es : List Expr} {to : TE} {t : TA} {name : Str} {apos cpos : Pos} {T id : String} {r : V -> List V -> Hp -> VK -> Prop}
theorem pe_bm0 (pa : PlainAttrs T) (slot : Slot T name id) (hty : typeOf (.builtin id) = pure (.type "method_descriptor")) (hm : MtR X id r) (ho : PE X o to)
    (hbase : attributeBase o name X.env (eval o X.env) = eval o X.env := by rfl) (hline : (apos.endLine == cpos.line) = true := by rfl) : PE X (.Call (.Attribute o name apos) [] [] cpos) (tBM0 X.K T r to) := by
  intro pins s σ H Q I h
  refine wpAny_Call_method0_late hbase hline (thn (ho pins s σ H _ I h) fun v s1 ⟨x, H1, I1, r1, ty, q1⟩ => ?_)
  obtain ⟨h1, h2⟩ := tyV_is I1 r1 ty
  exact ⟨T, id, pa, slot, hty, h1, h2, Calls.callWith_builtin rfl (PySem.evalArgs_none (hm pins s1 σ H1 x [] v [] Q I1 r1 .nil q1))⟩
theorem pe_bm (pa : PlainAttrs T) (slot : Slot T name id) (hty : typeOf (.builtin id) = pure (.type "method_descriptor")) (hm : MtR X id r) (ho : PE X o to) (ha : PA X (e :: es) t)
    (hbase : attributeBase o name X.env (eval o X.env) = eval o X.env := by rfl)
    (hfew : ((backTo cpos (starEach (e :: es) X.env)).all (fun x => !x.1) && (backToKw cpos (keywordEach [] X.env)).all (fun x => x.1.isSome)
      && decide ((e :: es).length + ([] : List Keyword).length + (if ([] : List Keyword).isEmpty then 0 else 1) < 30)) = true := by rfl)
    (hline : (apos.endLine == cpos.line) = true := by rfl) (hs : starEach (e :: es) X.env = (false, eval e X.env) :: starEach es X.env := by rfl) (hplain : (backTo cpos (starEach es X.env)).any (·.1) = false := by rfl) :
    PE X (.Call (.Attribute o name apos) (e :: es) [] cpos) (tBM X.K T r to t) := by
  intro pins s σ H Q I h
  refine wpAny_Call_method_late hbase hfew hline rfl (thn (ho pins s σ H _ I h) fun v s1 ⟨x, H1, I1, r1, ty, q1⟩ => ?_)
  obtain ⟨h1, h2⟩ := tyV_is I1 r1 ty
  refine ⟨T, id, pa, slot, hty, h1, h2, ?_⟩
  have hA := ha cpos pins s1 σ H1 _ I1 q1
  rw [hs] at hA ⊢
  refine Calls.callWith_builtin (by show (false || (backTo cpos (starEach es X.env)).any (·.1)) = false; rw [hplain] <;> rfl) (Calls.evalArgs_plain ?_)
  exact thn hA fun us s2 ⟨vs, H2, I2, r2, q2⟩ => hm pins s2 σ H2 x vs v us Q I2 r1 r2 q2
end
end L2
namespace L2
open PySem PySem.Spec PyProof.Rows
def MtM (X : Cx) (id : String) (r : V -> List V -> Hp -> VK -> Prop) : Prop :=
  ∀ (pins : List (Addr × Obj)) (s : Shared) (σ : St) (H : Hp) (x : V) (xs : List V) (v : Value) (us : List Value) (Q : VK), Inv X pins σ H s -> RelV x v -> Vals xs us -> r x xs H Q ->
    wpAny (model X.prog X.w) X.A (call (.builtin id) (v :: us)) (EP X pins σ Q) X.xe s
theorem Vals.one : ∀ {x : V} {us : List Value}, Vals [x] us -> ∃ u, us = [u] /\ RelV x u
  | _, _, .cons r .nil => ⟨_, rfl, r⟩
theorem Vals.reverse {xs : List V} {us : List Value} (h : Vals xs us) : Vals xs.reverse us.reverse := by
  induction h with
  | nil => exact .nil
  | cons r t ih => rw [List.reverse_cons, List.reverse_cons]; exact Vals.append ih (.cons r .nil)
theorem Vals.rep {xs : List V} {us : List Value} (h : Vals xs us) : ∀ k : Nat, Vals (List.replicate k xs).flatten (List.replicate k us).flatten
  | 0 => .nil
  | k + 1 => by
    rw [List.replicate_succ, List.replicate_succ, List.flatten_cons, List.flatten_cons]
    exact Vals.append h (Vals.rep h k)
theorem foldl_rep (its : List Value) : ∀ (k : Nat) (acc : List Value),
    List.foldl (fun x1 x2 => x1 ++ x2) acc.toArray (List.replicate k its.toArray) = (acc ++ (List.replicate k its).flatten).toArray
  | 0, acc => by simp
  | k + 1, acc => by
    have e : acc.toArray ++ its.toArray = (acc ++ its).toArray := by simp
    have e2 : (acc ++ its) ++ (List.replicate k its).flatten = acc ++ (List.replicate (k + 1) its).flatten := by
      rw [List.replicate_succ, List.flatten_cons, List.append_assoc]
    rw [← e2, ← foldl_rep its k (acc ++ its), ← e, List.replicate_succ, List.foldl_cons]
section
variable {X : Cx} {pins : List (Addr × Obj)} {σ : St} {H : Hp} {s : Shared} {l b : Addr} {xs ys zs : List V}
theorem Inv.lset {its its' : List Value} {n : Nat} {f : Array Value -> Array Value} {t' : Nat} (I : Inv X pins σ H s) (hH : H l = some (.lst xs))
    (e : s.heap.get? l = some { cls := .type "list", data := .seq its.toArray n }) (hf : f its.toArray = its'.toArray) (hv : Vals ys its') (hz : ys.length <= sizeLine) :
    Inv X pins σ (upd H l (.lst ys)) { s with heap := s.heap.update l (Obj.mapSeq f), toks := t' } := by
  have q := PySem.IsL.update e f
  rw [hf] at q
  refine I.write (x := l) (e := l) (by rw [hH]; exact trivial) (.inl rfl) (fun b' u hb hu => (Heap.get?_update_other s.heap (Obj.mapSeq f) (Ne.symm hb)).trans hu) ⟨_, q⟩ ?_
  exact ⟨hz, its', _, hv, q⟩
theorem Inv.lnew {its : List Value} {t' : Nat} (I : Inv X pins σ H s) (hv : Vals ys its) (hz : ys.length <= sizeLine) :
    Inv X pins σ (upd H s.heap.objs.size (.lst ys)) { s with heap := s.heap.push { cls := .type "list", data := .seq its.toArray }, toks := t' } :=
  I.laid (fun _ _ q => Heap.get?_push_of_some _ q) (Nat.le_refl _) ⟨hz, its, 0, hv, Heap.get?_push_size _ rfl⟩
theorem Inv.fresh (I : Inv X pins σ H s) : H s.heap.objs.size = none := I.hok.fresh (Nat.le_refl _)
theorem Inv.lstM (I : Inv X pins σ H s) (hH : H l = some (.lst xs)) : xs.length <= sizeLine /\ ∃ (its : List Value) (n : Nat), Vals xs its /\ xs.length = its.length /\ s.heap.get? l = some { cls := .type "list", data := .seq its.toArray n } := by
  obtain ⟨z, its, n, r, e⟩ := I.hok l _ hH
  exact ⟨z, its, n, r, r.length, e⟩
theorem notLongL {n : Nat} (h : n <= sizeLine) : Builtin.List.listTooLong n = false := by
  unfold Builtin.List.listTooLong
  exact decide_eq_false (by omega)
end
section
variable {X : Cx}
def rAppend : V -> List V -> Hp -> VK -> Prop := fun x vs H Q => ∃ l xs y, x = .ref l /\ vs = [y] /\ H l = some (.lst xs) /\ xs.length < sizeLine /\ Q .non (upd H l (.lst (xs ++ [y])))
theorem mt_append : MtM X "list.append" rAppend := by
  intro pins s σ H x vs v us Q I rx rv h
  obtain ⟨l, xs, y, rfl, rfl, hH, hz, q⟩ := h
  cases rx
  obtain ⟨u, rfl, ru⟩ := rv.one
  obtain ⟨z, its, n, r, hl, e⟩ := I.lstM hH
  refine call_meets F.slot_list_append ⟨_, e, rfl⟩ F.entry_list_append (F.args_list_append_2 _ _) (PySem.list_append l its.toArray n u (by rw [List.size_toArray]; omega)) ⟨e, ?_⟩
  refine ⟨.non, _, I.lset (its' := its ++ [u]) hH e (by simp) (r.append (.cons ru .nil)) ?_, rfl, q⟩
  rw [List.length_append, List.length_singleton]
  omega
def rExtend : V -> List V -> Hp -> VK -> Prop := fun x vs H Q => ∃ l b xs zs, x = .ref l /\ vs = [.ref b] /\ H l = some (.lst xs) /\ H b = some (.lst zs) /\ xs.length + zs.length <= sizeLine /\ Q .non (upd H l (.lst (xs ++ zs)))
theorem mt_extend : MtM X "list.extend" rExtend := by
  intro pins s σ H x vs v us Q I rx rv h
  obtain ⟨l, b, xs, zs, rfl, rfl, hH, hB, hz, q⟩ := h
  cases rx
  obtain ⟨u, rfl, ru⟩ := rv.one
  cases ru
  obtain ⟨z, its, n, r, hl, e⟩ := I.lstM hH
  obtain ⟨z2, its2, n2, r2, hl2, e2⟩ := I.lstM hB
  have hsz : its.toArray.size + its2.toArray.size <= sizeLine := by rw [List.size_toArray, List.size_toArray]; omega
  have hlong : ¬ (!its.toArray.isEmpty && Builtin.List.listTooLong (its.toArray.size + its2.toArray.size)) = true := by
    rw [notLongL hsz, Bool.and_false]
    exact Bool.false_ne_true
  refine call_meets F.slot_list_extend ⟨_, e, rfl⟩ F.entry_list_extend (F.args_list_extend_2 _ _)
    (AutoSeq1.list_extend_list_list_0 l its.toArray n b its2.toArray n2 hlong (by rw [List.size_toArray]; omega) (by omega)) ⟨e, e2, ?_⟩
  refine ⟨.non, _, I.lset (its' := its ++ its2) hH e (by simp) (r.append r2) ?_, rfl, q⟩
  rw [List.length_append]
  omega
def rCat : R2 := fun x y H Q => ∃ l b xs zs, x = .ref l /\ y = .ref b /\ H l = some (.lst xs) /\ H b = some (.lst zs) /\ xs.length + zs.length <= sizeLine /\ ∀ p, H p = none -> Q (.ref p) (upd H p (.lst (xs ++ zs)))
theorem op_cat : OpR X (binaryOp .Add) rCat := by
  intro pins s σ H x y v u Q I rx ry h
  obtain ⟨l, b, xs, zs, rfl, rfl, hH, hB, hz, q⟩ := h
  cases rx
  cases ry
  obtain ⟨z, its, n, r, hl, e⟩ := I.lstM hH
  obtain ⟨z2, its2, n2, r2, hl2, e2⟩ := I.lstM hB
  refine PySem.P.add_list e e2 ?_ (by rw [List.size_toArray, List.size_toArray]; omega)
  have ea : its.toArray ++ its2.toArray = (its ++ its2).toArray := by simp
  rw [ea]
  exact ⟨.ref _, _, I.lnew (t' := s.toks) (r.append r2) (by rw [List.length_append]; omega), rfl, q _ I.fresh⟩
def rRep : R2 := fun x y H Q => ∃ l k xs, x = .ref l /\ y = .int k /\ H l = some (.lst xs) /\ -(2 ^ 63) <= k /\ k < 2 ^ 63 /\ xs.length * k.toNat <= sizeLine /\
  ∀ p, H p = none -> Q (.ref p) (upd H p (.lst (List.replicate k.toNat xs).flatten))
theorem len_rep {α : Type} (xs : List α) (k : Nat) : (List.replicate k xs).flatten.length = k * xs.length := by
  induction k with
  | zero => simp
  | succ k ih => rw [List.replicate_succ, List.flatten_cons, List.length_append, ih, Nat.succ_mul, Nat.add_comm]
theorem op_rep : OpR X (binaryOp .Mult) rRep := by
  intro pins s σ H x y v u Q I rx ry h
  obtain ⟨l, k, xs, rfl, rfl, hH, h1, h2, hz, q⟩ := h
  cases rx
  obtain ⟨t, rfl⟩ := ry
  obtain ⟨z, its, n, r, hl, e⟩ := I.lstM hH
  have hlen : its.toArray.size * k.toNat <= sizeLine := by rw [List.size_toArray, ← hl]; exact hz
  have hcap : ¬ its.toArray.size * k.toNat > (2 ^ 63 - 1) / 8 := by
    have : (sizeLine : Nat) <= (2 ^ 63 - 1) / 8 := by decide
    omega
  have hfit : ¬ (!Builtin.List.listFitsIndex k) = true := by
    rw [fitsIndex_both h1 h2]
    exact Bool.false_ne_true
  have hlong : ¬ Builtin.List.listTooLong (its.toArray.size * k.toNat) = true := by
    rw [notLongL hlen]
    exact Bool.false_ne_true
  have hnew : List.foldl (fun x1 x2 => x1 ++ x2) #[] (List.replicate (if its.toArray.isEmpty = true then 0 else k.toNat) its.toArray) = (List.replicate k.toNat its).flatten.toArray := by
    have f0 : ∀ m : Nat, List.foldl (fun x1 x2 => x1 ++ x2) #[] (List.replicate m its.toArray) = (List.replicate m its).flatten.toArray := fun m => by
      have := foldl_rep its m []
      rw [List.nil_append] at this
      exact this
    rw [f0]
    cases its with
    | nil => simp
    | cons a r' => rw [if_neg (by simp)]
  refine wpAny_binaryOp_repeat_ref (T := "list") (U := "int") (by decide) ⟨_, e, rfl⟩ (fun s' => typeIs_int s' k t) noFill_list_mul F.fills_int_mul F.slot_int_rmul repeat_list F.slot_int_index.lookup
    (call_meets F.slot_int_rmul (typeIs_int s k t) F.entry_int_rmul (F.args_int_rmul_2 _ _) (int___rmul___int_list k t l its.toArray n)
      ⟨e, rfl, ⟨_, e, rfl⟩, call_meets F.slot_list_mul ⟨_, e, rfl⟩ F.entry_list_mul (F.args_list_mul_2 _ _) (AutoListH.list___mul___list_int_3 l its.toArray n k t hfit hcap hlong) ⟨e, ?_⟩⟩)
  rw [hnew]
  exact ⟨.ref _, _, I.lnew (t' := s.toks) (r.rep k.toNat) (by rw [len_rep, Nat.mul_comm]; exact hz), rfl, q _ I.fresh⟩
end
section
variable {prog : Program} {w : World} {A : Around} {E : Value -> Shared -> Prop} {s : Shared}
end
section
variable {X : Cx}
end
end L2
end
section
namespace L2
open PySem PySem.Spec PyProof.Rows
section
variable {κ : Type} [DecidableEq κ]
def valV (kvs : List (κ × V)) (k : κ) : Option V := (kvs.find? fun kv => decide (kv.1 = k)).map (·.2)
def putK (kvs : List (κ × V)) (k : κ) (v : V) : List (κ × V) :=
  if (kvs.any fun kv => decide (kv.1 = k)) = true then kvs.map (fun kv => if kv.1 = k then (kv.1, v) else kv) else kvs ++ [(k, v)]
theorem valV_pos {p : κ × V} {r : List (κ × V)} {k : κ} (e : p.1 = k) : valV (p :: r) k = some p.2 := by simp [valV, List.find?_cons, e]
theorem valV_neg {p : κ × V} {r : List (κ × V)} {k : κ} (e : ¬ p.1 = k) : valV (p :: r) k = valV r k := by simp [valV, List.find?_cons, e]
theorem valV_any (k : κ) : ∀ kvs : List (κ × V), (kvs.any fun kv => decide (kv.1 = k)) = (valV kvs k).isSome
  | [] => rfl
  | p :: r => by
    rw [List.any_cons]
    by_cases e : p.1 = k
    · simp only [valV_pos e, decide_eq_true e, Bool.true_or, Option.isSome_some]
    · rw [valV_neg e, decide_eq_false e, Bool.false_or]; exact valV_any k r
theorem length_putK (kvs : List (κ × V)) (k : κ) (v : V) : (putK kvs k v).length <= kvs.length + 1 := by
  unfold putK
  split
  · rw [List.length_map]; omega
  · rw [List.length_append, List.length_cons, List.length_nil]; omega
theorem RelO.isSome_eq {o : Option V} {u : Option Value} (r : RelO o u) : o.isSome = u.isSome := by
  cases o with
  | none => cases u with
    | none => rfl
    | some _ => exact (show False from r).elim
  | some _ => cases u with
    | none => exact (show False from r).elim
    | some _ => rfl
theorem KV.val {kvs : List (κ × V)} {vs : List (κ × Value)} (r : KV kvs vs) (k : κ) : RelO (valV kvs k) (valueAt vs k) := by
  unfold KV at r
  induction r with
  | nil => exact True.intro
  | @cons p q ps qs h t ih =>
    obtain ⟨h1, h2⟩ := h
    by_cases e : p.1 = k
    · have e' : q.1 = k := h1.symm.trans e
      have b : valueAt (q :: qs) k = some q.2 := by simp [valueAt, List.find?_cons, e']
      rw [valV_pos e, b]; exact h2
    · have e' : ¬ q.1 = k := fun z => e (h1.trans z)
      have b : valueAt (q :: qs) k = valueAt qs k := by simp [valueAt, List.find?_cons, e']
      rw [valV_neg e, b]; exact ih
theorem KV.any {kvs : List (κ × V)} {vs : List (κ × Value)} (r : KV kvs vs) (k : κ) : (kvs.any fun kv => decide (kv.1 = k)) = vs.any fun kv => decide (kv.1 = k) := by
  unfold KV at r
  induction r with
  | nil => rfl
  | cons h t ih => rw [List.any_cons, List.any_cons, ih, h.1]
theorem KV.repl {kvs : List (κ × V)} {vs : List (κ × Value)} (r : KV kvs vs) (k : κ) {y : V} {u : Value} (ry : RelV y u) :
    KV (kvs.map fun kv => if kv.1 = k then (kv.1, y) else kv) (vs.map fun kv => if kv.1 = k then (kv.1, u) else kv) := by
  unfold KV at r ⊢
  induction r with
  | nil => exact .nil
  | @cons p q ps qs h t ih =>
    rw [List.map_cons, List.map_cons]
    refine .cons ?_ ih
    obtain ⟨h1, h2⟩ := h
    by_cases e : p.1 = k
    · rw [if_pos e, if_pos (h1.symm.trans e)]; exact ⟨h1, ry⟩
    · rw [if_neg e, if_neg (fun z => e (h1.trans z))]; exact ⟨h1, h2⟩
theorem KV.put {kvs : List (κ × V)} {vs : List (κ × Value)} (r : KV kvs vs) (k : κ) {y : V} {u : Value} (ry : RelV y u) : KV (putK kvs k y) (stored vs k u) := by
  unfold putK stored
  rw [r.any k]
  by_cases e : (vs.any fun kv => decide (kv.1 = k)) = true
  · rw [if_pos e, if_pos e]; exact r.repl k ry
  · rw [if_neg e, if_neg e]; exact Paired.snoc r ⟨rfl, ry⟩
theorem KV.length {kvs : List (κ × V)} {vs : List (κ × Value)} (r : KV kvs vs) : kvs.length = vs.length := Paired.length r
end
theorem kV_is {P : Program} {w : World} {k : Key} {u : Value} (r : RelV (kV k) u) : (mixKind P w).is k u = true := by
  cases k with
  | inl i => obtain ⟨t, e⟩ := (show ∃ t, u = Value.int i t from r); subst e; exact mixKind_int P w i t
  | inr x => obtain ⟨t, e⟩ := (show ∃ t, u = Value.str x t from r); subst e; exact mixKind_str P w x t
theorem items_are {P : Program} {w : World} : ∀ {ks : List Key} {us : List Value}, Vals (ks.map kV) us -> ItemsAre (mixKind P w) ks us
  | [], _, r => by rw [List.map_nil] at r; cases r; exact .nil
  | k :: ks, _, r => by
    rw [List.map_cons] at r
    cases r with
    | cons h t => exact .cons (kV_is h) (items_are t)
abbrev KT (H : Hp) : List (List Key × V) -> List (List Key × Addr × Value) -> Prop := Paired fun p q => p.1 = q.1 /\ H q.2.1 = some (.tup (p.1.map kV)) /\ RelV p.2 q.2.2
theorem KT.val {H : Hp} {kvs : List (List Key × V)} {xs : List (List Key × Addr × Value)} (r : KT H kvs xs) (k : List Key) : RelO (valV kvs k) ((atKey xs k).map (·.2)) := by
  induction r with
  | nil => exact True.intro
  | @cons p q ps qs h t ih =>
    obtain ⟨h1, _, h2⟩ := h
    by_cases e : p.1 = k
    · have e' : q.1 = k := h1.symm.trans e
      have b : atKey (q :: qs) k = some q.2 := by simp [atKey, List.find?_cons, e']
      rw [valV_pos e, b]; exact h2
    · have e' : ¬ q.1 = k := fun z => e (h1.trans z)
      have b : atKey (q :: qs) k = atKey qs k := by simp [atKey, List.find?_cons, e']
      rw [valV_neg e, b]; exact ih
theorem KT.repl {H : Hp} {kvs : List (List Key × V)} {xs : List (List Key × Addr × Value)} (r : KT H kvs xs) (k : List Key) {y : V} {u : Value} (ry : RelV y u) :
    KT H (kvs.map fun kv => if kv.1 = k then (kv.1, y) else kv) (xs.map (putAt k u)) := by
  induction r with
  | nil => exact .nil
  | @cons p q ps qs h t ih =>
    rw [List.map_cons, List.map_cons]
    refine .cons ?_ ih
    obtain ⟨h1, h2, h3⟩ := h
    unfold putAt
    by_cases e : p.1 = k
    · rw [if_pos e, if_pos (h1.symm.trans e)]; exact ⟨h1, h2, ry⟩
    · rw [if_neg e, if_neg (fun z => e (h1.trans z))]; exact ⟨h1, h2, h3⟩
theorem KT.put {H : Hp} {kvs : List (List Key × V)} {xs : List (List Key × Addr × Value)} (r : KT H kvs xs) (k : List Key) {b : Addr} {y : V} {u : Value} (hb : H b = some (.tup (k.map kV))) (ry : RelV y u) :
    KT H (putK kvs k y) (storedH xs k b u) := by
  have e : (kvs.any fun kv => decide (kv.1 = k)) = (atKey xs k).isSome := by
    rw [valV_any, (r.val k).isSome_eq, Option.isSome_map]
  unfold putK storedH
  rw [e]
  by_cases q : (atKey xs k).isSome = true
  · rw [if_pos q, if_pos q]; exact r.repl k ry
  · rw [if_neg q, if_neg q]; exact Paired.snoc r ⟨rfl, hb, ry⟩
theorem KT.keeps {H H' : Hp} {kvs : List (List Key × V)} {xs : List (List Key × Addr × Value)} (r : KT H kvs xs) (ht : ∀ b ys, H b = some (.tup ys) -> H' b = some (.tup ys)) : KT H' kvs xs :=
  Paired.mapP r fun _ _ z => ⟨z.1, ht _ _ z.2.1, z.2.2⟩
section
variable {P : Program} {w : World} {H : Hp} {h : Heap} {a : Addr}
theorem rd_of {u : HO} (ok : HOk P w H h) (e : Rd H a u) : ObjOk P w H h a u := e.ok ok
theorem dk_rd {kvs : List (Key × V)} (ok : HOk P w H h) (e : Rd H a (.dK kvs)) : kvs.length <= sizeLine /\ (a == sysModules) = false /\ ∃ vs, KV kvs vs /\ h.DictOf (mixKind P w) a vs :=
  show ObjOk P w H h a (.dK kvs) from rd_of ok e
theorem dk_of {kvs : List (Key × V)} (ok : HOk P w H h) (e : H a = some (.dK kvs)) : kvs.length <= sizeLine /\ (a == sysModules) = false /\ ∃ vs, KV kvs vs /\ h.DictOf (mixKind P w) a vs := dk_rd ok (.inl e)
theorem key_of {ks : List Key} (ok : HOk P w H h) (e : H a = some (.tup (ks.map kV))) : (tupleKind (mixKind P w)).is h ks a := by
  obtain ⟨_, its, r, o, h1, h2, n, h3⟩ := (show ObjOk P w H h a (.tup (ks.map kV)) from ok a _ e)
  exact ⟨o, its.toArray, n, h1, h2, h3, by simpa using items_are r⟩
theorem dt_rd {kvs : List (List Key × V)} (ok : HOk P w H h) (e : Rd H a (.dT kvs)) : kvs.length <= sizeLine /\ (a == sysModules) = false /\
    ∃ xs, KT H kvs xs /\ h.DictOfH (tupleKind (mixKind P w)) a xs := by
  obtain ⟨z, y, xs, r, o, es, ep, h1, h2, h3, h4, h5⟩ := (show ObjOk P w H h a (.dT kvs) from rd_of ok e)
  refine ⟨z, y, xs, r, o, es, ep, h1, h2, h3, h4, fun x hx => ?_, h5⟩
  have all : ∀ {l : List (List Key × V)} {m : List (List Key × Addr × Value)}, KT H l m -> ∀ x ∈ m, (tupleKind (mixKind P w)).is h x.1 x.2.1 := by
    intro l m q
    induction q with
    | nil => intro x hx; exact nomatch hx
    | @cons p q ps qs hq t ih =>
      intro x hx
      rcases List.mem_cons.mp hx with e | hx
      · subst e
        exact key_of ok (by rw [← hq.1]; exact hq.2.1)
      · exact ih x hx
  exact all r x hx
theorem dt_of {kvs : List (List Key × V)} (ok : HOk P w H h) (e : H a = some (.dT kvs)) : kvs.length <= sizeLine /\ (a == sysModules) = false /\
    ∃ xs, KT H kvs xs /\ h.DictOfH (tupleKind (mixKind P w)) a xs := dt_rd ok (.inl e)
end
def DPut (H : Hp) (a : Addr) (y v : V) (H' : Hp) : Prop :=
  (∃ kvs k, H a = some (.dK kvs) /\ y = kV k /\ kvs.length < sizeLine /\ H' = upd H a (.dK (putK kvs k v))) \/
  ∃ kvs k b, H a = some (.dT kvs) /\ y = .ref b /\ H b = some (.tup (k.map kV)) /\ kvs.length < sizeLine /\ H' = upd H a (.dT (putK kvs k v))
theorem DPut.k {H : Hp} {a : Addr} {kvs : List (Key × V)} {k : Key} {v : V} (e : H a = some (.dK kvs)) (hl : kvs.length < sizeLine) : DPut H a (kV k) v (upd H a (.dK (putK kvs k v))) := .inl ⟨kvs, k, e, rfl, hl, rfl⟩
theorem DPut.t {H : Hp} {a b : Addr} {kvs : List (List Key × V)} {k : List Key} {v : V} (e : H a = some (.dT kvs)) (eb : H b = some (.tup (k.map kV))) (hl : kvs.length < sizeLine) :
    DPut H a (.ref b) v (upd H a (.dT (putK kvs k v))) := .inr ⟨kvs, k, b, e, rfl, eb, hl, rfl⟩
section
variable {X : Cx} {pins : List (Addr × Obj)} {σ : St} {H : Hp} {s : Shared} {a : Addr} {y v : V} {u r : Value} {o : Option V} {A : Around} {E : Value -> Shared -> Prop}
theorem Inv.big (I : Inv X pins σ H s) : sysModules < s.heap.objs.size := by
  have h : mainGlobals < s.heap.objs.size := (I.mod.glob.keeps I.bk).lt
  exact Nat.lt_trans (by decide) h
theorem d_write {h' : Heap} {t' : Nat} {ob : HO} (I : Inv X pins σ H s) (mu : Mut (H a)) (hs : Heap.SameBut a s.heap h') (he : ∃ q, h'.get? a = some q) (new : ObjOk X.prog X.w (upd H a ob) h' a ob) :
    Inv X pins σ (upd H a ob) { s with heap := h', toks := t' } :=
  I.write (x := a) (e := a) mu (.inl rfl) (fun b q hb z => (hs.2 b hb).trans z) he new
theorem dk_new {P : Program} {w : World} {H' : Hp} {h' : Heap} {kvs : List (Key × V)} {vs : List (Key × Value)} (z : kvs.length <= sizeLine) (hd : (a == sysModules) = false) (rel : KV kvs vs) (dd : h'.DictOf (mixKind P w) a vs) :
    ObjOk P w H' h' a (.dK kvs) := ⟨z, hd, vs, rel, dd⟩
theorem d_setItem {H' : Hp} {Q : Unit -> Shared -> Prop} (hu : A.units + 1 < cLine) (I : Inv X pins σ H s) (g : DPut H a y v H') (ry : RelV y u) (rv : RelV v r) (h : ∀ s', Inv X pins σ H' s' -> Q () s') :
    wpAny (model X.prog X.w) A (setItem (.ref a) u r) Q E s := by
  rcases g with ⟨kvs, k, e, ey, l, eH⟩ | ⟨kvs, k, b, e, ey, eb, l, eH⟩
  · subst ey eH
    obtain ⟨z, hd, vs, rel, dd⟩ := dk_of I.hok e
    have hz : vs.length <= sizeLine := by rw [← rel.length]; exact z
    have hl : (putK kvs k v).length <= sizeLine := by have := length_putK kvs k v; omega
    refine wpAny_setItem_pairs (hsz := hz) (kV_is ry) dd fun h' dd' hs => h _ ?_
    have he : ∃ q, h'.get? a = some q := let ⟨q, _, _, hq, _⟩ := dd'; ⟨q, hq⟩
    exact d_write I (by rw [e]; exact True.intro) hs he (dk_new hl hd (rel.put k rv) dd')
  · subst ey eH
    cases (show u = Value.ref b from ry)
    obtain ⟨z, hd, xs, rel, dd⟩ := dt_of I.hok e
    have hz : xs.length <= sizeLine := by rw [← Paired.length rel]; exact z
    have hl : (putK kvs k v).length <= sizeLine := by have := length_putK kvs k v; omega
    refine wpAny_setItem_heap (hsz := hz) (tupleKind_room_in1 hu) (key_of I.hok eb) dd fun h' dd' hs => h _ ?_
    obtain ⟨q, es, ep, hq, h2, h3, h4, _, h5⟩ := dd'
    refine d_write I (by rw [e]; exact True.intro) hs ⟨q, hq⟩ ⟨hl, hd, _, (rel.put k eb rv).keeps fun c ys ec => ?_, q, es, ep, hq, h2, h3, h4, h5⟩
    rw [upd_ne (ne_of ec e (fun z => nomatch z))]
    exact ec
end
section
variable {X : Cx} {pins : List (Addr × Obj)} {σ : St} {H : Hp} {s : Shared} {a : Addr} {kvs : List (Key × V)} {k : Key} {u : Value} {A : Around} {E : Value -> Shared -> Prop}
theorem d_len {Q : Value -> Shared -> Prop} (I : Inv X pins σ H s) (e : Rd H a (.dK kvs)) (h : ∀ t s', Inv X pins σ H s' -> Q (.int kvs.length t) s') : wpAny (model X.prog X.w) A (call (.builtin "len") [.ref a]) Q E s := by
  obtain ⟨z, hd, vs, rel, dd⟩ := dk_rd I.hok e
  refine call_len_dict hd dd (by rw [← rel.length]; rw [sizeLine_eq] at z; omega) ?_
  rw [← rel.length]
  exact h _ _ (I.tok _)
end
def sDPut (td ty tv : TE) : TS := fun D σ H => tv σ H fun v H1 => td σ H1 fun x H2 => ty σ H2 fun y H3 => ∃ a H4, x = .ref a /\ DPut H3 a y v H4 /\ D.nx σ H4
section
variable {X : Cx} {o i e value : Expr} {pos pos' tpos : Pos} {td ty tv : TE}
theorem ps_dput (hu : X.A.units + 1 < cLine) (ho : PE X o td) (hi : PE X i ty) (hv : PE X value tv) (hs : swapsWith value (some (.Subscript o i pos')) pos.line X.env = pure false) :
    PS X (.Assign [.Subscript o i pos'] value pos) (sDPut td ty tv) := by
  intro pins s σ H D I h
  refine wpAny_Assign_Subscript (thn (hv pins s σ H _ I h) fun r s1 ⟨v, H1, I1, rv, q1⟩ => thn (ho pins s1 σ H1 _ I1 q1) fun u s2 ⟨x, H2, I2, rx, q2⟩ => thn (hi pins s2 σ H2 _ I2 q2) fun iv s3 ⟨y, H3, I3, ry, a, H4, ex, g, q3⟩ => ?_) hs
  subst ex
  obtain rfl : u = Value.ref a := rx
  exact d_setItem hu I3 g ry rv fun s4 I4 => ⟨σ, H4, I4, q3⟩
end
theorem dk_empty {P : Program} {w : World} {H : Hp} (h : Heap) (hb : sysModules < h.objs.size) : ObjOk P w H (h.push { cls := .type "dict", data := .dict #[] }) h.objs.size (.dK []) :=
  ⟨Nat.zero_le _, beq_eq_false_iff_ne.mpr (Ne.symm (Nat.ne_of_lt hb)), [], .nil, Heap.DictOf.new h⟩
def tDNewK : TE := fun _ H Q => ∀ p, H p = none -> Q (.ref p) (upd H p (.dK []))
section
variable {X : Cx} {pos : Pos}
theorem pe_dnewK : PE X (.Dict [] [] pos) tDNewK := fun pins s σ H Q I h =>
  wpAny_Dict_empty ⟨.ref s.heap.objs.size, _, I.laid (a := s.heap.objs.size) (o := .dK []) (t' := s.toks) (fun _ _ q => Heap.get?_push_of_some _ q) (Nat.le_refl _) (dk_empty s.heap I.big), rfl, h _ (I.hok.fresh (Nat.le_refl _))⟩
end
structure M1 (X : Cx) (o : Expr) (m : Str) (apos : Pos) (e : Expr) (cpos : Pos) : Prop where
  base : attributeBase o m X.env (eval o X.env) = eval o X.env
  few : ((backTo cpos (starEach [e] X.env)).all (fun x => !x.1) && (backToKw cpos (keywordEach [] X.env)).all (fun x => x.1.isSome)
    && decide (([e] : List Expr).length + ([] : List Keyword).length + (if ([] : List Keyword).isEmpty then 0 else 1) < 30)) = true
  line : (apos.endLine == cpos.line) = true
  trees : backTo cpos (starEach [e] X.env) = [(false, eval e X.env)]
structure M2 (X : Cx) (o : Expr) (m : Str) (apos : Pos) (e f : Expr) (cpos : Pos) : Prop where
  base : attributeBase o m X.env (eval o X.env) = eval o X.env
  few : ((backTo cpos (starEach [e, f] X.env)).all (fun x => !x.1) && (backToKw cpos (keywordEach [] X.env)).all (fun x => x.1.isSome)
    && decide (([e, f] : List Expr).length + ([] : List Keyword).length + (if ([] : List Keyword).isEmpty then 0 else 1) < 30)) = true
  line : (apos.endLine == cpos.line) = true
  trees : backTo cpos (starEach [e, f] X.env) = [(false, eval e X.env), (false, eval f X.env)]
section
variable {X : Cx} {pins : List (Addr × Obj)} {σ : St} {H : Hp} {s : Shared} {a : Addr} {y d : V} {u r : Value} {o : Option V} {A : Around} {E : Value -> Shared -> Prop}
end
section
variable {X : Cx} {o e f : Expr} {apos cpos : Pos} {td ty tx : TE}
end
section
variable {X : Cx} {pins : List (Addr × Obj)} {σ : St} {H : Hp} {s : Shared} {a : Addr} {kvs : List (Key × V)} {A : Around} {E : Value -> Shared -> Prop}
end
section
variable {X : Cx} {pins : List (Addr × Obj)} {σ : St} {H : Hp} {s : Shared} {a : Addr} {y : V} {u : Value} {A : Around} {E : Value -> Shared -> Prop}
end
end L2
end
section
namespace Att
open PySem PySem.W PySem.Calls PyProof.Rows
theorem ints_of_wellAll {P : Params} {h : Heap} : ∀ (ns : List Int) (vs : List Value), WellAll P h vs (ns.map WData.int) -> IntsAre vs ns := by
  intro ns
  induction ns with
  | nil =>
    intro vs w
    rw [List.map_nil] at w
    cases w
    exact .nil
  | cons n ns ih =>
    intro vs w
    rw [List.map_cons] at w
    cases w with
    | cons a b =>
      cases a
      exact .cons _ _ (ih _ b)
theorem script_of {l : OpenLaw} {n : Nat} (hn : l.most = some n) {P : Params} {h : Heap} {args : List WData} {vals : List Value}
    (hpre : l.row.toRowW.claim.pre args = true) (hwl : WellAll P h vals args) :
    ∃ a vs ns, vals = [Value.ref a] /\ args = [WData.list (ns.map WData.int)] /\ h.get? a = some { cls := .type "list", data := .seq vs.toArray } /\ IntsAre vs ns /\ ns.length <= n := by
  have hsh : WShape.hasAll [] args [.list .int] = true := (pre_splitW hpre).1
  have hc : l.pre.holds [] { args := args } = true := (pre_splitW hpre).2
  obtain ⟨d, r, rfl, h1, h2⟩ := hasAllW_cons hsh
  obtain rfl := hasAllW_nil h2
  obtain ⟨xs, rfl, h3⟩ := hasW_list h1
  obtain ⟨ns, rfl⟩ := items_int h3
  have hlen : ns.length <= n := by
    unfold OpenLaw.pre at hc
    have h4 : (WTm.not (.lt (.lit (.int (n : Int))) (.len (.arg 0)))).holds [] { args := [.list (ns.map .int)] } = true := by
      have h4 := (holds_andW hc).1
      rw [hn] at h4
      exact h4
    have h5 := condW_of h4 (w_not (w_lt w_lit (w_len_list (w_arg rfl))))
    rw [List.length_map] at h5
    refine Nat.le_of_not_lt fun q => ?_
    have q' : (n : Int) < ((ns.length : Nat) : Int) := by omega
    first
      | (rw [decide_eq_true q'] at h5; exact absurd h5 (by decide))
      | (simp at h5; omega)
  cases hwl with
  | cons w1 w2 =>
    cases w2
    cases w1 with
    | list ho hall => exact ⟨_, _, ns, rfl, rfl, ho, ints_of_wellAll ns _ hall, hlen⟩
theorem post_true (l : OpenLaw) (args : List WData) : l.row.toRowW.claim.post args (.bool true) args = true :=
  postW_of (r := l.row.toRowW) (X := (true == true))
    (show WShape.has [] (.bool true) .bool = true by first | rfl | decide | simp [WShape.has, WShape.arms, WShape.armsAll])
    (show (WTm.eq .res (.lit (.bool true))).value [] { args := args, res := some (.bool true), after := args } = some (.bool (true == true)) from w_eq_bool (w_res rfl) w_lit) rfl
theorem attach {l : OpenLaw} {n : Nat} {q : Program} {loose : List Str} {XP : (Str -> Option Value) -> Heap -> Prop} {YP : World -> Heap -> Prop} {d : DefRec} {x : Str}
    (hn : l.most = some n) (hdf : d.params.defaults = [])
    (hbind : ∀ pm cd doc v : Value, bindArgs (docDef d.name d.params d.body d.scope pm cd doc) ⟨[v], []⟩ = pure [(x, v)])
    (hx : d.scope.names.lookup x = some .local \/ d.scope.names.lookup x = some .cell)
    (hk : d.scope.kind = .function) (hco : d.scope.isCoroutine = false) (hgen : d.scope.isGenerator = false)
    (body : ∀ (w : World) (s₀ s₁ s : Shared) (mg mb : Str -> Option Value) (fa : Addr) (o : Obj) (pm cd doc : Value) (a : Addr) (vs : List Value) (ns : List Int),
      Ground q loose [] XP w s₀ mg mb s₁.heap -> YP w s₁.heap ->
      s₁.heap.get? fa = some o -> o.data = .func (docDef d.name d.params d.body d.scope pm cd doc) -> s₁.heap.CodeRec cd d.name -> mg d.name = some (.ref fa) ->
      s₁.heap.get? a = some { cls := .type "list", data := .seq vs.toArray } -> IntsAre vs ns -> ns.length <= n ->
      s.gens = #[] -> s.os = s₁.os ->
      Fr s₁.heap s₁.heap.objs.size s.heap (bindL (envOfC d.name d.scope s₁.heap.objs.size fa cd).kindOf [(x, .ref a)] fun _ => none) ->
      Cl s₁.heap.objs.size (cellsFrom (s₁.heap.objs.size + 1) d.scope.names []) s.heap (bindC (envOfC d.name d.scope s₁.heap.objs.size fa cd).kindOf [(x, .ref a)] fun _ => none) ->
      wpAny (model l.prog w) (callerA.deeper (envOfC d.name d.scope s₁.heap.objs.size fa cd)) (execs d.body (envOfC d.name d.scope s₁.heap.objs.size fa cd))
        (fun f s' => f = .ret (.bool true) /\ OldK s₁.heap s'.heap /\ s'.os = s₁.os /\ AllBare s'.gens) (fun _ _ => False) s) :
    WalkO q loose XP YP l.row.toRowW d [] (fun f vs => PySem.call f vs) := by
  intro w s₀ s₁ mg mb G Y fa o pm cd doc dV kV ho hd hcd hD hmg hg args vals as hpre hlay hrd hwl hlo
  obtain rfl : dV = .none := Dflts.none hD hdf
  obtain rfl : kV = .none := Dflts.noKw hD
  obtain ⟨a, vs, ns, rfl, rfl, hobj, hints, hlen⟩ := script_of hn hpre hwl
  refine enter_call ?_
  refine call_cells_ret (o := o) (by rw [depth_caller]; decide) ho (fd_plain hd) G.T.nolimit hcd (hbind pm cd doc (.ref a)) (fun y hy => ?_) (fun h₁ tk F X => ?_) hco hgen hk
  · obtain rfl : y = (x, Value.ref a) := List.mem_singleton.mp hy
    rcases hx with e | e
    · exact .inl e
    · exact .inr ⟨e, cellsFrom_some _ _ _ (.inl e)⟩
  · refine wpAny_mono (body w s₀ s₁ { s₁ with heap := h₁, toks := tk } mg mb fa o pm cd doc a vs ns G Y ho (fd_plain hd) hcd hmg hobj hints hlen hg rfl F X) (fun f s' hq => ?_) (fun _ _ hq => hq)
    obtain ⟨rfl, h2, h3, h4⟩ := hq
    exact ⟨.inl ⟨.bool true, .bool true, [], rfl, fun _ => rfl, .bool true, post_true l _, fun _ => ⟨List.Pairwise.nil, fun _ hm => (nomatch hm)⟩⟩, h2, h3, h4⟩
theorem attach_call {l : OpenLaw} {n : Nat} {q : Program} {loose : List Str} {XP : (Str -> Option Value) -> Heap -> Prop} {YP : World -> Heap -> Prop} {d : DefRec}
    (hn : l.most = some n) (hdf : d.params.defaults = [])
    (call : ∀ (w : World) (s₀ s₁ : Shared) (mg mb : Str -> Option Value) (fa : Addr) (o : Obj) (pm cd doc : Value) (a : Addr) (vs : List Value) (ns : List Int),
      Ground q loose [] XP w s₀ mg mb s₁.heap -> YP w s₁.heap ->
      s₁.heap.get? fa = some o -> o.data = .func (docDef d.name d.params d.body d.scope pm cd doc) -> s₁.heap.CodeRec cd d.name -> mg d.name = some (.ref fa) ->
      s₁.heap.get? a = some { cls := .type "list", data := .seq vs.toArray } -> IntsAre vs ns -> ns.length <= n -> s₁.gens = #[] ->
      codeAny (model l.prog w) callerA (.call (.ref fa) ⟨[.ref a], []⟩) (fun r s' => r = .ok (.ret (.bool true)) /\ OldK s₁.heap s'.heap /\ s'.os = s₁.os /\ AllBare s'.gens) s₁) :
    WalkO q loose XP YP l.row.toRowW d [] (fun f vs => PySem.call f vs) := by
  intro w s₀ s₁ mg mb G Y fa o pm cd doc dV kV ho hd hcd hD hmg hg args vals as hpre hlay hrd hwl hlo
  obtain rfl : dV = .none := Dflts.none hD hdf
  obtain rfl : kV = .none := Dflts.noKw hD
  obtain ⟨a, vs, ns, rfl, rfl, hobj, hints, hlen⟩ := script_of hn hpre hwl
  refine enter_call (codeAny_mono (call w s₀ s₁ mg mb fa o pm cd doc a vs ns G Y ho (fd_plain hd) hcd hmg hobj hints hlen hg) fun r s' hq => ?_)
  obtain ⟨rfl, h2, h3, h4⟩ := hq
  exact ⟨.inl ⟨.bool true, .bool true, [], rfl, fun _ => rfl, .bool true, post_true l _, fun _ => ⟨List.Pairwise.nil, fun _ hm => (nomatch hm)⟩⟩, h2, h3, h4⟩
section
variable {prog : Program} {w : World} {A : Around} {E : Value -> Shared -> Prop} {s : Shared} {K : Frag}
def ledger (h : Heap) (L d : Addr) : List (Addr × Obj) := (List.range h.objs.size).filterMap fun a => if a = L \/ a = d then none else (h.get? a).map fun o => (a, o)
end
end Att
namespace L2
open PySem PySem.Spec PyProof.Rows
theorem vals_ints : ∀ {vs : List Value} {ns : List Int}, IntsAre vs ns -> Vals (ns.map V.int) vs
  | _, _, .nil => .nil
  | _, _, .cons n t h => .cons ⟨t, rfl⟩ (vals_ints h)
def Only (H : Hp) : Prop := ∀ b, H b = none \/ ∃ o xs, H b = some (.frz o (.lst xs))
theorem law_call {P : Program} {w : World} {K : PySem.W.Frag} {mg mb : Str -> Option Value} {CX : CXT} {k : Nat} {fa a : Addr} {fd : FuncData} {x : Str} {sp : Sp} {s₁ : Shared} {vs : List Value} {ns : List Int}
    (KX : K.In s₁.heap) (hns : s₁.heap.Ns mainGlobals mg) (hb : s₁.heap.Ns builtinsNs mb) (hbb : ∀ x : Str, x ≠ "__name__" -> mb x = bootBuiltins x) (hlim : s₁.heap.NoLimit) (hg : s₁.gens = #[])
    (ha : s₁.heap.get? a = some { cls := .type "list", data := .seq vs.toArray }) (hi : IntsAre vs ns) (hl : ns.length <= sizeLine) (hr : Room k callerA)
    (F : ∀ base : Heap, K.In base -> base.Ns mainGlobals mg -> FnOk P w K mg base CX k fa fd [x] sp) (hbind : ∀ (s : Shared) (u : Value), BindsTo s fd ⟨[u], []⟩ [(x, u)])
    (hsp : ∀ H : Hp, Only H -> SqL K H a (ns.map V.int) -> sp [.ref a] H (fun v _ => v = .bl true) fun _ _ _ => False)
    (hCX : ∀ H e s', CX [] H s₁ (fun _ _ _ => False) e s' -> False) :
    codeAny (model P w) callerA (.call (.ref fa) ⟨[.ref a], []⟩) (fun r s' => r = .ok (.ret (.bool true)) /\ OldK s₁.heap s'.heap /\ s'.os = s₁.os /\ AllBare s'.gens) s₁ := by
  have rv := vals_ints hi
  have lenV := hi.length
  have core : ∀ H : Hp, Only H -> SqL K H a (ns.map V.int) -> HOk P w H s₁.heap -> (∀ b, H b ≠ none -> b = a) -> (H a ≠ none -> K.lookup a = none) ->
      codeAny (model P w) callerA (.call (.ref fa) ⟨[.ref a], []⟩) (fun r s' => r = .ok (.ret (.bool true)) /\ OldK s₁.heap s'.heap /\ s'.os = s₁.os /\ AllBare s'.gens) s₁ := by
    intro H hO hS hok hA hK
    have base_of : ∀ {b : Addr} {o : Obj}, s₁.heap.get? b = some o -> H b = none -> (hidT s₁.heap H).get? b = some o := fun e n => hidT_get e n
    have noA : ∀ {b : Addr} {o : Obj} {es : Array DictEntry} {ep : Nat}, s₁.heap.get? b = some o -> o.data = .dict es ep -> H b = none := fun {b o es ep} e d => by
      cases q : H b with
      | none => rfl
      | some u =>
        have e' : b = a := hA b (by rw [q]; simp)
        subst e'
        rw [ha] at e; cases e
        have d' : Data.seq vs.toArray _ = Data.dict es ep := d
        cases d'
    have nsK : ∀ {b : Addr} {m : Str -> Option Value}, s₁.heap.Ns b m -> (hidT s₁.heap H).Ns b m := fun {b m} ⟨o, es, ep, e, d, r⟩ => ⟨o, es, ep, base_of e (noA e d), d, r⟩
    have hKb : K.In (hidT s₁.heap H) := fun b o e => base_of (KX b o e) (by
      cases q : H b with
      | none => rfl
      | some u =>
        have e' : b = a := hA b (by rw [q]; simp)
        subst e'
        rw [hK (by rw [q]; simp)] at e; cases e)
    have hM : Mod K mg (hidT s₁.heap H) := ⟨hKb, nsK hns, ⟨mb, nsK hb, hbb⟩, let ⟨mc, h1, h2⟩ := hlim; ⟨mc, nsK h1, h2⟩⟩
    have e0 : Env0 P w K mg (hidT s₁.heap H) callerA [] s₁ H := ⟨rfl, hM, fun b o e => of_hidT e, Nat.le_of_eq (hidT_size _ _), trivial, fun b hb => absurd (show b ∈ ([] : List Addr) from hb) (by simp), hok, .of_eq hg⟩
    refine codeAny_mono ((F _ hKb (nsK hns)).run callerA [] s₁ H ⟨[.ref a], []⟩ [.ref a] [.ref a] _ _ hr e0 (hbind s₁ (.ref a)) (.cons rfl .nil) (hsp H hO hS)) fun r s' h => ?_
    cases r with
    | error e => exact (hCX H e s' h).elim
    | ok fl =>
      cases fl with
      | next => exact False.elim h
      | brk => exact False.elim h
      | cont => exact False.elim h
      | ret u =>
        obtain ⟨v, H', os, bare, un, hok', r', q⟩ := h
        have q' : v = .bl true := q
        subst q'
        obtain rfl : u = Value.bool true := r'
        refine ⟨rfl, OldK.of_keep fun b o e => ?_, os, bare⟩
        cases q : H b with
        | none => exact un.keep b o e q (by intro z; exact absurd (show b ∈ ([] : List Addr) from z) (by simp)) (by simp)
        | some u =>
          rcases hO b with z | ⟨ob, xs, z⟩
          · rw [q] at z; cases z
          · have z2 := un.frzs b ob _ z
            obtain ⟨e1, _⟩ := hok b _ z
            obtain ⟨e2, _⟩ := hok' b _ z2
            rw [e] at e1; cases e1
            exact e2
  cases hk : K.lookup a with
  | some o =>
    have e := KX a o hk
    rw [ha] at e
    cases e
    refine core (fun _ => none) (fun _ => .inl rfl) (.inr ⟨_, vs.toArray, _, hk, rfl, rfl, rfl, by rw [List.size_toArray, lenV]; exact hl, by simpa using rv⟩) (fun b u z => by have z' : (none : Option HO) = some u := z; cases z') (fun b z => absurd rfl z) fun z => absurd rfl z
  | none =>
    refine core (fun b => if b = a then some (.frz { cls := .type "list", data := .seq vs.toArray } (.lst (ns.map V.int))) else none) (fun b => ?_) (.inl (.inr ⟨{ cls := .type "list", data := .seq vs.toArray }, if_pos rfl⟩)) (fun b u z => ?_) (fun b z => ?_) fun _ => hk
    · by_cases hb : b = a
      · exact .inr ⟨_, _, if_pos hb⟩
      · exact .inl (if_neg hb)
    · by_cases hb : b = a
      · have z' := (if_pos hb).symm.trans z
        cases z'
        subst hb
        exact ⟨ha, by rw [List.length_map]; exact hl, vs, _, rv, ha⟩
      · have z' := (if_neg hb).symm.trans z
        cases z'
    · by_cases hb : b = a
      · exact hb
      · exact absurd (if_neg hb) z
end L2
namespace L2
open PySem PySem.Spec PyProof.Rows
abbrev KOf {K : PySem.W.Frag} {h : Heap} (_ : K.In h) : PySem.W.Frag := K
theorem walk_of {l : PySem.W.OpenLaw} {n k : Nat} {q : Program} {loose : List Str} {XP : (Str -> Option Value) -> Heap -> Prop} {YP : World -> Heap -> Prop} {d : DefRec} {K : Params -> PySem.W.Frag} {CX : World -> CXT} {sp : World -> Sp} {x : Str}
    (hn : l.most = some n) (hn2 : n <= sizeLine) (hdf : d.params.defaults = []) (hr : Room k callerA)
    (hY : ∀ (w : World) (h : Heap), YP w h -> (K w.params).In h)
    (F : ∀ (w : World) (mg : Str -> Option Value) (fa : Addr) (h : Heap), (K w.params).In h -> h.Ns mainGlobals mg -> mg d.name = some (.ref fa) ->
      ∃ fd : FuncData, (∀ (s : Shared) (u : Value), BindsTo s fd ⟨[u], []⟩ [(x, u)]) /\
        ∀ base : Heap, (K w.params).In base -> base.Ns mainGlobals mg -> FnOk l.prog w (K w.params) mg base (CX w) k fa fd [x] (sp w))
    (hsp : ∀ (w : World) (H : Hp) (a : Addr) (ns : List Int), ns.length <= n -> Only H -> SqL (K w.params) H a (ns.map V.int) -> sp w [.ref a] H (fun v _ => v = .bl true) fun _ _ _ => False)
    (hCX : ∀ (w : World) (H : Hp) (s : Shared) (e : Value) (s' : Shared), CX w [] H s (fun _ _ _ => False) e s' -> False) :
    PySem.W.WalkO q loose XP YP l.row.toRowW d [] (fun f vs => PySem.call f vs) := by
  refine Att.attach_call hn hdf fun w s₀ s₁ mg mb fa o pm cd doc a vs ns G Y ho hd hcd hmg hobj hints hlen hg => ?_
  have KX := hY w _ Y
  obtain ⟨fd, hb, hF⟩ := F w mg fa _ KX G.T.g hmg
  exact law_call KX G.T.g G.T.b G.T.builtins G.T.nolimit hg hobj hints (Nat.le_trans hlen hn2) hr hF hb (fun H hO hS => hsp w H a ns hlen hO hS) fun H e s' => hCX w H s₁ e s'
end L2
namespace L2
open PySem PySem.Spec PyProof.Rows
def defArgs (s : Stmt) : Arguments := match s with
  | .FunctionDef _ a _ _ _ _ _ _ _ _ => a
  | _ => { posonlyargs := [], args := [], vararg := none, kwonlyargs := [], kw_defaults := [], kwarg := none, defaults := [] }
def defBody (s : Stmt) : List Stmt := match s with
  | .FunctionDef _ _ b _ _ _ _ _ _ _ => b
  | _ => []
def defScope (s : Stmt) : Scope := match s with
  | .FunctionDef _ _ _ _ _ _ sc _ _ _ => sc
  | _ => { kind := .function, names := [], isGenerator := false, isCoroutine := false }
abbrev CX0 : CXT := fun _ _ _ _ _ _ => False
abbrev E0 : XK := fun _ _ _ => False
theorem pass0 {X : Cx} : Passes CX0 X E0 := fun _ _ _ _ _ _ _ h => h.elim
structure Fun (K : PySem.W.Frag) (x qual : Str) (st : Stmt) (f : Addr) (fd : FuncData) : Prop where
  ex : ∃ (oc : Value) (od : Option Addr) (kV doc pm : Value) (an : Option Addr) (cdv ct : Value) (osl : Array (Option Value)),
    fd = PySem.W.fnOf x qual (defArgs st) (defBody st) (defScope st) .none kV doc pm an cdv ct /\ K.lookup f = some ⟨oc, od, .func fd, osl⟩ /\ PySem.W.codeIn K cdv qual = true
  kp : PySem.W.keepIn K (.ref f) = true
section
variable {P : Program} {w : World} {K : PySem.W.Frag} {mg : Str -> Option Value} {base : Heap}
theorem Fun.ok {x qual : Str} {st : Stmt} {f : Addr} {fd : FuncData} {N ps : List Str} {k : Nat} {sp : Sp} (F : Fun K x qual st f fd) (S : FnScope N ps (defScope st)) (len : ∀ vs H Q E, sp vs H Q E -> vs.length = ps.length)
    (hbody : ∀ (cdv : Value) (A : Around) (outer : List Env) (s : Shared) (H : Hp) (vs : List V) (Q : VK) (E : XK), Room k (A.deeper (envOfC qual (defScope st) s.heap.objs.size f cdv)) -> sp vs H Q E ->
      ∃ t, PSs (cxOf CX0 P w K mg base N qual (defScope st) f cdv A outer s H E).nox (defBody st) t /\ t { nx := fun _ H' => Q .non H', rt := Q } (start N vs) H) : FnOk P w K mg base CX0 (k + 1) f fd ps sp := by
  obtain ⟨oc, od, kV, doc, pm, an, cdv, ct, osl, rfl, lk, hcd⟩ := F.ex
  refine fn_of lk hcd S len fun A outer s H vs Q E hr hsp => ?_
  obtain ⟨t, h, q⟩ := hbody cdv A outer s H vs Q E hr hsp
  exact ⟨t, h.nox, q⟩
theorem Fun.binds {x qual : Str} {st : Stmt} {f : Addr} {fd : FuncData} {ps : List Str} (F : Fun K x qual st f fd)
    (h : ∀ (kV doc pm : Value) (an : Option Addr) (cdv ct : Value) (us : List Value), us.length = ps.length -> bindArgs (PySem.W.fnOf x qual (defArgs st) (defBody st) (defScope st) .none kV doc pm an cdv ct) ⟨us, []⟩ = pure (ps.zip us)) : Binds K fd ps [] := by
  obtain ⟨oc, od, kV, doc, pm, an, cdv, ct, osl, rfl, lk, hcd⟩ := F.ex
  exact .all (h kV doc pm an cdv ct)
theorem fun_mk {x qual : Str} {st : Stmt} {f : Addr} {oc : Value} {od an : Option Addr} {osl : Array (Option Value)} {kV doc pm cdv ct : Value} (l : K.lookup f = some ⟨oc, od, .func (PySem.W.fnOf x qual (defArgs st) (defBody st) (defScope st) .none kV doc pm an cdv ct), osl⟩)
    (c : PySem.W.codeIn K cdv qual = true) (k : PySem.W.keepIn K (.ref f) = true) : Fun K x qual st f (PySem.W.fnOf x qual (defArgs st) (defBody st) (defScope st) .none kV doc pm an cdv ct) := ⟨⟨oc, od, kV, doc, pm, an, cdv, ct, osl, rfl, l, c⟩, k⟩
end
section
variable {X : Cx}
theorem call_lenD : CallR X (.builtin "len") (fun xs H Q => ∃ a kvs, xs = [V.ref a] /\ H a = some (.dK kvs) /\ Q (.int kvs.length) H) := by
  intro pins s σ H xs us Q I r h
  obtain ⟨a, kvs, rfl, ha, q⟩ := h
  obtain ⟨u, rfl, ru⟩ := vals1 r
  cases ru
  exact d_len I (.inl ha) fun t s' I' => ⟨.int kvs.length, H, I', ⟨t, rfl⟩, q⟩
end
theorem iteF {A B : Prop} (h : B) : if false = true then A else B := by
  rw [if_neg Bool.false_ne_true]
  exact h
theorem iteT {A B : Prop} (h : A) : if true = true then A else B := by
  rw [if_pos rfl]
  exact h
def Same (H H' : Hp) : Prop := ∀ b o, H b = some o -> H' b = some o
theorem Same.refl (H : Hp) : Same H H := fun _ _ h => h
theorem Same.trans {H H1 H2 : Hp} (a : Same H H1) (b : Same H1 H2) : Same H H2 := fun c o h => b c o (a c o h)
theorem Same.free {H H' : Hp} (e : Same H H') {l : Addr} (h : H' l = Option.none) : H l = Option.none := by
  cases q : H l with
  | none => rfl
  | some o =>
    rw [e l o q] at h
    cases h
theorem Same.seq {K : PySem.W.Frag} {H H' : Hp} {a : Addr} {xs : List V} (e : Same H H') (h : SqL K H a xs) : SqL K H' a xs := by
  rcases h with (h | ⟨o, h⟩) | h
  · exact .inl (.inl (e _ _ h))
  · exact .inl (.inr ⟨o, e _ _ h⟩)
  · exact .inr h
section
variable {κ : Type} [DecidableEq κ]
end
end L2
end
section
namespace L2
open PySem PySem.Spec PyProof.Rows
theorem codeAny_compLoop_gen {prog : Program} {w : World} {A : Around} {R : Result -> Shared -> Prop} {s : Shared} {elt target iter : Expr} {ifs : List Expr} {scope : Scope} {pos : Pos} {it acc : Value} {env : Env} (I : Nat -> Shared -> Prop)
    (turn : ∀ n s, I n s -> wpAny (model prog w) A (pyNext it) (fun r s₁ => match r with
      | none => R (.ok .next) s₁
      | some v => wpAny (model prog w) A (letOwnedTupleGo target it v) (fun _ s₁' => wpAny (model prog w) A (assign target env v) (fun _ s₂ =>
          wpAny (model prog w) A (forIn ifs true fun c r => if r = true then do let ok ← isTrue c env (eval c env); pure (ForInStep.yield ok) else pure (ForInStep.yield r)) (fun ok s₃ =>
            if ok = true then wpAny (model prog w) A (eval elt env) (fun x s₄ =>
              wpAny (model prog w) A (call (.builtin "list.append") [acc, x]) (fun _ s₅ => ∃ m, m < n /\ I m s₅) (fun _ _ => False) s₄) (fun _ _ => False) s₃
            else ∃ m, m < n /\ I m s₃) (fun _ _ => False) s₂) (fun _ _ => False) s₁') (fun _ _ => False) s₁) (fun _ _ => False) s)
    (n : Nat) (h : I n s) :
    codeAny (model prog w) A (.compLoop (.ListComp elt [⟨target, iter, ifs, 0⟩] scope pos) 0 it acc env) R s := by
  refine codeAny_loop rfl I (fun n s hI => ?_) n h
  show wpAny _ A ((compTurn (.ListComp elt [⟨target, iter, ifs, 0⟩] scope pos) 0 it acc env).onRaise (fun x => do noteFrame x env; theTreesLotGoes x)) _ _ s
  refine wpAny_noted ?_
  rw [compTurn_list]
  refine wpAny_bind (wpAny_standAt (wpAny_bind (wpAny_mono (turn n s hI) (fun r s₁ h₁ => ?_) fun _ _ h' => h'.elim)))
  cases r with
  | none => exact wpAny_pure h₁
  | some v =>
    refine wpAny_bind (wpAny_mono h₁ (fun _ s₁' h₁' => ?_) fun _ _ h' => h'.elim)
    refine wpAny_bind (wpAny_mono h₁' (fun _ s₂ h₂ => wpAny_bind (wpAny_mono h₂ (fun ok s₃ h₃ => ?_) fun _ _ h' => h'.elim)) fun _ _ h' => h'.elim)
    cases ok with
    | false => exact wpAny_pure ⟨rfl, h₃⟩
    | true =>
      exact wpAny_bind (wpAny_bind (wpAny_mono h₃ (fun x s₄ h₄ => wpAny_bind (wpAny_mono h₄ (fun _ s₅ h₅ => wpAny_pure (wpAny_pure ⟨rfl, h₅⟩)) fun _ _ h' => h'.elim)) fun _ _ h' => h'.elim))
def compCx (X : Cx) (N' : List Str) (scope : Scope) (cl : List (Str × Addr)) (C : Addr) (s₀ : Shared) (H₀ : Hp) (fp : List Addr) : Cx :=
  { X with N := N', s₀ := s₀, H₀ := H₀, env := compEnvC scope cl C X.env, outer := X.stack, stack := X.stack, ex := fp, fn := fun _ => false, pn := [], xe := fun _ _ => False }
def closL (env : Env) : List (Str × NameKind) -> List (Str × Addr) -> List (Str × Addr)
  | [], acc => acc
  | (n, k) :: r, acc => closL env r (if k == .free then (match env.cells.lookup n with | some c => (n, c) :: acc | none => acc) else acc)
theorem closureFor_eq {env : Env} {scope : Scope} (h : ∀ y ∈ scope.names, y.2 = .free -> ∃ c, env.cells.lookup y.1 = some c) : closureFor scope env = pure (closL env scope.names []) := by
  have all : ∀ (l : List (Str × NameKind)) (acc : List (Str × Addr)), (∀ y ∈ l, y.2 = .free -> ∃ c, env.cells.lookup y.1 = some c) ->
      (forIn l acc fun x r => match x with
        | (name, kind) => if kind == .free then do let c ← cellOf env name; pure (ForInStep.yield ((name, c) :: r)) else pure (ForInStep.yield r) : Sem (List (Str × Addr))) = pure (closL env l acc) := by
    intro l
    induction l with
    | nil => intro acc _; rfl
    | cons y r ih =>
      intro acc hl
      obtain ⟨n, k⟩ := y
      rw [List.forIn_cons]
      have hr : ∀ y ∈ r, y.2 = .free -> ∃ c, env.cells.lookup y.1 = some c := fun y hy => hl y (List.mem_cons_of_mem _ hy)
      unfold closL
      cases hk : (k == NameKind.free) with
      | false =>
        simp only [hk, Bool.false_eq_true, if_false, pure_bind]
        exact ih acc hr
      | true =>
        obtain ⟨c, hc⟩ := hl (n, k) List.mem_cons_self (by simpa using hk)
        have hc' : env.cells.lookup n = some c := hc
        simp only [hk, if_true, cellOf, hc', pure_bind]
        exact ih _ hr
  have e := all scope.names [] h
  exact Eq.trans (bind_pure _) e
theorem closL_sub {env : Env} : ∀ (l : List (Str × NameKind)) (acc : List (Str × Addr)), (∀ x c, acc.lookup x = some c -> env.cells.lookup x = some c) -> ∀ x c, (closL env l acc).lookup x = some c -> env.cells.lookup x = some c
  | [], _, h => h
  | (n, k) :: r, acc, h => by
    unfold closL
    refine closL_sub r _ ?_
    split
    · split
      · rename_i c hc
        intro x d hx
        rw [List.lookup_cons] at hx
        cases e : x == n with
        | true =>
          rw [e] at hx
          have e' : x = n := by simpa using e
          have e2 : c = d := Option.some.inj hx
          rw [e', ← e2]; exact hc
        | false => rw [e] at hx; exact h x d hx
      · exact h
    · exact h
theorem closL_keep {env : Env} : ∀ (l : List (Str × NameKind)) (acc : List (Str × Addr)) (x : Str), (acc.lookup x).isSome = true -> ((closL env l acc).lookup x).isSome = true
  | [], _, _, h => h
  | (n, k) :: r, acc, x, h => by
    unfold closL
    refine closL_keep r _ x ?_
    split
    · split
      · rw [List.lookup_cons]
        split
        · rfl
        · exact h
      · exact h
    · exact h
theorem closL_has {env : Env} : ∀ (l : List (Str × NameKind)) (acc : List (Str × Addr)) (x : Str) (c : Addr), (x, NameKind.free) ∈ l -> env.cells.lookup x = some c -> ((closL env l acc).lookup x).isSome = true
  | [], _, _, _, h, _ => nomatch h
  | (n, k) :: r, acc, x, c, h, hc => by
    unfold closL
    rcases List.mem_cons.mp h with e | h
    · injection e with e1 e2
      subst e1; subst e2
      refine closL_keep r _ _ ?_
      rw [if_pos (by rfl), hc]
      simp
    · exact closL_has r _ x c h hc
theorem lookup_relabel {env : Env} : ∀ (names : List (Str × NameKind)) (x : Str) (k' : NameKind),
    (names.map fun (n, k) => if (k == NameKind.free && env.scope.kind == .function && env.kindOf n == some .cell) then (n, NameKind.cell) else (n, k)).lookup x = some k' ->
    names.lookup x = some k' \/ (k' = .cell /\ names.lookup x = some .free)
  | [], _, _, h => by simp at h
  | (n, k) :: r, x, k', h => by
    have ih := @lookup_relabel env r x k'
    have h' : List.lookup x ((if (k == NameKind.free && env.scope.kind == .function && env.kindOf n == some .cell) = true then (n, NameKind.cell) else (n, k)) :: (r.map fun (n, k) => if (k == NameKind.free && env.scope.kind == .function && env.kindOf n == some .cell) then (n, NameKind.cell) else (n, k))) = some k' := h
    cases hx : x == n with
    | true =>
      by_cases hc : (k == NameKind.free && env.scope.kind == .function && env.kindOf n == some .cell) = true
      · rw [if_pos hc] at h'
        simp only [List.lookup_cons, hx] at h' ⊢
        have hk : k = .free := by
          simp only [Bool.and_eq_true, beq_iff_eq] at hc
          exact hc.1.1
        right
        exact ⟨(Option.some.inj h').symm, by rw [hk]⟩
      · rw [if_neg hc] at h'
        simp only [List.lookup_cons, hx] at h' ⊢
        exact .inl h'
    | false =>
      have h2 : List.lookup x (r.map fun (n, k) => if (k == NameKind.free && env.scope.kind == .function && env.kindOf n == some .cell) then (n, NameKind.cell) else (n, k)) = some k' := by
        by_cases hc : (k == NameKind.free && env.scope.kind == .function && env.kindOf n == some .cell) = true
        · rw [if_pos hc] at h'
          simpa only [List.lookup_cons, hx] using h'
        · rw [if_neg hc] at h'
          simpa only [List.lookup_cons, hx] using h'
      simp only [List.lookup_cons, hx]
      exact ih h2
structure CompScope (X : Cx) (scope : Scope) : Prop where
  kind : scope.kind = .function
  nocell : ∀ y ∈ scope.names, y.2 ≠ .cell
  names : ∀ y ∈ scope.names, y.2 = .local -> scope.names.lookup y.1 = some .local
  free : ∀ y ∈ scope.names, y.2 = .free -> X.env.kindOf y.1 = some .cell \/ X.env.kindOf y.1 = some .free
def fvSt (fv : List (Option Nat)) (σ : St) : St := fv.map fun o => o.bind fun j => (σ[j]?).join
section
variable {X : Cx} {pins : List (Addr × Obj)} {σ : St} {H : Hp} {s : Shared}
theorem comp_closure (I : Inv X pins σ H s) {scope : Scope} (S : CompScope X scope) : closureFor scope X.env = pure (closL X.env scope.names []) :=
  closureFor_eq fun y hy hf => I.ok.has y.1 (S.free y hy hf)
theorem comp_ok (I : Inv X pins σ H s) {N' : List Str} {scope : Scope} (S : CompScope X scope) {fp : List Addr} (hf : ∀ b ∈ fp, FpOk X pins H b) (hlt : ∀ b ∈ fp, b < s.heap.objs.size) {C : Addr} (hC : s.heap.objs.size <= C) :
    (compCx X N' scope (closL X.env scope.names []) C s H fp).Ok := by
  have sub := closL_sub (env := X.env) scope.names [] (fun x c h => by simp at h)
  refine ⟨I.ok.mod, S.kind, I.ok.glob, I.ok.blt, hC, fun x y c h1 h2 => I.ok.inj x y c (sub x c h1) (sub y c h2), fun x hx => ?_, fun x c h _ => by simp [compCx] at h, I.ok.hd, I.ok.frames, .inl rfl, fun b hb => ⟨?_, fun x c e => ?_⟩, I.bs, Nat.le_trans I.ok.bsz I.sz,
    fun b o e hb => ?_, fun b hb => ?_, I.stack, I.stkFree⟩
  · have hx' : ((relabel scope X.env).names.lookup x = some .cell \/ (relabel scope X.env).names.lookup x = some .free) := hx
    have hfr : scope.names.lookup x = some .free := by
      rcases hx' with h | h
      · rcases lookup_relabel _ _ _ h with h | ⟨_, h⟩
        · exact absurd rfl (S.nocell _ (PySem.mem_of_lookup h))
        · exact h
      · rcases lookup_relabel _ _ _ h with h | ⟨h, _⟩
        · exact h
        · cases h
    have hm := PySem.mem_of_lookup hfr
    obtain ⟨c, hc⟩ := I.ok.has x (S.free _ hm rfl)
    exact Option.isSome_iff_exists.mp (closL_has _ _ x c hm hc)
  · exact Nat.ne_of_lt (Nat.lt_of_lt_of_le (hlt b hb) hC)
  · exact (hf b hb).2.2.2.2.1 x c (sub x c e)
  · rcases (hf b hb).2.2.2.1 with z | z
    · exact I.ok.noex b o e z
    · exact absurd (Nat.lt_of_lt_of_le (Heap.lt_size e) I.ok.bsz) (Nat.not_lt.mpr z)
  · intro z
    rcases List.mem_cons.mp (I.stkSub b z) with e | e
    · exact (hf b hb).2.1 e
    · exact (hf b hb).2.2.1 e
theorem comp_start (I : Inv X pins σ H s) {N' : List Str} {scope : Scope} (S : CompScope X scope) {fp : List Addr} (hf : ∀ b ∈ fp, FpOk X pins H b) (hlt : ∀ b ∈ fp, b < s.heap.objs.size) {C : Addr} (hC : C = s.heap.objs.size) {fv : List (Option Nat)} (hlen : fv.length = N'.length)
    (hfv : ∀ (i j : Nat) x, N'[i]? = some x -> fv[i]? = some (some j) -> X.N[j]? = some x /\ (X.env.kindOf x = some .cell \/ X.env.kindOf x = some .free) /\ scope.names.lookup x = some .free) {h' : Heap} {t' : Nat} {m : Str -> Option Value} (hn : h'.Ns C m) (hk : ∀ b o, s.heap.get? b = some o -> h'.get? b = some o) :
    Inv (compCx X N' scope (closL X.env scope.names []) C s H fp) [] (fvSt fv σ) H { s with heap := h', toks := t' } := by
  have ok := comp_ok (N' := N') I S hf hlt (C := C) (Nat.le_of_eq hC.symm)
  have sub := closL_sub (env := X.env) scope.names [] (fun x c h => by simp at h)
  refine ⟨ok, rfl, I.bare, Un.kept hk, ⟨m, hn, fun i x v e1 e2 e3 => ?_⟩, fun x c e => ?_, ?_, fun x c e => I.freeC x c (sub x c e), fun p hp => ?_, I.hok.kept hk, ?_⟩
  · have e1' : N'[i]? = some x := e1
    have e2' : (fvSt fv σ)[i]? = some (some v) := e2
    unfold fvSt at e2'
    rw [List.getElem?_map] at e2'
    cases q : fv[i]? with
    | none => rw [q] at e2'; cases e2'
    | some o =>
      rw [q] at e2'
      cases o with
      | none => cases e2'
      | some j =>
        have e2'' : (σ[j]?).join = some v := by simpa using e2'
        obtain ⟨hN, hkk, hfree⟩ := hfv i j x e1' q
        have hσ : σ[j]? = some (some v) := by
          cases z : σ[j]? with
          | none => rw [z] at e2''; cases e2''
          | some w => rw [z] at e2''; cases w with
            | none => cases e2''
            | some w' => simp at e2''; rw [e2'']
        obtain ⟨m0, hn0, hl⟩ := I.loc
        obtain ⟨u, r, l⟩ := hl j x v hN hσ (.inr hkk)
        refine ⟨u, r, .inr ⟨?_, ?_⟩⟩
        · rcases e3 with z | z | z
          · have z' : (relabel scope X.env).names.lookup x = some .local := z
            rcases lookup_relabel _ _ _ z' with y | ⟨y, _⟩
            · rw [hfree] at y; cases y
            · cases y
          · exact .inl z
          · exact .inr z
        · rcases l with ⟨k, _⟩ | ⟨_, c, hc, hcell⟩
          · rcases hkk with y | y
            · rw [k] at y; cases y
            · rw [k] at y; cases y
          · obtain ⟨c', hc'⟩ := Option.isSome_iff_exists.mp (closL_has scope.names [] x c (PySem.mem_of_lookup hfree) hc)
            have e := sub x c' hc'
            rw [hc] at e
            cases e
            obtain ⟨oc, ho, hd⟩ := hcell
            exact ⟨c, hc', oc, hk _ _ ho, hd⟩
  · obtain ⟨v, oc, ho, hd⟩ := I.cell x c (sub x c e)
    exact ⟨v, oc, hk _ _ ho, hd⟩
  · exact I.hok.fresh (Nat.le_of_eq hC.symm)
  · exact absurd (show p ∈ ([] : List (Addr × Obj)) from hp) (by simp)
  · show (fvSt fv σ).length = N'.length
    unfold fvSt
    rw [List.length_map, hlen]
theorem comp_end (I : Inv X pins σ H s) {N' : List Str} {scope : Scope} {cl : List (Str × Addr)} {fp : List Addr} (hf : ∀ b ∈ fp, FpOk X pins H b) {C : Addr} (hC : s.heap.objs.size <= C) {σ' : St} {H' : Hp} {s' : Shared} {pl : List (Addr × Obj)}
    (J : Inv (compCx X N' scope cl C s H fp) pl σ' H' s') {h' : Heap} (hs : Heap.SameBut C s'.heap h') : Inv X pins σ H' { s' with heap := h' } := by
  have hCn : H' C = none := J.free
  refine I.call' (ch := fp) (s' := { s' with heap := h' }) J.os ?_ ?_ J.bare fun b hb => ⟨(hf b hb).2.2.2.1, (hf b hb).2.1, (hf b hb).2.2.2.2.1, (hf b hb).2.2.2.2.2⟩
  · have U : Un (frs X.stack) fp H H' s.heap s'.heap := J.base
    have neC : ∀ b o, s.heap.get? b = some o -> b ≠ C := fun b o e => Nat.ne_of_lt (Nat.lt_of_lt_of_le (Heap.lt_size e) hC)
    refine ⟨fun b o e n h1 h2 => ?_, fun b o e n h1 h2 => ?_, U.free, fun b o e h2 => ?_, U.tups, U.frzs, U.tbls⟩
    · exact (hs.2 b (neC b o e)).trans (U.keep b o e n h1 h2)
    · obtain ⟨sl, q⟩ := U.slot b o e n h1 h2
      exact ⟨sl, (hs.2 b (neC b o e)).trans q⟩
    · obtain ⟨o', q⟩ := U.there b o e h2
      exact ⟨o', (hs.2 b (neC b o e)).trans q⟩
  · intro b u e
    refine (J.hok b u e).stay (fun c v hc q => (hs.2 c ?_).trans q) (fun _ q => q) fun _ _ q => q
    rintro rfl
    rcases hc with z | z
    · rw [← z, hCn] at e; cases e
    · rw [hCn] at z; cases z
end
end L2
end
section
namespace L2
open PySem PySem.Spec PyProof.Rows
def PTs (X : Cx) (es : List Expr) (t : TT) : Prop :=
  ∀ (pins : List (Addr × Obj)) (s : Shared) (σ : St) (H : Hp) (Q : Bool -> Hp -> Prop), Inv X pins σ H s -> t σ H Q ->
    wpAny (model X.prog X.w) X.A (forIn es true fun c r => if r = true then do let ok ← isTrue c X.env (eval c X.env); pure (ForInStep.yield ok) else pure (ForInStep.yield r)) (TP X pins σ Q) X.xe s
def tTrue : TT := fun _ H Q => Q true H
theorem pts_nil {X : Cx} : PTs X [] tTrue := fun _ _ _ H _ I h => wpAny_tests_nil ⟨H, I, h⟩
def LcW (J : It) (g : TG) (tc : TT) (te : TE) (acc : Addr) (Q : V -> Hp -> Prop) (σ0 : St) (H1 : Hp) : Prop :=
  ∃ W : Nat -> Nat -> List V -> St -> Hp -> Prop, (∃ m, W 0 m [] σ0 (upd H1 acc (.lst []))) /\ ∀ i m ys σ' H', W i m ys σ' H' -> H' acc = some (.lst ys) /\
    ((J.stop i H' /\ Q (.ref acc) H') \/ (J.go i H' /\ ∀ x H2, J.yld i H' x H2 -> g x σ' H2 fun σ2 H3 => tc σ2 H3 fun b H4 =>
      if b = true then te σ2 H4 fun v H5 => H5 acc = some (.lst ys) /\ ys.length < sizeLine /\ ∃ m', m' < m /\ W (i + 1) m' (ys ++ [v]) σ2 (upd H5 acc (.lst (ys ++ [v])))
      else ∃ m', m' < m /\ W (i + 1) m' ys σ2 H4))
def tLC (wi : TI) (g : TG) (tc : TT) (te : TE) (fv : List (Option Nat)) : TE := fun σ H Q => wi σ H fun J H1 => ∀ acc, H1 acc = none -> LcW J g tc te acc Q (fvSt fv σ) H1
def PB (X : Cx) (N' : List Str) (scope : Scope) (tg : Expr) (ifs : List Expr) (elt : Expr) (g : TG) (tc : TT) (te : TE) : Prop :=
  ∀ (cl : List (Str × Addr)) (C : Addr) (s₀ : Shared) (H₀ : Hp) (fp : List Addr), PG (compCx X N' scope cl C s₀ H₀ fp) tg g /\ PTs (compCx X N' scope cl C s₀ H₀ fp) ifs tc /\ PE (compCx X N' scope cl C s₀ H₀ fp) elt te
structure FvOk (X : Cx) (N' : List Str) (scope : Scope) (fv : List (Option Nat)) : Prop where
  len : fv.length = N'.length
  at' : ∀ (i j : Nat) x, N'[i]? = some x -> fv[i]? = some (some j) -> X.N[j]? = some x /\ (X.env.kindOf x = some .cell \/ X.env.kindOf x = some .free) /\ scope.names.lookup x = some .free
section
variable {X : Cx} {elt tg iter : Expr} {ifs : List Expr} {scope : Scope} {pos : Pos} {N' : List Str} {fv : List (Option Nat)} {g : TG} {tc : TT} {te : TE}
theorem comp_run {pins : List (Addr × Obj)} {σ : St} {H1 : Hp} {s2 : Shared} {it : Addr} {fp : List Addr} {tn : Nat -> Heap -> Prop} {J : It} {Q : VK} {RR : Value -> Addr -> Result -> Shared -> Prop} (hc : X.calm = true) (S : CompScope X scope) (F : FvOk X N' scope fv) (hb : PB X N' scope tg ifs elt g tc te)
    (I2 : Inv X pins σ H1 s2) (T : Turn X.prog X.w X.K tg J fp it tn) (st2 : tn 0 s2.heap) (f2 : ∀ b ∈ fp, FpOk X pins H1 b) (q : ∀ acc, H1 acc = none -> LcW J g tc te acc Q (fvSt fv σ) H1)
    (hRR : ∀ (a C : Addr) (H' : Hp) (s' : Shared) (m : Str -> Option Value), s'.heap.Ns C m -> (∀ h', Heap.SameBut C s'.heap h' -> Inv X pins σ H' { s' with heap := h' }) -> FpOk X pins H' C -> Q (.ref a) H' -> RR (.ref a) C (.ok .next) s') :
    wpAny (model X.prog X.w) X.A (newList []) (fun acc s₃ => wpAny (model X.prog X.w) X.A (newFunctionEnv scope X.env.globals (closL X.env scope.names []) [] X.env.qual none .none (some X.env)) (fun cenv s₄ =>
      codeAny (model X.prog X.w) X.A (.compStart (.ListComp elt [⟨tg, iter, ifs, 0⟩] scope pos) 0 (.ref it) acc { cenv with scope := relabel scope X.env }) (RR acc cenv.locals) s₄) X.xe s₃) X.xe s2 := by
  refine wpAny_newObj_type ?_
  have hacc : H1 s2.heap.objs.size = none := I2.fresh
  have I3 : Inv X pins σ (upd H1 s2.heap.objs.size (.lst [])) { s2 with heap := s2.heap.push { cls := .type "list", data := .seq ([] : List Value).toArray } } := I2.lnew (t' := s2.toks) .nil (Nat.zero_le _)
  generalize hs3 : ({ s2 with heap := s2.heap.push { cls := .type "list", data := .seq ([] : List Value).toArray } } : Shared) = s3 at I3 ⊢
  have up : ∀ b o, s2.heap.get? b = some o -> s3.heap.get? b = some o := fun b o e => by rw [← hs3]; exact Heap.get?_push_of_some _ e
  have lt2 : ∀ b ∈ fp, b < s2.heap.objs.size := fun b hb => by
    obtain ⟨o, e, _⟩ := T.obj 0 _ st2 b hb
    exact Heap.lt_size e
  have sz3 : s2.heap.objs.size < s3.heap.objs.size := by rw [← hs3]; show _ < (s2.heap.push _).objs.size; rw [Heap.size_push]; exact Nat.lt_succ_self _
  have lt3 : ∀ b ∈ fp, b < s3.heap.objs.size := fun b hb => Nat.lt_trans (lt2 b hb) sz3
  have f3 : ∀ b ∈ fp, FpOk X pins (upd H1 s2.heap.objs.size (.lst [])) b := fun b hb => ⟨by rw [upd_ne (Nat.ne_of_lt (lt2 b hb))]; exact (f2 b hb).1, (f2 b hb).2⟩
  have st3 : tn 0 s3.heap := T.keep _ _ _ st2 fun b _ o e => up b o e
  refine wpAny_newFunctionEnv S.nocell (by intro y hy; simp at hy) (fun h4 hn4 sb4 => ?_) S.kind
  have k4 : ∀ b o, s3.heap.get? b = some o -> h4.get? b = some o := fun b o e => (sb4.2 b (Nat.ne_of_lt (Heap.lt_size e))).trans (Heap.get?_push_of_some _ e)
  have st4 : tn 0 h4 := T.keep _ _ _ st3 fun b _ o e => k4 b o e
  have I4 := comp_start I3 S f3 lt3 (C := s3.heap.objs.size) rfl F.len F.at' hn4 k4 (t' := s3.toks + ([] : List (Str × Value)).length)
  generalize hX : compCx X N' scope (closL X.env scope.names []) s3.heap.objs.size s3 (upd H1 s2.heap.objs.size (.lst [])) fp = X' at I4
  obtain ⟨bg, bt, be⟩ := hb (closL X.env scope.names []) s3.heap.objs.size s3 (upd H1 s2.heap.objs.size (.lst [])) fp
  rw [hX] at bg bt be
  have hprog : X'.prog = X.prog := by rw [← hX]; rfl
  have hw : X'.w = X.w := by rw [← hX]; rfl
  have hK : X'.K = X.K := by rw [← hX]; rfl
  have hA : X'.A = X.A := by rw [← hX]; rfl
  have hcalm : X'.calm = true := by rw [← hX]; exact hc
  have hxe : X'.xe = fun _ _ => False := by rw [← hX]; rfl
  have henv : X'.env = compEnvC scope (closL X.env scope.names []) s3.heap.objs.size X.env := by rw [← hX]; rfl
  have stat : ∀ {H' : Hp}, (∀ b ∈ fp, H' b = none) -> ∀ b ∈ fp, FpOk X' [] H' b := fun {H'} hn b hb => by
    have f := f3 b hb
    have ok := I4.ok
    refine ⟨hn b hb, (ok.exf b (by rw [← hX]; exact hb)).1, ok.exfs b (by rw [← hX]; exact hb), .inl (by rw [← hX]; exact hb), fun x c e => (ok.exf b (by rw [← hX]; exact hb)).2 x c e, fun p hp => ?_⟩
    rw [← hX] at hp
    exact absurd (show p ∈ ([] : List (Addr × Obj)) from hp) (by simp)
  obtain ⟨W, ⟨m0, w0⟩, turn⟩ := q s2.heap.objs.size hacc
  have loop : ∀ s5 : Shared, s5 = { s3 with heap := h4, toks := s3.toks + ([] : List (Str × Value)).length } ->
      codeAny (model X.prog X.w) X.A (.compLoop (.ListComp elt [⟨tg, iter, ifs, 0⟩] scope pos) 0 (.ref it) (.ref s2.heap.objs.size) (compEnvC scope (closL X.env scope.names []) s3.heap.objs.size X.env))
        (RR (.ref s2.heap.objs.size) s3.heap.objs.size) s5 := by
    intro s5 hs5
    refine codeAny_compLoop_gen (fun n s' => ∃ i ys σ' H', Inv X' [] σ' H' s' /\ tn i s'.heap /\ (∀ b ∈ fp, H' b = none) /\ W i n ys σ' H') ?_ m0 ⟨0, [], fvSt fv σ, _, hs5 ▸ I4, hs5 ▸ st4, fun b hb => (f3 b hb).1, w0⟩
    rintro n s6 ⟨i, ys, σ6, H6, I6, st6, fr6, w6⟩
    obtain ⟨ha6, turn6⟩ := turn i n ys σ6 H6 w6
    rw [← henv]
    rcases turn6 with ⟨stop, qn⟩ | ⟨go, step⟩
    · have d := T.done X' hprog hw hK hcalm i [] s6 σ6 H6 (fun _ _ => False) I6 (stat fr6) st6 stop
      rw [hA] at d
      refine thn d fun r s7 ⟨hr, I7⟩ => ?_
      subst hr
      obtain ⟨m7, hn7, _⟩ := I7.loc
      have hl : X'.env.locals = s3.heap.objs.size := by rw [henv]; rfl
      refine hRR _ _ H6 s7 m7 (hl ▸ hn7) (fun h' hs' => ?_) ?_ qn
      · rw [← hX] at I7
        exact comp_end I3 f3 (Nat.le_refl _) I7 hs'
      · exact I3.fpOk (Nat.le_refl _) (by have := I7.free; rw [hl] at this; exact this)
    · have d := T.item X' hprog hw hK hcalm i [] s6 σ6 H6 (fun _ _ => False) I6 (stat fr6) st6 go
      rw [hA] at d
      refine thn d fun r s7 ⟨u, hr, h7⟩ => ?_
      subst hr
      refine thn h7 fun _ s8 ⟨x, H8, I8, r8, y8, st8, fr8⟩ => ?_
      have I8' := I8.pinned (stat fr8) (T.obj _ _ st8)
      have dg := bg _ s8 σ6 H8 x u _ I8' r8 (step x H8 y8)
      rw [hprog, hw, hA, hxe] at dg
      refine thn dg fun _ s9 ⟨σ9, H9, I9, q9⟩ => ?_
      have dt := bt _ s9 σ9 H9 _ I9 q9
      rw [hprog, hw, hA, hxe] at dt
      refine thn dt fun b s10 ⟨H10, I10, q10⟩ => ?_
      have again : ∀ {σ7 : St} {H7 : Hp} {s7 : Shared} {ys' : List V}, Inv X' ([] ++ pinsAt fp s8.heap) σ7 H7 s7 -> (∃ m', m' < n /\ W (i + 1) m' ys' σ7 H7) -> ∃ m, m < n /\ ∃ i ys σ' H', Inv X' [] σ' H' s7 /\ tn i s7.heap /\ (∀ b ∈ fp, H' b = none) /\ W i m ys σ' H' := fun {σ7 H7 s7 ys'} I7 n7 => by
        obtain ⟨m', hm, w7⟩ := n7
        refine ⟨m', hm, i + 1, ys', σ7, H7, I7.unpinned, T.keep _ _ _ st8 fun b hb o e => (I7.pin (b, o) (List.mem_append_right _ (List.mem_append_right _ (mem_pinsAt hb e)))).1, fun b hb => ?_, w7⟩
        obtain ⟨o, e, _⟩ := T.obj _ _ st8 b hb
        exact (I7.pin (b, o) (List.mem_append_right _ (List.mem_append_right _ (mem_pinsAt hb e)))).2.1
      cases b with
      | false =>
        rw [if_neg Bool.false_ne_true] at q10 ⊢
        exact again I10 q10
      | true =>
        rw [if_pos rfl] at q10 ⊢
        have de := be _ s10 σ9 H10 _ I10 q10
        rw [hprog, hw, hA, hxe] at de
        refine thn de fun v s11 ⟨y, H11, I11, r11, ha11, hz11, n11⟩ => ?_
        have da := mt_append _ s11 σ9 H11 (.ref s2.heap.objs.size) [y] (.ref s2.heap.objs.size) [v] (fun _ H' => H' = upd H11 s2.heap.objs.size (.lst (ys ++ [y]))) I11 rfl (.cons r11 .nil) ⟨_, ys, y, rfl, rfl, ha11, hz11, rfl⟩
        rw [hprog, hw, hA, hxe] at da
        refine thn da fun _ s12 ⟨_, H12, I12, _, e12⟩ => ?_
        subst e12
        exact again I12 n11
  exact codeAny_compStart_list (loop _ rfl) (T.self _ 0 _ _ _ st4 (loop _ rfl))
theorem pe_lc {wi : TI} (hc : X.calm = true) (S : CompScope X scope) (F : FvOk X N' scope fv) (hi : PI X tg iter wi) (hb : PB X N' scope tg ifs elt g tc te) (hs : ∀ x, foldedSetIterable iter X.env x = pure x := by intro _; rfl) :
    PE X (.ListComp elt [⟨tg, iter, ifs, 0⟩] scope pos) (tLC wi g tc te fv) := by
  intro pins s σ H Q I h
  rw [eval_ListComp]
  refine wpAny_comprehension_free (use := none) rfl hs (comp_closure I S) S.kind S.names (thn (hi pins s σ H _ I h) fun x s1 h1 => thn h1 fun itv s2 h2 => ?_)
  obtain ⟨it, fp, tn, J, H1, e, I2, T, st2, f2, q⟩ := h2
  subst e
  refine comp_run (RR := fun acc C => compPost (model X.prog X.w) X.A X.xe none (EP X pins σ Q) acc C) hc S F hb I2 T st2 f2 q ?_
  intro a C H' s' m hn hI hCL hq
  exact ⟨m, hn, fun h' hs' => ⟨.ref a, H', hI h' hs', rfl, hq⟩⟩
theorem ps_lc {wi : TI} {i : Nat} {y : Str} {py spos : Pos} (hN : X.N.Nodup) (hy : X.N[i]? = some y) (hyl : X.env.scope.names.lookup y = some .local) (hc : X.calm = true) (S : CompScope X scope) (F : FvOk X N' scope fv) (hi : PI X tg iter wi) (hb : PB X N' scope tg ifs elt g tc te)
    (hsw : swapsWith (.ListComp elt [⟨tg, iter, ifs, 0⟩] scope pos) (some (.Name y py)) spos.line X.env = pure true)
    (hs : ∀ x, foldedSetIterable iter X.env x = pure x := by intro _; rfl) :
    PS X (.Assign [.Name y py] (.ListComp elt [⟨tg, iter, ifs, 0⟩] scope pos) spos) (tAsg (tLC wi g tc te fv) (gName i)) := by
  intro pins s σ H D I h
  rw [exec_Assign_Name_used _ _ _ _ hsw]
  refine wpAny_bind (wpAny_standAt (wpAny_bind ?_))
  show wpAny _ _ (do let _ ← comprehension (.ListComp elt [⟨tg, iter, ifs, 0⟩] scope pos) scope X.env _ (newList []) false (eval iter X.env) (some (assign (.Name y py) X.env))) _ _ s
  refine wpAny_bind (wpAny_mono (wpAny_comprehension_free (use := some (assign (.Name y py) X.env)) (Q := fun _ s' => SP X pins D .next s') rfl hs (comp_closure I S) S.kind S.names
    (thn (hi pins s σ H _ I h) fun x s1 h1 => thn h1 fun itv s2 h2 => ?_)) (fun _ s' hq => wpAny_pure (wpAny_pure hq)) fun _ _ e => e)
  obtain ⟨it, fp, tn, J, H1, e, I2, T, st2, f2, q⟩ := h2
  subst e
  refine comp_run (RR := fun acc C => compPost (model X.prog X.w) X.A X.xe (some (assign (.Name y py) X.env)) (fun _ s' => SP X pins D .next s') acc C) hc S F hb I2 T st2 f2 q ?_
  intro a C H' s' m hn hI hCL hq
  show wpAny _ _ (assign (.Name y py) X.env (.ref a)) _ _ _
  have I' : Inv X pins σ H' s' := hI s'.heap (Heap.SameBut.refl _ _)
  refine wpAny_assign_Name ?_
  refine store_ok2 (v := .ref a) I' hN hy (.inl hyl) rfl (fun s'' I'' hch => ?_) (.inr hyl)
  obtain ⟨ad, hsb, had⟩ := hch
  obtain ⟨f0, f1, f2', f3, f4, f5⟩ := hCL
  have hne : C ≠ ad := by
    rcases had with z | z
    · rw [z]; exact f1
    · exact fun e => f4 y ad z e.symm
  refine ⟨m, hn.sameBut hsb hne, fun h' hs' => ?_⟩
  exact ⟨_, H', I''.turned (t' := s''.toks) (fun b o hb e => (hs'.2 b hb).trans e) f0 f1 f3 f4 f5, hq⟩
end
end L2
end
section
namespace L2
open PySem PySem.Spec PyProof.Rows
def Its (x : Str) : It := ⟨fun i _ => i < x.cps.size, fun i H v H' => H' = H /\ ∃ c, x.cps[i]? = some c /\ v = .str ⟨#[c]⟩, fun i _ => i = x.cps.size⟩
theorem go_name {M : Model} {A : Around} {E : Value -> Shared -> Prop} {s : Shared} {n : Str} {p : Pos} {it : Value} {u : Value} {Q : Unit -> Shared -> Prop} (hQ : Q () s) : wpAny M A (letOwnedTupleGo (.Name n p) it u) Q E s := wpAny_pure hQ
theorem turn_str {P : Program} {w : World} {K : PySem.W.Frag} {n : Str} {p : Pos} {ty : String} (it : Addr) (x : Str) (t : Tok)
    (W : ∀ A : Around, A.handled = none -> Walks P w A it [it] [it] x.cps.size (SignAt x) (fun i h => h.IsStrIter it ty x t i))
    (sf : ∀ (A : Around) (i : Nat) (s : Shared) (Q : Value -> Shared -> Prop) (E : Value -> Shared -> Prop), s.heap.IsStrIter it ty x t i -> Q (.ref it) s -> wpAny (model P w) A (pyIter (.ref it)) Q E s) : Turn P w K (.Name n p) (Its x) [it] it (fun i h => h.IsStrIter it ty x t i) where
  mem := by simp
  obj := fun i h st b hb => by
    have e : b = it := by simpa using hb
    subst e
    obtain ⟨o, e, c, d⟩ := st
    exact ⟨o, e, fun v z => by rw [d] at z; cases z⟩
  keep := fun i h h' st k => by
    obtain ⟨o, e, r⟩ := st
    exact ⟨o, k it (by simp) o e, r⟩
  item := by
    intro X hP hw hK hc i pins s σ H E I hf st hg
    subst hP hw hK
    obtain ⟨f0, f1, f2, f3, f4, f5⟩ := hf it (by simp)
    refine (W X.A (I.ok.hd hc)).item i s _ _ hg st fun v h' tk hv st' kk => ?_
    obtain ⟨c, u, hcc, rfl⟩ := hv
    have I1 : Inv X pins σ H { s with heap := h', toks := tk } := I.turned (fun b o hb e => kk b o (by simpa using hb) e) f0 f1 f3 f4 f5
    exact ⟨_, rfl, go_name ⟨.str ⟨#[c]⟩, H, I1, ⟨_, rfl⟩, ⟨rfl, c, hcc, rfl⟩, st', fun b hb => (hf b hb).1⟩⟩
  done := by
    intro X hP hw hK hc i pins s σ H E I hf st hg
    subst hP hw hK
    obtain ⟨f0, f1, f2, f3, f4, f5⟩ := hf it (by simp)
    have hi : i = x.cps.size := hg
    subst hi
    exact (W X.A (I.ok.hd hc)).done s _ _ st fun h' tk kk => ⟨rfl, I.turned (fun b o hb e => kk b o (by simpa using hb) e) f0 f1 f3 f4 f5⟩
  self := sf
def iStr (te : TE) : TI := fun σ H R => te σ H fun v H1 => ∃ x, v = .str x /\ R (Its x) H1
theorem pi_str {X : Cx} {e : Expr} {te : TE} {n : Str} {p : Pos} (he : PE X e te) : PI X (.Name n p) e (iStr te) := by
  intro pins s σ H R I h
  refine thn (he pins s σ H _ I h) fun v s1 ⟨y, H1, I1, r1, q1⟩ => ?_
  obtain ⟨x, e, q⟩ := q1
  subst e
  obtain ⟨t, rfl⟩ := r1
  have fin : ∀ (ty : String) (o : Obj), (s1.heap.push o).IsStrIter s1.heap.objs.size ty x t 0 -> Turn X.prog X.w X.K (.Name n p) (Its x) [s1.heap.objs.size] s1.heap.objs.size (fun i h => h.IsStrIter s1.heap.objs.size ty x t i) ->
      PIE X pins σ (.Name n p) R (.ref s1.heap.objs.size) { s1 with heap := s1.heap.push o } := fun ty o st T => by
    refine ⟨s1.heap.objs.size, [s1.heap.objs.size], _, _, H1, rfl, I1.kept (t' := s1.toks) fun b o e => Heap.get?_push_of_some _ e, T, st, fun b hb => ?_, q⟩
    have e : b = s1.heap.objs.size := by simpa using hb
    subst e
    exact I1.fpOk (Nat.le_refl _) (I1.hok.fresh (Nat.le_refl _))
  cases ha : x.cps.all (· < 128)
  · exact wpAny_pyIter_wide ha (fin _ _ ⟨_, Heap.get?_push_size _ rfl, rfl, rfl⟩ (turn_str _ x t (fun A' hA => Walks.strWide hA _ x t) fun _ _ _ _ _ st h => wpAny_pyIter_striter_wide st h))
  · exact wpAny_pyIter_ascii ha (fin _ _ ⟨_, Heap.get?_push_size _ rfl, rfl, rfl⟩ (turn_str _ x t (fun A' hA => Walks.strAscii hA _ x t) fun _ _ _ _ _ st h => wpAny_pyIter_striter_ascii st h))
def Ite (K : PySem.W.Frag) (a : Addr) : It :=
  ⟨fun i H => ∃ xs x, SqL K H a xs /\ xs[i]? = some x, fun i H v H' => ∃ T x, v = .ref T /\ H T = none /\ H' = upd H T (.tup [.int i, x]) /\ ∀ xs, SqL K H a xs -> xs[i]? = some x, fun i H => ∃ xs, SqL K H a xs /\ xs.length <= i⟩
theorem turn_enum {P : Program} {w : World} {K : PySem.W.Frag} {elts : List Expr} {k1 : Nat} {pos : Pos} (e it a : Addr) (hei : e ≠ it) :
    Turn P w K (.Tuple elts k1 pos) (Ite K a) [e, it] e (fun i h => (∃ old, IsEnum h e it i old) /\ h.IsListIter it a i) where
  mem := by simp
  obj := fun i h st b hb => by
    obtain ⟨⟨old, he⟩, o, ho, c, d⟩ := st
    rcases List.mem_cons.mp hb with z | z
    · subst z
      exact ⟨_, he, fun v z => by cases z⟩
    · have z' : b = it := by simpa using z
      subst z'
      exact ⟨o, ho, fun v z => by rw [d] at z; cases z⟩
  keep := fun i h h' st k => by
    obtain ⟨⟨old, he⟩, hi⟩ := st
    exact ⟨⟨old, k e (by simp) _ he⟩, hi.at fun o x => k it (by simp) o x⟩
  item := by
    intro X hP hw hK hc i pins s σ H E I hf st hg
    subst hP hw hK
    obtain ⟨xs, x, hq, hx⟩ := hg
    obtain ⟨its, rv, p, hz⟩ := I.list hq
    obtain ⟨u, hu, ru⟩ := rv.get hx
    obtain ⟨⟨old, he⟩, hit⟩ := st
    obtain ⟨e0, e1, e2, e3, e4, e5⟩ := hf e (by simp)
    obtain ⟨f0, f1, f2, f3, f4, f5⟩ := hf it (by simp)
    have helt : e < s.heap.objs.size := Heap.lt_size he
    have hilt : it < s.heap.objs.size := by obtain ⟨_, x, _⟩ := hit; exact Heap.lt_size x
    refine wpAny_pyNext_enum_item he hit p.isList (x := u) (by simpa using hu) hei fun h' ho hit' hT hsz hk => ?_
    refine ⟨_, rfl, wpAny_letOwnedTupleGo_enum ho fun h2 he2 hs2 => ?_⟩
    have hs2' : Heap.SameBut e h' h2 := hs2
    have kk : ∀ b o, b ≠ e -> b ≠ it -> s.heap.get? b = some o -> h2.get? b = some o := fun b o h1 h3 q => (hs2'.2 b h1).trans (hk b o h1 h3 q)
    have hT2 : h2.get? s.heap.objs.size = some { cls := .type "tuple", data := .seq #[.int i s.toks, u] } := (hs2'.2 _ (Nat.ne_of_gt helt)).trans hT
    have nH : H s.heap.objs.size = none := I.fresh
    have I1 : Inv X pins σ (upd H s.heap.objs.size (.tup [.int i, x])) { s with heap := h2, toks := s.toks + 1 } := by
      have ne : ∀ b o, H b = some o -> b ≠ e /\ b ≠ it := fun b o q => ⟨fun z => (by rw [z, e0] at q; cases q), fun z => (by rw [z, f0] at q; cases q)⟩
      refine I.step (g' := s.gens) (d' := s.drawn) (ch := [e, it]) (fun b hb => ?_) (fun b o _ _ hc q _ => kk b o (fun z => hc (by simp [z])) (fun z => hc (by simp [z])) q) (fun b o _ _ hc q _ => ⟨o.slots, kk b o (fun z => hc (by simp [z])) (fun z => hc (by simp [z])) q⟩) (fun b o _ q n => ?_)
        (fun b o hc q => ⟨o, kk b o (fun z => hc (by simp [z])) (fun z => hc (by simp [z])) q⟩) (fun b ys q => ?_) (fun b o y q => ?_) (fun b ps q => ⟨#[], ?_⟩) (fun m hm => ?_) (fun b v q => ?_) I.bare
      · rcases List.mem_cons.mp hb with z | z
        · subst z; exact ⟨e3, e1, e4, e5⟩
        · have z' : b = it := by simpa using z
          subst z'; exact ⟨f3, f1, f4, f5⟩
      · rw [upd_ne (Nat.ne_of_lt (Heap.lt_size q))]; exact n
      · rw [upd_ne (ne_of_none q nH)]; exact q
      · rw [upd_ne (ne_of_none q nH)]; exact q
      · rw [upd_ne (ne_of_none q nH), q]; simp
      · obtain ⟨o, es, ep, q, r⟩ := hm
        exact ⟨o, es, ep, kk _ o (Ne.symm e1) (Ne.symm f1) q, r⟩
      · by_cases hb : b = s.heap.objs.size
        · subst hb
          rw [upd_same] at q
          cases q
          exact ⟨by show 2 <= sizeLine; decide, [.int i s.toks, u], .cons ⟨_, rfl⟩ (.cons ru .nil), ⟨_, hT2, rfl, _, rfl⟩⟩
        · rw [upd_ne hb] at q
          refine (I.hok b v q).stay (fun c v hc r => ?_) (fun c r => by rw [upd_ne (ne_of_none r nH)]; exact r) fun c ys r => by rw [upd_ne (ne_of_none r nH)]; exact r
          rcases hc with z | z
          · rw [z] at r ⊢; exact kk b v (ne b _ q).1 (ne b _ q).2 r
          · exact kk c v (ne c _ z).1 (ne c _ z).2 r
    refine ⟨.ref s.heap.objs.size, _, I1, rfl, ⟨_, x, rfl, nH, rfl, fun ys hy => by rw [I.list_inj hy hq]; exact hx⟩, ⟨⟨_, by simpa using he2⟩, hit'.at fun o y => (hs2'.2 it hei.symm).trans y⟩, fun b hb => ?_⟩
    rcases List.mem_cons.mp hb with z | z
    · subst z; rw [upd_ne (Nat.ne_of_lt helt)]; exact e0
    · have z' : b = it := by simpa using z
      subst z'; rw [upd_ne (Nat.ne_of_lt hilt)]; exact f0
  done := by
    intro X hP hw hK hc i pins s σ H E I hf st hg
    subst hP hw hK
    obtain ⟨xs, hq, hx⟩ := hg
    obtain ⟨its, rv, p, hz⟩ := I.list hq
    obtain ⟨⟨old, he⟩, hit⟩ := st
    obtain ⟨f0, f1, f2, f3, f4, f5⟩ := hf it (by simp)
    have hl := rv.length
    exact wpAny_pyNext_enum_end (I.ok.hd hc) he hit p.isList (by simp; omega) fun h' eb => ⟨rfl, I.turned (t' := s.toks) (fun b o hb e => eb b o hb e) f0 f1 f3 f4 f5⟩
  self := fun A i s Q E st h => by
    obtain ⟨⟨old, he⟩, _⟩ := st
    exact wpAny_pyIter_enum he h
def iEnum (K : PySem.W.Frag) (ta : TA) : TI := fun σ H R => ta σ H fun vs H1 => ∃ a, vs = [.ref a] /\ (∃ xs, SqL K H1 a xs) /\ R (Ite K a) H1
theorem pi_enum {X : Cx} {a : Expr} {ta : TA} {p pos : Pos} {elts : List Expr} {k1 : Nat} {tpos : Pos} (hg : Gl X "enumerate") (hm : X.mg "enumerate" = none) (ha : PA X [a] ta) (hs : starEach [a] X.env = [(false, eval a X.env)] := by rfl) :
    PI X (.Tuple elts k1 tpos) (.Call (.Name "enumerate" p) [a] [] pos) (iEnum X.K ta) := by
  intro pins s σ H R I h
  refine Call_ (ld_blt I hg hm PyProof.Rows.boot_enumerate (PyProof.Rows.callWith_type1 (thn (ha pos pins s σ H _ I h) fun us s1 ⟨vs, H1, I1, r1, q1⟩ => ?_) hs rfl))
  obtain ⟨l, e, ⟨xs, hq⟩, q⟩ := q1
  subst e
  obtain ⟨u, rfl, r2⟩ := vals1 r1
  cases r2
  obtain ⟨its, rv, pl, hz⟩ := I1.list hq
  refine call_enumerate_list pl.isList fun h' he hit hsz hk => ?_
  have I2 : Inv X pins σ H1 { s1 with heap := h' } := I1.kept (t' := s1.toks) hk
  refine wpAny_pyIter_enum he ?_
  refine ⟨s1.heap.objs.size + 1, [s1.heap.objs.size + 1, s1.heap.objs.size], _, _, H1, rfl, I2, turn_enum _ _ l (Nat.succ_ne_self _), ⟨⟨_, he⟩, hit⟩, fun b hb => ?_, q⟩
  rcases List.mem_cons.mp hb with z | z
  · subst z; exact I1.fpOk (Nat.le_succ _) (I1.hok.fresh (Nat.le_succ _))
  · have z' : b = s1.heap.objs.size := by simpa using z
    subst z'; exact I1.fpOk (Nat.le_refl _) (I1.hok.fresh (Nat.le_refl _))
end L2
end
section
namespace L2
open PySem PySem.Spec PyProof.Rows
inductive D where
  | non | bl (b : Bool) | int (i : Int) | str (x : Str) | tup (l : List D) | lst (l : List D) | scr (ns : List Int)
  | dk (l : List (Key × D)) | dt (l : List (List Key × D)) | ins (c : Str) (fs : List (Str × D)) | ty (n : String)
structure Cn where
  cls : Str -> Option Addr
  self : Option Addr := none
mutual
inductive Rep (Γ : Cn) (K : PySem.W.Frag) (G : Hp) : V -> D -> Prop where
  | non : Rep Γ K G .non .non
  | bl (b : Bool) : Rep Γ K G (.bl b) (.bl b)
  | int (i : Int) : Rep Γ K G (.int i) (.int i)
  | str (x : Str) : Rep Γ K G (.str x) (.str x)
  | ty (n : String) : Rep Γ K G (.ty n) (.ty n)
  | tup {a : Addr} {vs : List V} {ds : List D} : G a = some (.tup vs) -> Reps Γ K G vs ds -> Rep Γ K G (.ref a) (.tup ds)
  | lst {a : Addr} {vs : List V} {ds : List D} : G a = some (.lst vs) -> Reps Γ K G vs ds -> Rep Γ K G (.ref a) (.lst ds)
  | scr {a : Addr} {ns : List Int} : SqL K G a (ns.map V.int) -> Rep Γ K G (.ref a) (.scr ns)
  | dk {a : Addr} {us : List (Key × V)} {kvs : List (Key × D)} : G a = some (.dK us) -> us.map (·.1) = kvs.map (·.1) -> Reps Γ K G (us.map (·.2)) (kvs.map (·.2)) -> Rep Γ K G (.ref a) (.dk kvs)
  | dt {a : Addr} {us : List (List Key × V)} {kvs : List (List Key × D)} : G a = some (.dT us) -> us.map (·.1) = kvs.map (·.1) -> Reps Γ K G (us.map (·.2)) (kvs.map (·.2)) -> Rep Γ K G (.ref a) (.dt kvs)
  | ins {a C dx : Addr} {c : Str} {us : List (Str × V)} {fs : List (Str × D)} : G a = some (.ins C dx us) -> Γ.cls c = some C -> us.map (·.1) = fs.map (·.1) -> Reps Γ K G (us.map (·.2)) (fs.map (·.2)) -> Rep Γ K G (.ref a) (.ins c fs)
inductive Reps (Γ : Cn) (K : PySem.W.Frag) (G : Hp) : List V -> List D -> Prop where
  | nil : Reps Γ K G [] []
  | cons {v : V} {d : D} {vs : List V} {ds : List D} : Rep Γ K G v d -> Reps Γ K G vs ds -> Reps Γ K G (v :: vs) (d :: ds)
end
section
variable {Γ : Cn} {K : PySem.W.Frag} {G G' G1 H H' H1 H2 G2 : Hp}
mutual
theorem Rep.mono : ∀ {v : V} {d : D}, Rep Γ K G v d -> Same G G' -> Rep Γ K G' v d
  | _, _, .non, _ => .non
  | _, _, .bl b, _ => .bl b
  | _, _, .int i, _ => .int i
  | _, _, .str x, _ => .str x
  | _, _, .ty x, _ => .ty x
  | _, _, .tup h r, s => .tup (s _ _ h) (r.mono s)
  | _, _, .lst h r, s => .lst (s _ _ h) (r.mono s)
  | _, _, .scr h, s => .scr (s.seq h)
  | _, _, .dk h e r, s => .dk (s _ _ h) e (r.mono s)
  | _, _, .dt h e r, s => .dt (s _ _ h) e (r.mono s)
  | _, _, .ins h c e r, s => .ins (s _ _ h) c e (r.mono s)
theorem Reps.mono : ∀ {vs : List V} {ds : List D}, Reps Γ K G vs ds -> Same G G' -> Reps Γ K G' vs ds
  | _, _, .nil, _ => .nil
  | _, _, .cons h r, s => .cons (h.mono s) (r.mono s)
end
mutual
theorem Rep.re {Γ' : Cn} (hc : Γ'.cls = Γ.cls) : ∀ {v : V} {d : D}, Rep Γ K G v d -> Rep Γ' K G v d
  | _, _, .non => .non
  | _, _, .bl b => .bl b
  | _, _, .int i => .int i
  | _, _, .str x => .str x
  | _, _, .ty x => .ty x
  | _, _, .tup h r => .tup h (r.re hc)
  | _, _, .lst h r => .lst h (r.re hc)
  | _, _, .scr h => .scr h
  | _, _, .dk h e r => .dk h e (r.re hc)
  | _, _, .dt h e r => .dt h e (r.re hc)
  | _, _, .ins h c e r => .ins h (by rw [hc]; exact c) e (r.re hc)
theorem Reps.re {Γ' : Cn} (hc : Γ'.cls = Γ.cls) : ∀ {vs : List V} {ds : List D}, Reps Γ K G vs ds -> Reps Γ' K G vs ds
  | _, _, .nil => .nil
  | _, _, .cons h r => .cons (h.re hc) (r.re hc)
end
theorem Reps.length : ∀ {vs : List V} {ds : List D}, Reps Γ K G vs ds -> vs.length = ds.length
  | _, _, .nil => rfl
  | _, _, .cons _ r => by rw [List.length_cons, List.length_cons, r.length]
theorem Reps.get : ∀ {vs : List V} {ds : List D} {i : Nat} {d : D}, Reps Γ K G vs ds -> ds[i]? = some d -> ∃ v, vs[i]? = some v /\ Rep Γ K G v d
  | _, _, _, _, .nil, e => by simp at e
  | _, _, 0, _, .cons r _, e => by simp at e; subst e; exact ⟨_, rfl, r⟩
  | _, _, i + 1, d, .cons _ t, e => by
    obtain ⟨u, h1, h2⟩ := Reps.get (i := i) (d := d) t (by simpa using e)
    exact ⟨u, by simpa using h1, h2⟩
theorem Reps.append : ∀ {vs ws : List V} {ds es : List D}, Reps Γ K G vs ds -> Reps Γ K G ws es -> Reps Γ K G (vs ++ ws) (ds ++ es)
  | _, _, _, _, .nil, s => s
  | _, _, _, _, .cons r t, s => .cons r (t.append s)
theorem Reps.take : ∀ {vs : List V} {ds : List D} (n : Nat), Reps Γ K G vs ds -> Reps Γ K G (vs.take n) (ds.take n)
  | _, _, 0, _ => .nil
  | _, _, _ + 1, .nil => .nil
  | _, _, n + 1, .cons r t => .cons r (t.take n)
theorem Reps.drop : ∀ {vs : List V} {ds : List D} (n : Nat), Reps Γ K G vs ds -> Reps Γ K G (vs.drop n) (ds.drop n)
  | _, _, 0, r => r
  | _, _, _ + 1, .nil => .nil
  | _, _, n + 1, .cons _ t => t.drop n
theorem Reps.ints : ∀ (ns : List Int), Reps Γ K G (ns.map V.int) (ns.map D.int)
  | [] => .nil
  | n :: r => .cons (.int n) (Reps.ints r)
theorem Reps.rep {vs : List V} {ds : List D} (h : Reps Γ K G vs ds) : ∀ k : Nat, Reps Γ K G (List.replicate k vs).flatten (List.replicate k ds).flatten
  | 0 => .nil
  | k + 1 => by
    rw [List.replicate_succ, List.replicate_succ, List.flatten_cons, List.flatten_cons]
    exact h.append (Reps.rep h k)
structure Step (G H G' H' : Hp) : Prop where
  hh : Same H H'
  gg : Same G G'
  gh : Same G' H'
  out : ∀ a o, H a = some o -> G' a = G a
theorem Step.refl (gh : Same G H) : Step G H G H := ⟨.refl _, .refl _, gh, fun _ _ _ => rfl⟩
theorem Step.trans (a : Step G H G1 H1) (b : Step G1 H1 G2 H2) : Step G H G2 H2 :=
  ⟨a.hh.trans b.hh, a.gg.trans b.gg, b.gh, fun c o e => (b.out c o (a.hh c o e)).trans (a.out c o e)⟩
theorem Step.new {p : Addr} {o : HO} (gh : Same G H) (hp : H p = none) : Step G H (upd G p o) (upd H p o) := by
  have gp : G p = none := gh.free hp
  refine ⟨fun b u e => ?_, fun b u e => ?_, fun b u e => ?_, fun b u e => ?_⟩
  · rw [upd_ne (ne_of_none e hp)]; exact e
  · rw [upd_ne (ne_of_none e gp)]; exact e
  · by_cases hb : b = p
    · subst hb; rw [upd_same] at e ⊢; exact e
    · rw [upd_ne hb] at e ⊢; exact gh b u e
  · rw [upd_ne (ne_of_none e hp)]
theorem Step.newOwn {p : Addr} {o : HO} (gh : Same G H) (hp : H p = none) : Step G H G (upd H p o) := by
  refine ⟨fun b u e => ?_, .refl _, fun b u e => ?_, fun _ _ _ => rfl⟩
  · rw [upd_ne (ne_of_none e hp)]; exact e
  · rw [upd_ne (ne_of_none (gh b u e) hp)]; exact gh b u e
end
inductive Slot where
  | sh (d : D)
  | own (ds : List D)
  | obj (c : Str) (fs : List (Str × D))
  | objd (c : Str) (fs : List (Str × D)) (n : Str) (kvs : List (Key × D))
  | odk (kvs : List (Key × D))
  | odt (kvs : List (List Key × D))
  | tlo (ds es : List D)
  | pin (a : Addr)
abbrev Env' := List (Option Slot)
def flatD : D -> Bool
  | .non => true
  | .bl _ => true
  | .int _ => true
  | .str _ => true
  | _ => false
inductive SR (Γ : Cn) (K : PySem.W.Frag) (H₀ G H : Hp) : Slot -> V -> List Addr -> Prop where
  | sh {d : D} {v : V} : Rep Γ K G v d -> SR Γ K H₀ G H (.sh d) v []
  | own {a : Addr} {vs : List V} {ds : List D} : H₀ a = none -> G a = none -> H a = some (.lst vs) -> Reps Γ K G vs ds -> SR Γ K H₀ G H (.own ds) (.ref a) [a]
  | obj {c : Str} {a C dx : Addr} {vs : List (Str × V)} {fs : List (Str × D)} : Γ.cls c = some C -> H₀ a = none -> G a = none -> H a = some (.ins C dx vs) -> vs.map (·.1) = fs.map (·.1) -> Reps Γ K G (vs.map (·.2)) (fs.map (·.2)) -> Γ.self = some a -> SR Γ K H₀ G H (.obj c fs) (.ref a) [a]
  | objd {c n : Str} {a C dx p : Addr} {vs : List (Str × V)} {fs : List (Str × D)} {us : List (Key × V)} {kvs : List (Key × D)} : Γ.cls c = some C -> H₀ a = none -> G a = none -> H a = some (.ins C dx (vs ++ [(n, .ref p)])) -> vs.map (·.1) = fs.map (·.1) -> Reps Γ K G (vs.map (·.2)) (fs.map (·.2)) ->
      H₀ p = none -> G p = none -> H p = some (.dK us) -> us.map (·.1) = kvs.map (·.1) -> Reps Γ K G (us.map (·.2)) (kvs.map (·.2)) -> Γ.self = some a -> SR Γ K H₀ G H (.objd c fs n kvs) (.ref a) [a, p]
  | odk {a : Addr} {us : List (Key × V)} {kvs : List (Key × D)} : H₀ a = none -> G a = none -> H a = some (.dK us) -> us.map (·.1) = kvs.map (·.1) -> Reps Γ K G (us.map (·.2)) (kvs.map (·.2)) -> SR Γ K H₀ G H (.odk kvs) (.ref a) [a]
  | odt {a : Addr} {us : List (List Key × V)} {kvs : List (List Key × D)} : H₀ a = none -> G a = none -> H a = some (.dT us) -> us.map (·.1) = kvs.map (·.1) -> Reps Γ K G (us.map (·.2)) (kvs.map (·.2)) -> SR Γ K H₀ G H (.odt kvs) (.ref a) [a]
  | tlo {t p : Addr} {vs ws : List V} {ds es : List D} : H₀ p = none -> G p = none -> H p = some (.lst ws) -> G t = some (.tup (vs ++ [.ref p])) -> Reps Γ K G vs ds -> Reps Γ K G ws es -> SR Γ K H₀ G H (.tlo ds es) (.ref t) [p]
  | pin (a : Addr) : SR Γ K H₀ G H (.pin a) (.ref a) []
section
variable {Γ : Cn} {K : PySem.W.Frag} {H₀ G G' H H' : Hp} {s : Slot} {v : V} {fp : List Addr}
theorem SR.fpt (r : SR Γ K H₀ G H s v fp) : ∀ b ∈ fp, H₀ b = none /\ G b = none /\ ∃ o, H b = some o := by
  cases r with
  | sh r => intro b hb; cases hb
  | own h1 h2 h3 _ => intro b hb; rw [List.mem_singleton.mp hb]; exact ⟨h1, h2, _, h3⟩
  | obj _ h1 h2 h3 _ _ _ => intro b hb; rw [List.mem_singleton.mp hb]; exact ⟨h1, h2, _, h3⟩
  | objd _ h1 h2 h3 _ _ q1 q2 q3 _ _ _ =>
    intro b hb
    rcases List.mem_cons.mp hb with rfl | hb
    · exact ⟨h1, h2, _, h3⟩
    · rw [List.mem_singleton.mp hb]; exact ⟨q1, q2, _, q3⟩
  | odk h1 h2 h3 _ _ => intro b hb; rw [List.mem_singleton.mp hb]; exact ⟨h1, h2, _, h3⟩
  | odt h1 h2 h3 _ _ => intro b hb; rw [List.mem_singleton.mp hb]; exact ⟨h1, h2, _, h3⟩
  | tlo h1 h2 h3 _ _ _ => intro b hb; rw [List.mem_singleton.mp hb]; exact ⟨h1, h2, _, h3⟩
  | pin a => intro b hb; cases hb
theorem SR.stay (r : SR Γ K H₀ G H s v fp) (gg : Same G G') (hg : ∀ b ∈ fp, G' b = none) (hh : ∀ b ∈ fp, H' b = H b) : SR Γ K H₀ G' H' s v fp := by
  cases r with
  | sh r => exact .sh (r.mono gg)
  | own h1 h2 h3 h4 => exact .own h1 (hg _ (List.mem_singleton.mpr rfl)) ((hh _ (List.mem_singleton.mpr rfl)).trans h3) (h4.mono gg)
  | obj c h1 h2 h3 h4 h5 hs => exact .obj c h1 (hg _ (List.mem_singleton.mpr rfl)) ((hh _ (List.mem_singleton.mpr rfl)).trans h3) h4 (h5.mono gg) hs
  | objd c h1 h2 h3 h4 h5 q1 q2 q3 q4 q5 hs =>
    exact .objd c h1 (hg _ List.mem_cons_self) ((hh _ List.mem_cons_self).trans h3) h4 (h5.mono gg) q1 (hg _ (List.mem_cons_of_mem _ List.mem_cons_self)) ((hh _ (List.mem_cons_of_mem _ List.mem_cons_self)).trans q3) q4 (q5.mono gg) hs
  | odk h1 h2 h3 h4 h5 => exact .odk h1 (hg _ (List.mem_singleton.mpr rfl)) ((hh _ (List.mem_singleton.mpr rfl)).trans h3) h4 (h5.mono gg)
  | odt h1 h2 h3 h4 h5 => exact .odt h1 (hg _ (List.mem_singleton.mpr rfl)) ((hh _ (List.mem_singleton.mpr rfl)).trans h3) h4 (h5.mono gg)
  | pin a => exact .pin a
  | tlo h1 h2 h3 h4 h5 h6 => exact .tlo h1 (hg _ (List.mem_singleton.mpr rfl)) ((hh _ (List.mem_singleton.mpr rfl)).trans h3) (gg _ _ h4) (h5.mono gg) (h6.mono gg)
theorem SR.stepS (r : SR Γ K H₀ G H s v fp) (t : Step G H G' H') : SR Γ K H₀ G' H' s v fp := r.stay t.gg (fun b hb => by
  obtain ⟨_, h2, o, h3⟩ := r.fpt b hb
  exact (t.out b o h3).trans h2) (fun b hb => by
  obtain ⟨_, _, o, h3⟩ := r.fpt b hb
  rw [h3]; exact t.hh b o h3)
end
theorem SR.uniq {Γ : Cn} {K : PySem.W.Frag} {H₀ G H : Hp} {s : Slot} {v : V} {fp fq : List Addr} (r : SR Γ K H₀ G H s v fp) (q : SR Γ K H₀ G H s v fq) : fp = fq := by
  cases r with
  | sh r => cases q; rfl
  | own h1 h2 h3 _ => cases q; rfl
  | obj _ h1 h2 h3 _ _ _ => cases q; rfl
  | objd _ h1 h2 h3 _ _ q1 q2 q3 _ _ _ =>
    cases q with
    | objd _ _ _ k3 _ _ _ _ _ _ _ _ =>
      rw [h3] at k3
      have z := (HO.ins.inj (Option.some.inj k3)).2.2
      have z2 := (List.append_inj' z rfl).2
      cases z2
      rfl
  | odk h1 h2 h3 _ _ => cases q; rfl
  | odt h1 h2 h3 _ _ => cases q; rfl
  | pin a => cases q; rfl
  | tlo _ _ _ h4 _ _ =>
    cases q with
    | tlo _ _ _ k4 _ _ =>
      rw [h4] at k4
      have z := HO.tup.inj (Option.some.inj k4)
      have z2 := (List.append_inj' z rfl).2
      cases z2
      rfl
structure EnvRel (Γ : Cn) (K : PySem.W.Frag) (H₀ G H : Hp) (ρ : Env') (σ : St) : Prop where
  len : ρ.length = σ.length
  sl : ∃ fps : Nat -> List Addr, (∀ (i : Nat) s, ρ[i]? = some (some s) -> ∃ v, σ[i]? = some (some v) /\ SR Γ K H₀ G H s v (fps i)) /\
    ∀ (i j : Nat) s t, i ≠ j -> ρ[i]? = some (some s) -> ρ[j]? = some (some t) -> ∀ b ∈ fps i, b ∉ fps j
structure At (Γ : Cn) (K : PySem.W.Frag) (G₀ H₀ G H : Hp) (ρ : Env') (σ : St) : Prop where
  st : Step G₀ H₀ G H
  env : EnvRel Γ K H₀ G H ρ σ
def NoOwn (ρ : Env') : Prop := ∀ (i : Nat) s, ρ[i]? = some (some s) -> ∃ d, s = .sh d
section
variable {Γ : Cn} {K : PySem.W.Frag} {G₀ H₀ G G' H H' : Hp} {ρ : Env'} {σ : St}
theorem EnvRel.ofSh (len : ρ.length = σ.length) (no : NoOwn ρ) (sh : ∀ (i : Nat) d, ρ[i]? = some (some (.sh d)) -> ∃ v, σ[i]? = some (some v) /\ Rep Γ K G v d) : EnvRel Γ K H₀ G H ρ σ :=
  ⟨len, fun _ => [], fun i s e => by
    obtain ⟨d, rfl⟩ := no i s e
    obtain ⟨v, h1, h2⟩ := sh i d e
    exact ⟨v, h1, .sh h2⟩, fun _ _ _ _ _ _ _ b hb => by cases hb⟩
theorem EnvRel.sh (E : EnvRel Γ K H₀ G H ρ σ) (i : Nat) (d : D) (e : ρ[i]? = some (some (.sh d))) : ∃ v, σ[i]? = some (some v) /\ Rep Γ K G v d := by
  obtain ⟨fps, h, _⟩ := E.sl
  obtain ⟨v, h1, h2⟩ := h i _ e
  generalize fps i = fp at h2
  cases h2 with
  | sh r => exact ⟨v, h1, r⟩
theorem At.gh (A : At Γ K G₀ H₀ G H ρ σ) : Same G H := A.st.gh
theorem At.step (A : At Γ K G₀ H₀ G H ρ σ) (s : Step G H G' H') : At Γ K G₀ H₀ G' H' ρ σ := by
  obtain ⟨fps, h, ap⟩ := A.env.sl
  exact ⟨A.st.trans s, A.env.len, fps, fun i t e => by
    obtain ⟨v, h1, h2⟩ := h i t e
    exact ⟨v, h1, h2.stepS s⟩, ap⟩
theorem At.put (A : At Γ K G₀ H₀ G H ρ σ) {i : Nat} {s' : Slot} {v' : V} {fp fp' : List Addr}
    (hfp : fp = [] \/ ∃ s v, ρ[i]? = some (some s) /\ σ[i]? = some (some v) /\ SR Γ K H₀ G H s v fp)
    (hH : ∀ b o, H b = some o -> b ∉ fp -> H' b = some o) (hS : SR Γ K H₀ G' H' s' v' fp') (hn : ∀ b ∈ fp', b ∈ fp \/ H b = none)
    (gg : Same G G') (gh : Same G' H') (out : ∀ b o, H b = some o -> b ∉ fp -> G' b = G b) (out2 : ∀ b ∈ fp, H₀ b = none) : At Γ K G₀ H₀ G' H' (ρ.set i (some s')) (σ.set i (some v')) := by
  obtain ⟨fps, h, ap⟩ := A.env.sl
  have hl := A.env.len
  have old : ∀ b ∈ fp, ∀ j t, j ≠ i -> ρ[j]? = some (some t) -> b ∉ fps j := fun b hb j t hj e => by
    rcases hfp with rfl | ⟨s, v, h1, h2, h3⟩
    · cases hb
    · obtain ⟨v2, h4, h5⟩ := h i s h1
      rw [h2] at h4
      cases h4
      have efp : fp = fps i := h3.uniq h5
      subst efp
      exact ap i j s t (Ne.symm hj) h1 e b hb
  have slj : ∀ (j : Nat) t, j ≠ i -> ρ[j]? = some (some t) -> ∃ v, σ[j]? = some (some v) /\ SR Γ K H₀ G' H' t v (fps j) := fun j t hj e => by
    obtain ⟨v, h1, h2⟩ := h j t e
    refine ⟨v, h1, h2.stay gg (fun b hb => ?_) (fun b hb => ?_)⟩
    · obtain ⟨_, q2, o, q3⟩ := h2.fpt b hb
      exact (out b o q3 fun z => old b z j t hj e hb).trans q2
    · obtain ⟨_, _, o, q3⟩ := h2.fpt b hb
      rw [q3]; exact hH b o q3 fun z => old b z j t hj e hb
  have no2 : ∀ b o, H₀ b = some o -> b ∉ fp := fun b o e z => by rw [out2 b z] at e; cases e
  have hst : Step G₀ H₀ G' H' := ⟨fun b o e => hH b o (A.st.hh b o e) (no2 b o e), A.st.gg.trans gg, gh, fun b o e => (out b o (A.st.hh b o e) (no2 b o e)).trans (A.st.out b o e)⟩
  refine ⟨hst, by simp [hl], fun j => if j = i then fp' else fps j, fun j t e => ?_, fun j k t u hjk e1 e2 b hb => ?_⟩
  · by_cases hj : j = i
    · subst hj
      have hlt : j < ρ.length := by
        rcases Nat.lt_or_ge j ρ.length with q | q
        · exact q
        · rw [List.getElem?_eq_none (by simp; omega)] at e; cases e
      rw [List.getElem?_set_self hlt] at e
      cases e
      show ∃ v, _ /\ SR _ _ _ _ _ _ v (if j = j then fp' else fps j)
      rw [if_pos rfl]
      exact ⟨v', by rw [List.getElem?_set_self (by omega)], hS⟩
    · rw [List.getElem?_set_ne (Ne.symm hj)] at e ⊢
      show ∃ v, _ /\ SR _ _ _ _ _ _ v (if j = i then fp' else fps j)
      rw [if_neg hj]
      exact slj j t hj e
  · have cross : ∀ {k : Nat} {u : Slot}, k ≠ i -> ρ[k]? = some (some u) -> ∀ b ∈ fp', b ∉ fps k := fun {k u} hk e b hb hb2 => by
      rcases hn b hb with z | z
      · exact old b z k u hk e hb2
      · obtain ⟨v, _, q⟩ := h k u e
        obtain ⟨_, _, o, q3⟩ := q.fpt b hb2
        rw [z] at q3; cases q3
    replace hb : b ∈ (if j = i then fp' else fps j) := hb
    show b ∉ (if k = i then fp' else fps k)
    by_cases hj : j = i
    · subst hj
      have hk : k ≠ j := Ne.symm hjk
      rw [if_pos rfl] at hb
      rw [if_neg hk]
      rw [List.getElem?_set_ne hjk] at e2
      exact cross hk e2 b hb
    · rw [if_neg hj] at hb
      rw [List.getElem?_set_ne (Ne.symm hj)] at e1
      by_cases hk : k = i
      · subst hk
        rw [if_pos rfl]
        exact fun z => cross hj e1 b z hb
      · rw [if_neg hk]
        rw [List.getElem?_set_ne (Ne.symm hk)] at e2
        exact ap j k t u hjk e1 e2 b hb
theorem At.setSh (A : At Γ K G₀ H₀ G H ρ σ) {i : Nat} {v : V} {d : D} (r : Rep Γ K G v d) : At Γ K G₀ H₀ G H (ρ.set i (some (.sh d))) (σ.set i (some v)) :=
  A.put (fp := []) (fp' := []) (.inl rfl) (fun b o e _ => e) (.sh r) (fun b hb => by cases hb) (.refl _) A.gh (fun _ _ _ _ => rfl) (fun b hb => by cases hb)
theorem set_get_self {α : Type} {l : List α} {i : Nat} {x : α} (h : l[i]? = some x) : l.set i x = l := by
  apply List.ext_getElem?
  intro j
  by_cases hj : j = i
  · subst hj
    rw [List.getElem?_set_self (List.getElem?_eq_some_iff.mp h).1, h]
  · rw [List.getElem?_set_ne (Ne.symm hj)]
theorem At.ch (A : At Γ K G₀ H₀ G H ρ σ) {i : Nat} {s s' : Slot} {v : V} {fp fp' : List Addr} (hi : ρ[i]? = some (some s)) (hv : σ[i]? = some (some v)) (hs : SR Γ K H₀ G H s v fp)
    (hH : ∀ b o, H b = some o -> b ∉ fp -> H' b = some o) (hS : SR Γ K H₀ G' H' s' v fp') (hn : ∀ b ∈ fp', b ∈ fp \/ H b = none)
    (gg : Same G G') (gh : Same G' H') (out : ∀ b o, H b = some o -> b ∉ fp -> G' b = G b) : At Γ K G₀ H₀ G' H' (ρ.set i (some s')) σ := by
  have := A.put (i := i) (.inr ⟨s, v, hi, hv, hs⟩) hH hS hn gg gh out fun b hb => (hs.fpt b hb).1
  rwa [set_get_self hv] at this
theorem At.get (A : At Γ K G₀ H₀ G H ρ σ) {i : Nat} {s : Slot} (hi : ρ[i]? = some (some s)) : ∃ v fp, σ[i]? = some (some v) /\ SR Γ K H₀ G H s v fp := by
  obtain ⟨fps, h, _⟩ := A.env.sl
  obtain ⟨v, h1, h2⟩ := h i s hi
  exact ⟨v, _, h1, h2⟩
end
end L2
end
section
namespace L2
open PySem PySem.Spec PyProof.Rows
mutual
inductive NewL (H G : Hp) : V -> D -> Prop where
  | flat {v : V} {d : D} : flatD d = true -> NewL H G v d
  | tup {a : Addr} {vs : List V} {ds : List D} : G a = some (.tup vs) -> NewLs H G vs ds -> NewL H G (.ref a) (.tup ds)
  | lst {a : Addr} {vs : List V} {ds : List D} : G a = some (.lst vs) -> H a = none -> NewLs H G vs ds -> NewL H G (.ref a) (.lst ds)
inductive NewLs (H G : Hp) : List V -> List D -> Prop where
  | nil : NewLs H G [] []
  | cons {v : V} {d : D} {vs : List V} {ds : List D} : NewL H G v d -> NewLs H G vs ds -> NewLs H G (v :: vs) (d :: ds)
end
section
variable {H H' G G' : Hp}
mutual
theorem NewL.mono : ∀ {v : V} {d : D}, NewL H G v d -> Same G G' -> Same H' H -> NewL H' G' v d
  | _, _, .flat h, _, _ => .flat h
  | _, _, .tup h r, s, t => .tup (s _ _ h) (r.mono s t)
  | _, _, .lst h n r, s, t => .lst (s _ _ h) (t.free n) (r.mono s t)
theorem NewLs.mono : ∀ {vs : List V} {ds : List D}, NewLs H G vs ds -> Same G G' -> Same H' H -> NewLs H' G' vs ds
  | _, _, .nil, _, _ => .nil
  | _, _, .cons h r, s, t => .cons (h.mono s t) (r.mono s t)
end
end
inductive Fl where
  | nx | bk | ct | rt (d : D) | ow (ds : List D) | nw (d : D) | od (kvs : List (Key × D))
abbrev FE := Env' -> Option D
abbrev FT := Env' -> Option Bool
abbrev FA := Env' -> Option (List D)
abbrev FS := Env' -> Option (Fl × Env')
def TD (Γ : Cn) (K : PySem.W.Frag) (f : FE) : TE := fun σ H Q => ∃ G₀ H₀ G ρ d, At Γ K G₀ H₀ G H ρ σ /\ f ρ = some d /\ ∀ v G' H', Step G H G' H' -> Rep Γ K G' v d -> Q v H'
def TDt (Γ : Cn) (K : PySem.W.Frag) (f : FT) : TT := fun σ H Q => ∃ G₀ H₀ G ρ b, At Γ K G₀ H₀ G H ρ σ /\ f ρ = some b /\ ∀ G' H', Step G H G' H' -> Q b H'
def TDa (Γ : Cn) (K : PySem.W.Frag) (f : FA) : TA := fun σ H Q => ∃ G₀ H₀ G ρ ds, At Γ K G₀ H₀ G H ρ σ /\ f ρ = some ds /\ ∀ vs G' H', Step G H G' H' -> Reps Γ K G' vs ds -> Q vs H'
def Cont (Γ : Cn) (K : PySem.W.Frag) (E : Ends) (H₀ G' H' : Hp) (σ' : St) : Fl -> Prop
  | .nx => E.nx σ' H'
  | .bk => E.bk σ' H'
  | .ct => E.ct σ' H'
  | .rt d => ∀ v, Rep Γ K G' v d -> E.rt v H'
  | .ow ds => ∀ p vs, H₀ p = none -> G' p = none -> H' p = some (.lst vs) -> Reps Γ K G' vs ds -> E.rt (.ref p) H'
  | .nw d => ∀ v, Rep Γ K G' v d -> NewL H₀ G' v d -> E.rt v H'
  | .od kvs => ∀ p us, H₀ p = none -> G' p = none -> H' p = some (.dK us) -> us.map (·.1) = kvs.map (·.1) -> Reps Γ K G' (us.map (·.2)) (kvs.map (·.2)) -> E.rt (.ref p) H'
def TDs (Γ : Cn) (K : PySem.W.Frag) (g : FS) : TS := fun E σ H => ∃ G₀ H₀ G ρ fl ρ', At Γ K G₀ H₀ G H ρ σ /\ g ρ = some (fl, ρ') /\ ∀ σ' G' H', Same G G' -> At Γ K G₀ H₀ G' H' ρ' σ' -> Cont Γ K E H₀ G' H' σ' fl
def TDo (Γ : Cn) (K : PySem.W.Frag) (f : FA) : TE := fun σ H Q => ∃ G₀ H₀ G ρ ds, At Γ K G₀ H₀ G H ρ σ /\ f ρ = some ds /\ ∀ p vs G' H', Step G H G' H' -> H' p = none -> Reps Γ K G' vs ds -> Q (.ref p) (upd H' p (.lst vs))
structure DE (Γ : Cn) (X : Cx) (e : Expr) (f : FE) : Prop where
  out : PE X e (TD Γ X.K f)
structure DT (Γ : Cn) (X : Cx) (e : Expr) (f : FT) : Prop where
  out : PT X e (TDt Γ X.K f)
structure DW (Γ : Cn) (X : Cx) (e : Expr) (f : FT) : Prop where
  out : PW X e (TDt Γ X.K f)
structure DA (Γ : Cn) (X : Cx) (es : List Expr) (f : FA) : Prop where
  out : PA X es (TDa Γ X.K f)
structure DS (Γ : Cn) (X : Cx) (st : Stmt) (g : FS) : Prop where
  out : PS X st (TDs Γ X.K g)
structure DSs (Γ : Cn) (X : Cx) (st : List Stmt) (g : FS) : Prop where
  out : PSs X st (TDs Γ X.K g)
structure DO (Γ : Cn) (X : Cx) (e : Expr) (f : FA) : Prop where
  out : PE X e (TDo Γ X.K f)
section
variable {Γ : Cn} {X : Cx} {a b c e : Expr} {es : List Expr} {fa fb fc f : FE} {pos : Pos}
theorem PE.imp {t t' : TE} (h : PE X e t) (i : ∀ σ H Q, t' σ H Q -> t σ H Q) : PE X e t' := fun pins s σ H Q I q => h pins s σ H Q I (i _ _ _ q)
theorem PT.imp {t t' : TT} (h : PT X e t) (i : ∀ σ H Q, t' σ H Q -> t σ H Q) : PT X e t' := fun pins s σ H Q I q => h pins s σ H Q I (i _ _ _ q)
theorem PW.imp {t t' : TT} (h : PW X e t) (i : ∀ σ H Q, t' σ H Q -> t σ H Q) : PW X e t' := fun wh pins s σ H Q I q => h wh pins s σ H Q I (i _ _ _ q)
theorem PA.imp {t t' : TA} (h : PA X es t) (i : ∀ σ H Q, t' σ H Q -> t σ H Q) : PA X es t' := fun p pins s σ H Q I q => h p pins s σ H Q I (i _ _ _ q)
theorem PS.imp {st : Stmt} {t t' : TS} (h : PS X st t) (i : ∀ E σ H, t' E σ H -> t E σ H) : PS X st t' := fun pins s σ H E I q => h pins s σ H E I (i _ _ _ q)
theorem PSs.imp {st : List Stmt} {t t' : TS} (h : PSs X st t) (i : ∀ E σ H, t' E σ H -> t E σ H) : PSs X st t' := fun pins s σ H E I q => h pins s σ H E I (i _ _ _ q)
def vSh (i : Nat) : FE := fun ρ => match ρ[i]? with
  | some (some (.sh d)) => some d
  | _ => none
theorem vSh_some {i : Nat} {ρ : Env'} {d : D} (h : vSh i ρ = some d) : ρ[i]? = some (some (.sh d)) := by
  unfold vSh at h
  split at h
  · rename_i e; cases h; exact e
  · cases h
theorem de_var (i : Nat) {x : Str} (hN : X.N[i]? = some x := by rfl) (hv : Vis X.env.scope x := by first | exact Or.inl rfl | exact Or.inr (Or.inl rfl) | exact Or.inr (Or.inr rfl)) (hd : (x == ("__debug__" : Str)) = false := by decide)
    (hcd : (x == ("__classdict__" : Str)) = false := by decide) : DE Γ X (.Name x pos) (vSh i) := ⟨(pe_var hN hv hd hcd).imp fun σ H Q ⟨G₀, H₀, G, ρ, d, A, h, k⟩ => by
  obtain ⟨v, h1, h2⟩ := A.env.sh i d (vSh_some h)
  exact ⟨v, h1, k v G H (.refl A.gh) h2⟩⟩
def vC (d : D) : FE := fun _ => some d
theorem TD.const {d : D} {v : V} (r : ∀ G, Rep Γ X.K G v d) (h : PE X e (tC v)) : DE Γ X e (vC d) := ⟨h.imp fun σ H Q ⟨G₀, H₀, G, ρ, d', A, h, k⟩ => by
  cases h
  exact k v G H (.refl A.gh) (r G)⟩
theorem de_int {i j} : DE Γ X (.Constant (.int i) j pos) (vC (.int i)) := TD.const (fun _ => .int i) pe_int
theorem de_bl {i j} : DE Γ X (.Constant (.bool i) j pos) (vC (.bl i)) := TD.const (fun _ => .bl i) pe_bl
theorem de_non {j} : DE Γ X (.Constant .none j pos) (vC .non) := TD.const (fun _ => .non) pe_non
theorem de_str {i j} : DE Γ X (.Constant (.str i) j pos) (vC (.str i)) := TD.const (fun _ => .str i) pe_str
theorem de_globI {x : Str} {i : Int} {t : Tok} (hg : Gl X x) (hm : X.mg x = some (.int i t)) (hd : (x == ("__debug__" : Str)) = false := by decide) : DE Γ X (.Name x pos) (vC (.int i)) := TD.const (fun _ => .int i) (pe_glob hg hm ⟨t, rfl⟩ hd)
def b2 (g : D -> D -> Option D) (fa fb : FE) : FE := fun ρ => (fa ρ).bind fun x => (fb ρ).bind fun y => g x y
def b1 (g : D -> Option D) (fa : FE) : FE := fun ρ => (fa ρ).bind g
def Does (Γ : Cn) (K : PySem.W.Frag) (g : D -> D -> Option D) (r : R2) : Prop :=
  ∀ {G H v u x y z}, Same G H -> Rep Γ K G v x -> Rep Γ K G u y -> g x y = some z -> ∀ Q : VK, (∀ w G' H', Step G H G' H' -> Rep Γ K G' w z -> Q w H') -> r v u H Q
theorem TD.two {g : D -> D -> Option D} {r : R2} (hr : Does Γ X.K g r) : ∀ σ H Q, TD Γ X.K (b2 g fa fb) σ H Q -> tOp r (TD Γ X.K fa) (TD Γ X.K fb) σ H Q := by
  rintro σ H Q ⟨G₀, H₀, G, ρ, d, A, h, k⟩
  unfold b2 at h
  cases ha : fa ρ with
  | none => rw [ha] at h; cases h
  | some x =>
    cases hb : fb ρ with
    | none => rw [ha] at h; simp only [Option.bind_some, hb, Option.bind_none] at h; cases h
    | some y =>
      simp only [ha, hb, Option.bind_some] at h
      refine ⟨G₀, H₀, G, ρ, x, A, ha, fun v G1 H1 s1 r1 => ⟨G₀, H₀, G1, ρ, y, A.step s1, hb, fun u G2 H2 s2 r2 => ?_⟩⟩
      exact hr s2.gh (r1.mono s2.gg) r2 h Q fun w G' H' s r => k w G' H' ((s1.trans s2).trans s) r
theorem de_op {op : Operator} {g : D -> D -> Option D} {r : R2} (ho : OpR X (binaryOp op) r) (hr : Does Γ X.K g r) (ha : DE Γ X a fa) (hb : DE Γ X b fb) : DE Γ X (.BinOp a op b pos) (b2 g fa fb) := ⟨(pe_op ho ha.1 hb.1).imp (TD.two hr)⟩
def addD : D -> D -> Option D
  | .int i, .int j => some (.int (i + j))
  | .str x, .str y => if x.length + y.length <= sizeLine then some (.str (x ++ y)) else none
  | .lst x, .lst y => if x.length + y.length <= sizeLine then some (.lst (x ++ y)) else none
  | _, _ => none
def subD : D -> D -> Option D
  | .int i, .int j => some (.int (i - j))
  | _, _ => none
def repS (x : Str) (n : Nat) : Str := ⟨(List.replicate n x.cps.toList).flatten.toArray⟩
def mulD : D -> D -> Option D
  | .int i, .int j => if (-(2 ^ 64) < i /\ i < 2 ^ 64) \/ (-(2 ^ 64) < j /\ j < 2 ^ 64) then some (.int (i * j)) else none
  | .lst x, .int j => if -(2 ^ 63) <= j /\ j < 2 ^ 63 /\ x.length * j.toNat <= sizeLine then some (.lst (List.replicate j.toNat x).flatten) else none
  | .str x, .int j => if 0 <= j /\ j < 1000 /\ x.length < 1000 then some (.str (repS x j.toNat)) else none
  | _, _ => none
def fdivD : D -> D -> Option D
  | .int i, .int j => if 0 < j /\ j < 1073741824 then some (.int (i / j)) else none
  | _, _ => none
def modD : D -> D -> Option D
  | .int i, .int j => if 0 < j then some (.int (i % j)) else none
  | _, _ => none
theorem Rep.int_inv {K : PySem.W.Frag} {G : Hp} {v : V} {i : Int} (r : Rep Γ K G v (.int i)) : v = .int i := by cases r; rfl
theorem Rep.str_inv {K : PySem.W.Frag} {G : Hp} {v : V} {i : Str} (r : Rep Γ K G v (.str i)) : v = .str i := by cases r; rfl
theorem Rep.bl_inv {K : PySem.W.Frag} {G : Hp} {v : V} {i : Bool} (r : Rep Γ K G v (.bl i)) : v = .bl i := by cases r; rfl
theorem Rep.lst_inv {K : PySem.W.Frag} {G : Hp} {v : V} {ds : List D} (r : Rep Γ K G v (.lst ds)) : ∃ a vs, v = .ref a /\ G a = some (.lst vs) /\ Reps Γ K G vs ds := by cases r; exact ⟨_, _, rfl, by assumption, by assumption⟩
theorem Rep.tup_inv {K : PySem.W.Frag} {G : Hp} {v : V} {ds : List D} (r : Rep Γ K G v (.tup ds)) : ∃ a vs, v = .ref a /\ G a = some (.tup vs) /\ Reps Γ K G vs ds := by cases r; exact ⟨_, _, rfl, by assumption, by assumption⟩
theorem Rep.scr_inv {K : PySem.W.Frag} {G : Hp} {v : V} {ns : List Int} (r : Rep Γ K G v (.scr ns)) : ∃ a, v = .ref a /\ SqL K G a (ns.map V.int) := by cases r; exact ⟨_, rfl, by assumption⟩
theorem new_lst {K : PySem.W.Frag} {G H : Hp} {vs : List V} {ds : List D} {Q : VK} (gh : Same G H) (r : Reps Γ K G vs ds) (k : ∀ w G' H', Step G H G' H' -> Rep Γ K G' w (.lst ds) -> Q w H') : ∀ p, H p = none -> Q (.ref p) (upd H p (.lst vs)) := fun p hp => by
  have s := Step.new (o := .lst vs) gh hp
  exact k _ _ _ s (.lst upd_same (r.mono s.gg))
theorem new_tup {K : PySem.W.Frag} {G H : Hp} {vs : List V} {ds : List D} {Q : VK} (gh : Same G H) (r : Reps Γ K G vs ds) (k : ∀ w G' H', Step G H G' H' -> Rep Γ K G' w (.tup ds) -> Q w H') : ∀ p, H p = none -> Q (.ref p) (upd H p (.tup vs)) := fun p hp => by
  have s := Step.new (o := .tup vs) gh hp
  exact k _ _ _ s (.tup upd_same (r.mono s.gg))
theorem does_add {K : PySem.W.Frag} : Does Γ K addD (fun x y H Q => (rI0 (fun i j => V.int (i + j)) x y H Q \/ (∃ i j, x = .str i /\ y = .str j /\ i.length + j.length <= sizeLine /\ Q (.str (i ++ j)) H)) \/ rCat x y H Q) := by
  intro G H v u x y z gh r1 r2 h Q k
  unfold addD at h
  split at h
  · cases h
    cases r1.int_inv; cases r2.int_inv
    exact .inl (.inl ⟨_, _, rfl, rfl, k _ G H (.refl gh) (.int _)⟩)
  · split at h
    · cases h
      cases r1.str_inv; cases r2.str_inv
      exact .inl (.inr ⟨_, _, rfl, rfl, by assumption, k _ G H (.refl gh) (.str _)⟩)
    · cases h
  · split at h
    · rename_i hz
      cases h
      obtain ⟨a, vs, rfl, ha, ra⟩ := r1.lst_inv
      obtain ⟨b, us, rfl, hb, rb⟩ := r2.lst_inv
      exact .inr ⟨a, b, vs, us, rfl, rfl, gh _ _ ha, gh _ _ hb, by rw [ra.length, rb.length]; exact hz, new_lst gh (ra.append rb) k⟩
    · cases h
  · cases h
theorem op_addA : OpR X (binaryOp .Add) (fun x y H Q => (rI0 (fun i j => V.int (i + j)) x y H Q \/ (∃ i j, x = .str i /\ y = .str j /\ i.length + j.length <= sizeLine /\ Q (.str (i ++ j)) H)) \/ rCat x y H Q) := (op_add.or op_add_str).or op_cat
theorem de_add (ha : DE Γ X a fa) (hb : DE Γ X b fb) : DE Γ X (.BinOp a .Add b pos) (b2 addD fa fb) := de_op op_addA does_add ha hb
theorem does_intC {K : PySem.W.Frag} {g : D -> D -> Option D} {C : Int -> Int -> Prop} {o : Int -> Int -> Int} (hg : ∀ x y z, g x y = some z -> ∃ i j, x = .int i /\ y = .int j /\ C i j /\ z = .int (o i j)) : Does Γ K g (rI C fun i j => V.int (o i j)) := by
  intro G H v u x y z gh r1 r2 h Q k
  obtain ⟨i, j, rfl, rfl, hc, rfl⟩ := hg x y z h
  cases r1.int_inv; cases r2.int_inv
  exact ⟨_, _, rfl, rfl, hc, k _ G H (.refl gh) (.int _)⟩
theorem de_fdiv (ha : DE Γ X a fa) (hb : DE Γ X b fb) : DE Γ X (.BinOp a .FloorDiv b pos) (b2 fdivD fa fb) := de_op op_fdiv (does_intC fun x y z h => by
  unfold fdivD at h; split at h
  · split at h <;> cases h; exact ⟨_, _, rfl, rfl, by assumption, rfl⟩
  · cases h) ha hb
theorem de_mod (ha : DE Γ X a fa) (hb : DE Γ X b fb) : DE Γ X (.BinOp a .Mod b pos) (b2 modD fa fb) := de_op op_mod (does_intC fun x y z h => by
  unfold modD at h; split at h
  · split at h <;> cases h; exact ⟨_, _, rfl, rfl, by assumption, rfl⟩
  · cases h) ha hb
theorem fold_rep (a : Array Nat) : ∀ (k : Nat) (acc : List Nat), (List.replicate k a).foldl (· ++ ·) acc.toArray = (acc ++ (List.replicate k a.toList).flatten).toArray
  | 0, acc => by simp
  | k + 1, acc => by
    rw [List.replicate_succ, List.foldl_cons, List.replicate_succ, List.flatten_cons, ← List.append_assoc, ← fold_rep a k (acc ++ a.toList)]
    congr 1
    simp
def rMulS : R2 := fun x y H Q => ∃ z n, x = .str z /\ y = .int n /\ 0 <= n /\ n < 1000 /\ z.length < 1000 /\ Q (.str (repS z n.toNat)) H
theorem op_mulS : OpR X (binaryOp .Mult) rMulS := by
  intro pins s σ H x y v u Q I rx ry h
  obtain ⟨z, n, rfl, rfl, h0, h1, h2, q⟩ := h
  obtain ⟨t, rfl⟩ := rx
  obtain ⟨t', rfl⟩ := ry
  have hl : z.length * n.toNat <= 1000000 := Nat.le_trans (Nat.mul_le_mul (Nat.le_of_lt h2) (show n.toNat <= 1000 by omega)) (by decide)
  have e0 : (List.replicate n.toNat z.cps).foldl (· ++ ·) #[] = (repS z n.toNat).cps := by
    have := fold_rep z.cps n.toNat []
    simpa [repS] using this
  refine PySem.P.mul_str ?_ (fun h _ => ?_) (fun _ _ => ?_) ?_
  · rw [decide_eq_false (by omega), decide_eq_false (by omega)]; rfl
  · have e : (z.length : Int) * n = ((z.length * n.toNat : Nat) : Int) := by rw [Int.natCast_mul]; congr 1; omega
    have : (z.length : Int) <= (2 ^ 63 - 1 : Int) / n := Int.le_ediv_of_mul_le (by omega) (by rw [e]; omega)
    omega
  · unfold Builtin.Str.tooLong
    exact decide_eq_false (by have := sizeLine_eq; omega)
  · split
    · have : n = 0 := by omega
      subst this
      exact ⟨by decide, ⟨.str _, H, I.tok _, ⟨_, rfl⟩, by simpa [repS, Str.empty] using q⟩⟩
    · split
      · rename_i hc
        have ez : repS z n.toNat = z := by
          rcases Bool.or_eq_true _ _ ▸ hc with e | e
          · have : n = 1 := by simpa using e
            subst this
            simp [repS]
          · have hz : z.cps = #[] := by
              have : z.cps.size = 0 := by simpa [Str.length] using e
              exact Array.eq_empty_of_size_eq_zero this
            cases z
            simp only at hz
            subst hz
            simp [repS]
        exact ⟨.str _, H, I, ⟨_, rfl⟩, by rw [← ez]; exact q⟩
      · rw [e0]
        refine ⟨?_, ⟨.str _, H, I.tok _, ⟨_, rfl⟩, q⟩⟩
        have e1 : (repS z n.toNat).length = n.toNat * z.length := by
          show (List.replicate n.toNat z.cps.toList).flatten.toArray.size = _
          rw [List.size_toArray, len_rep]
          simp [Str.length]
        show (repS z n.toNat).length <= sizeLine
        rw [e1, Nat.mul_comm]
        have := sizeLine_eq
        omega
theorem does_mul {K : PySem.W.Frag} : Does Γ K mulD (fun x y H Q => (rI CMul (fun i j => V.int (i * j)) x y H Q \/ rRep x y H Q) \/ rMulS x y H Q) := by
  intro G H v u x y z gh r1 r2 h Q k
  unfold mulD at h
  split at h
  · split at h
    · cases h
      cases r1.int_inv; cases r2.int_inv
      exact .inl (.inl ⟨_, _, rfl, rfl, by assumption, k _ G H (.refl gh) (.int _)⟩)
    · cases h
  · split at h
    · rename_i hz
      cases h
      obtain ⟨a, vs, rfl, ha, ra⟩ := r1.lst_inv
      cases r2.int_inv
      exact .inl (.inr ⟨a, _, vs, rfl, rfl, gh _ _ ha, hz.1, hz.2.1, by rw [ra.length]; exact hz.2.2, new_lst gh (ra.rep _) k⟩)
    · cases h
  · split at h
    · rename_i hz
      cases h
      cases r1.str_inv
      cases r2.int_inv
      exact .inr ⟨_, _, rfl, rfl, hz.1, hz.2.1, hz.2.2, k _ G H (.refl gh) (.str _)⟩
    · cases h
  · cases h
theorem de_mul (ha : DE Γ X a fa) (hb : DE Γ X b fb) : DE Γ X (.BinOp a .Mult b pos) (b2 mulD fa fb) := de_op ((op_mul.or op_rep).or op_mulS) does_mul ha hb
end
end L2
end
section
namespace L2
open PySem PySem.Spec PyProof.Rows
section
variable {Γ : Cn} {X : Cx} {a b c e : Expr} {es : List Expr} {fa fb fc f : FE} {pos : Pos}
theorem Rep.non_inv {K : PySem.W.Frag} {G : Hp} {v : V} (r : Rep Γ K G v .non) : v = .non := by cases r; rfl
def ltS (x y : Str) : Bool := decide (x.cps.toList < y.cps.toList)
def ltD : D -> D -> Option D
  | .int i, .int j => some (.bl (decide (i < j)))
  | .str x, .str y => some (.bl (ltS x y))
  | _, _ => none
def leD : D -> D -> Option D
  | .int i, .int j => some (.bl (decide (i <= j)))
  | .str x, .str y => some (.bl (!ltS y x))
  | _, _ => none
def gtD : D -> D -> Option D
  | .int i, .int j => some (.bl (decide (j < i)))
  | _, _ => none
def eqS : D -> D -> Option Bool
  | .int i, .int j => some (decide (i = j))
  | .bl i, .bl j => some (decide (i = j))
  | .str i, .str j => some (decide (i = j))
  | .non, .non => some true
  | .non, .int _ => some false | .int _, .non => some false | .non, .bl _ => some false | .bl _, .non => some false | .non, .str _ => some false | .str _, .non => some false
  | .int _, .str _ => some false | .str _, .int _ => some false | .bl _, .str _ => some false | .str _, .bl _ => some false
  | _, _ => none
def eqD (x y : D) : Option D := (eqS x y).map D.bl
def neD (x y : D) : Option D := (eqS x y).map fun b => D.bl (!b)
theorem eqS_ok {K : PySem.W.Frag} {G : Hp} {v u : V} {x y : D} {k : Bool} (r1 : Rep Γ K G v x) (r2 : Rep Γ K G u y) (h : eqS x y = some k) : scal v u = true /\ decide (v = u) = k := by
  unfold eqS at h
  split at h <;> cases h
  · cases r1.int_inv; cases r2.int_inv; exact ⟨rfl, by simp⟩
  · cases r1.bl_inv; cases r2.bl_inv; exact ⟨rfl, by simp⟩
  · cases r1.str_inv; cases r2.str_inv; exact ⟨rfl, by simp⟩
  · cases r1.non_inv; cases r2.non_inv; exact ⟨rfl, by simp⟩
  · cases r1.non_inv; cases r2.int_inv; exact ⟨rfl, by simp⟩
  · cases r1.int_inv; cases r2.non_inv; exact ⟨rfl, by simp⟩
  · cases r1.non_inv; cases r2.bl_inv; exact ⟨rfl, by simp⟩
  · cases r1.bl_inv; cases r2.non_inv; exact ⟨rfl, by simp⟩
  · cases r1.non_inv; cases r2.str_inv; exact ⟨rfl, by simp⟩
  · cases r1.str_inv; cases r2.non_inv; exact ⟨rfl, by simp⟩
  · cases r1.int_inv; cases r2.str_inv; exact ⟨rfl, by simp⟩
  · cases r1.str_inv; cases r2.int_inv; exact ⟨rfl, by simp⟩
  · cases r1.bl_inv; cases r2.str_inv; exact ⟨rfl, by simp⟩
  · cases r1.str_inv; cases r2.bl_inv; exact ⟨rfl, by simp⟩
theorem does_eq {K : PySem.W.Frag} : Does Γ K eqD rEq := by
  intro G H v u x y z gh r1 r2 h Q k
  unfold eqD at h
  cases e : eqS x y with
  | none => rw [e] at h; cases h
  | some b =>
    rw [e] at h
    cases h
    obtain ⟨h1, h2⟩ := eqS_ok r1 r2 e
    exact ⟨h1, by rw [h2]; exact k _ G H (.refl gh) (.bl _)⟩
theorem does_ne {K : PySem.W.Frag} : Does Γ K neD rNe := by
  intro G H v u x y z gh r1 r2 h Q k
  unfold neD at h
  cases e : eqS x y with
  | none => rw [e] at h; cases h
  | some b =>
    rw [e] at h
    cases h
    obtain ⟨h1, h2⟩ := eqS_ok r1 r2 e
    exact ⟨h1, by rw [h2]; exact k _ G H (.refl gh) (.bl _)⟩
theorem does_intB {K : PySem.W.Frag} {g : D -> D -> Option D} {o : Int -> Int -> Bool} (hg : ∀ x y z, g x y = some z -> ∃ i j, x = .int i /\ y = .int j /\ z = .bl (o i j)) : Does Γ K g (rI0 fun i j => V.bl (o i j)) := by
  intro G H v u x y z gh r1 r2 h Q k
  obtain ⟨i, j, rfl, rfl, rfl⟩ := hg x y z h
  cases r1.int_inv; cases r2.int_inv
  exact ⟨_, _, rfl, rfl, k _ G H (.refl gh) (.bl _)⟩
theorem op_le_str : OpR X (compareOp .LtE) (fun x y H Q => ∃ i j, x = .str i /\ y = .str j /\ Q (.bl (!ltS j i)) H) := by
  intro pins s σ H x y v u Q I rx ry h
  obtain ⟨i, j, rfl, rfl, q⟩ := h
  obtain ⟨t, rfl⟩ := rx
  obtain ⟨t', rfl⟩ := ry
  exact PySem.P.le_str (fin_bl I q (by simp [ltS]))
theorem does_le {K : PySem.W.Frag} : Does Γ K leD (fun x y H Q => rI0 (fun i j => V.bl (decide (i <= j))) x y H Q \/ ∃ i j, x = .str i /\ y = .str j /\ Q (.bl (!ltS j i)) H) := by
  intro G H v u x y z gh r1 r2 h Q k
  unfold leD at h
  split at h <;> cases h
  · cases r1.int_inv; cases r2.int_inv; exact .inl ⟨_, _, rfl, rfl, k _ G H (.refl gh) (.bl _)⟩
  · cases r1.str_inv; cases r2.str_inv; exact .inr ⟨_, _, rfl, rfl, k _ G H (.refl gh) (.bl _)⟩
structure CmpD (Γ : Cn) (X : Cx) (op : CmpOp) (g : D -> D -> Option D) : Prop where
  ex : ∃ r, OpR X (compareOp op) r /\ Does Γ X.K g r
theorem cd_le : CmpD Γ X .LtE leD := ⟨_, op_le.or op_le_str, does_le⟩
theorem cd_gt : CmpD Γ X .Gt gtD := ⟨_, op_gt, does_intB fun x y z h => by unfold gtD at h; split at h <;> cases h; exact ⟨_, _, rfl, rfl, rfl⟩⟩
theorem cd_eq : CmpD Γ X .Eq eqD := ⟨_, op_eq, does_eq⟩
theorem cd_ne : CmpD Γ X .NotEq neD := ⟨_, op_ne, does_ne⟩
theorem de_cmp {op : CmpOp} {g : D -> D -> Option D} (h : CmpD Γ X op g) (ha : DE Γ X a fa) (hb : DE Γ X b fb) (hm : behindInMarks op b = false) : DE Γ X (.Compare a [op] [b] pos) (b2 g fa fb) := ⟨by
  obtain ⟨r, ho, hr⟩ := h.ex
  exact (pe_cmpR ho ha.1 hb.1 hm).imp (TD.two hr)⟩
def chD (g g' : D -> D -> Option D) (fa fb fc : FE) : FE := fun ρ => (fa ρ).bind fun x => (fb ρ).bind fun y => (g x y).bind fun z => match z with
  | .bl true => (fc ρ).bind fun w => g' y w
  | .bl false => some (.bl false)
  | _ => none
theorem TD.chain {g g' : D -> D -> Option D} {r r' : R2} (hr : Does Γ X.K g r) (hr' : Does Γ X.K g' r') : ∀ σ H Q, TD Γ X.K (chD g g' fa fb fc) σ H Q -> tChain r r' (TD Γ X.K fa) (TD Γ X.K fb) (TD Γ X.K fc) σ H Q := by
  rintro σ H Q ⟨G₀, H₀, G, ρ, d, A, h, k⟩
  unfold chD at h
  obtain ⟨x, ha, h⟩ := Option.bind_eq_some_iff.mp h
  obtain ⟨y, hb, h⟩ := Option.bind_eq_some_iff.mp h
  obtain ⟨z, hz, h⟩ := Option.bind_eq_some_iff.mp h
  refine ⟨G₀, H₀, G, ρ, x, A, ha, fun v G1 H1 s1 r1 => ⟨G₀, H₀, G1, ρ, y, A.step s1, hb, fun u G2 H2 s2 r2 => ?_⟩⟩
  refine hr s2.gh (r1.mono s2.gg) r2 hz _ fun w G3 H3 s3 r3 => ?_
  split at h
  · cases r3.bl_inv
    obtain ⟨w, hc, h⟩ := Option.bind_eq_some_iff.mp h
    refine ⟨true, rfl, iteT ⟨G₀, H₀, G3, ρ, w, ((A.step s1).step s2).step s3, hc, fun q G4 H4 s4 r4 => ?_⟩⟩
    exact hr' s4.gh ((r2.mono s3.gg).mono s4.gg) r4 h Q fun w' G' H' s r => k w' G' H' ((((s1.trans s2).trans s3).trans s4).trans s) r
  · cases r3.bl_inv
    cases h
    exact ⟨false, rfl, iteF (k _ G3 H3 ((s1.trans s2).trans s3) (.bl _))⟩
  · cases h
theorem de_chain {op op' : CmpOp} {g g' : D -> D -> Option D} (h : CmpD Γ X op g) (h' : CmpD Γ X op' g') (ha : DE Γ X a fa) (hb : DE Γ X b fb) (hc : DE Γ X c fc) (hm : lastMarks [op, op'] [b, c] = false := by with_unfolding_all rfl) :
    DE Γ X (.Compare a [op, op'] [b, c] pos) (chD g g' fa fb fc) := ⟨by
  obtain ⟨r, ho, hr⟩ := h.ex
  obtain ⟨r', ho', hr'⟩ := h'.ex
  exact (pe_chain ho ho' ha.1 hb.1 hc.1 hm).imp (TD.chain hr hr')⟩
def toB (f : FE) : FT := fun ρ => (f ρ).bind fun d => match d with
  | .bl b => some b
  | _ => none
theorem TDt.val {f : FE} : ∀ σ H Q, TDt Γ X.K (toB f) σ H Q -> TD Γ X.K f σ H fun x H' => ∃ k, x = .bl k /\ Q k H' := by
  rintro σ H Q ⟨G₀, H₀, G, ρ, b, A, h, k⟩
  unfold toB at h
  obtain ⟨d, hd, h⟩ := Option.bind_eq_some_iff.mp h
  split at h <;> cases h
  exact ⟨G₀, H₀, G, ρ, _, A, hd, fun v G' H' s r => ⟨b, r.bl_inv, k G' H' s⟩⟩
theorem dt_cmp {op : CmpOp} {g : D -> D -> Option D} (h : CmpD Γ X op g) (ha : DE Γ X a fa) (hb : DE Γ X b fb) (hm : behindInMarks op b = false) : DT Γ X (.Compare a [op] [b] pos) (toB (b2 g fa fb)) := ⟨by
  obtain ⟨r, ho, hr⟩ := h.ex
  exact (pt_cmpR ho ha.1 hb.1 hm).imp fun σ H Q q => TD.two hr σ H _ (TDt.val σ H Q q)⟩
theorem dt_chain {op op' : CmpOp} {g g' : D -> D -> Option D} (h : CmpD Γ X op g) (h' : CmpD Γ X op' g') (ha : DE Γ X a fa) (hb : DE Γ X b fb) (hc : DE Γ X c fc) (hm : lastMarks [op, op'] [b, c] = false := by with_unfolding_all rfl) :
    DT Γ X (.Compare a [op, op'] [b, c] pos) (toB (chD g g' fa fb fc)) := ⟨by
  obtain ⟨r, ho, hr⟩ := h.ex
  obtain ⟨r', ho', hr'⟩ := h'.ex
  exact (pt_chain ho ho' ha.1 hb.1 hc.1 hm).imp fun σ H Q q => TD.chain hr hr' σ H _ (TDt.val σ H Q q)⟩
theorem dt_val (h : DE Γ X e f) (he : ∀ whole, isTrue e X.env whole = (do let v ← whole; standAt e.pos; holding [v] (truthy v)) := by intro _; rfl) : DT Γ X e (toB f) := ⟨(pt_val h.1 he).imp TDt.val⟩
def notT (f : FT) : FT := fun ρ => (f ρ).map (!·)
def andT (f g : FT) : FT := fun ρ => (f ρ).bind fun b => if b = true then g ρ else some false
def orT (f g : FT) : FT := fun ρ => (f ρ).bind fun b => if b = true then some true else g ρ
variable {ft gt : FT} {rest : List Expr}
theorem DW.dt {e : Expr} (h : DW Γ X e ft) : DT Γ X e ft := ⟨h.1.pt⟩
theorem dt_not (h : DT Γ X a ft) : DT Γ X (.UnaryOp .Not a pos) (notT ft) := ⟨(pt_not h.1).imp fun σ H Q => by
  rintro ⟨G₀, H₀, G, ρ, b, A, h, k⟩
  unfold notT at h
  obtain ⟨c, hc, h⟩ := Option.map_eq_some_iff.mp h
  exact ⟨G₀, H₀, G, ρ, c, A, hc, fun G' H' s => by show Q (!c) H'; rw [h]; exact k G' H' s⟩⟩
theorem dw_and1 (h : DT Γ X a ft) : DW Γ X (.BoolOp .And [a] pos) ft := ⟨pw_and1 h.1⟩
theorem dw_or1 (h : DT Γ X a ft) : DW Γ X (.BoolOp .Or [a] pos) ft := ⟨pw_or1 h.1⟩
theorem dw_and (h : DT Γ X a ft) (h' : DW Γ X (.BoolOp .And (b :: rest) pos) gt) : DW Γ X (.BoolOp .And (a :: b :: rest) pos) (andT ft gt) := ⟨(pw_and h.1 h'.1).imp fun σ H Q => by
  rintro ⟨G₀, H₀, G, ρ, r, A, h, k⟩
  unfold andT at h
  obtain ⟨c, hc, h⟩ := Option.bind_eq_some_iff.mp h
  refine ⟨G₀, H₀, G, ρ, c, A, hc, fun G1 H1 s1 => ?_⟩
  cases c with
  | true => exact iteT ⟨G₀, H₀, G1, ρ, r, A.step s1, by simpa using h, fun G' H' s => k G' H' (s1.trans s)⟩
  | false =>
    rw [if_neg Bool.false_ne_true] at h
    cases h
    exact iteF (k _ _ s1)⟩
theorem dw_or (h : DT Γ X a ft) (h' : DW Γ X (.BoolOp .Or (b :: rest) pos) gt) : DW Γ X (.BoolOp .Or (a :: b :: rest) pos) (orT ft gt) := ⟨(pw_or h.1 h'.1).imp fun σ H Q => by
  rintro ⟨G₀, H₀, G, ρ, r, A, h, k⟩
  unfold orT at h
  obtain ⟨c, hc, h⟩ := Option.bind_eq_some_iff.mp h
  refine ⟨G₀, H₀, G, ρ, c, A, hc, fun G1 H1 s1 => ?_⟩
  cases c with
  | false => exact iteF ⟨G₀, H₀, G1, ρ, r, A.step s1, by simpa using h, fun G' H' s => k G' H' (s1.trans s)⟩
  | true =>
    rw [if_pos rfl] at h
    cases h
    exact iteT (k _ _ s1)⟩
def andD (fa fb : FE) : FE := fun ρ => (fa ρ).bind fun d => match d with
  | .bl true => fb ρ
  | .bl false => some (.bl false)
  | _ => none
theorem de_one {op} (h : DE Γ X a fa) : DE Γ X (.BoolOp op [a] pos) fa := ⟨pe_one h.1⟩
theorem de_and (ha : DE Γ X a fa) (hb : DE Γ X (.BoolOp .And (b :: rest) pos) fb) : DE Γ X (.BoolOp .And (a :: b :: rest) pos) (andD fa fb) := ⟨(pe_and ha.1 hb.1).imp fun σ H Q => by
  rintro ⟨G₀, H₀, G, ρ, d, A, h, k⟩
  unfold andD at h
  obtain ⟨x, hx, h⟩ := Option.bind_eq_some_iff.mp h
  refine ⟨G₀, H₀, G, ρ, x, A, hx, fun v G1 H1 s1 r1 => ?_⟩
  split at h
  · cases r1.bl_inv
    exact ⟨true, rfl, iteT ⟨G₀, H₀, G1, ρ, d, A.step s1, h, fun w G' H' s r => k w G' H' (s1.trans s) r⟩⟩
  · cases r1.bl_inv
    cases h
    exact ⟨false, rfl, iteF (k _ G1 H1 s1 (.bl _))⟩
  · cases h⟩
def aNil : FA := fun _ => some []
def aCons (fa : FE) (fr : FA) : FA := fun ρ => (fa ρ).bind fun x => (fr ρ).map (x :: ·)
variable {fr : FA}
theorem da_nil : DA Γ X [] aNil := ⟨pa_nil.imp fun σ H Q => by
  rintro ⟨G₀, H₀, G, ρ, d, A, h, k⟩
  cases h
  exact k _ G H (.refl A.gh) .nil⟩
theorem da_cons (ha : DE Γ X e fa) (hr : DA Γ X es fr) (hs : starEach (e :: es) X.env = (false, eval e X.env) :: starEach es X.env := by rfl) : DA Γ X (e :: es) (aCons fa fr) := ⟨(pa_cons ha.1 hr.1 hs).imp fun σ H Q => by
  rintro ⟨G₀, H₀, G, ρ, d, A, h, k⟩
  unfold aCons at h
  obtain ⟨x, hx, h⟩ := Option.bind_eq_some_iff.mp h
  obtain ⟨xs, hxs, h⟩ := Option.map_eq_some_iff.mp h
  subst h
  exact ⟨G₀, H₀, G, ρ, x, A, hx, fun v G1 H1 s1 r1 => ⟨G₀, H₀, G1, ρ, xs, A.step s1, hxs, fun vs G2 H2 s2 r2 => k _ G2 H2 (s1.trans s2) (.cons (r1.mono s2.gg) r2)⟩⟩⟩
def szF (fr : FA) : FA := fun ρ => (fr ρ).bind fun l => if l.length <= sizeLine then some l else none
def lstF (fr : FA) : FE := fun ρ => (fr ρ).map D.lst
def tupF (fr : FA) : FE := fun ρ => (fr ρ).map D.tup
theorem DO.de (h : DO Γ X e fr) : DE Γ X e (lstF fr) := ⟨h.1.imp fun σ H Q => by
  rintro ⟨G₀, H₀, G, ρ, d, A, h, k⟩
  unfold lstF at h
  obtain ⟨ds, hd, rfl⟩ := Option.map_eq_some_iff.mp h
  exact ⟨G₀, H₀, G, ρ, ds, A, hd, fun p vs G' H' s hp r => new_lst s.gh r (fun w G2 H2 s2 r2 => k w G2 H2 (s.trans s2) r2) p hp⟩⟩
theorem do_lst (h : DA Γ X es fr) : DO Γ X (.List es pos) (szF fr) := ⟨(pe_lst h.1).imp fun σ H Q => by
  rintro ⟨G₀, H₀, G, ρ, d, A, h, k⟩
  unfold szF at h
  obtain ⟨ds, hd, h⟩ := Option.bind_eq_some_iff.mp h
  split at h
  · rename_i hz
    cases h
    exact ⟨G₀, H₀, G, ρ, d, A, hd, fun vs G' H' s r => ⟨by rw [r.length]; exact hz, fun p hp => k p vs G' H' s hp r⟩⟩
  · cases h⟩
theorem de_tup {x1} (h : DA Γ X es fr) : DE Γ X (.Tuple es x1 pos) (tupF (szF fr)) := ⟨(pe_tup h.1).imp fun σ H Q => by
  rintro ⟨G₀, H₀, G, ρ, d, A, h, k⟩
  unfold tupF szF at h
  obtain ⟨ds', hd', rfl⟩ := Option.map_eq_some_iff.mp h
  obtain ⟨ds, hd, h⟩ := Option.bind_eq_some_iff.mp hd'
  split at h
  · rename_i hz
    cases h
    exact ⟨G₀, H₀, G, ρ, ds', A, hd, fun vs G' H' s r => ⟨by rw [r.length]; exact hz, new_tup s.gh r fun w G2 H2 s2 r2 => k w G2 H2 (s.trans s2) r2⟩⟩
  · cases h⟩
def DoesC (Γ : Cn) (K : PySem.W.Frag) (g : List D -> Option D) (r : List V -> Hp -> VK -> Prop) : Prop :=
  ∀ {G H vs ds z}, Same G H -> Reps Γ K G vs ds -> g ds = some z -> ∀ Q : VK, (∀ w G' H', Step G H G' H' -> Rep Γ K G' w z -> Q w H') -> r vs H Q
def cF (g : List D -> Option D) (fr : FA) : FE := fun ρ => (fr ρ).bind g
theorem TD.call {g : List D -> Option D} {r : List V -> Hp -> VK -> Prop} (hr : DoesC Γ X.K g r) : ∀ σ H Q, TD Γ X.K (cF g fr) σ H Q -> tCB r (TDa Γ X.K fr) σ H Q := by
  rintro σ H Q ⟨G₀, H₀, G, ρ, d, A, h, k⟩
  unfold cF at h
  obtain ⟨ds, hd, h⟩ := Option.bind_eq_some_iff.mp h
  exact ⟨G₀, H₀, G, ρ, ds, A, hd, fun vs G1 H1 s1 r1 => hr s1.gh r1 h Q fun w G' H' s r => k w G' H' (s1.trans s) r⟩
structure BltD (Γ : Cn) (X : Cx) (id : String) (g : List D -> Option D) : Prop where
  ex : ∃ r, CallR X (.builtin id) r /\ DoesC Γ X.K g r
structure TyD (Γ : Cn) (X : Cx) (id : String) (g : List D -> Option D) : Prop where
  ex : ∃ r, CallR X (.type id) r /\ DoesC Γ X.K g r
variable {x : Str} {p : Pos}
theorem de_callB {id : String} {g : List D -> Option D} (hc : BltD Γ X id g) (hg : Gl X x) (hm : X.mg x = none) (hv : bootBuiltins x = some (.builtin id)) (ha : DA Γ X (e :: es) fr) (hn : x ≠ "__name__" := by decide) (hdb : (x == ("__debug__" : Str)) = false := by decide)
    (he : starEach (e :: es) X.env = (false, eval e X.env) :: starEach es X.env := by rfl) (hpl : (backTo pos (starEach es X.env)).any (·.1) = false := by rfl) : DE Γ X (.Call (.Name x p) (e :: es) [] pos) (cF g fr) := ⟨by
  obtain ⟨r, h1, h2⟩ := hc.ex
  exact (pe_callB h1 hg hm hv ha.1 hn hdb he hpl).imp (TD.call h2)⟩
theorem de_callTy {id : String} {g : List D -> Option D} (hc : TyD Γ X id g) (hg : Gl X x) (hm : X.mg x = none) (hv : bootBuiltins x = some (.type id)) (ha : DA Γ X (e :: es) fr) (hn : x ≠ "__name__" := by decide) (hdb : (x == ("__debug__" : Str)) = false := by decide)
    (he : starEach (e :: es) X.env = (false, eval e X.env) :: starEach es X.env := by rfl) (hpl : (backTo pos (starEach es X.env)).any (·.1) = false := by rfl) : DE Γ X (.Call (.Name x p) (e :: es) [] pos) (cF g fr) := ⟨by
  obtain ⟨r, h1, h2⟩ := hc.ex
  exact (pe_callTy h1 hg hm hv ha.1 hn hdb he hpl).imp (TD.call h2)⟩
theorem de_ty {n : String} (hg : Gl X x) (hm : X.mg x = none) (hv : bootBuiltins x = some (.type n)) (hn : x ≠ "__name__" := by decide) (hd : (x == ("__debug__" : Str)) = false := by decide) : DE Γ X (.Name x pos) (vC (.ty n)) := TD.const (fun _ => .ty n) (pe_bltn hg hm hv rfl hn hd)
theorem Reps.one {K : PySem.W.Frag} {G : Hp} {vs : List V} {d : D} (r : Reps Γ K G vs [d]) : ∃ v, vs = [v] /\ Rep Γ K G v d := by
  cases r with
  | cons h t => cases t; exact ⟨_, rfl, h⟩
theorem Reps.two {K : PySem.W.Frag} {G : Hp} {vs : List V} {d d' : D} (r : Reps Γ K G vs [d, d']) : ∃ v u, vs = [v, u] /\ Rep Γ K G v d /\ Rep Γ K G u d' := by
  cases r with
  | cons h t => cases t with
    | cons h2 t2 => cases t2; exact ⟨_, _, rfl, h, h2⟩
def absD : List D -> Option D
  | [.int i] => some (.int (if i < 0 then -i else i))
  | _ => none
def lenD : List D -> Option D
  | [.str x] => if x.length <= sizeLine then some (.int (x.length : Nat)) else none
  | [.lst l] => some (.int (l.length : Nat))
  | [.tup l] => some (.int (l.length : Nat))
  | [.scr l] => some (.int (l.length : Nat))
  | _ => none
theorem bd_len : BltD Γ X "len" lenD := ⟨_, call_len, fun {G H vs ds z} gh r h Q k => by
  unfold lenD at h
  split at h
  · split at h
    · cases h
      obtain ⟨v, rfl, r1⟩ := r.one
      cases r1.str_inv
      exact ⟨_, _, rfl, ⟨by assumption, rfl⟩, k _ G H (.refl gh) (.int _)⟩
    · cases h
  · cases h
    obtain ⟨v, rfl, r1⟩ := r.one
    obtain ⟨a, vs, rfl, ha, rv⟩ := r1.lst_inv
    exact ⟨_, _, rfl, .inl ⟨vs, .inl (.inl (gh _ _ ha)), rfl⟩, k _ G H (.refl gh) (by rw [rv.length]; exact .int _)⟩
  · cases h
    obtain ⟨v, rfl, r1⟩ := r.one
    obtain ⟨a, vs, rfl, ha, rv⟩ := r1.tup_inv
    exact ⟨_, _, rfl, .inr ⟨vs, .inl (.inl (gh _ _ ha)), rfl⟩, k _ G H (.refl gh) (by rw [rv.length]; exact .int _)⟩
  · cases h
    obtain ⟨v, rfl, r1⟩ := r.one
    obtain ⟨a, rfl, ha⟩ := r1.scr_inv
    exact ⟨_, _, rfl, .inl ⟨_, gh.seq ha, rfl⟩, k _ G H (.refl gh) (by rw [List.length_map]; exact .int _)⟩
  · cases h⟩
def tyD : D -> Option String
  | .non => some "NoneType"
  | .bl _ => some "bool"
  | .int _ => some "int"
  | .str _ => some "str"
  | .lst _ => some "list"
  | .tup _ => some "tuple"
  | .dk _ => some "dict"
  | .dt _ => some "dict"
  | _ => none
def isiT (t c : String) : Option Bool := if (Value.type t == Value.type c) = true then some true else if PySem.W.kitMeta c = true then Option.map (fun x => x.contains (Value.type c)) (PySem.fastBuiltinMro t) else none
def isiD : List D -> Option D
  | [d, .ty c] => (tyD d).bind fun t => (isiT t c).map D.bl
  | _ => none
theorem tyOf_ok {K : PySem.W.Frag} {G H : Hp} {v : V} {d : D} {t : String} (gh : Same G H) (r : Rep Γ K G v d) (h : tyD d = some t) : TyOf K H v (.type t) := by
  unfold tyD at h
  split at h <;> cases h
  · cases r.non_inv; exact .non
  · cases r.bl_inv; exact .bl _
  · cases r.int_inv; exact .int _
  · cases r.str_inv; exact .str _
  · obtain ⟨a, vs, rfl, ha, _⟩ := r.lst_inv; exact .lst (gh _ _ ha)
  · obtain ⟨a, vs, rfl, ha, _⟩ := r.tup_inv; exact .tup (gh _ _ ha)
  · cases r with
    | dk h _ _ => exact .dK (gh _ _ h)
  · cases r with
    | dt h _ _ => exact .dT (gh _ _ h)
theorem bd_isi : BltD Γ X "isinstance" isiD := by
  refine ⟨fun vs H Q => ∃ v t c b, vs = [v, .ty c] /\ TyOf X.K H v (.type t) /\ PySem.W.kitOne X.K (.type t) (.type c) = some b /\ Q (.bl b) H, ?_, ?_⟩
  · intro pins s σ H xs us Q I r h
    obtain ⟨v, t, c, b, rfl, ty, hk, q⟩ := h
    obtain ⟨u, w', rfl, r1, r2⟩ := vals2 r
    cases r2
    exact isinst_ok I r1 ty hk fun tk => ⟨.bl b, H, I.tok tk, rfl, q⟩
  · intro G H vs ds z gh r h Q k
    unfold isiD at h
    split at h
    · obtain ⟨t, ht, h⟩ := Option.bind_eq_some_iff.mp h
      obtain ⟨b, hb, rfl⟩ := Option.map_eq_some_iff.mp h
      obtain ⟨v, u, rfl, r1, r2⟩ := r.two
      cases r2
      exact ⟨v, t, _, b, rfl, tyOf_ok gh r1 ht, hb, k _ G H (.refl gh) (.bl _)⟩
    · cases h
end
end L2
end
section
namespace L2
open PySem PySem.Spec PyProof.Rows
section
variable {Γ : Cn} {X : Cx} {a b c e : Expr} {es : List Expr} {fa fb fc f : FE} {fr : FA} {pos p2 : Pos}
theorem Reps.atI {K : PySem.W.Frag} {G : Hp} {vs : List V} {ds : List D} {i : Int} {d : D} (r : Reps Γ K G vs ds) (h : L2.atI ds i = some d) : ∃ v, L2.atI vs i = some v /\ Rep Γ K G v d := by
  unfold L2.atI at h ⊢
  rw [r.length]
  cases e : ixN ds.length i with
  | none => rw [e] at h; cases h
  | some j =>
    rw [e] at h
    obtain ⟨v, h1, h2⟩ := r.get (i := j) (d := d) h
    exact ⟨v, h1, h2⟩
theorem atI_map {α β : Type} (g : α -> β) (xs : List α) (i : Int) : L2.atI (xs.map g) i = (L2.atI xs i).map g := by
  unfold L2.atI
  rw [List.length_map]
  cases ixN xs.length i with
  | none => rfl
  | some j => simp
def ixD : D -> D -> Option D
  | .lst l, .int i => atI l i
  | .tup l, .int i => atI l i
  | .scr l, .int i => (atI l i).map D.int
  | .str x, .int i => if x.length <= sizeLine then (atI x.cps.toList i).map fun c => D.str ⟨#[c]⟩ else none
  | _, _ => none
theorem does_ix {K : PySem.W.Frag} : Does Γ K ixD (rIx K) := by
  intro G H v u x y z gh r1 r2 h Q k
  unfold ixD at h
  split at h
  · obtain ⟨a, vs, rfl, ha, rv⟩ := r1.lst_inv
    cases r2.int_inv
    obtain ⟨w, hw, rw'⟩ := rv.atI h
    exact .inl ⟨a, vs, _, w, rfl, rfl, .inl (.inl (gh _ _ ha)), hw, k w G H (.refl gh) rw'⟩
  · obtain ⟨a, vs, rfl, ha, rv⟩ := r1.tup_inv
    cases r2.int_inv
    obtain ⟨w, hw, rw'⟩ := rv.atI h
    exact .inr (.inl ⟨a, vs, _, w, rfl, rfl, .inl (.inl (gh _ _ ha)), hw, k w G H (.refl gh) rw'⟩)
  · obtain ⟨a, rfl, ha⟩ := r1.scr_inv
    cases r2.int_inv
    obtain ⟨n, hn, rfl⟩ := Option.map_eq_some_iff.mp h
    exact .inl ⟨a, _, _, .int n, rfl, rfl, gh.seq ha, by rw [atI_map, hn]; rfl, k _ G H (.refl gh) (.int _)⟩
  · split at h
    · cases r1.str_inv
      cases r2.int_inv
      obtain ⟨n, hn, rfl⟩ := Option.map_eq_some_iff.mp h
      exact .inr (.inr ⟨_, _, n, rfl, rfl, by assumption, hn, k _ G H (.refl gh) (.str _)⟩)
    · cases h
  · cases h
theorem de_ix (ha : DE Γ X a fa) (hb : DE Γ X b fb) (hs : PlainIx b := by intro _ _; rfl) : DE Γ X (.Subscript a b pos) (b2 ixD fa fb) := ⟨(pe_ix ix_seq ha.1 hb.1 hs).imp (TD.two does_ix)⟩
def cutL {α : Type} (xs : List α) (lo hi : Option Int) : List α := (xs.drop (HT.sIx xs.length 0 lo)).take (HT.sIx xs.length xs.length hi - HT.sIx xs.length 0 lo)
theorem cutL_map {α β : Type} (g : α -> β) (xs : List α) (lo hi : Option Int) : cutL (xs.map g) lo hi = (cutL xs lo hi).map g := by
  unfold cutL
  simp
theorem Reps.cut {K : PySem.W.Frag} {G : Hp} {vs : List V} {ds : List D} (r : Reps Γ K G vs ds) (lo hi : Option Int) : Reps Γ K G (cutV vs lo hi) (cutL ds lo hi) := by
  unfold cutV cutL
  rw [r.length]
  exact (r.drop _).take _
def cutS (x : Str) (lo hi : Option Int) : Str := ⟨(cutL x.cps.toList lo hi).toArray⟩
theorem strIdx_eq (lo hi : Option Int) (n : Nat) : Builtin.Str.strSliceIndices lo hi 1 n = (List.range (HT.sIx n n hi - HT.sIx n 0 lo)).map (HT.sIx n 0 lo + ·) := by
  rw [← sliceRange_one]
  unfold Builtin.Str.strSliceIndices
  have h1 : ∀ (o : Option Int) (d : Nat), d <= n -> (match o with | none => (d : Int) | some i => if (1 : Int) > 0 then max 0 (min (if i < 0 then i + (n : Int) else i) n) else max (-1) (min (if i < 0 then i + (n : Int) else i) ((n : Int) - 1))) = ((HT.sIx n d o : Nat) : Int) := fun o d hd => by
    cases o with
    | none => simp [HT.sIx]
    | some i =>
      simp only [HT.sIx, show (1 : Int) > 0 by decide, if_true]
      by_cases h : i < 0
      · simp only [h, if_true]; omega
      · simp only [h, if_false]; omega
  have e0 := h1 lo 0 (Nat.zero_le _)
  have e1 := h1 hi n (Nat.le_refl _)
  rw [← e0, ← e1]
  rfl
theorem slice_eq (x : Str) (lo hi : Option Int) : Txt.slice x lo hi = cutS x lo hi := by
  have key : (Builtin.Str.strSliceIndices lo hi 1 x.length).filterMap (x.cps[·]?) = cutL x.cps.toList lo hi := by
    rw [strIdx_eq, pick_run]
    unfold cutL
    rw [show x.cps.toList.length = x.length by simp [Str.length]]
  unfold Txt.slice cutS
  split
  · rename_i h
    rw [← key]
    have hl : (Builtin.Str.strSliceIndices lo hi 1 x.length).length = x.length := by simpa using h
    rw [strIdx_eq] at hl ⊢
    rw [pick_run]
    rw [List.length_map, List.length_range] at hl
    have hb : HT.sIx x.length x.length hi <= x.length := by
      cases hi with
      | none => simp [HT.sIx]
      | some i => simp only [HT.sIx]; split <;> omega
    have h0 : HT.sIx x.length 0 lo = 0 \/ x.length = 0 := by omega
    have hx : x.cps.toList.length = x.length := by simp [Str.length]
    have e : (x.cps.toList.drop (HT.sIx x.length 0 lo)).take (HT.sIx x.length x.length hi - HT.sIx x.length 0 lo) = x.cps.toList := by
      rcases h0 with h0 | h0
      · rw [h0, List.drop_zero]
        rw [h0] at hl
        exact List.take_of_length_le (by omega)
      · have : x.cps.toList = [] := List.length_eq_zero_iff.mp (by omega)
        rw [this]; simp
    rw [e]
  · rw [key]
def pN : Env' -> Option (Option Int) := fun _ => some none
def pS (f : FE) : Env' -> Option (Option Int) := fun ρ => (f ρ).bind fun d => match d with
  | .int i => some (some i)
  | _ => none
def TDp (Γ : Cn) (K : PySem.W.Frag) (f : Env' -> Option (Option Int)) : TO := fun σ H Q => ∃ G₀ H₀ G ρ o, At Γ K G₀ H₀ G H ρ σ /\ f ρ = some o /\ ∀ G' H', Step G H G' H' -> Q o H'
structure DP (Γ : Cn) (X : Cx) (e : Option Expr) (f : Env' -> Option (Option Int)) : Prop where
  out : PO X e (TDp Γ X.K f)
theorem dp_none : DP Γ X none pN := ⟨fun pins s σ H Q I ⟨G₀, H₀, G, ρ, o, A, h, k⟩ => by
  cases h
  exact po_none pins s σ H Q I (k G H (.refl A.gh))⟩
theorem dp_some (h : DE Γ X e f) : DP Γ X (some e) (pS f) := ⟨fun pins s σ H Q I ⟨G₀, H₀, G, ρ, o, A, q, k⟩ => by
  unfold pS at q
  obtain ⟨d, hd, q⟩ := Option.bind_eq_some_iff.mp q
  split at q <;> cases q
  exact po_some h.1 pins s σ H Q I ⟨G₀, H₀, G, ρ, _, A, hd, fun v G' H' s r => ⟨_, r.int_inv, k G' H' s⟩⟩⟩
theorem sl_str : SlR X (fun x lo hi H Q => ∃ z, x = .str z /\ z.length <= sizeLine /\ Q (.str (cutS z lo hi)) H) := by
  intro pins s σ H x v vl vu lo hi sl Q I rx hs pl pu h
  obtain ⟨z, rfl, hz, q⟩ := h
  obtain ⟨t, rfl⟩ := rx
  refine ⟨"str", _, PySem.F.slot_str_getitem.lookup, typeIs_str _ _ _, ?_⟩
  obtain ⟨l, rfl, el⟩ : ∃ l : Option (Int × Tok), vl = partValue l /\ l.map (·.1) = lo := by
    cases pl with
    | none => exact ⟨none, rfl, rfl⟩
    | int i t => exact ⟨some (i, t), rfl, rfl⟩
  obtain ⟨u, rfl, eu⟩ : ∃ l : Option (Int × Tok), vu = partValue l /\ l.map (·.1) = hi := by
    cases pu with
    | none => exact ⟨none, rfl, rfl⟩
    | int i t => exact ⟨some (i, t), rfl, rfl⟩
  refine wpAny_getItem_str_slice (l := l) (u := u) (st := none) hs rfl ?_
  have e : (if ((Option.map (fun x => x.fst) (none : Option (Int × Tok))).getD 1 == 1 && (slicePicked z l u none).length == z.length) = true then z else { cps := (List.filterMap (fun x => z.cps[x]?) (slicePicked z l u none)).toArray }) = cutS z lo hi := by
    have e0 : Txt.slice z (l.map (·.1)) (u.map (·.1)) = cutS z lo hi := by
      rw [el, eu]
      exact slice_eq z lo hi
    exact e0
  refine post_val_or_str ⟨?_, fun t' k => ?_⟩
  · rw [e, ← slice_eq]
    exact Nat.le_trans (Txt.slice_le z _ _) hz
  · rw [e]
    exact ⟨.str _, H, I.tok k, ⟨_, rfl⟩, q⟩
def sliceD (lo hi : Option Int) : D -> Option D
  | .lst l => some (.lst (cutL l lo hi))
  | .scr l => some (.lst ((cutL l lo hi).map D.int))
  | .tup l => if HT.sIx l.length 0 lo = 0 /\ HT.sIx l.length l.length hi = l.length then none else some (.tup (cutL l lo hi))
  | .str x => if x.length <= sizeLine then some (.str (cutS x lo hi)) else none
  | _ => none
def slF (f : FE) (fl fh : Env' -> Option (Option Int)) : FE := fun ρ => (f ρ).bind fun d => (fl ρ).bind fun l => (fh ρ).bind fun h => sliceD l h d
variable {fl fh : Env' -> Option (Option Int)} {lo hi : Option Expr}
theorem de_slice (he : DE Γ X e f) (hl : DP Γ X lo fl) (hh : DP Γ X hi fh) : DE Γ X (.Subscript e (.Slice lo hi none p2) pos) (slF f fl fh) := ⟨(pe_slice (sl_list.or (sl_tup.or sl_str)) he.1 hl.1 hh.1).imp fun σ H Q => by
  rintro ⟨G₀, H₀, G, ρ, d, A, h, k⟩
  unfold slF at h
  obtain ⟨x, hx, h⟩ := Option.bind_eq_some_iff.mp h
  obtain ⟨l, hl, h⟩ := Option.bind_eq_some_iff.mp h
  obtain ⟨u, hu, h⟩ := Option.bind_eq_some_iff.mp h
  refine ⟨G₀, H₀, G, ρ, x, A, hx, fun v G1 H1 s1 r1 => ⟨G₀, H₀, G1, ρ, l, A.step s1, hl, fun G2 H2 s2 => ⟨G₀, H₀, G2, ρ, u, (A.step s1).step s2, hu, fun G3 H3 s3 => ?_⟩⟩⟩
  have s := (s1.trans s2).trans s3
  have r := r1.mono (s2.gg.trans s3.gg)
  have gh := s3.gh
  unfold sliceD at h
  split at h
  · cases h
    obtain ⟨a, vs, rfl, ha, rv⟩ := r.lst_inv
    exact .inl ⟨a, vs, rfl, .inl (.inl (gh _ _ ha)), new_lst gh (rv.cut l u) fun w G4 H4 s4 r4 => k w G4 H4 (s.trans s4) r4⟩
  · cases h
    obtain ⟨a, rfl, ha⟩ := r.scr_inv
    refine .inl ⟨a, _, rfl, gh.seq ha, new_lst gh ?_ fun w G4 H4 s4 r4 => k w G4 H4 (s.trans s4) r4⟩
    show Reps Γ X.K G3 (cutL _ l u) _
    rw [cutL_map]
    exact Reps.ints _
  · split at h
    · cases h
    · rename_i hw
      cases h
      obtain ⟨a, vs, rfl, ha, rv⟩ := r.tup_inv
      exact .inr (.inl ⟨a, vs, rfl, .inl (.inl (gh _ _ ha)), by rw [rv.length]; exact hw, new_tup gh (rv.cut l u) fun w G4 H4 s4 r4 => k w G4 H4 (s.trans s4) r4⟩)
  · split at h
    · cases h
      cases r.str_inv
      exact .inr (.inr ⟨_, rfl, by assumption, k _ _ _ s (.str _)⟩)
    · cases h
  · cases h⟩
structure MtD (Γ : Cn) (X : Cx) (T id : String) (g : D -> List D -> Option D) : Prop where
  ex : ∃ r, MtR X id r /\ ∀ {G H v x vs ds z}, Same G H -> Rep Γ X.K G v x -> Reps Γ X.K G vs ds -> g x ds = some z -> ∀ Q : VK, (∀ w G' H', Step G H G' H' -> Rep Γ X.K G' w z -> Q w H') -> r v vs H Q
  ty : ∀ {G H v x ds z}, Same G H -> Rep Γ X.K G v x -> g x ds = some z -> tyV X.K T v H
def mF (g : D -> List D -> Option D) (f : FE) (fr : FA) : FE := fun ρ => (f ρ).bind fun d => (fr ρ).bind fun ds => g d ds
variable {name : Str} {apos cpos : Pos} {o : Expr} {fo : FE}
theorem de_bm {T id : String} {g : D -> List D -> Option D} (pa : PlainAttrs T) (slot : PySem.Slot T name id) (hty : typeOf (.builtin id) = pure (.type "method_descriptor")) (hm : MtD Γ X T id g) (ho : DE Γ X o fo) (ha : DA Γ X (e :: es) fr)
    (hbase : attributeBase o name X.env (eval o X.env) = eval o X.env := by rfl)
    (hfew : ((backTo cpos (starEach (e :: es) X.env)).all (fun x => !x.1) && (backToKw cpos (keywordEach [] X.env)).all (fun x => x.1.isSome)
      && decide ((e :: es).length + ([] : List Keyword).length + (if ([] : List Keyword).isEmpty then 0 else 1) < 30)) = true := by rfl)
    (hline : (apos.endLine == cpos.line) = true := by rfl) (hs : starEach (e :: es) X.env = (false, eval e X.env) :: starEach es X.env := by rfl) (hplain : (backTo cpos (starEach es X.env)).any (·.1) = false := by rfl) :
    DE Γ X (.Call (.Attribute o name apos) (e :: es) [] cpos) (mF g fo fr) := ⟨by
  obtain ⟨r, h1, h2⟩ := hm.ex
  refine (pe_bm pa slot hty h1 ho.1 ha.1 hbase hfew hline hs hplain).imp fun σ H Q => ?_
  rintro ⟨G₀, H₀, G, ρ, d, A, h, k⟩
  unfold mF at h
  obtain ⟨x, hx, h⟩ := Option.bind_eq_some_iff.mp h
  obtain ⟨ds, hd, h⟩ := Option.bind_eq_some_iff.mp h
  exact ⟨G₀, H₀, G, ρ, x, A, hx, fun v G1 H1 s1 r1 => ⟨hm.ty s1.gh r1 h, G₀, H₀, G1, ρ, ds, A.step s1, hd, fun vs G2 H2 s2 r2 => h2 s2.gh (r1.mono s2.gg) r2 h Q fun w G3 H3 s3 r3 => k w G3 H3 ((s1.trans s2).trans s3) r3⟩⟩⟩
def strsD : List D -> Option (List Str)
  | [] => some []
  | .str x :: r => (strsD r).map (x :: ·)
  | _ :: _ => none
def joinD : D -> List D -> Option D
  | .str sep, [.lst l] => (strsD l).bind fun ys => if (ys.map (·.length)).sum + ys.length * sep.length <= 16777216 then some (.str (Txt.join sep ys)) else none
  | _, _ => none
theorem strsD_ok {K : PySem.W.Frag} {G : Hp} : ∀ {vs : List V} {ds : List D} {ys : List Str}, Reps Γ K G vs ds -> strsD ds = some ys -> vs = ys.map V.str
  | _, [], ys, r, h => by cases r; cases h; rfl
  | _, d :: ds, ys, .cons h1 h2, h => by
    cases d with
    | str x =>
      obtain ⟨zs, hz, rfl⟩ := Option.map_eq_some_iff.mp (show (strsD ds).map (x :: ·) = some ys from h)
      rw [h1.str_inv, strsD_ok h2 hz]; rfl
    | _ => cases h
theorem strsAre_of : ∀ {ys : List Str} {us : List Value}, Vals (ys.map V.str) us -> StrsAre us ys
  | [], _, r => by rw [List.map_nil] at r; cases r; exact .nil
  | y :: ys, _, r => by
    rw [List.map_cons] at r
    cases r with
    | cons r1 r2 =>
      obtain ⟨t, e⟩ := r1
      subst e
      exact .cons y t (strsAre_of r2)
theorem md_join : MtD Γ X "str" "str.join" joinD := by
  refine ⟨⟨fun v vs H Q => ∃ sep a ys, v = .str sep /\ vs = [.ref a] /\ H a = some (.lst (ys.map V.str)) /\ (ys.map (·.length)).sum + ys.length * sep.length <= 16777216 /\ Q (.str (Txt.join sep ys)) H, ?_, ?_⟩, ?_⟩
  · intro pins s σ H x xs v us Q I rx rs h
    obtain ⟨sep, a, ys, rfl, rfl, ha, hz, q⟩ := h
    obtain ⟨t, rfl⟩ := rx
    obtain ⟨u, rfl, ru⟩ := vals1 rs
    cases ru
    obtain ⟨its, rv, pl, _⟩ := I.list (.inl (.inl ha))
    exact join_list pl.isList (strsAre_of rv) hz fun t' k => ⟨.str _, H, I.tok k, ⟨_, rfl⟩, q⟩
  · intro G H v x vs ds z gh r1 r2 h Q k
    unfold joinD at h
    split at h
    · obtain ⟨ys, hy, h⟩ := Option.bind_eq_some_iff.mp h
      split at h
      · cases h
        cases r1.str_inv
        obtain ⟨v, rfl, r3⟩ := r2.one
        obtain ⟨a, ws, rfl, ha, rw'⟩ := r3.lst_inv
        refine ⟨_, a, ys, rfl, rfl, ?_, by assumption, k _ G H (.refl gh) (.str _)⟩
        rw [← strsD_ok rw' hy]
        exact gh _ _ ha
      · cases h
    · cases h
  · intro G H v x ds z gh r h
    unfold joinD at h
    split at h
    · cases r.str_inv; exact rfl
    · cases h
def blsD : List D -> Option (List Bool)
  | [] => some []
  | .bl x :: r => (blsD r).map (x :: ·)
  | _ :: _ => none
theorem blsD_ok {K : PySem.W.Frag} {G : Hp} : ∀ {vs : List V} {ds : List D} {ys : List Bool}, Reps Γ K G vs ds -> blsD ds = some ys -> vs = ys.map V.bl
  | _, [], ys, r, h => by cases r; cases h; rfl
  | _, d :: ds, ys, .cons h1 h2, h => by
    cases d with
    | bl x =>
      obtain ⟨zs, hz, rfl⟩ := Option.map_eq_some_iff.mp (show (blsD ds).map (x :: ·) = some ys from h)
      rw [h1.bl_inv, blsD_ok h2 hz]; rfl
    | _ => cases h
def allD : List D -> Option D
  | [.lst l] => (blsD l).map fun bs => D.bl (bs.all id)
  | _ => none
theorem vals_bl : ∀ {bs : List Bool} {us : List Value}, Vals (bs.map V.bl) us -> us = bs.map Value.bool
  | [], _, r => by rw [List.map_nil] at r; cases r; rfl
  | y :: ys, _, r => by
    rw [List.map_cons] at r
    cases r with
    | cons r1 r2 => cases r1; rw [vals_bl r2]; rfl
theorem all_range (bs : List Bool) : (List.range bs.length).all (fun i => bs.getD i false) = bs.all id := by
  rw [Bool.eq_iff_iff, List.all_eq_true, List.all_eq_true]
  constructor
  · intro h x hx
    obtain ⟨i, hi, e⟩ := List.mem_iff_getElem.mp hx
    have := h i (List.mem_range.mpr hi)
    simp [List.getD, hi] at this
    rw [← e]; exact this
  · intro h i hi
    have hi' := List.mem_range.mp hi
    have := h (bs[i]) (List.getElem_mem hi')
    simp [List.getD, hi']
    exact this
theorem truth_bl {prog : Program} {w : World} {A : Around} {bs : List Bool} : TruthOf prog w A (fun i v => (bs.map Value.bool).toArray[i]? = some v) (fun i => bs.getD i false) := fun i v s Q E hP hQ => by
  have hP' : (bs.map Value.bool)[i]? = some v := by simpa using hP
  rw [List.getElem?_map] at hP'
  obtain ⟨b, hb, rfl⟩ := Option.map_eq_some_iff.mp hP'
  have : bs.getD i false = b := by simp [List.getD, hb]
  have hQ' : Q (bs.getD i false) s := hQ
  rw [this] at hQ'
  exact wpAny_truthy_bool hQ'
theorem bd_all (hc : X.calm = true) : BltD Γ X "all" allD := by
  refine ⟨fun vs H Q => ∃ (a : Addr) (bs : List Bool), vs = [.ref a] /\ H a = some (.lst (bs.map V.bl)) /\ Q (.bl (bs.all id)) H, ?_, ?_⟩
  · intro pins s σ H xs us Q I r h
    obtain ⟨a, bs, rfl, ha, q⟩ := h
    obtain ⟨u, rfl, ru⟩ := vals1 r
    cases ru
    obtain ⟨its, rv, pl, _⟩ := I.list (.inl (.inl ha))
    have e := vals_bl rv
    subst e
    refine call_all_walk (wpAny_pyIter_list pl.isList ?_)
    have ne : a ≠ s.heap.objs.size := by obtain ⟨o, _, h1, _⟩ := pl; exact Nat.ne_of_lt (Heap.lt_size h1)
    refine ⟨s.heap.objs.size, _, _, _, _, _, fun i => bs.getD i false, rfl, Walks.list (A := X.A.in1) (show X.A.in1.handled = none from I.ok.hd hc) s.heap.objs.size a ne (bs.map Value.bool).toArray, ⟨⟨_, Heap.get?_push_size _ rfl, rfl, rfl⟩, pl.isList.at fun o q => Heap.get?_push_of_some _ q⟩, truth_bl, fun h' tk hk => ?_⟩
    have e2 : (bs.map Value.bool).toArray.size = bs.length := by simp
    rw [e2, all_range]
    refine ⟨.bl _, H, I.kept fun b o z => hk b o ?_ (Heap.get?_push_of_some _ z), rfl, q⟩
    intro z'
    have : b = s.heap.objs.size := by simpa using z'
    exact absurd (Heap.lt_size z) (by rw [this]; exact Nat.lt_irrefl _)
  · intro G H vs ds z gh r h Q k
    unfold allD at h
    split at h
    · obtain ⟨bs, hb, rfl⟩ := Option.map_eq_some_iff.mp h
      obtain ⟨v, rfl, r1⟩ := r.one
      obtain ⟨a, ws, rfl, ha, rw'⟩ := r1.lst_inv
      refine ⟨a, bs, rfl, ?_, k _ G H (.refl gh) (.bl _)⟩
      rw [← blsD_ok rw' hb]
      exact gh _ _ ha
    · cases h
end
end L2
end
section
namespace L2
open PySem PySem.Spec PyProof.Rows
structure Yd (Γ : Cn) (K : PySem.W.Frag) (J : It) (G : Hp) (ds : List D) : Prop where
  go : ∀ (i : Nat) d G2 H2, ds[i]? = some d -> Same G G2 -> Same G2 H2 -> J.go i H2 /\ ∀ x H3, J.yld i H2 x H3 -> ∃ G3, Step G2 H2 G3 H3 /\ Rep Γ K G3 x d
  stop : ∀ G2 H2, Same G G2 -> Same G2 H2 -> J.stop ds.length H2
def TDi (Γ : Cn) (K : PySem.W.Frag) (f : FA) : TI := fun σ H R => ∃ G₀ H₀ G ρ ds, At Γ K G₀ H₀ G H ρ σ /\ f ρ = some ds /\ ∀ J G' H', Step G H G' H' -> Yd Γ K J G' ds -> R J H'
structure DI (Γ : Cn) (X : Cx) (tg e : Expr) (f : FA) : Prop where
  out : PI X tg e (TDi Γ X.K f)
theorem PI.imp {X : Cx} {tg e : Expr} {t t' : TI} (h : PI X tg e t) (i : ∀ σ H R, t' σ H R -> t σ H R) : PI X tg e t' := fun pins s σ H R I q => h pins s σ H R I (i _ _ _ q)
section
variable {Γ : Cn} {X : Cx} {a b c e tg iter : Expr} {es : List Expr} {fa fb fc f : FE} {fr fi : FA} {pos p2 p : Pos}
theorem yd_tup {K : PySem.W.Frag} {G : Hp} {a : Addr} {vs : List V} {ds : List D} (h : G a = some (.tup vs)) (r : Reps Γ K G vs ds) : Yd Γ K (Itt K a) G ds := by
  refine ⟨fun i d G2 H2 hd g1 g2 => ?_, fun G2 H2 g1 g2 => ⟨vs, .inl (.inl (g2 _ _ (g1 _ _ h))), by rw [r.length]; exact Nat.le_refl _⟩⟩
  obtain ⟨v, hv, rv⟩ := r.get hd
  refine ⟨⟨vs, v, .inl (.inl (g2 _ _ (g1 _ _ h))), hv⟩, fun x H3 ⟨e1, e2⟩ => ?_⟩
  subst e1
  have := e2 vs (.inl (.inl (g2 _ _ (g1 _ _ h))))
  rw [hv] at this
  cases this
  exact ⟨G2, .refl g2, rv.mono g1⟩
theorem yd_enum {K : PySem.W.Frag} {G : Hp} {a : Addr} {vs : List V} {ds : List D} (h : SqL K G a vs) (r : Reps Γ K G vs ds) : Yd Γ K (Ite K a) G (ds.mapIdx fun i d => D.tup [.int i, d]) := by
  refine ⟨fun i d G2 H2 hd g1 g2 => ?_, fun G2 H2 g1 g2 => ⟨vs, g2.seq (g1.seq h), by rw [List.length_mapIdx, r.length]; exact Nat.le_refl _⟩⟩
  rw [List.getElem?_mapIdx] at hd
  obtain ⟨d', hd', rfl⟩ := Option.map_eq_some_iff.mp hd
  obtain ⟨v, hv, rv⟩ := r.get hd'
  refine ⟨⟨vs, v, g2.seq (g1.seq h), hv⟩, fun x H3 ⟨T, y, e0, hT, e1, e2⟩ => ?_⟩
  subst e0
  have := e2 vs (g2.seq (g1.seq h))
  rw [hv] at this
  cases this
  subst e1
  have s := Step.new (o := .tup [.int i, v]) g2 hT
  exact ⟨_, s, .tup upd_same (.cons (.int _) (.cons ((rv.mono g1).mono s.gg) .nil))⟩
def itemsD : D -> Option (List D)
  | .lst l => some l
  | .tup l => some l
  | .scr l => some (l.map D.int)
  | _ => none
def itF (f : FE) : FA := fun ρ => (f ρ).bind itemsD
theorem pi_seq {l : Expr} {tl : TE} (hl : PE X l tl) : PI X tg l (fun σ H R => tl σ H fun x H1 => (∃ a, x = .ref a /\ (∃ xs, SqL X.K H1 a xs) /\ R (Itl X.K a) H1) \/ (∃ a, x = .ref a /\ (∃ xs, SqT X.K H1 a xs) /\ R (Itt X.K a) H1)) := by
  intro pins s σ H R I h
  refine thn (hl pins s σ H _ I h) fun v s1 ⟨x, H1, I1, r1, q1⟩ => ?_
  rcases q1 with ⟨a, e, ⟨xs, hq⟩, q⟩ | ⟨a, e, ⟨xs, hq⟩, q⟩
  · subst e
    cases r1
    obtain ⟨its, rv, p, hz⟩ := I1.list hq
    refine wpAny_pyIter_list p.isList ?_
    refine ⟨s1.heap.objs.size, [s1.heap.objs.size], _, _, H1, rfl, I1.kept (t' := s1.toks) fun b o e => Heap.get?_push_of_some _ e, turn_list a _, ⟨_, Heap.get?_push_size _ rfl, rfl, rfl⟩, fun b hb => ?_, q⟩
    have e : b = s1.heap.objs.size := by simpa using hb
    subst e
    exact I1.fpOk (Nat.le_refl _) (I1.hok.fresh (Nat.le_refl _))
  · subst e
    cases r1
    obtain ⟨its, rv, p, hz⟩ := I1.tuple hq
    refine wpAny_pyIter_tuple (show s1.heap.IsTuple a its.toArray from p) ?_
    refine ⟨s1.heap.objs.size, [s1.heap.objs.size], _, _, H1, rfl, I1.kept (t' := s1.toks) fun b o e => Heap.get?_push_of_some _ e, turn_tuple a _, ⟨_, Heap.get?_push_size _ rfl, rfl, rfl⟩, fun b hb => ?_, q⟩
    have e : b = s1.heap.objs.size := by simpa using hb
    subst e
    exact I1.fpOk (Nat.le_refl _) (I1.hok.fresh (Nat.le_refl _))
theorem di_seq (h : DE Γ X iter f) : DI Γ X tg iter (itF f) := ⟨(pi_seq h.1).imp fun σ H R => by
  rintro ⟨G₀, H₀, G, ρ, ds, A, h, k⟩
  unfold itF at h
  obtain ⟨d, hd, h⟩ := Option.bind_eq_some_iff.mp h
  refine ⟨G₀, H₀, G, ρ, d, A, hd, fun v G' H' s r => ?_⟩
  unfold itemsD at h
  split at h
  · cases h
    obtain ⟨a, vs, rfl, ha, rv⟩ := r.lst_inv
    refine .inl ⟨a, rfl, ⟨vs, .inl (.inl (s.gh _ _ ha))⟩, k _ G' H' s ?_⟩
    refine ⟨fun i d G2 H2 hd g1 g2 => ?_, fun G2 H2 g1 g2 => ⟨vs, .inl (.inl (g2 _ _ (g1 _ _ ha))), by rw [rv.length]; exact Nat.le_refl _⟩⟩
    obtain ⟨v, hv, rv'⟩ := rv.get hd
    refine ⟨⟨vs, v, .inl (.inl (g2 _ _ (g1 _ _ ha))), hv⟩, fun x H3 ⟨e1, e2⟩ => ?_⟩
    subst e1
    have := e2 vs (.inl (.inl (g2 _ _ (g1 _ _ ha))))
    rw [hv] at this
    cases this
    exact ⟨G2, .refl g2, rv'.mono g1⟩
  · cases h
    obtain ⟨a, vs, rfl, ha, rv⟩ := r.tup_inv
    exact .inr ⟨a, rfl, ⟨vs, .inl (.inl (s.gh _ _ ha))⟩, k _ G' H' s (yd_tup ha rv)⟩
  · rename_i l
    cases h
    obtain ⟨a, rfl, ha⟩ := r.scr_inv
    refine .inl ⟨a, rfl, ⟨_, s.gh.seq ha⟩, k _ G' H' s ?_⟩
    refine ⟨fun i d G2 H2 hd g1 g2 => ?_, fun G2 H2 g1 g2 => ⟨_, g2.seq (g1.seq ha), by simp⟩⟩
    rw [List.getElem?_map] at hd
    obtain ⟨n, hn, rfl⟩ := Option.map_eq_some_iff.mp hd
    have hv : (List.map V.int l)[i]? = some (V.int n) := by rw [List.getElem?_map, hn]; rfl
    refine ⟨⟨_, _, g2.seq (g1.seq ha), hv⟩, fun x H3 ⟨e1, e2⟩ => ?_⟩
    subst e1
    have := e2 _ (g2.seq (g1.seq ha))
    rw [hv] at this
    cases this
    exact ⟨G2, .refl g2, .int _⟩
  · cases h⟩
def signsD : D -> Option (List D)
  | .str x => some (x.cps.toList.map fun c => D.str ⟨#[c]⟩)
  | _ => none
def itS (f : FE) : FA := fun ρ => (f ρ).bind signsD
theorem di_str {n : Str} {q : Pos} (h : DE Γ X iter f) : DI Γ X (.Name n q) iter (itS f) := ⟨(pi_str h.1).imp fun σ H R => by
  rintro ⟨G₀, H₀, G, ρ, ds, A, h, k⟩
  unfold itS at h
  obtain ⟨d, hd, h⟩ := Option.bind_eq_some_iff.mp h
  refine ⟨G₀, H₀, G, ρ, d, A, hd, fun v G' H' s r => ?_⟩
  unfold signsD at h
  split at h <;> cases h
  cases r.str_inv
  rename_i x
  refine ⟨x, rfl, k _ G' H' s ⟨fun i d G2 H2 hd g1 g2 => ?_, fun G2 H2 g1 g2 => ?_⟩⟩
  · rw [List.getElem?_map] at hd
    obtain ⟨c, hc, rfl⟩ := Option.map_eq_some_iff.mp hd
    have hc' : x.cps[i]? = some c := by simpa using hc
    refine ⟨(Array.getElem?_eq_some_iff.mp hc').1, fun y H3 ⟨e1, c2, h2, e2⟩ => ?_⟩
    subst e1
    subst e2
    rw [hc'] at h2
    cases h2
    exact ⟨G2, .refl g2, .str _⟩
  · show _ = x.cps.size
    simp⟩
def enumD : D -> Option (List D)
  | .lst l => some (l.mapIdx fun i d => D.tup [.int i, d])
  | .scr l => some ((l.map D.int).mapIdx fun i d => D.tup [.int i, d])
  | _ => none
def itE (f : FE) : FA := fun ρ => (f ρ).bind enumD
theorem di_enum {elts : List Expr} {k1 : Nat} {tpos : Pos} (hg : Gl X "enumerate") (hm : X.mg "enumerate" = none) (h : DE Γ X a f) (hs : starEach [a] X.env = [(false, eval a X.env)] := by rfl) (hs0 : starEach ([a] : List Expr) X.env = (false, eval a X.env) :: starEach [] X.env := by rfl) :
    DI Γ X (.Tuple elts k1 tpos) (.Call (.Name "enumerate" p) [a] [] pos) (itE f) := ⟨(pi_enum hg hm (pa_cons h.1 pa_nil hs0) hs).imp fun σ H R => by
  rintro ⟨G₀, H₀, G, ρ, ds, A, h, k⟩
  unfold itE at h
  obtain ⟨d, hd, h⟩ := Option.bind_eq_some_iff.mp h
  refine ⟨G₀, H₀, G, ρ, d, A, hd, fun v G' H' s r => ?_⟩
  unfold enumD at h
  split at h
  · cases h
    obtain ⟨a, vs, rfl, ha, rv⟩ := r.lst_inv
    exact ⟨a, rfl, ⟨vs, .inl (.inl (s.gh _ _ ha))⟩, k _ G' H' s (yd_enum (.inl (.inl ha)) rv)⟩
  · cases h
    obtain ⟨a, rfl, ha⟩ := r.scr_inv
    exact ⟨a, rfl, ⟨_, s.gh.seq ha⟩, k _ G' H' s (yd_enum ha (Reps.ints _))⟩
  · cases h⟩
theorem yd_range {K : PySem.W.Frag} {G : Hp} {lo : Int} {n : Nat} : Yd Γ K (Itr lo n) G ((List.range n).map fun i : Nat => D.int (lo + i)) := by
  refine ⟨fun i d G2 H2 hd g1 g2 => ?_, fun G2 H2 g1 g2 => ?_⟩
  · rw [List.getElem?_map] at hd
    obtain ⟨j, hj, rfl⟩ := Option.map_eq_some_iff.mp hd
    have hi : i < n := by
      have := (List.getElem?_eq_some_iff.mp hj).1
      simpa using this
    have e : j = i := by simpa [hi] using hj.symm
    subst e
    refine ⟨hi, fun x H3 ⟨e1, e2⟩ => ?_⟩
    subst e1
    subst e2
    exact ⟨G2, .refl g2, .int _⟩
  · show n <= _
    simp
def rng1 : List D -> Option (List D)
  | [.int j] => if -(2 ^ 62) <= j /\ j < 2 ^ 62 then some ((List.range j.toNat).map fun i : Nat => D.int (0 + i)) else none
  | _ => none
def itR (g : List D -> Option (List D)) (fr : FA) : FA := fun ρ => (fr ρ).bind g
theorem di_range1 (hg : Gl X "range") (hm : X.mg "range" = none) (h : DA Γ X [a] fr) (hs : starEach [a] X.env = [(false, eval a X.env)] := by rfl) : DI Γ X tg (.Call (.Name "range" p) [a] [] pos) (itR rng1 fr) := ⟨(pi_range1 hg hm h.1 hs).imp fun σ H R => by
  rintro ⟨G₀, H₀, G, ρ, ds, A, h, k⟩
  unfold itR at h
  obtain ⟨d, hd, h⟩ := Option.bind_eq_some_iff.mp h
  refine ⟨G₀, H₀, G, ρ, d, A, hd, fun v G' H' s r => ?_⟩
  unfold rng1 at h
  split at h
  · split at h
    · rename_i hz
      cases h
      obtain ⟨v, rfl, r1⟩ := r.one
      cases r1.int_inv
      exact ⟨_, rfl, hz.1, hz.2, k _ G' H' s yd_range⟩
    · cases h
  · cases h⟩
abbrev FG := D -> Env' -> Option Env'
abbrev FGs := List D -> Env' -> Option Env'
def TDg (Γ : Cn) (K : PySem.W.Frag) (g : FG) : TG := fun v σ H Q => ∃ G₀ H₀ G ρ d ρ', At Γ K G₀ H₀ G H ρ σ /\ Rep Γ K G v d /\ g d ρ = some ρ' /\ ∀ σ', At Γ K G₀ H₀ G H ρ' σ' -> Q σ' H
def TDgs (Γ : Cn) (K : PySem.W.Frag) (g : FGs) : TGs := fun vs σ H Q => ∃ G₀ H₀ G ρ ds ρ', At Γ K G₀ H₀ G H ρ σ /\ Reps Γ K G vs ds /\ g ds ρ = some ρ' /\ ∀ σ', At Γ K G₀ H₀ G H ρ' σ' -> Q σ' H
structure DG (Γ : Cn) (X : Cx) (tg : Expr) (g : FG) : Prop where
  pg : PG X tg (TDg Γ X.K g)
  no : ∀ d ρ ρ', g d ρ = some ρ' -> NoOwn ρ -> NoOwn ρ'
structure DGs (Γ : Cn) (X : Cx) (ts : List Expr) (g : FGs) : Prop where
  pg : PGs X ts (TDgs Γ X.K g)
  no : ∀ d ρ ρ', g d ρ = some ρ' -> NoOwn ρ -> NoOwn ρ'
theorem PG.imp {t t' : TG} (h : PG X tg t) (i : ∀ v σ H Q, t' v σ H Q -> t v σ H Q) : PG X tg t' := fun pins s σ H v u Q I r q => h pins s σ H v u Q I r (i _ _ _ _ q)
theorem PGs.imp {ts : List Expr} {t t' : TGs} (h : PGs X ts t) (i : ∀ v σ H Q, t' v σ H Q -> t v σ H Q) : PGs X ts t' := fun pins s σ H v u Q I r q => h pins s σ H v u Q I r (i _ _ _ _ q)
def gSet (i : Nat) : FG := fun d ρ => some (ρ.set i (some (.sh d)))
theorem noOwn_set {ρ : Env'} {i : Nat} {d : D} (h : NoOwn ρ) : NoOwn (ρ.set i (some (.sh d))) := fun j ds e => by
  by_cases hj : j = i
  · subst hj
    rw [List.getElem?_set, if_pos rfl] at e
    split at e <;> cases e
    exact ⟨_, rfl⟩
  · rw [List.getElem?_set_ne (Ne.symm hj)] at e
    exact h j ds e
theorem dg_name (i : Nat) {x : Str} (hN : X.N.Nodup) (hi : X.N[i]? = some x := by rfl) (hx : Loc X.env.scope x := by first | exact Or.inl rfl | exact Or.inr rfl) (hf : X.fn x = true \/ X.env.scope.names.lookup x = some .local := by first | exact .inl rfl | exact .inr rfl | assumption) : DG Γ X (.Name x pos) (gSet i) := by
  refine ⟨(pg_name hN hi hx hf).imp fun v σ H Q => ?_, fun d ρ ρ' e h => ?_⟩
  · rintro ⟨G₀, H₀, G, ρ, d, ρ', A, r, h, k⟩
    cases h
    exact k _ (A.setSh r)
  · cases e
    exact noOwn_set h
def gsNil : FGs := fun ds ρ => match ds with
  | [] => some ρ
  | _ => none
def gsCons (g : FG) (gs : FGs) : FGs := fun ds ρ => match ds with
  | d :: r => (g d ρ).bind fun ρ' => gs r ρ'
  | _ => none
theorem dgs_nil : DGs Γ X [] gsNil := by
  refine ⟨pgs_nil.imp fun vs σ H Q => ?_, fun d ρ ρ' e h => ?_⟩
  · rintro ⟨G₀, H₀, G, ρ, ds, ρ', A, r, h, k⟩
    unfold gsNil at h
    split at h <;> cases h
    cases r
    exact ⟨rfl, k σ A⟩
  · unfold gsNil at e
    split at e <;> cases e
    exact h
theorem dgs_cons {ts : List Expr} {g : FG} {gs : FGs} (h1 : DG Γ X e g) (h2 : DGs Γ X ts gs) (hs : (assignEach (e :: ts) X.env).map (·.2) = assign e X.env :: (assignEach ts X.env).map (·.2) := by rfl) : DGs Γ X (e :: ts) (gsCons g gs) := by
  refine ⟨(pgs_cons h1.pg h2.pg hs).imp fun vs σ H Q => ?_, fun ds ρ ρ' e h => ?_⟩
  · rintro ⟨G₀, H₀, G, ρ, ds, ρ', A, r, h, k⟩
    unfold gsCons at h
    split at h
    · obtain ⟨ρ1, h1, h⟩ := Option.bind_eq_some_iff.mp h
      cases r with
      | cons r1 r2 => exact ⟨_, _, rfl, G₀, H₀, G, ρ, _, ρ1, A, r1, h1, fun σ1 A1 => ⟨G₀, H₀, G, ρ1, _, ρ', A1, r2, h, k⟩⟩
    · cases h
  · unfold gsCons at e
    split at e
    · obtain ⟨ρ1, e1, e⟩ := Option.bind_eq_some_iff.mp e
      exact h2.no _ _ _ e (h1.no _ _ _ e1 h)
    · cases e
def gTupD (n : Nat) (gs : FGs) : FG := fun d ρ => match d with
  | .tup ds => if ds.length = n then gs ds ρ else none
  | _ => none
theorem dg_tup {ts : List Expr} {k : Nat} {gs : FGs} {n : Nat} (hc : X.calm = true) (h : DGs Γ X ts gs) (hn : (assignEach ts X.env).length = n := by rfl) (hst : (assignEach ts X.env).findIdx? (·.1) = none := by rfl) : DG Γ X (.Tuple ts k pos) (gTupD n gs) := by
  refine ⟨(pg_tup hc h.pg hn hst).imp fun v σ H Q => ?_, fun ds ρ ρ' e q => ?_⟩
  · rintro ⟨G₀, H₀, G, ρ, d, ρ', A, r, h, k⟩
    unfold gTupD at h
    split at h
    · split at h
      · rename_i hl
        obtain ⟨a, vs, rfl, ha, rv⟩ := r.tup_inv
        exact ⟨a, vs, rfl, .inl (.inl (A.gh _ _ ha)), by rw [rv.length]; exact hl, G₀, H₀, G, ρ, _, ρ', A, rv, h, k⟩
      · cases h
    · cases h
  · unfold gTupD at e
    split at e
    · split at e
      · exact h.no _ _ _ e q
      · cases e
    · cases e
def compL (g : FG) (ft : FT) (fe : FE) : List D -> Env' -> Option (List D)
  | [], _ => some []
  | x :: xs, ρ => (g x ρ).bind fun ρ1 => (ft ρ1).bind fun b => if b = true then (fe ρ1).bind fun d => (compL g ft fe xs ρ1).map (d :: ·) else compL g ft fe xs ρ1
def fvEnv (fv : List (Option Nat)) (ρ : Env') : Env' := fv.map fun o => o.bind fun j => match ρ[j]? with
  | some (some (.sh d)) => some (.sh d)
  | _ => none
def compF (fi : FA) (g : FG) (ft : FT) (fe : FE) (fv : List (Option Nat)) : FA := fun ρ => (fi ρ).bind fun xs => if xs.length <= sizeLine then compL g ft fe xs (fvEnv fv ρ) else none
structure DTs (Γ : Cn) (X : Cx) (es : List Expr) (f : FT) : Prop where
  out : PTs X es (TDt Γ X.K f)
theorem PTs.imp {t t' : TT} (h : PTs X es t) (i : ∀ σ H Q, t' σ H Q -> t σ H Q) : PTs X es t' := fun pins s σ H Q I q => h pins s σ H Q I (i _ _ _ q)
def tT : FT := fun _ => some true
theorem dts_nil : DTs Γ X [] tT := ⟨pts_nil.imp fun σ H Q => by
  rintro ⟨G₀, H₀, G, ρ, b, A, h, k⟩
  cases h
  exact k G H (.refl A.gh)⟩
variable {scope : Scope} {N' : List Str} {fv : List (Option Nat)} {g : FG} {ft : FT} {fe : FE} {ifs : List Expr} {elt : Expr}
structure DB (Γ : Cn) (X : Cx) (N' : List Str) (scope : Scope) (tg : Expr) (ifs : List Expr) (elt : Expr) (g : FG) (ft : FT) (fe : FE) : Prop where
  out : ∀ (cl : List (Str × Addr)) (C : Addr) (s₀ : Shared) (H₀ : Hp) (fp : List Addr), DG Γ (compCx X N' scope cl C s₀ H₀ fp) tg g /\ DTs Γ (compCx X N' scope cl C s₀ H₀ fp) ifs ft /\ DE Γ (compCx X N' scope cl C s₀ H₀ fp) elt fe
theorem DB.pb (h : DB Γ X N' scope tg ifs elt g ft fe) : PB X N' scope tg ifs elt (TDg Γ X.K g) (TDt Γ X.K ft) (TD Γ X.K fe) := fun cl C s₀ H₀ fp => ⟨(h.1 cl C s₀ H₀ fp).1.pg, (h.1 cl C s₀ H₀ fp).2.1.1, (h.1 cl C s₀ H₀ fp).2.2.1⟩
theorem fv_rel {K : PySem.W.Frag} {G₀ H₀ G H : Hp} {ρ : Env'} {σ : St} (A : At Γ K G₀ H₀ G H ρ σ) : At Γ K G H G H (fvEnv fv ρ) (fvSt fv σ) /\ NoOwn (fvEnv fv ρ) := by
  have no : NoOwn (fvEnv fv ρ) := fun i ds e => by
    unfold fvEnv at e
    rw [List.getElem?_map] at e
    obtain ⟨o, ho, e⟩ := Option.map_eq_some_iff.mp e
    cases o with
    | none => cases e
    | some j =>
      simp only [Option.bind_some] at e
      split at e <;> cases e
      exact ⟨_, rfl⟩
  refine ⟨⟨.refl A.gh, .ofSh (by simp [fvEnv, fvSt]) no fun i d e => ?_⟩, no⟩
  unfold fvEnv at e
  unfold fvSt
  rw [List.getElem?_map] at e ⊢
  obtain ⟨o, ho, e⟩ := Option.map_eq_some_iff.mp e
  rw [ho]
  cases o with
  | none => cases e
  | some j =>
    simp only [Option.bind_some] at e
    split at e
    · rename_i d' hd'
      cases e
      obtain ⟨v, h1, h2⟩ := A.env.sh j d hd'
      exact ⟨v, by simp [h1], h2⟩
    · cases e
theorem comp_tdo (no : ∀ d ρ ρ', g d ρ = some ρ' -> NoOwn ρ -> NoOwn ρ') : ∀ σ H Q, TDo Γ X.K (compF fi g ft fe fv) σ H Q -> tLC (TDi Γ X.K fi) (TDg Γ X.K g) (TDt Γ X.K ft) (TD Γ X.K fe) fv σ H Q := by
  rintro σ H Q ⟨G₀, H₀, G, ρ, ds, A, h, k⟩
  unfold compF at h
  obtain ⟨xs, hx, h⟩ := Option.bind_eq_some_iff.mp h
  split at h
  case isFalse => cases h
  rename_i hz
  refine ⟨G₀, H₀, G, ρ, xs, A, hx, fun J G1 H1 s1 Y acc hacc => ?_⟩
  have gacc : G1 acc = none := s1.gh.free hacc
  obtain ⟨A0, no0⟩ := fv_rel (fv := fv) (A.step s1)
  refine ⟨fun i m ys σ' H' => m = xs.length - i /\ i <= xs.length /\ ys.length <= i /\ ∃ G' ρ' done rest, At Γ X.K G1 H1 G' H' ρ' σ' /\ NoOwn ρ' /\ H' acc = some (.lst ys) /\ G' acc = none /\ Reps Γ X.K G' ys done /\ compL g ft fe (xs.drop i) ρ' = some rest /\ done ++ rest = ds, ?_, ?_⟩
  · refine ⟨xs.length, rfl, Nat.zero_le _, Nat.le_refl _, G1, fvEnv fv ρ, [], ds, ?_, no0, upd_same, gacc, .nil, by rw [List.drop_zero]; exact h, rfl⟩
    have sn := Step.newOwn (o := .lst []) s1.gh hacc
    exact ⟨sn, .ofSh A0.env.len no0 A0.env.sh⟩
  · rintro i m ys σ' H' ⟨hm, hi, hyi, G', ρ', done, rest, A', no', hacc', gacc', ry, hr, hd⟩
    subst hm
    refine ⟨hacc', ?_⟩
    by_cases hlt : i < xs.length
    · right
      have hxi : xs[i]? = some xs[i] := by simp [hlt]
      obtain ⟨go, yl⟩ := Y.go i _ G' H' hxi A'.st.gg A'.gh
      refine ⟨go, fun x H2 hy => ?_⟩
      obtain ⟨G2, s2, r2⟩ := yl x H2 hy
      have A2 := A'.step s2
      have hdr : xs.drop i = xs[i] :: xs.drop (i + 1) := List.drop_eq_getElem_cons hlt
      rw [hdr] at hr
      unfold compL at hr
      obtain ⟨ρ1, h1, hr⟩ := Option.bind_eq_some_iff.mp hr
      obtain ⟨b, h2, hr⟩ := Option.bind_eq_some_iff.mp hr
      refine ⟨G1, H1, G2, ρ', _, ρ1, A2, r2, h1, fun σ2 A3 => ⟨G1, H1, G2, ρ1, b, A3, h2, fun G4 H4 s4 => ?_⟩⟩
      have no1 := no _ _ _ h1 no'
      have hH4 : H4 acc = some (.lst ys) := s4.hh _ _ (s2.hh _ _ hacc')
      have hG4 : G4 acc = none := (s4.out _ _ (s2.hh _ _ hacc')).trans ((s2.out _ _ hacc').trans gacc')
      cases b with
      | false =>
        rw [if_neg Bool.false_ne_true] at hr
        refine iteF ⟨xs.length - (i + 1), by omega, rfl, hlt, by omega, G4, ρ1, done, rest, A3.step s4, no1, hH4, hG4, (ry.mono s2.gg).mono s4.gg, hr, hd⟩
      | true =>
        rw [if_pos rfl] at hr
        obtain ⟨d, h3, hr⟩ := Option.bind_eq_some_iff.mp hr
        obtain ⟨zs, h5, rfl⟩ := Option.map_eq_some_iff.mp hr
        refine iteT ⟨G1, H1, G4, ρ1, d, A3.step s4, h3, fun v G5 H5 s5 r5 => ?_⟩
        have A5 := (A3.step s4).step s5
        have hH5 : H5 acc = some (.lst ys) := s5.hh _ _ hH4
        have hG5 : G5 acc = none := (s5.out _ _ hH4).trans hG4
        refine ⟨hH5, by omega, xs.length - (i + 1), by omega, rfl, hlt, by rw [List.length_append, List.length_singleton]; omega, G5, ρ1, done ++ [d], zs, ?_, no1, upd_same, hG5, ((((ry.mono s2.gg).mono s4.gg).mono s5.gg).append (.cons r5 .nil)), h5, by rw [List.append_assoc]; exact hd⟩
        refine ⟨⟨fun b o e => ?_, A5.st.gg, fun b o e => ?_, A5.st.out⟩, .ofSh A5.env.len no1 A5.env.sh⟩
        · rw [upd_ne (ne_of_none e hacc)]; exact A5.st.hh b o e
        · rw [upd_ne (ne_of_none e hG5)]; exact A5.st.gh b o e
    · left
      have e : i = xs.length := by omega
      subst e
      rw [List.drop_length] at hr
      cases hr
      rw [List.append_nil] at hd
      subst hd
      refine ⟨Y.stop G' H' A'.st.gg A'.gh, ?_⟩
      have hf : H' = upd (fun b => if b = acc then none else H' b) acc (.lst ys) := by
        funext b
        by_cases hb : b = acc
        · subst hb; rw [upd_same]; exact hacc'
        · rw [upd_ne hb, if_neg hb]
      rw [hf]
      refine k acc ys G' (fun b => if b = acc then none else H' b) (s1.trans ⟨fun b o e => ?_, A'.st.gg, fun b o e => ?_, A'.st.out⟩) (if_pos rfl) ry
      · show (if b = acc then none else H' b) = some o
        rw [if_neg (ne_of_none e hacc)]; exact A'.st.hh b o e
      · show (if b = acc then none else H' b) = some o
        rw [if_neg (ne_of_none e gacc')]; exact A'.st.gh b o e
theorem do_lc (hc : X.calm = true) (S : CompScope X scope) (F : FvOk X N' scope fv) (hi : DI Γ X tg iter fi) (hb : DB Γ X N' scope tg ifs elt g ft fe) (hs : ∀ x, foldedSetIterable iter X.env x = pure x := by intro _; rfl) :
    DO Γ X (.ListComp elt [⟨tg, iter, ifs, 0⟩] scope pos) (compF fi g ft fe fv) := ⟨(pe_lc hc S F hi.1 hb.pb hs).imp (comp_tdo (hb.1 [] 0 X.s₀ X.H₀ []).1.no)⟩
end
end L2
end
section
namespace L2
open PySem PySem.Spec PyProof.Rows
section
variable {Γ : Cn} {X : Cx} {a b c e tg iter : Expr} {es : List Expr} {fa fb fc f : FE} {fr fi : FA} {pos p2 p : Pos} {g g' : FS} {st : Stmt} {sts : List Stmt} {ft : FT}
def sNil : FS := fun ρ => some (.nx, ρ)
def sSeq (g g' : FS) : FS := fun ρ => (g ρ).bind fun r => match r.1 with
  | .nx => g' r.2
  | fl => some (fl, r.2)
theorem dss_nil : DSs Γ X [] sNil := ⟨pss_nil.imp fun E σ H => by
  rintro ⟨G₀, H₀, G, ρ, fl, ρ', A, h, k⟩
  cases h
  exact k σ G H (.refl _) A⟩
theorem dss_one (h : DS Γ X st g) : DSs Γ X [st] g := ⟨pss_one h.1⟩
theorem dss_cons (h1 : DS Γ X st g) (h2 : DSs Γ X sts g') : DSs Γ X (st :: sts) (sSeq g g') := ⟨(pss_cons h1.1 h2.1).imp fun E σ H => by
  rintro ⟨G₀, H₀, G, ρ, fl, ρ', A, h, k⟩
  unfold sSeq at h
  obtain ⟨⟨fl1, ρ1⟩, h1, h⟩ := Option.bind_eq_some_iff.mp h
  refine ⟨G₀, H₀, G, ρ, fl1, ρ1, A, h1, fun σ1 G1 H1 sm A1 => ?_⟩
  cases fl1 with
  | nx => exact ⟨G₀, H₀, G1, ρ1, fl, ρ', A1, h, fun σ' G' H' sm' A' => k σ' G' H' (sm.trans sm') A'⟩
  | bk => cases h; exact k σ1 G1 H1 sm A1
  | ct => cases h; exact k σ1 G1 H1 sm A1
  | rt d => cases h; exact k σ1 G1 H1 sm A1
  | ow d => cases h; exact k σ1 G1 H1 sm A1
  | nw d => cases h; exact k σ1 G1 H1 sm A1
  | od d => cases h; exact k σ1 G1 H1 sm A1⟩
def sRet (f : FE) : FS := fun ρ => (f ρ).map fun d => (.rt d, ρ)
theorem ds_ret (h : DE Γ X e f) : DS Γ X (.Return (some e) pos) (sRet f) := ⟨(ps_ret h.1).imp fun E σ H => by
  rintro ⟨G₀, H₀, G, ρ, fl, ρ', A, h, k⟩
  unfold sRet at h
  obtain ⟨d, hd, h⟩ := Option.map_eq_some_iff.mp h
  cases h
  exact ⟨G₀, H₀, G, ρ, d, A, hd, fun v G' H' s r => k σ G' H' s.gg (A.step s) v r⟩⟩
def sSet (i : Nat) (f : FE) : FS := fun ρ => (f ρ).map fun d => (.nx, ρ.set i (some (.sh d)))
theorem ds_set (i : Nat) {x : Str} {pos' : Pos} (hN : X.N.Nodup) (h : DE Γ X e f) (hi : X.N[i]? = some x := by rfl) (hx : Loc X.env.scope x := by first | exact Or.inl rfl | exact Or.inr rfl) (hs : swapsWith e (some (.Name x pos')) pos.line X.env = pure false := by rfl) (hf : X.fn x = true \/ X.env.scope.names.lookup x = some .local := by first | exact .inl rfl | exact .inr rfl | assumption) :
    DS Γ X (.Assign [.Name x pos'] e pos) (sSet i f) := ⟨(ps_set hN hi hx h.1 hs hf).imp fun E σ H => by
  rintro ⟨G₀, H₀, G, ρ, fl, ρ', A, h, k⟩
  unfold sSet at h
  obtain ⟨d, hd, h⟩ := Option.map_eq_some_iff.mp h
  cases h
  exact ⟨G₀, H₀, G, ρ, d, A, hd, fun v G' H' s r => k _ G' H' s.gg ((A.step s).setSh r)⟩⟩
theorem set_td {i : Nat} : ∀ E σ H, TDs Γ X.K (sSet i (lstF fr)) E σ H -> tAsg (TDo Γ X.K fr) (gName i) E σ H := by
  rintro E σ H ⟨G₀, H₀, G, ρ, fl, ρ', A, h, k⟩
  unfold sSet lstF at h
  obtain ⟨d, hd, h⟩ := Option.map_eq_some_iff.mp h
  obtain ⟨ds, hd', rfl⟩ := Option.map_eq_some_iff.mp hd
  cases h
  refine ⟨G₀, H₀, G, ρ, ds, A, hd', fun p vs G' H' s hp r => ?_⟩
  have s2 := Step.new (o := .lst vs) s.gh hp
  exact k _ _ _ (s.gg.trans s2.gg) (((A.step s).step s2).setSh (.lst upd_same (r.mono s2.gg)))
variable {scope : Scope} {N' : List Str} {fv : List (Option Nat)} {gg : FG} {fe : FE} {ifs : List Expr} {elt : Expr}
theorem ds_lc (i : Nat) {y : Str} {py spos : Pos} (hN : X.N.Nodup) (hc : X.calm = true) (S : CompScope X scope) (F : FvOk X N' scope fv) (hi : DI Γ X tg iter fi) (hb : DB Γ X N' scope tg ifs elt gg ft fe)
    (hy : X.N[i]? = some y := by rfl) (hyl : X.env.scope.names.lookup y = some .local := by rfl) (hsw : swapsWith (.ListComp elt [⟨tg, iter, ifs, 0⟩] scope pos) (some (.Name y py)) spos.line X.env = pure true := by rfl) (hs : ∀ x, foldedSetIterable iter X.env x = pure x := by intro _; rfl) :
    DS Γ X (.Assign [.Name y py] (.ListComp elt [⟨tg, iter, ifs, 0⟩] scope pos) spos) (sSet i (lstF (compF fi gg ft fe fv))) := ⟨(ps_lc hN hy hyl hc S F hi.1 hb.pb hsw hs).imp fun E σ H q => comp_tdo (hb.1 [] 0 X.s₀ X.H₀ []).1.no σ H _ (set_td E σ H q)⟩
def sIf (ft : FT) (g g' : FS) : FS := fun ρ => (ft ρ).bind fun c => if c = true then g ρ else g' ρ
theorem ds_if {sa sb : List Stmt} (hc : DT Γ X c ft) (ha : DSs Γ X sa g) (hb : DSs Γ X sb g') : DS Γ X (.If c sa sb pos) (sIf ft g g') := ⟨(ps_if hc.1 ha.1 hb.1).imp fun E σ H => by
  rintro ⟨G₀, H₀, G, ρ, fl, ρ', A, h, k⟩
  unfold sIf at h
  obtain ⟨x, hx, h⟩ := Option.bind_eq_some_iff.mp h
  refine ⟨G₀, H₀, G, ρ, x, A, hx, fun G1 H1 s1 => ?_⟩
  cases x with
  | true => exact iteT ⟨G₀, H₀, G1, ρ, fl, ρ', A.step s1, by simpa using h, fun σ2 G2 H2 sm2 A2 => k σ2 G2 H2 (s1.gg.trans sm2) A2⟩
  | false => exact iteF ⟨G₀, H₀, G1, ρ, fl, ρ', A.step s1, by simpa using h, fun σ2 G2 H2 sm2 A2 => k σ2 G2 H2 (s1.gg.trans sm2) A2⟩⟩
def forL (gg : FG) (body : FS) : List D -> FS
  | [], ρ => some (.nx, ρ)
  | x :: xs, ρ => (gg x ρ).bind fun ρ1 => (body ρ1).bind fun r => match r.1 with
    | .nx => forL gg body xs r.2
    | .ct => forL gg body xs r.2
    | .bk => some (.nx, r.2)
    | .rt d => some (.rt d, r.2)
    | .ow d => some (.ow d, r.2)
    | .nw d => some (.nw d, r.2)
    | .od d => some (.od d, r.2)
def sFor (fi : FA) (gg : FG) (body : FS) : FS := fun ρ => (fi ρ).bind fun xs => forL gg body xs ρ
theorem ds_for {body : List Stmt} (hp : PassesOwn (model X.prog X.w) X.A X.env X.xe) (hc : X.calm = true) (hi : DI Γ X tg iter fi) (hg : DG Γ X tg gg) (hb : DSs Γ X body g) (hs : ∀ x, foldedSetIterable iter X.env x = pure x := by intro _; rfl) :
    DS Γ X (.For tg iter body [] pos) (sFor fi gg g) := ⟨(ps_for hp hc hi.1 hg.pg hb.1 hs).imp fun E σ H => by
  rintro ⟨G₀, H₀, G, ρ, fl, ρ', A, h, k⟩
  unfold sFor at h
  obtain ⟨xs, hx, h⟩ := Option.bind_eq_some_iff.mp h
  refine ⟨G₀, H₀, G, ρ, xs, A, hx, fun J G1 H1 s1 Y => ?_⟩
  refine ⟨fun i m σ' H' => m = xs.length - i /\ i <= xs.length /\ ∃ G' ρ1, Same G1 G' /\ At Γ X.K G₀ H₀ G' H' ρ1 σ' /\ forL gg g (xs.drop i) ρ1 = some (fl, ρ'), ⟨xs.length, rfl, Nat.zero_le _, G1, ρ, .refl _, A.step s1, by rw [List.drop_zero]; exact h⟩, ?_⟩
  rintro i m σ' H' ⟨rfl, hi, G', ρ1, sm, A', hr⟩
  by_cases hlt : i < xs.length
  · right
    have hxi : xs[i]? = some xs[i] := by simp [hlt]
    obtain ⟨go, yl⟩ := Y.go i _ G' H' hxi sm A'.gh
    have hdr : xs.drop i = xs[i] :: xs.drop (i + 1) := List.drop_eq_getElem_cons hlt
    rw [hdr] at hr
    unfold forL at hr
    obtain ⟨ρ2, h2, hr⟩ := Option.bind_eq_some_iff.mp hr
    obtain ⟨⟨fl3, ρ3⟩, h3, hr⟩ := Option.bind_eq_some_iff.mp hr
    refine ⟨go, fun σ3 H3 => (fl3 = .nx \/ fl3 = .ct) /\ ∃ G3, Same G1 G3 /\ At Γ X.K G₀ H₀ G3 H3 ρ3 σ3, fun σ3 H3 ⟨hfl, G3, sm3, A3⟩ => ?_, fun x H2 hy => ?_⟩
    · refine ⟨xs.length - (i + 1), by omega, rfl, hlt, G3, ρ3, sm3, A3, ?_⟩
      rcases hfl with e | e <;> subst e <;> exact hr
    · obtain ⟨G2, s2, r2⟩ := yl x H2 hy
      refine ⟨G₀, H₀, G2, ρ1, _, ρ2, A'.step s2, r2, h2, fun σ2 A2 => ⟨G₀, H₀, G2, ρ2, fl3, ρ3, A2, h3, fun σ3 G3 H3 sm3 A3 => ?_⟩⟩
      have smm : Same G1 G3 := (sm.trans s2.gg).trans sm3
      cases fl3 with
      | nx => exact ⟨.inl rfl, G3, smm, A3⟩
      | ct => exact ⟨.inr rfl, G3, smm, A3⟩
      | bk => cases hr; exact k σ3 G3 H3 (s1.gg.trans smm) A3
      | rt d => cases hr; exact k σ3 G3 H3 (s1.gg.trans smm) A3
      | ow d => cases hr; exact k σ3 G3 H3 (s1.gg.trans smm) A3
      | nw d => cases hr; exact k σ3 G3 H3 (s1.gg.trans smm) A3
      | od d => cases hr; exact k σ3 G3 H3 (s1.gg.trans smm) A3
  · left
    have e : i = xs.length := by omega
    subst e
    rw [List.drop_length] at hr
    cases hr
    exact ⟨Y.stop G' H' sm A'.gh, k σ' G' H' (s1.gg.trans sm) A'⟩⟩
end
end L2
end
section
namespace L2
open PySem PySem.Spec PyProof.Rows
section
variable {Γ : Cn} {X : Cx} {a b c e tg iter : Expr} {es : List Expr} {fa fb fc f fk fw : FE} {fr fi : FA} {pos p2 p : Pos}
theorem de_dict0 : DE Γ X (.Dict [] [] pos) (vC (.dk [])) := ⟨pe_dnewK.imp fun σ H Q => by
  rintro ⟨G₀, H₀, G, ρ, d, A, h, k⟩ p hp
  cases h
  have s := Step.new (o := .dK []) A.gh hp
  exact k _ _ _ s (.dk (us := []) (kvs := []) upd_same rfl .nil)⟩
def spF (Γ : Cn) (K : PySem.W.Frag) (n : Nat) (F : List D -> Option D) : Sp := fun vs H Q _ => ∃ G ds d, Same G H /\ Reps Γ K G vs ds /\ ds.length = n /\ F ds = some d /\ ∀ v G' H', Step G H G' H' -> Rep Γ K G' v d -> Q v H'
def runD (n : Nat) (g : FS) : List D -> Option D := fun ds => (g (ds.map (fun d => some (Slot.sh d)) ++ List.replicate n none)).bind fun r => match r.1 with
  | .rt d => some d
  | .nx => some .non
  | _ => none
theorem start_rel {K : PySem.W.Frag} {G H : Hp} {vs : List V} {ds : List D} {N : List Str} {m : Nat} (gh : Same G H) (r : Reps Γ K G vs ds) (hm : m = N.length - vs.length) : At Γ K G H G H (ds.map (fun d => some (Slot.sh d)) ++ List.replicate m none) (start N vs) := by
  have no : NoOwn (ds.map (fun d => some (Slot.sh d)) ++ List.replicate m none) := fun i es e => by
    by_cases hi : i < ds.length
    · rw [List.getElem?_append_left (by simpa using hi), List.getElem?_map] at e
      obtain ⟨d, _, e⟩ := Option.map_eq_some_iff.mp e
      cases e
      exact ⟨_, rfl⟩
    · rw [List.getElem?_append_right (by simpa using hi), List.getElem?_replicate] at e
      split at e <;> cases e
  refine ⟨.refl gh, .ofSh (by simp [start, r.length, hm]) no fun i d e => ?_⟩
  by_cases hi : i < ds.length
  · rw [List.getElem?_append_left (by simpa using hi), List.getElem?_map] at e
    obtain ⟨d', hd, e⟩ := Option.map_eq_some_iff.mp e
    cases e
    obtain ⟨v, hv, rv⟩ := r.get hd
    refine ⟨v, ?_, rv⟩
    unfold start
    rw [List.getElem?_append_left (by rw [List.length_map, r.length]; exact hi), List.getElem?_map, hv]
    rfl
  · rw [List.getElem?_append_right (by simpa using hi), List.getElem?_replicate] at e
    split at e <;> cases e
theorem Fun.okD {P : Program} {w : World} {K : PySem.W.Frag} {mg : Str -> Option Value} {base : Heap} {x qual : Str} {st : Stmt} {f : Addr} {fd : FuncData} {N ps : List Str} {k : Nat} {g : FS} (F : Fun K x qual st f fd) (S : FnScope N ps (defScope st))
    (hbody : ∀ (cdv : Value) (A : Around) (outer : List Env) (s : Shared) (H : Hp) (E : XK), Room k (A.deeper (envOfC qual (defScope st) s.heap.objs.size f cdv)) ->
      DSs Γ (cxOf CX0 P w K mg base N qual (defScope st) f cdv A outer s H E).nox (defBody st) g) : FnOk P w K mg base CX0 (k + 1) f fd ps (spF Γ K ps.length (runD (N.length - ps.length) g)) := by
  refine F.ok S (fun vs H Q E h => ?_) (fun cdv A outer s H vs Q E hr h => ?_)
  · obtain ⟨G, ds, d, _, r, hl, _⟩ := h
    rw [r.length, hl]
  · obtain ⟨G, ds, d, gh, r, hl, hd, k⟩ := h
    refine ⟨_, (hbody cdv A outer s H E hr).1, ?_⟩
    unfold runD at hd
    obtain ⟨⟨fl, ρ'⟩, hg, hd⟩ := Option.bind_eq_some_iff.mp hd
    refine ⟨G, H, G, _, fl, ρ', start_rel gh r (by rw [r.length, hl]), hg, fun σ' G' H' sm A' => ?_⟩
    cases fl with
    | rt d' => cases hd; exact fun v rv => k v G' H' A'.st rv
    | nx => cases hd; exact k .non G' H' A'.st .non
    | bk => cases hd
    | ct => cases hd
    | ow d => cases hd
    | nw d => cases hd
    | od d => cases hd
theorem de_call {k : Nat} {fx : Addr} {fd : FuncData} {ps : List Str} {n : Nat} {F : List D -> Option D} {x : Str} (Fo : FnOk X.prog X.w X.K X.mg X.base CX0 k fx fd ps (spF Γ X.K n F)) (hr : Room k X.A) (hg : Gl X x) (hm : X.mg x = some (.ref fx)) (hk : PySem.W.keepIn X.K (.ref fx) = true) (hb : Binds X.K fd ps [])
    (ha : DA Γ X (e :: es) fr) (hn : ∀ ρ ds, fr ρ = some ds -> ds.length = n) (hdb : (x == ("__debug__" : Str)) = false := by decide) (he : starEach (e :: es) X.env = (false, eval e X.env) :: starEach es X.env := by rfl) (hpl : (backTo pos (starEach es X.env)).any (·.1) = false := by rfl) :
    DE Γ X (.Call (.Name x p) (e :: es) [] pos) (cF F fr) := ⟨(pe_call Fo hr hg hm hk hb .nil pass0 ha.1 hdb he hpl).imp fun σ H Q => by
  rintro ⟨G₀, H₀, G, ρ, d, A, h, k⟩
  unfold cF at h
  obtain ⟨ds, hd, h⟩ := Option.bind_eq_some_iff.mp h
  refine ⟨G₀, H₀, G, ρ, ds, A, hd, fun vs G1 H1 s1 r1 => ?_⟩
  show spF Γ X.K n F (vs ++ []) H1 Q E0
  rw [List.append_nil]
  exact ⟨G1, ds, d, s1.gh, r1, hn ρ ds hd, h, fun v G' H' s r => k v G' H' (s1.trans s) r⟩⟩
theorem aNil_len {ρ : Env'} {ds : List D} (h : aNil ρ = some ds) : ds.length = 0 := by cases h; rfl
theorem aCons_len {n : Nat} (hn : ∀ ρ ds, fr ρ = some ds -> ds.length = n) : ∀ ρ ds, aCons fa fr ρ = some ds -> ds.length = n + 1 := fun ρ ds h => by
  unfold aCons at h
  obtain ⟨x, hx, h⟩ := Option.bind_eq_some_iff.mp h
  obtain ⟨xs, hxs, rfl⟩ := Option.map_eq_some_iff.mp h
  rw [List.length_cons, hn ρ xs hxs]
end
end L2
end
section
namespace L2
open PySem PySem.Spec PyProof.Rows
structure Cal (Γ : Cn) (P : Program) (w : World) (K : PySem.W.Frag) (mg : Str -> Option Value) (base : Heap) (x : Str) (n k : Nat) (F : List D -> Option D) : Prop where
  ex : ∃ f fd ps, FnOk P w K mg base CX0 k f fd ps (spF Γ K n F) /\ mg x = some (.ref f) /\ PySem.W.keepIn K (.ref f) = true /\ Binds K fd ps []
structure Dfn (K : PySem.W.Frag) (mg : Str -> Option Value) (x : Str) (st : Stmt) : Prop where
  ex : ∃ f fd, Fun K x x st f fd /\ mg x = some (.ref f)
section
variable {Γ : Cn} {X : Cx} {e : Expr} {es : List Expr} {fr : FA} {pos p : Pos}
theorem de_cal {x : Str} {n k : Nat} {F : List D -> Option D} (C : Cal Γ X.prog X.w X.K X.mg X.base x n k F) {j : Nat} (hr : Room j X.A) (hk : k <= j) (hg : Gl X x) (ha : DA Γ X (e :: es) fr) (hn : ∀ ρ ds, fr ρ = some ds -> ds.length = n)
    (hdb : (x == ("__debug__" : Str)) = false := by decide) (he : starEach (e :: es) X.env = (false, eval e X.env) :: starEach es X.env := by rfl) (hpl : (backTo pos (starEach es X.env)).any (·.1) = false := by rfl) :
    DE Γ X (.Call (.Name x p) (e :: es) [] pos) (cF F fr) := by
  obtain ⟨f, fd, ps, h1, h2, h3, h4⟩ := C.ex
  exact de_call h1 (hr.mono hk) hg h2 h3 h4 ha hn hdb he hpl
theorem Dfn.cal {P : Program} {w : World} {K : PySem.W.Frag} {mg : Str -> Option Value} {base : Heap} {x : Str} {st : Stmt} {N ps : List Str} {k : Nat} {g : FS} (F : Dfn K mg x st) (S : FnScope N ps (defScope st))
    (hb : ∀ (kV doc pm : Value) (an : Option Addr) (cdv ct : Value) (us : List Value), us.length = ps.length -> bindArgs (PySem.W.fnOf x x (defArgs st) (defBody st) (defScope st) .none kV doc pm an cdv ct) ⟨us, []⟩ = pure (ps.zip us))
    (hbody : ∀ (f : Addr) (cdv : Value) (A : Around) (outer : List Env) (s : Shared) (H : Hp) (E : XK), Room k (A.deeper (envOfC x (defScope st) s.heap.objs.size f cdv)) ->
      DSs Γ (cxOf CX0 P w K mg base N x (defScope st) f cdv A outer s H E).nox (defBody st) g) : Cal Γ P w K mg base x ps.length (k + 1) (runD (N.length - ps.length) g) := by
  obtain ⟨f, fd, h1, h2⟩ := F.ex
  exact ⟨f, fd, ps, h1.okD S (hbody f), h2, h1.kp, h1.binds hb⟩
theorem Dfn.mk' {K : PySem.W.Frag} {h : Heap} {mg : Str -> Option Value} {x : Str} {st : Stmt} {f : Addr} {oc : Value} {od an : Option Addr} {osl : Array (Option Value)} {kV doc pm cdv ct : Value} (X : K.In h) (G : h.Ns mainGlobals mg) (a : PySem.W.nsIn K mainGlobals x = some (some (.ref f)))
    (l : K.lookup f = some ⟨oc, od, .func (PySem.W.fnOf x x (defArgs st) (defBody st) (defScope st) .none kV doc pm an cdv ct), osl⟩) (c : PySem.W.codeIn K cdv x = true) (k : PySem.W.keepIn K (.ref f) = true) : Dfn K mg x st :=
  ⟨f, _, fun_mk l c k, PySem.W.mg_of X G a⟩
def csChk (names : List (Str × NameKind)) (outer : List (Str × NameKind)) : Bool :=
  names.all fun y => y.2 != .cell && (y.2 != .local || names.lookup y.1 == some .local) && (y.2 != .free || outer.lookup y.1 == some .cell || outer.lookup y.1 == some .free)
theorem CompScope.of {X : Cx} {scope : Scope} (hk : scope.kind = .function) (h : csChk scope.names X.env.scope.names = true) : CompScope X scope := by
  unfold csChk at h
  rw [List.all_eq_true] at h
  refine ⟨hk, fun y hy e => ?_, fun y hy e => ?_, fun y hy e => ?_⟩
  · have := h y hy
    rw [e] at this
    simp at this
  · have := h y hy
    rw [e] at this
    simpa using this
  · have := h y hy
    rw [e] at this
    simpa [Env.kindOf] using this
def fvChk (N' : List Str) (fv : List (Option Nat)) (N : List Str) (outer names : List (Str × NameKind)) : Bool :=
  fv.length == N'.length && (N'.zip fv).all fun y => match y.2 with
    | none => true
    | some j => N[j]? == some y.1 && (outer.lookup y.1 == some .cell || outer.lookup y.1 == some .free) && names.lookup y.1 == some .free
theorem FvOk.of {X : Cx} {N' : List Str} {scope : Scope} {fv : List (Option Nat)} (h : fvChk N' fv X.N X.env.scope.names scope.names = true) : FvOk X N' scope fv := by
  unfold fvChk at h
  rw [Bool.and_eq_true, List.all_eq_true] at h
  obtain ⟨h1, h2⟩ := h
  refine ⟨by simpa using h1, fun i j x e1 e2 => ?_⟩
  have hm : (x, some j) ∈ N'.zip fv := by
    refine List.mem_iff_getElem?.mpr ⟨i, ?_⟩
    rw [List.getElem?_zip_eq_some]
    exact ⟨e1, e2⟩
  have := h2 _ hm
  simp only [Bool.and_eq_true, Bool.or_eq_true, beq_iff_eq] at this
  exact ⟨this.1.1, this.1.2, this.2⟩
end
end L2
end
section
namespace L2
open PySem PySem.Spec PyProof.Rows
mutual
def pdD : D -> Option PyData
  | .non => some .none
  | .bl b => some (.bool b)
  | .int i => some (.int i)
  | .str x => some (.str x)
  | .tup l => (pdDs l).map PyData.tuple
  | .lst l => (pdDs l).map PyData.list
  | .scr ns => some (.list (ns.map PyData.int))
  | _ => none
def pdDs : List D -> Option (List PyData)
  | [] => some []
  | d :: r => (pdD d).bind fun p => (pdDs r).map (p :: ·)
end
section
variable {Γ : Cn} {X : Cx} {pins : List (Addr × Obj)} {σ : St} {G H : Hp} {s : Shared}
theorem reads_ints {h : Heap} : ∀ {ns : List Int} {us : List Value}, Vals (ns.map V.int) us -> ∃ as, ReadsAll h us (ns.map PyData.int) as
  | [], _, r => by rw [List.map_nil] at r; cases r; exact ⟨_, .nil⟩
  | n :: ns, _, r => by
    rw [List.map_cons] at r
    cases r with
    | cons r1 r2 =>
      obtain ⟨t, e⟩ := r1
      subst e
      obtain ⟨as, q⟩ := reads_ints r2
      exact ⟨_, .cons (.int n t) q⟩
mutual
theorem Rep.reads (I : Inv X pins σ H s) (gh : Same G H) : ∀ {v : V} {d : D} {u : Value} {p : PyData}, Rep Γ X.K G v d -> RelV v u -> pdD d = some p -> ∃ as, Reads s.heap u p as
  | _, _, u, p, .non, r, h => by cases r; rw [pdD] at h; cases h; exact ⟨_, .none⟩
  | _, _, u, p, .bl b, r, h => by cases r; rw [pdD] at h; cases h; exact ⟨_, .bool b⟩
  | _, _, u, p, .int i, r, h => by obtain ⟨t, rfl⟩ := r; rw [pdD] at h; cases h; exact ⟨_, .int i t⟩
  | _, _, u, p, .str x, r, h => by obtain ⟨t, rfl⟩ := r; rw [pdD] at h; cases h; exact ⟨_, .str x t⟩
  | _, _, u, p, .ty n, r, h => by rw [pdD] at h; cases h; all_goals (intros; contradiction)
  | _, _, u, p, .tup ha rs, r, h => by
    cases r
    rw [pdD] at h
    obtain ⟨ps, hp, rfl⟩ := Option.map_eq_some_iff.mp h
    obtain ⟨its, rv, ⟨o, e1, e2, n, e3⟩, _⟩ := I.tuple (.inl (.inl (gh _ _ ha)))
    obtain ⟨as, q⟩ := Reps.reads I gh rs rv hp
    exact ⟨_, .tuple e1 e2 e3 (by simpa using q)⟩
  | _, _, u, p, .lst ha rs, r, h => by
    cases r
    rw [pdD] at h
    obtain ⟨ps, hp, rfl⟩ := Option.map_eq_some_iff.mp h
    obtain ⟨its, rv, ⟨o, n, e1, e2, _, e3⟩, _⟩ := I.list (.inl (.inl (gh _ _ ha)))
    obtain ⟨as, q⟩ := Reps.reads I gh rs rv hp
    exact ⟨_, .list e1 e2 e3 (by simpa using q)⟩
  | _, _, u, p, .scr hs, r, h => by
    cases r
    rw [pdD] at h
    cases h
    obtain ⟨its, rv, ⟨o, n, e1, e2, _, e3⟩, _⟩ := I.list (gh.seq hs)
    obtain ⟨as, q⟩ := reads_ints (h := s.heap) rv
    exact ⟨_, .list e1 e2 e3 (by simpa using q)⟩
  | _, _, u, p, .dk ha _ _, r, h => by rw [pdD] at h; cases h; all_goals (intros; contradiction)
  | _, _, u, p, .dt ha _ _, r, h => by rw [pdD] at h; cases h; all_goals (intros; contradiction)
  | _, _, u, p, .ins ha _ _ _, r, h => by rw [pdD] at h; cases h; all_goals (intros; contradiction)
theorem Reps.reads (I : Inv X pins σ H s) (gh : Same G H) : ∀ {vs : List V} {ds : List D} {us : List Value} {ps : List PyData}, Reps Γ X.K G vs ds -> Vals vs us -> pdDs ds = some ps -> ∃ as, ReadsAll s.heap us ps as
  | _, _, _, _, .nil, r, h => by cases r; rw [pdDs] at h; cases h; exact ⟨_, .nil⟩
  | _, _, _, _, .cons r1 r2, r, h => by
    cases r with
    | cons q1 q2 =>
      rw [pdDs] at h
      obtain ⟨p, hp, h⟩ := Option.bind_eq_some_iff.mp h
      obtain ⟨ps, hps, rfl⟩ := Option.map_eq_some_iff.mp h
      obtain ⟨as, a1⟩ := Rep.reads I gh r1 q1 hp
      obtain ⟨bs, a2⟩ := Reps.reads I gh r2 q2 hps
      exact ⟨_, .cons a1 a2⟩
end
end
section
variable {Γ : Cn} {X : Cx} {a b c e : Expr} {es : List Expr} {fa fb fc f : FE} {fr : FA} {pos : Pos}
def eqX (x y : D) : Option Bool := (pdD x).bind fun p => (pdD y).bind fun q => if SeqAt.shaped p = true /\ SeqAt.shaped q = true then some (PyData.eqv p q) else none
theorem eqX_some {x y : D} {b : Bool} (h : eqX x y = some b) : ∃ p q, pdD x = some p /\ pdD y = some q /\ SeqAt.shaped p = true /\ SeqAt.shaped q = true /\ b = PyData.eqv p q := by
  unfold eqX at h
  obtain ⟨p, hp, h⟩ := Option.bind_eq_some_iff.mp h
  obtain ⟨q, hq, h⟩ := Option.bind_eq_some_iff.mp h
  split at h
  · rename_i hz
    cases h
    exact ⟨p, q, hp, hq, hz.1, hz.2, rfl⟩
  · cases h
theorem hu66 {k : Nat} (hr : Room k X.A) : X.A.units + 66 < cLine := by have := hr.un; omega
end
end L2
end
section
namespace L2
open PySem PySem.Spec PyProof.Rows
section
variable {Γ : Cn} {X : Cx} {a b c e o i : Expr} {es : List Expr} {fa fb fc f fo fk fx : FE} {fr fi : FA} {pos p apos cpos : Pos} {ft : FT} {g : FS} {x : Str}
def valG {κ α : Type} [DecidableEq κ] (kvs : List (κ × α)) (k : κ) : Option α := (kvs.find? fun kv => decide (kv.1 = k)).map (·.2)
def putG {κ α : Type} [DecidableEq κ] (kvs : List (κ × α)) (k : κ) (v : α) : List (κ × α) :=
  if (kvs.any fun kv => decide (kv.1 = k)) = true then kvs.map (fun kv => if kv.1 = k then (kv.1, v) else kv) else kvs ++ [(k, v)]
theorem kr_val {κ : Type} [DecidableEq κ] {K : PySem.W.Frag} {G : Hp} {k : κ} : ∀ {us : List (κ × V)} {kvs : List (κ × D)}, us.map (·.1) = kvs.map (·.1) -> Reps Γ K G (us.map (·.2)) (kvs.map (·.2)) ->
    (valG kvs k = none /\ valV us k = none) \/ ∃ d v, valG kvs k = some d /\ valV us k = some v /\ Rep Γ K G v d
  | [], [], _, _ => .inl ⟨rfl, rfl⟩
  | [], _ :: _, e, _ => by cases e
  | _ :: _, [], e, _ => by cases e
  | (k1, v) :: us, (k2, d) :: kvs, e, r => by
    have e1 : k1 = k2 := (List.cons.inj e).1
    have e2 : us.map (·.1) = kvs.map (·.1) := (List.cons.inj e).2
    subst e1
    have r : Reps Γ K G (v :: us.map (·.2)) (d :: kvs.map (·.2)) := r
    cases r with
    | cons r1 r2 =>
      by_cases h : k1 = k
      · exact .inr ⟨d, v, by simp [valG, List.find?_cons, h], valV_pos h, r1⟩
      · have := kr_val (k := k) e2 r2
        rw [valV_neg (p := (k1, v)) h]
        simpa [valG, List.find?_cons, h] using this
theorem kr_any {κ : Type} [DecidableEq κ] {k : κ} {α β : Type} : ∀ {us : List (κ × α)} {kvs : List (κ × β)}, us.map (·.1) = kvs.map (·.1) -> (us.any fun kv => decide (kv.1 = k)) = (kvs.any fun kv => decide (kv.1 = k))
  | [], [], _ => rfl
  | [], _ :: _, e => by cases e
  | _ :: _, [], e => by cases e
  | (k1, v) :: us, (k2, d) :: kvs, e => by
    have e1 : k1 = k2 := (List.cons.inj e).1
    subst e1
    rw [List.any_cons, List.any_cons, kr_any (us := us) (kvs := kvs) (List.cons.inj e).2]
theorem kr_map {κ : Type} [DecidableEq κ] {K : PySem.W.Frag} {G : Hp} {k : κ} {v : V} {d : D} (rv : Rep Γ K G v d) : ∀ {us : List (κ × V)} {kvs : List (κ × D)}, us.map (·.1) = kvs.map (·.1) -> Reps Γ K G (us.map (·.2)) (kvs.map (·.2)) ->
    (us.map fun kv => if kv.1 = k then (kv.1, v) else kv).map (·.1) = (kvs.map fun kv => if kv.1 = k then (kv.1, d) else kv).map (·.1) /\ Reps Γ K G ((us.map fun kv => if kv.1 = k then (kv.1, v) else kv).map (·.2)) ((kvs.map fun kv => if kv.1 = k then (kv.1, d) else kv).map (·.2))
  | [], [], _, _ => ⟨rfl, .nil⟩
  | [], _ :: _, e, _ => by cases e
  | _ :: _, [], e, _ => by cases e
  | (k1, u) :: us, (k2, x) :: kvs, e, r => by
    have e1 : k1 = k2 := (List.cons.inj e).1
    have e2 : us.map (·.1) = kvs.map (·.1) := (List.cons.inj e).2
    subst e1
    have r : Reps Γ K G (u :: us.map (·.2)) (x :: kvs.map (·.2)) := r
    cases r with
    | cons r1 r2 =>
      obtain ⟨h1, h2⟩ := kr_map (k := k) rv e2 r2
      by_cases h : k1 = k
      · subst h
        simp only [List.map_cons, if_true]
        exact ⟨by rw [h1], .cons rv h2⟩
      · simp only [List.map_cons, if_neg h]
        exact ⟨by rw [h1], .cons r1 h2⟩
theorem kr_put {κ : Type} [DecidableEq κ] {K : PySem.W.Frag} {G : Hp} {k : κ} {v : V} {d : D} (rv : Rep Γ K G v d) {us : List (κ × V)} {kvs : List (κ × D)} (e : us.map (·.1) = kvs.map (·.1)) (r : Reps Γ K G (us.map (·.2)) (kvs.map (·.2))) :
    (putK us k v).map (·.1) = (putG kvs k d).map (·.1) /\ Reps Γ K G ((putK us k v).map (·.2)) ((putG kvs k d).map (·.2)) := by
  unfold putK putG
  rw [kr_any (k := k) e]
  split
  · exact kr_map rv e r
  · simp only [List.map_append, List.map_cons, List.map_nil]
    exact ⟨by rw [e], r.append (.cons rv .nil)⟩
def dkey : D -> Option Key
  | .int i => some (.inl i)
  | .str x => some (.inr x)
  | _ => none
def dkeys : List D -> Option (List Key)
  | [] => some []
  | d :: r => (dkey d).bind fun k => (dkeys r).map (k :: ·)
theorem dkey_ok {K : PySem.W.Frag} {G : Hp} {v : V} {d : D} {k : Key} (r : Rep Γ K G v d) (h : dkey d = some k) : v = kV k := by
  unfold dkey at h
  split at h <;> cases h
  · exact r.int_inv
  · exact r.str_inv
theorem dkeys_ok {K : PySem.W.Frag} {G : Hp} : ∀ {vs : List V} {ds : List D} {ks : List Key}, Reps Γ K G vs ds -> dkeys ds = some ks -> vs = ks.map kV
  | _, [], ks, r, h => by cases r; cases h; rfl
  | _, d :: ds, ks, .cons h1 h2, h => by
    unfold dkeys at h
    obtain ⟨k, hk, h⟩ := Option.bind_eq_some_iff.mp h
    obtain ⟨zs, hz, rfl⟩ := Option.map_eq_some_iff.mp h
    rw [dkey_ok h1 hk, dkeys_ok h2 hz]; rfl
def b3 (g : D -> D -> D -> Option D) (fa fb fc : FE) : FE := fun ρ => (fa ρ).bind fun x => (fb ρ).bind fun y => (fc ρ).bind fun z => g x y z
end
end L2
end
section
namespace L2
open PySem PySem.Spec PyProof.Rows
section
variable {Γ : Cn} {X : Cx} {a b c e o i : Expr} {es : List Expr} {fa fb fc f fo fk fx : FE} {fr fi : FA} {pos p apos cpos : Pos} {ft : FT} {g : FS} {x : Str}
theorem de_globS {x y : Str} {t : Tok} (hg : Gl X x) (hm : X.mg x = some (.str y t)) (hd : (x == ("__debug__" : Str)) = false := by decide) : DE Γ X (.Name x pos) (vC (.str y)) := TD.const (fun _ => .str y) (pe_glob hg hm ⟨t, rfl⟩ hd)
def fdivB : D -> D -> Option D
  | .int i, .int j => if 0 < j /\ j.natAbs.log2 < 9000 then some (.int (i / j)) else none
  | _, _ => none
def strD : List D -> Option D
  | [.int i] => if i.natAbs.log2 < 1920 then some (.str (toString i)) else none
  | _ => none
theorem td_str : TyD Γ X "str" strD := ⟨_, call_str_int, fun {G H vs ds z} gh r h Q k => by
  unfold strD at h
  split at h
  · split at h
    · cases h
      obtain ⟨v, rfl, r1⟩ := r.one
      cases r1.int_inv
      exact ⟨_, rfl, by assumption, k _ G H (.refl gh) (.str _)⟩
    · cases h
  · cases h⟩
def inS (x y : Str) : Bool := !(Builtin.Str.occurrences y x 0 y.length 1).isEmpty
def inSD : D -> D -> Option D
  | .str x, .str y => some (.bl (inS x y))
  | _, _ => none
theorem cd_inS : CmpD Γ X .In inSD := ⟨_, op_in_str, fun {G H v u x y z} gh r1 r2 h Q k => by
  unfold inSD at h
  split at h <;> cases h
  cases r1.str_inv; cases r2.str_inv
  exact ⟨_, _, rfl, rfl, k _ G H (.refl gh) (.bl _)⟩⟩
def indexD : D -> List D -> Option D
  | .str x, [.str y] => match Builtin.Str.occurrences x y 0 x.length 1 with
    | i :: _ => some (.int (i : Nat))
    | [] => none
  | _, _ => none
theorem md_index : MtD Γ X "str" "str.index" indexD := by
  refine ⟨⟨fun v vs H Q => ∃ x y i rest, v = .str x /\ vs = [.str y] /\ Builtin.Str.occurrences x y 0 x.length 1 = i :: rest /\ Q (.int (i : Nat)) H, ?_, ?_⟩, ?_⟩
  · intro pins s σ H x xs v us Q I rx rs h
    obtain ⟨z, y, i, rest, rfl, rfl, ho, q⟩ := h
    obtain ⟨t, rfl⟩ := rx
    obtain ⟨u, rfl, ru⟩ := vals1 rs
    obtain ⟨t2, rfl⟩ := ru
    exact call_gives PySem.F.slot_str_index (typeIs_str _ _ _) PySem.F.entry_str_index (PySem.F.args_str_index_2 _ _) (gives_str_index z y t t2 i rest ho) ⟨.int _, H, I.tok _, ⟨_, rfl⟩, q⟩
  · intro G H v x vs ds z gh r1 r2 h Q k
    unfold indexD at h
    split at h
    · split at h
      · rename_i heq
        cases h
        cases r1.str_inv
        obtain ⟨v, rfl, r3⟩ := r2.one
        cases r3.str_inv
        exact ⟨_, _, _, _, rfl, rfl, heq, k _ G H (.refl gh) (.int _)⟩
      · cases h
    · cases h
  · intro G H v x ds z gh r h
    unfold indexD at h
    split at h
    · cases r.str_inv; exact rfl
    · cases h
def splitD : D -> List D -> Option D
  | .str x, [.str y] => if y.length ≠ 0 /\ x.length <= 1000000 then some (.lst ((Txt.split x y).map D.str)) else none
  | _, _ => none
theorem Reps.strs {K : PySem.W.Frag} {G : Hp} : ∀ (ns : List Str), Reps Γ K G (ns.map V.str) (ns.map D.str)
  | [] => .nil
  | n :: r => .cons (.str n) (Reps.strs r)
theorem vals_strs : ∀ (l : List (Str × Tok)), Vals ((l.map (·.1)).map V.str) (strValues l)
  | [] => .nil
  | (x, t) :: r => .cons ⟨t, rfl⟩ (vals_strs r)
theorem md_split : MtD Γ X "str" "str.split" splitD := by
  refine ⟨⟨fun v vs H Q => ∃ x y, v = .str x /\ vs = [.str y] /\ y.length ≠ 0 /\ x.length <= 1000000 /\ ∀ p, H p = none -> Q (.ref p) (upd H p (.lst ((Txt.split x y).map V.str))), ?_, ?_⟩, ?_⟩
  · intro pins s σ H x xs v us Q I rx rs h
    obtain ⟨z, y, rfl, rfl, hy, hz, q⟩ := h
    obtain ⟨t, rfl⟩ := rx
    obtain ⟨u, rfl, ru⟩ := vals1 rs
    obtain ⟨t2, rfl⟩ := ru
    have hy' : (y.length == 0) = false := by simpa using hy
    have hlen : (Txt.split z y).length <= z.length + 2 := split_le z y
    have hsl := sizeLine_eq
    have fin : ∀ (l : List (Str × Tok)) (k : Nat), l.map (·.1) = Txt.split z y -> EP X pins σ Q (.ref s.heap.objs.size) { s with heap := s.heap.push { cls := .type "list", data := .seq (strValues l).toArray }, toks := k } := fun l k e => by
      refine ⟨.ref _, _, I.lnew (ys := (Txt.split z y).map V.str) (t' := k) (by rw [← e]; exact vals_strs l) (by rw [List.length_map]; omega), rfl, q _ I.fresh⟩
    cases h1 : (decide (z.length < y.length) || decide (Builtin.Str.strKind z < Builtin.Str.strKind y))
    · cases hf : (Builtin.Str.occurrences z y 0 z.length (z.length + 1)).isEmpty
      · have es : Txt.split z y = Builtin.Str.partsBetween z (Builtin.Str.occurrences z y 0 z.length (z.length + 1)) y.length := (if_neg (ne_true_of_eq_false h1)).trans (if_neg (ne_true_of_eq_false hf))
        refine call_meets PySem.F.slot_str_split (typeIs_str _ _ _) PySem.F.entry_str_split (PySem.F.args_str_split_2 _ _) (meets_str_split_sep z y t t2 h1 hy' hf (by omega) (by rw [← es]; omega)) ?_
        show EP X pins σ Q _ { s with toks := _, heap := s.heap.push { cls := .type "list", data := .seq (strsFrom s.toks (Builtin.Str.partsBetween z (Builtin.Str.occurrences z y 0 z.length (z.length + 1)) y.length)).toArray } }
        rw [strsFrom_eq]
        exact fin _ _ ((numbered_texts _ _).trans es.symm)
      · refine call_meets PySem.F.slot_str_split (typeIs_str _ _ _) PySem.F.entry_str_split (PySem.F.args_str_split_2 _ _) (meets_str_split_not_found z y t t2 h1 hy' hf) ?_
        exact fin [(z, t)] s.toks ((if_neg (ne_true_of_eq_false h1)).trans (if_pos hf)).symm
    · refine call_meets PySem.F.slot_str_split (typeIs_str _ _ _) PySem.F.entry_str_split (PySem.F.args_str_split_2 _ _) (meets_str_split_cannot_occur z y t t2 h1) ?_
      exact fin [(z, t)] s.toks (if_pos h1).symm
  · intro G H v x vs ds z gh r1 r2 h Q k
    unfold splitD at h
    split at h
    · split at h
      · rename_i hz
        cases h
        cases r1.str_inv
        obtain ⟨v, rfl, r3⟩ := r2.one
        cases r3.str_inv
        exact ⟨_, _, rfl, rfl, hz.1, hz.2, new_lst gh (Reps.strs _) k⟩
      · cases h
    · cases h
  · intro G H v x ds z gh r h
    unfold splitD at h
    split at h
    · cases r.str_inv; exact rfl
    · cases h
end
end L2
end
section
namespace L2
open PySem PySem.Spec PyProof.Rows
section
variable {Γ : Cn} {X : Cx} {a b c e o i : Expr} {es : List Expr} {fa fb fc f fo fk fx : FE} {fr fi : FA} {pos p apos cpos : Pos} {ft : FT} {g : FS} {x : Str}
def txtD : D -> Option Str
  | .str x => if x.length <= sizeLine then some x else none
  | .int i => if i.natAbs.log2 < 1920 then some (toString i) else none
  | _ => none
def catD : Str -> List D -> Option Str
  | acc, [] => if acc.length <= sizeLine then some acc else none
  | acc, d :: r => (txtD d).bind fun y => if (acc ++ y).length <= sizeLine then catD (acc ++ y) r else none
def fsF (fr : FA) : FE := fun ρ => (fr ρ).bind fun ds => (catD Str.empty ds).map D.str
structure DJ (Γ : Cn) (X : Cx) (es : List Expr) (fr : FA) : Prop where
  out : ∀ (acc : Str) (pins : List (Addr × Obj)) (s : Shared) (σ : St) (H : Hp) (Q : VK), Inv X pins σ H s -> (∃ G₀ H₀ G ρ ds z, At Γ X.K G₀ H₀ G H ρ σ /\ fr ρ = some ds /\ catD acc ds = some z /\ ∀ G' H', Step G H G' H' -> Q (.str z) H') ->
    wpAny (model X.prog X.w) X.A (joinParts acc (evalEach es X.env)) (EP X pins σ Q) X.xe s
theorem dj_nil : DJ Γ X [] aNil := ⟨fun acc pins s σ H Q I ⟨G₀, H₀, G, ρ, ds, z, A, h, hz, k⟩ => by
  cases h
  unfold catD at hz
  split at hz
  · rename_i hl
    cases hz
    exact joinParts_nil ⟨.str _, H, I.tok _, ⟨_, rfl⟩, k G H (.refl A.gh)⟩ hl
  · cases hz⟩
theorem dj_const {y : Str} {j} (h : DJ Γ X es fr) (hs : evalEach (.Constant (.str y) j p :: es) X.env = eval (.Constant (.str y) j p) X.env :: evalEach es X.env := by rfl) : DJ Γ X (.Constant (.str y) j p :: es) (aCons (vC (.str y)) fr) := ⟨fun acc pins s σ H Q I ⟨G₀, H₀, G, ρ, ds, z, A, hq, hz, k⟩ => by
  unfold aCons vC at hq
  simp only [Option.bind_some] at hq
  obtain ⟨xs, hxs, rfl⟩ := Option.map_eq_some_iff.mp hq
  unfold catD at hz
  obtain ⟨w, hw, hz2⟩ := Option.bind_eq_some_iff.mp hz
  clear hz
  have hz := hz2
  clear hz2
  split at hz
  · rename_i hl
    have hw' : w = y /\ y.length <= sizeLine := by
      simp only [txtD] at hw
      split at hw
      · exact ⟨(Option.some.inj hw).symm, by assumption⟩
      · exact nomatch hw
    obtain ⟨rfl, _⟩ := hw'
    rw [hs]
    refine joinParts_cons (thn (pe_str (X := X) pins s σ H (fun v H' => v = .str w /\ H' = H) I ⟨rfl, rfl⟩) fun v s1 ⟨v', H1, I1, r1, e1, e2⟩ => ?_)
    subst e1 e2
    obtain ⟨t, rfl⟩ := r1
    exact ⟨hl, h.1 _ pins s1 σ _ Q I1 ⟨G₀, H₀, G, ρ, xs, z, A, hxs, hz, k⟩⟩
  · cases hz⟩
theorem dj_val (hv : DE Γ X e f) (h : DJ Γ X es fr) (hs : evalEach (.FormattedValue e (-1) none p :: es) X.env = eval (.FormattedValue e (-1) none p) X.env :: evalEach es X.env := by rfl) : DJ Γ X (.FormattedValue e (-1) none p :: es) (aCons f fr) := ⟨fun acc pins s σ H Q I ⟨G₀, H₀, G, ρ, ds, z, A, hq, hz, k⟩ => by
  unfold aCons at hq
  obtain ⟨d, hd, hq⟩ := Option.bind_eq_some_iff.mp hq
  obtain ⟨xs, hxs, rfl⟩ := Option.map_eq_some_iff.mp hq
  unfold catD at hz
  obtain ⟨w, hw, hz2⟩ := Option.bind_eq_some_iff.mp hz
  clear hz
  have hz := hz2
  clear hz2
  split at hz
  · rename_i hl
    rw [hs]
    refine joinParts_cons (FormattedValue_plain (thn (hv.1 pins s σ H (fun v H' => ∃ G', Step G H G' H' /\ Rep Γ X.K G' v d) I ⟨G₀, H₀, G, ρ, d, A, hd, fun v G' H' st r => ⟨G', st, r⟩⟩) fun v s1 ⟨v', H1, I1, r1, G1, st, rp⟩ => ?_))
    have fin : ∀ (t' : Tok) (tk : Nat), (acc ++ w).length <= sizeLine /\ wpAny (model X.prog X.w) X.A (joinParts (acc ++ w) (evalEach es X.env)) (EP X pins σ Q) X.xe { s1 with toks := tk } := fun t' tk =>
      ⟨hl, h.1 _ pins _ σ _ Q (I1.tok tk) ⟨G₀, H₀, G1, ρ, xs, z, A.step st, hxs, hz, fun G' H' s' => k G' H' (st.trans s')⟩⟩
    unfold txtD at hw
    split at hw
    · split at hw
      · cases hw
        cases rp.str_inv
        obtain ⟨t, rfl⟩ := r1
        exact formatField_str (fun t' tk => fin t' tk) (by assumption)
      · cases hw
    · split at hw
      · cases hw
        cases rp.int_inv
        obtain ⟨t, rfl⟩ := r1
        exact formatField_int_small (by assumption) (fin 0 _)
      · cases hw
    · cases hw
  · cases hz⟩
theorem de_fs {v1 v2 : Expr} {rest : List Expr} (h : DJ Γ X (v1 :: v2 :: rest) fr) (hs : evalEach (v1 :: v2 :: rest) X.env = eval v1 X.env :: eval v2 X.env :: evalEach rest X.env := by rfl) : DE Γ X (.JoinedStr (v1 :: v2 :: rest) pos) (fsF fr) := ⟨fun pins s σ H Q I => by
  rintro ⟨G₀, H₀, G, ρ, d, A, hq, k⟩
  unfold fsF at hq
  obtain ⟨ds, hd, hq⟩ := Option.bind_eq_some_iff.mp hq
  obtain ⟨z, hz, rfl⟩ := Option.map_eq_some_iff.mp hq
  refine JoinedStr_many ?_
  rw [← hs]
  exact h.1 _ pins s σ H Q I ⟨G₀, H₀, G, ρ, ds, z, A, hd, hz, fun G' H' s' => k _ G' H' s' (.str _)⟩⟩
end
end L2
end
section
namespace L2
open PySem PySem.Spec PyProof.Rows
section
variable {X : Cx} {pins : List (Addr × Obj)} {σ : St} {H H' : Hp} {s : Shared} {h' : Heap}
end
section
variable {Γ : Cn} {X : Cx} {a b c e o i : Expr} {es : List Expr} {fa fb fc f fo fk fx : FE} {fr fi : FA} {pos p p2 p3 p4 apos cpos : Pos} {ft : FT} {g : FS} {x : Str}
def hitsD (kb : List (Key × D)) : List (Key × D) -> Option Bool
  | [] => some true
  | (k, v) :: r => match valG kb k with
    | none => some false
    | some y => (eqX v y).bind fun e => (hitsD kb r).map (e && ·)
def deqD : D -> D -> Option Bool
  | .dk ka, .dk kb => if ka.length = kb.length then hitsD kb ka else some false
  | _, _ => none
def dNeD (x y : D) : Option D := (deqD x y).map fun b => D.bl (!b)
theorem hits_ok {pins : List (Addr × Obj)} {σ : St} {G H : Hp} {s : Shared} {A : Around} (I : Inv X pins σ H s) (gh : Same G H) (hu : A.in1.units + 64 < cLine) {ub : List (Key × V)} {kb : List (Key × D)} {vb : List (Key × Value)} (eb : ub.map (·.1) = kb.map (·.1)) (rb : Reps Γ X.K G (ub.map (·.2)) (kb.map (·.2))) (qb : KV ub vb) :
    ∀ {ua : List (Key × V)} {ka : List (Key × D)} {va : List (Key × Value)} {r : Bool}, ua.map (·.1) = ka.map (·.1) -> Reps Γ X.K G (ua.map (·.2)) (ka.map (·.2)) -> KV ua va -> hitsD kb ka = some r -> PySem.W.KeqHits A.in1 s vb va r
  | [], [], va, r, _, _, qa, h => by cases qa; cases h; exact .nil
  | [], _ :: _, _, _, e, _, _, _ => by cases e
  | _ :: _, [], _, _, e, _, _, _ => by cases e
  | (k1, v) :: ua, (k2, d) :: ka, va, r, e, rr, qa, h => by
    have e1 : k1 = k2 := (List.cons.inj e).1
    have e2 : ua.map (·.1) = ka.map (·.1) := (List.cons.inj e).2
    subst e1
    have rr : Reps Γ X.K G (v :: ua.map (·.2)) (d :: ka.map (·.2)) := rr
    cases rr with
    | cons r1 r2 =>
      cases qa with
      | cons q1 q2 =>
        rename_i w va
        obtain ⟨kw, vw⟩ := w
        obtain ⟨z1, z2⟩ := q1
        replace z1 : k1 = kw := z1
        subst z1
        have rv := qb.val k1
        unfold hitsD at h
        rcases kr_val (k := k1) eb rb with ⟨n1, n2⟩ | ⟨y, u, n1, n2, n3⟩
        · rw [n1] at h
          cases h
          rw [n2] at rv
          exact .miss (RelO.none_of rv)
        · rw [n1] at h
          obtain ⟨e, he, h⟩ := Option.bind_eq_some_iff.mp h
          obtain ⟨b, hb, rfl⟩ := Option.map_eq_some_iff.mp h
          rw [n2] at rv
          obtain ⟨u', hu', ru'⟩ := RelO.some_of rv
          obtain ⟨p, q, hp, hq, s1, s2, rfl⟩ := eqX_some he
          obtain ⟨as, a1⟩ := r1.reads I gh z2 hp
          obtain ⟨bs, a2⟩ := n3.reads I gh ru' hq
          exact .hit hu' (PySem.W.keq_at a1 a2 s1 s2 hu) (hits_ok I gh hu eb rb qb e2 r2 q2 hb)
def rDq (Γ : Cn) (K : PySem.W.Frag) (neg : Bool) : R2 := fun x y H Q => ∃ G d e b, Same G H /\ Rep Γ K G x d /\ Rep Γ K G y e /\ deqD d e = some b /\ Q (.bl (if neg then !b else b)) H
theorem deq_both {pins : List (Addr × Obj)} {σ : St} {G H : Hp} {s : Shared} {v u : V} {d e : D} {b : Bool} (I : Inv X pins σ H s) (gh : Same G H) (hu : X.A.units + 66 < cLine) (r1 : Rep Γ X.K G v d) (r2 : Rep Γ X.K G u e) (h : deqD d e = some b) :
    ∃ p q va vb r, v = .ref p /\ u = .ref q /\ (p == sysModules) = false /\ (q == sysModules) = false /\ s.heap.DictOf (mixKind X.prog X.w) p va /\ s.heap.DictOf (mixKind X.prog X.w) q vb /\ (va.length = vb.length -> PySem.W.KeqHits X.A.in1 s vb va r) /\ b = (va.length == vb.length && r) := by
  unfold deqD at h
  split at h
  · rename_i ka kb
    cases r1 with
    | dk h1 h2 h3 =>
      cases r2 with
      | dk k1 k2 k3 =>
        obtain ⟨_, m1, va, qa, da⟩ := dk_of I.hok (gh _ _ h1)
        obtain ⟨_, m2, vb, qb, db⟩ := dk_of I.hok (gh _ _ k1)
        have la : va.length = ka.length := by rw [← qa.length]; simpa using congrArg List.length h2
        have lb : vb.length = kb.length := by rw [← qb.length]; simpa using congrArg List.length k2
        have hu1 : X.A.in1.units + 64 < cLine := by
          have : X.A.in1.units = X.A.units + 1 := rfl
          omega
        split at h
        · rename_i hl
          exact ⟨_, _, va, vb, b, rfl, rfl, m1, m2, da, db, fun _ => hits_ok I gh hu1 k2 k3 qb h2 h3 qa h, by rw [la, lb, hl]; simp⟩
        · rename_i hl
          cases h
          refine ⟨_, _, va, vb, false, rfl, rfl, m1, m2, da, db, fun q => absurd (la.symm.trans (q.trans lb)) hl, by simp⟩
  · cases h
theorem op_deq (hu : X.A.units + 66 < cLine) : OpR X (compareOp .Eq) (rDq Γ X.K false) := by
  intro pins s σ H x y v u Q I rx ry h
  obtain ⟨G, d, e, b, gh, r1, r2, hb, q⟩ := h
  obtain ⟨pa, pb, va, vb, r, rfl, rfl, m1, m2, da, db, ht, rfl⟩ := deq_both I gh hu r1 r2 hb
  cases rx
  cases ry
  exact PySem.W.keq_eq m1 m2 da db (by omega) ht ⟨.bl _, H, I, rfl, q⟩
theorem op_dne (hu : X.A.units + 66 < cLine) : OpR X (compareOp .NotEq) (rDq Γ X.K true) := by
  intro pins s σ H x y v u Q I rx ry h
  obtain ⟨G, d, e, b, gh, r1, r2, hb, q⟩ := h
  obtain ⟨pa, pb, va, vb, r, rfl, rfl, m1, m2, da, db, ht, rfl⟩ := deq_both I gh hu r1 r2 hb
  cases rx
  cases ry
  exact PySem.W.keq_ne m1 m2 da db (by omega) ht ⟨.bl _, H, I, rfl, q⟩
theorem cd_dne (hu : X.A.units + 66 < cLine) : CmpD Γ X .NotEq dNeD := ⟨_, op_dne (Γ := Γ) hu, fun {G H v u x y z} gh r1 r2 h Q k => by
  unfold dNeD at h
  obtain ⟨b, hb, rfl⟩ := Option.map_eq_some_iff.mp h
  exact ⟨G, x, y, b, gh, r1, r2, hb, k _ G H (.refl gh) (.bl _)⟩⟩
end
end L2
end
section
namespace L2
open PySem PySem.Spec PyProof.Rows
section
variable {α β : Type} [DecidableEq α]
end
section
variable {Γ : Cn} {X : Cx} {a b c e o i : Expr} {es : List Expr} {fa fb fc f fo fk fx : FE} {fr fi : FA} {pos p p2 p3 p4 apos cpos : Pos} {ft : FT} {g : FS} {x : Str}
def negD : D -> Option D
  | .int i => some (.int (-i))
  | _ => none
def revD : D -> Option D
  | .lst l => some (.lst l.reverse)
  | _ => none
theorem Reps.reverse {K : PySem.W.Frag} {G : Hp} : ∀ {vs : List V} {ds : List D}, Reps Γ K G vs ds -> Reps Γ K G vs.reverse ds.reverse
  | _, _, .nil => .nil
  | _, _, .cons h r => by
    rw [List.reverse_cons, List.reverse_cons]
    exact r.reverse.append (.cons h .nil)
theorem de_rev {j} (he : DE Γ X e f) : DE Γ X (.Subscript e (.Slice none none (some (.UnaryOp .USub (.Constant (.int 1) j p3) p4)) p2) pos) (b1 revD f) := ⟨fun pins s σ H Q I => by
  rintro ⟨G₀, H₀, G, ρ, d, A, h, k⟩
  unfold b1 at h
  obtain ⟨x, hx, h⟩ := Option.bind_eq_some_iff.mp h
  unfold revD at h
  split at h
  · rename_i l
    cases h
    refine Subscript_ (thn (he.1 pins s σ H (fun v H' => ∃ G', Step G H G' H' /\ Rep Γ X.K G' v (.lst l)) I ⟨G₀, H₀, G, ρ, _, A, hx, fun v G' H' st r => ⟨G', st, r⟩⟩) fun v s1 ⟨v', H1, I1, r1, G1, st, rp⟩ => ?_)
    obtain ⟨a, vs, rfl, ha, rv⟩ := rp.lst_inv
    cases r1
    refine wpAny_Slice (wpAny_pure (wpAny_pure ?_))
    refine thn ((pe_un un_neg pe_int) pins s1 σ H1 (fun v H' => v = .int (-1) /\ H' = H1) I1 ⟨_, rfl, rfl, rfl⟩) fun vk s3 ⟨vv, H3, I3, r3, e1, e2⟩ => ?_
    subst e1 e2
    obtain ⟨t, rfl⟩ := r3
    have I4 : Inv X pins σ H3 { s3 with heap := s3.heap.push { cls := .type "slice", data := .fields #[.none, .none, .int (-1) t] } } := I3.kept (t' := s3.toks) fun b ob q => Heap.get?_push_of_some _ q
    obtain ⟨its, rr, hti, hz⟩ := I4.list (.inl (.inl (st.gh _ _ ha)))
    show wpAny (model X.prog X.w) X.A (subscriptTail e (.Slice none none (some (.UnaryOp .USub (.Constant (.int 1) j p3) p4)) p2) (.ref a) (.ref s3.heap.objs.size)) (EP X pins σ Q) X.xe { s3 with heap := s3.heap.push { cls := .type "slice", data := .fields #[.none, .none, .int (-1) t] } }
    refine tail_any (ops := [.ref a, .ref s3.heap.objs.size]) hti.isList.typeIs slot_list_getitem.lookup ?_ (by with_unfolding_all rfl)
    refine wpAny_getItem_list_slice hti.isList (Heap.IsSliceOf.new ..) .none .none (.int _ _) (by decide) ?_ (by rw [List.size_toArray]; have := rr.length; omega)
    rw [PySem.W.krv_pick]
    have hn := I4.fresh
    exact ⟨.ref _, _, I4.lnew (ys := vs.reverse) (its := its.reverse) (t' := s3.toks) (Vals.reverse rr) (by rw [List.length_reverse]; exact hz), rfl, new_lst st.gh rv.reverse (fun w G2 H2 s2 r2 => k w G2 H2 (st.trans s2) r2) _ hn⟩
  · cases h⟩
end
end L2
end
section
namespace L2
open PySem PySem.Spec PyProof.Rows
structure CF (Γ : Cn) (K : PySem.W.Frag) (c : Str) (attrs : List Str) : Prop where
  ex : ∃ C, Γ.cls c = some C /\ Cls K C /\ ∀ f ∈ attrs, NoAttr K C f
section
variable {Γ : Cn} {X : Cx} {a b c e o i value : Expr} {es : List Expr} {fa fb fc f fo fk fx fv : FE} {fr fi : FA} {pos pos' p apos cpos : Pos} {ft : FT} {g : FS} {x cl fl n m : Str} {attrs : List Str}
end
end L2
end
section
namespace L2
open PySem PySem.Spec PyProof.Rows
section
variable {Γ : Cn} {P : Program} {w : World} {K : PySem.W.Frag} {mg : Str -> Option Value} {base : Heap} {c : Str} {attrs : List Str} {x : Addr}
structure CalM (Γ : Cn) (P : Program) (w : World) (K : PySem.W.Frag) (mg : Str -> Option Value) (base : Heap) (c m : Str) (n k : Nat) (F : List D -> Option D) : Prop where
  ex : ∃ C f fd ps, Γ.cls c = some C /\ Cls K C /\ Meth K C m f /\ FnOk P w K mg base CX0 k f fd ps (spF Γ K n F) /\ Binds K fd ps []
def spI (Γ : Cn) (K : PySem.W.Frag) (C : Addr) (n : Nat) (F : List D -> Option D) : Sp := fun vs H Q _ => ∃ x dx H1 G ds d us, vs = .ref x :: us /\ H = upd (upd H1 dx (.own x)) x (.ins C dx []) /\ H1 x = none /\ H1 dx = none /\ dx ≠ x /\ Same G H1 /\ Reps Γ K G us ds /\ ds.length = n /\ F ds = some d /\
  ∀ G' H', Step G H1 G' H' -> Rep Γ K G' (.ref x) d -> Q .non H'
structure CalI (Γ : Cn) (P : Program) (w : World) (K : PySem.W.Frag) (mg : Str -> Option Value) (base : Heap) (c : Str) (n k : Nat) (F : List D -> Option D) : Prop where
  ex : ∃ C f fd ps, Γ.cls c = some C /\ Mk K C f /\ mg c = some (.ref C) /\ FnOk P w K mg base CX0 k f fd ps (spI Γ K C n F) /\ Binds K fd ps []
end
section
variable {Γ : Cn} {X : Cx} {e o : Expr} {es : List Expr} {fo : FE} {fr : FA} {pos p apos : Pos} {c m : Str}
end
section
variable {Γ : Cn} {P : Program} {w : World} {K : PySem.W.Frag} {mg : Str -> Option Value} {base : Heap} {c : Str} {attrs : List Str}
structure DfnM (K : PySem.W.Frag) (C : Addr) (c m qual : Str) (st : Stmt) : Prop where
  ex : ∃ f fd, Fun K m qual st f fd /\ PySem.W.findIn K (.ref C) m = some (some (.ref f)) /\ PySem.W.isFn K (.ref f) = true
structure ClsOk (Γ : Cn) (K : PySem.W.Frag) (mg : Str -> Option Value) (c : Str) (C : Addr) : Prop where
  cn : Γ.cls c = some C
  cl : Cls K C
  mgC : mg c = some (.ref C)
  makes : PySem.W.makesIn K C = true
  kp : PySem.W.keepIn K (.ref C) = true
end
end L2
end
section
namespace ST
open PySem
structure Pr where
  j : Nat
  more : Nat
  i : Nat
  pt : Nat
def adv (M : Nat) (p : Pr) : Pr := if p.more > 0 then { p with j := p.j + 1, more := p.more - 1 } else
  { j := (SetTable.leap M p.i p.pt).1, more := SetTable.runEnd M (SetTable.leap M p.i p.pt).1 - (SetTable.leap M p.i p.pt).1, i := (SetTable.leap M p.i p.pt).1, pt := (SetTable.leap M p.i p.pt).2 }
def st0 (M : Nat) (h : Int) : Pr := { j := SetTable.bits h % (M + 1), more := SetTable.runEnd M (SetTable.bits h % (M + 1)) - SetTable.bits h % (M + 1), i := SetTable.bits h % (M + 1), pt := SetTable.bits h }
def it (M : Nat) (h : Int) : Nat -> Pr
  | 0 => st0 M h
  | n + 1 => adv M (it M h n)
def J (M : Nat) (h : Int) (n : Nat) : Nat := (it M h n).j
theorem steps (M : Nat) : ∀ (k : Nat) (p : Pr), k <= p.more -> Nat.repeat (adv M) k p = { p with j := p.j + k, more := p.more - k }
  | 0, p, _ => rfl
  | k + 1, p, h => by
    rw [Nat.repeat, steps M k p (by omega)]
    unfold adv
    rw [if_pos (by show p.more - k > 0; omega)]
    simp only [Nat.sub_sub, Nat.add_assoc]
def fl (M i : Nat) : Nat := (i * 5 + 1) % (M + 1)
def orb (M : Nat) : Nat -> Nat -> Nat
  | 0, i => i
  | m + 1, i => fl M (orb M m i)
structure Full (M : Nat) : Prop where
  all : ∀ j, j <= M -> ∃ m, m < M + 1 /\ orb M m 0 = j
  back : orb M (M + 1) 0 = 0
end ST
end
section
namespace ST
open PySem
structure Tb (t : SetTable) (es : Array (Int × Value)) : Prop where
  full : Full t.mask
  sz : t.place.size = es.size
  dm : t.dummies = #[]
  ri : t.place.toList.Pairwise (· < ·)
  le : ∀ j ∈ t.place.toList, j <= t.mask
  few : es.size * 5 < t.mask * 3
  rc : ∀ (i j : Nat) (h : Int) (x : Value), t.place[i]? = some j -> es[i]? = some (h, x) -> ∃ n, J t.mask h n = j /\ ∀ m, m < n -> J t.mask h m ∈ t.place.toList
section
variable {t : SetTable} {es : Array (Int × Value)}
end
end ST
end
section
namespace ST
open PySem
def isFree (owner : Array (Option Nat)) (j : Nat) : Bool := (owner.getD j (some 0)).isNone
structure Own (M : Nat) (hs : List Int) (owner : Array (Option Nat)) : Prop where
  sz : owner.size = M + 1
  lt : ∀ (j k : Nat), owner[j]? = some (some k) -> k < hs.length
  on : ∀ k, k < hs.length -> ∃ j : Nat, owner[j]? = some (some k)
  inj : ∀ (j j' k : Nat), owner[j]? = some (some k) -> owner[j']? = some (some k) -> j = j'
  rc : ∀ (j k : Nat) h, owner[j]? = some (some k) -> hs[k]? = some h -> ∃ n, J M h n = j /\ ∀ m, m < n -> isFree owner (J M h m) = false
end ST
end
section
namespace ST
open PySem
def Mk (M : Nat) : Prop := M = 7 \/ M = 31 \/ M = 127 \/ M = 511
end ST
end
section
namespace ST
open PySem PySem.Spec PyProof.Rows
section
variable {prog : Program} {w : World} {A : Around} {R : Result -> Shared -> Prop} {I : Addr} {fp wr : List Addr} {G : Array GenState -> Array GenState -> Prop} {n : Nat} {P : Nat -> Value -> Prop} {St : Nat -> Shared -> Prop}
end
section
variable {prog : Program} {w : World} {A : Around} {E : Value -> Shared -> Prop} {s : Shared}
end
end ST
end
section
namespace ST
open PySem PySem.Spec PyProof.Rows
def dd {κ : Type} [DecidableEq κ] (l : List κ) : List κ := l.foldl (fun a k => if k ∈ a then a else a ++ [k]) []
section
variable {prog : Program} {w : World} {κ : Type} [DecidableEq κ] {knd : KeyKind prog w κ} {A : Around} {E : Value -> Shared -> Prop} {s : Shared}
end
end ST
end
section
namespace ST
open PySem PySem.Spec PyProof.Rows
section
variable {prog : Program} {w : World} {κ : Type} [DecidableEq κ] {knd : KeyKind prog w κ} {A : Around} {E : Value -> Shared -> Prop} {s : Shared}
def Ents (knd : KeyKind prog w κ) (h : Heap) (es : Array (Int × Value)) : Prop := ∀ (i : Nat) e, es[i]? = some e -> ∃ k b, e = (tupleKeyHash knd k, .ref b) /\ IsTupleKey knd h k b
structure TS (knd : KeyKind prog w κ) (h : Heap) (ks : List (List κ)) (o : Obj) : Prop where
  cls : o.ExactSet
  ex : ∃ es ep t, o.data = .set es ep t /\ Tb t es /\ Mk t.mask /\ Ents knd h es /\ es.size = (dd ks).length /\ (∀ k ∈ dd ks, ∃ (i : Nat) (b : Addr), es[i]? = some (tupleKeyHash knd k, .ref b) /\ IsTupleKey knd h k b) /\ ∀ (i : Nat) (k : List κ) (b : Addr), es[i]? = some (tupleKeyHash knd k, .ref b) -> IsTupleKey knd h k b -> k ∈ dd ks
end
end ST
end
section
namespace L2
open PySem PySem.Spec PyProof.Rows ST
instance (priority := high) keyBEq : BEq Key := instBEqOfDecidableEq
instance (priority := high) keyLaw : LawfulBEq Key := inferInstanceAs (@LawfulBEq Key instBEqOfDecidableEq)
def SetN (n : Nat) (o : Obj) : Prop := o.ExactSet /\ ∃ es ep t, o.data = .set es ep t /\ t.fits es.size = true /\ es.size = n
def SetO (p : Addr) (n : Nat) : HO := .ext fun h => ∃ o, h.get? p = some o /\ SetN n o
section
variable {X : Cx}
end
end L2
end
section
namespace L2
open PySem PySem.Spec PyProof.Rows ST
section
variable {Γ : Cn} {X : Cx} {e : Expr} {f : FE} {pos p p2 pos2 : Pos}
end
end L2
end
section
namespace DT
open PySem PySem.Spec PyProof.Rows
end DT
end
section
namespace DT
open PySem PySem.Spec PyProof.Rows
section
variable {prog : Program} {w : World} {A : Around} {R : Result -> Shared -> Prop} {I : Addr} {fp wr : List Addr} {G : Array GenState -> Array GenState -> Prop} {n : Nat} {P : Nat -> Value -> Prop} {St : Nat -> Shared -> Prop}
end
section
variable {prog : Program} {w : World} {A : Around} {E : Value -> Shared -> Prop} {s : Shared}
end
end DT
end
section
namespace L2
open PySem PySem.Spec PyProof.Rows
section
variable {κ : Type} [DecidableEq κ]
end
section
variable {X : Cx}
end
section
variable {Γ : Cn} {X : Cx}
end
end L2
end
section
namespace L2
open PySem PySem.Spec PyProof.Rows
section
variable {Γ : Cn} {X : Cx} {e : Expr} {es : List Expr} {fr : FA} {pos p2 : Pos} {x : Str}
def spO (Γ : Cn) (K : PySem.W.Frag) (n : Nat) (F : List D -> Option (List D)) : Sp := fun vs H Q _ => ∃ G ds rs, Same G H /\ Reps Γ K G vs ds /\ ds.length = n /\ F ds = some rs /\ ∀ p us G' H', Step G H G' H' -> H' p = none -> Reps Γ K G' us rs -> Q (.ref p) (upd H' p (.lst us))
end
structure CalO (Γ : Cn) (P : Program) (w : World) (K : PySem.W.Frag) (mg : Str -> Option Value) (base : Heap) (x : Str) (n k : Nat) (F : List D -> Option (List D)) : Prop where
  ex : ∃ f fd ps, FnOk P w K mg base CX0 k f fd ps (spO Γ K n F) /\ mg x = some (.ref f) /\ PySem.W.keepIn K (.ref f) = true /\ Binds K fd ps []
section
variable {Γ : Cn} {X : Cx} {e : Expr} {es : List Expr} {fr : FA} {pos p : Pos}
end
end L2
end
section
namespace L2
open PySem PySem.Spec PyProof.Rows
section
variable {Γ : Cn} {X : Cx} {a b c e : Expr} {fa fb : FE} {op : CmpOp} {g g' : D -> D -> Option D}
end
section
variable {ρ : Env'} {f1 f2 f3 f4 f5 f6 f7 : FE}
theorem ln1 : ∀ ρ ds, aCons f1 aNil ρ = some ds -> ds.length = 1 := aCons_len fun _ _ h => aNil_len h
theorem ln2 : ∀ ρ ds, aCons f1 (aCons f2 aNil) ρ = some ds -> ds.length = 2 := aCons_len ln1
end
end L2
end
section
namespace L2
open PySem PySem.Spec PyProof.Rows
section
variable {Γ : Cn} {K : PySem.W.Frag} {G₀ H₀ G H : Hp} {ρ : Env'} {σ : St}
theorem At.setOdk (A : At Γ K G₀ H₀ G H ρ σ) {i : Nat} {a : Addr} (ha : H a = none) : At Γ K G₀ H₀ G (upd H a (.dK [])) (ρ.set i (some (.odk []))) (σ.set i (some (.ref a))) := by
  have h0 : H₀ a = none := A.st.hh.free ha
  have hg : G a = none := A.gh.free ha
  refine A.put (fp := []) (fp' := [a]) (.inl rfl) (fun b o e _ => by rw [upd_ne (ne_of_none e ha)]; exact e) (.odk (us := []) (kvs := []) h0 hg upd_same rfl .nil) (fun b hb => .inr (by rw [List.mem_singleton.mp hb]; exact ha)) (.refl _) (fun b o e => ?_) (fun _ _ _ _ => rfl) (fun b hb => by cases hb)
  rw [upd_ne (ne_of_none e hg)]; exact A.gh b o e
theorem At.chOdt (A : At Γ K G₀ H₀ G H ρ σ) {i : Nat} {a : Addr} {kvs kvs' : List (List Key × D)} {us' : List (List Key × V)} (hi : ρ[i]? = some (some (.odt kvs))) (ha : σ[i]? = some (some (.ref a))) (e : us'.map (·.1) = kvs'.map (·.1)) (r : Reps Γ K G (us'.map (·.2)) (kvs'.map (·.2))) : At Γ K G₀ H₀ G (upd H a (.dT us')) (ρ.set i (some (.odt kvs'))) σ := by
  obtain ⟨v, fp, h1, h2⟩ := A.get hi
  rw [ha] at h1
  cases h1
  cases h2 with
  | odt q1 q2 q3 q4 q5 =>
    refine A.ch hi ha (.odt q1 q2 q3 q4 q5) (fun b o e hb => ?_) (.odt q1 q2 upd_same e r) (fun b hb => .inl hb) (.refl _) (fun b o e => ?_) (fun _ _ _ _ => rfl)
    · rw [upd_ne (fun z => hb (List.mem_singleton.mpr z))]; exact e
    · rw [upd_ne (ne_of_none e q2)]; exact A.gh b o e
theorem At.chOdk (A : At Γ K G₀ H₀ G H ρ σ) {i : Nat} {a : Addr} {kvs kvs' : List (Key × D)} {us' : List (Key × V)} (hi : ρ[i]? = some (some (.odk kvs))) (ha : σ[i]? = some (some (.ref a))) (e : us'.map (·.1) = kvs'.map (·.1)) (r : Reps Γ K G (us'.map (·.2)) (kvs'.map (·.2))) : At Γ K G₀ H₀ G (upd H a (.dK us')) (ρ.set i (some (.odk kvs'))) σ := by
  obtain ⟨v, fp, h1, h2⟩ := A.get hi
  rw [ha] at h1
  cases h1
  cases h2 with
  | odk q1 q2 q3 q4 q5 =>
    refine A.ch hi ha (.odk q1 q2 q3 q4 q5) (fun b o e hb => ?_) (.odk q1 q2 upd_same e r) (fun b hb => .inl hb) (.refl _) (fun b o e => ?_) (fun _ _ _ _ => rfl)
    · rw [upd_ne (fun z => hb (List.mem_singleton.mpr z))]; exact e
    · rw [upd_ne (ne_of_none e q2)]; exact A.gh b o e
def slotD : Slot -> Option D
  | .odt kvs => some (.dt kvs)
  | .odk kvs => some (.dk kvs)
  | _ => none
theorem At.frzD (A : At Γ K G₀ H₀ G H ρ σ) {i : Nat} {s : Slot} {d : D} (hi : ρ[i]? = some (some s)) (hd : slotD s = some d) : ∃ G', Same G G' /\ At Γ K G₀ H₀ G' H (ρ.set i (some (.sh d))) σ := by
  obtain ⟨v, fp, h1, h2⟩ := A.get hi
  cases h2 with
  | sh _ => cases hd
  | own _ _ _ _ => cases hd
  | obj _ _ _ _ _ _ _ => cases hd
  | tlo _ _ _ _ _ _ => cases hd
  | pin _ => cases hd
  | objd _ _ _ _ _ _ _ _ _ _ _ _ => cases hd
  | odk q1 q2 q3 q4 q5 =>
    cases hd
    rename_i a us kvs
    have sm : Same G (upd G a (.dK us)) := fun b o e => by rw [upd_ne (ne_of_none e q2)]; exact e
    refine ⟨upd G a (.dK us), sm, A.ch hi h1 (.odk q1 q2 q3 q4 q5) (fun b o e hb => e) (.sh (.dk upd_same q4 (q5.mono sm))) (fun b hb => by cases hb) sm (fun b o e => ?_) (fun b o e hb => ?_)⟩
    · by_cases hb : b = a
      · subst hb; rw [upd_same] at e; cases e; exact q3
      · rw [upd_ne hb] at e; exact A.gh b o e
    · rw [upd_ne (fun z => hb (List.mem_singleton.mpr z))]
  | odt q1 q2 q3 q4 q5 =>
    cases hd
    rename_i a us kvs
    have sm : Same G (upd G a (.dT us)) := fun b o e => by rw [upd_ne (ne_of_none e q2)]; exact e
    refine ⟨upd G a (.dT us), sm, A.ch hi h1 (.odt q1 q2 q3 q4 q5) (fun b o e hb => e) (.sh (.dt upd_same q4 (q5.mono sm))) (fun b hb => by cases hb) sm (fun b o e => ?_) (fun b o e hb => ?_)⟩
    · by_cases hb : b = a
      · subst hb; rw [upd_same] at e; cases e; exact q3
      · rw [upd_ne hb] at e; exact A.gh b o e
    · rw [upd_ne (fun z => hb (List.mem_singleton.mpr z))]
end
section
variable {Γ : Cn} {X : Cx} {a b c e value : Expr} {es : List Expr} {f fk fv : FE} {fr : FA} {pos pos' p dp : Pos} {g : FS} {x : Str} {sts : List Stmt}
def sOdk (i : Nat) : FS := fun ρ => some (.nx, ρ.set i (some (.odk [])))
theorem ds_odk (i : Nat) (hN : X.N.Nodup) (hi : X.N[i]? = some x := by rfl) (hx : Loc X.env.scope x := by first | exact Or.inl rfl | exact Or.inr rfl) (hs : swapsWith (.Dict [] [] dp) (some (.Name x pos')) pos.line X.env = pure false := by rfl) (hf : X.fn x = true \/ X.env.scope.names.lookup x = some .local := by first | exact .inl rfl | exact .inr rfl | assumption) :
    DS Γ X (.Assign [.Name x pos'] (.Dict [] [] dp) pos) (sOdk i) := ⟨(ps_set hN hi hx pe_dnewK hs hf).imp fun E σ H => by
  rintro ⟨G₀, H₀, G, ρ, fl, ρ', A, h, k⟩ p hp
  cases h
  exact k _ G _ (.refl _) (A.setOdk hp)⟩
def sDPutO (i : Nat) (fk fv : FE) : FS := fun ρ => (fv ρ).bind fun d => (fk ρ).bind fun kd => match ρ[i]? with
  | some (some (.odt kvs)) => match kd with
    | .tup t => (dkeys t).bind fun ks => if kvs.length < 100000 then some (.nx, ρ.set i (some (.odt (putG kvs ks d)))) else none
    | _ => none
  | some (some (.odk kvs)) => (dkey kd).bind fun k => if kvs.length < 100000 then some (.nx, ρ.set i (some (.odk (putG kvs k d)))) else none
  | _ => none
theorem ds_dputO (i : Nat) (hu : X.A.units + 66 < cLine) {vp : Pos} {ke : Expr} (hk : DE Γ X ke fk) (hv' : DE Γ X value fv) (hN : X.N[i]? = some x := by rfl) (hv : Vis X.env.scope x := by first | exact Or.inl rfl | exact Or.inr (Or.inl rfl) | exact Or.inr (Or.inr rfl)) (hd : (x == ("__debug__" : Str)) = false := by decide)
    (hcd : (x == ("__classdict__" : Str)) = false := by decide) (hs : swapsWith value (some (.Subscript (.Name x vp) ke pos')) pos.line X.env = pure false := by rfl) :
    DS Γ X (.Assign [.Subscript (.Name x vp) ke pos'] value pos) (sDPutO i fk fv) := ⟨(ps_dput (by omega) (pe_var hN hv hd hcd) hk.1 hv'.1 hs).imp fun E σ H => by
  rintro ⟨G₀, H₀, G, ρ, flw, ρ', A, h, k⟩
  unfold sDPutO at h
  obtain ⟨d, hd, ha⟩ := Option.bind_eq_some_iff.mp h
  clear h
  obtain ⟨kd, hkd, hq⟩ := Option.bind_eq_some_iff.mp ha
  clear ha
  refine ⟨G₀, H₀, G, ρ, d, A, hd, fun v G1 H1 s1 r1 => ?_⟩
  have A1 := A.step s1
  split at hq
  · rename_i kvs hi
    split at hq
    · rename_i t
      obtain ⟨ks, hks, hq⟩ := Option.bind_eq_some_iff.mp hq
      split at hq
      · rename_i hz
        cases hq
        obtain ⟨w, fp, h1, h2⟩ := A1.get hi
        cases h2 with
        | odt q1 q2 q3 q4 q5 =>
          rename_i a us
          refine ⟨_, h1, G₀, H₀, G1, ρ, _, A1, hkd, fun u G2 H2 s2 r2 => ?_⟩
          have A2 := A1.step s2
          obtain ⟨bb, vs, rfl, hb, rb⟩ := r2.tup_inv
          have ev := dkeys_ok rb hks
          subst ev
          have ha2 : H2 a = some (.dT us) := s2.hh _ _ q3
          have hlen : us.length = kvs.length := by simpa using congrArg List.length q4
          obtain ⟨w1, w2⟩ := kr_put (k := ks) (r1.mono s2.gg) q4 (q5.mono s2.gg)
          exact ⟨a, _, rfl, DPut.t ha2 (s2.gh _ _ hb) (by have := sizeLine_eq; omega), k σ G2 _ (s1.gg.trans s2.gg) (A2.chOdt hi h1 w1 w2)⟩
      · cases hq
    · cases hq
  · rename_i kvs hi
    obtain ⟨kk, hkk, hq⟩ := Option.bind_eq_some_iff.mp hq
    split at hq
    · rename_i hz
      cases hq
      obtain ⟨w, fp, h1, h2⟩ := A1.get hi
      cases h2 with
      | odk q1 q2 q3 q4 q5 =>
        rename_i a us
        refine ⟨_, h1, G₀, H₀, G1, ρ, _, A1, hkd, fun u G2 H2 s2 r2 => ?_⟩
        have A2 := A1.step s2
        have eu := dkey_ok r2 hkk
        subst eu
        have ha2 : H2 a = some (.dK us) := s2.hh _ _ q3
        have hlen : us.length = kvs.length := by simpa using congrArg List.length q4
        obtain ⟨w1, w2⟩ := kr_put (k := kk) (r1.mono s2.gg) q4 (q5.mono s2.gg)
        exact ⟨a, _, rfl, DPut.k ha2 (by have := sizeLine_eq; omega), k σ G2 _ (s1.gg.trans s2.gg) (A2.chOdk hi h1 w1 w2)⟩
    · cases hq
  · cases hq⟩
def sFrzD (i : Nat) (g : FS) : FS := fun ρ => match ρ[i]? with
  | some (some s) => match slotD s with
    | some d => g (ρ.set i (some (.sh d)))
    | none => none
  | _ => none
theorem TDs.frzD (i : Nat) : ∀ E σ H, TDs Γ X.K (sFrzD i g) E σ H -> TDs Γ X.K g E σ H := by
  rintro E σ H ⟨G₀, H₀, G, ρ, fl, ρ', A, h, k⟩
  unfold sFrzD at h
  split at h
  · rename_i s hi
    split at h
    · rename_i d hd
      obtain ⟨G', sm, A'⟩ := A.frzD hi hd
      exact ⟨G₀, H₀, G', _, fl, ρ', A', h, fun σ1 G1 H1 sm1 A1 => k σ1 G1 H1 (sm.trans sm1) A1⟩
    · cases h
  · cases h
theorem dss_frzD (i : Nat) (h : DSs Γ X sts g) : DSs Γ X sts (sFrzD i g) := ⟨h.1.imp (TDs.frzD i)⟩
end
end L2
end
section
namespace L2
open PySem PySem.Spec PyProof.Rows
section
variable {Γ : Cn} {X : Cx} {e c : Expr} {es : List Expr} {fr : FA} {pos p2 p pos' : Pos} {x : Str} {ft : FT}
def spOD (Γ : Cn) (K : PySem.W.Frag) (n : Nat) (F : List D -> Option (List (Key × D))) : Sp := fun vs H Q _ => ∃ G ds rs, Same G H /\ Reps Γ K G vs ds /\ ds.length = n /\ F ds = some rs /\ ∀ p us G' H', Step G H G' H' -> H' p = none -> us.map (·.1) = rs.map (·.1) -> Reps Γ K G' (us.map (·.2)) (rs.map (·.2)) -> Q (.ref p) (upd H' p (.dK us))
structure CalD (Γ : Cn) (P : Program) (w : World) (K : PySem.W.Frag) (mg : Str -> Option Value) (base : Heap) (x : Str) (n k : Nat) (F : List D -> Option (List (Key × D))) : Prop where
  ex : ∃ f fd ps, FnOk P w K mg base CX0 k f fd ps (spOD Γ K n F) /\ mg x = some (.ref f) /\ PySem.W.keepIn K (.ref f) = true /\ Binds K fd ps []
end
end L2
end
section
namespace L2
open PySem PySem.Spec PyProof.Rows
section
variable {X : Cx} {pins : List (Addr × Obj)} {σ : St} {H H' : Hp} {s : Shared} {h' : Heap}
end
section
variable {Γ : Cn} {X : Cx} {e c o tg : Expr} {es : List Expr} {fr : FA} {pos p2 p pos' apos cpos : Pos} {x : Str} {ft : FT}
mutual
theorem Rep.drop {K : PySem.W.Frag} {G G' : Hp} {a : Addr} {ob : Obj} {u : List (Key × V)} (ha : G a = some (.frz ob (.dK u))) (hG : ∀ b, b ≠ a -> G' b = G b) : ∀ {v : V} {d : D}, Rep Γ K G v d -> Rep Γ K G' v d
  | _, _, .non => .non
  | _, _, .bl b => .bl b
  | _, _, .int i => .int i
  | _, _, .str x => .str x
  | _, _, .ty x => .ty x
  | _, _, .tup h r => .tup ((hG _ (ne_of h ha (by intro z; cases z))).trans h) (Reps.drop' ha hG r)
  | _, _, .lst h r => .lst ((hG _ (ne_of h ha (by intro z; cases z))).trans h) (Reps.drop' ha hG r)
  | _, _, .scr h => .scr (by
      rcases h with (h | ⟨ob', h⟩) | h
      · exact .inl (.inl ((hG _ (ne_of h ha (by intro z; cases z))).trans h))
      · exact .inl (.inr ⟨ob', (hG _ (ne_of h ha (by intro z; cases z))).trans h⟩)
      · exact .inr h)
  | _, _, .dk h e r => .dk ((hG _ (ne_of h ha (by intro z; cases z))).trans h) e (Reps.drop' ha hG r)
  | _, _, .dt h e r => .dt ((hG _ (ne_of h ha (by intro z; cases z))).trans h) e (Reps.drop' ha hG r)
  | _, _, .ins h c e r => .ins ((hG _ (ne_of h ha (by intro z; cases z))).trans h) c e (Reps.drop' ha hG r)
theorem Reps.drop' {K : PySem.W.Frag} {G G' : Hp} {a : Addr} {ob : Obj} {u : List (Key × V)} (ha : G a = some (.frz ob (.dK u))) (hG : ∀ b, b ≠ a -> G' b = G b) : ∀ {vs : List V} {ds : List D}, Reps Γ K G vs ds -> Reps Γ K G' vs ds
  | _, _, .nil => .nil
  | _, _, .cons h r => .cons (Rep.drop ha hG h) (Reps.drop' ha hG r)
end
open Classical in
end
end L2
end
section
namespace L2
open PySem PySem.Spec PyProof.Rows PyProof
section
variable {prog : Program} {w : World} {A : Around} {R : Result -> Shared -> Prop} {I : Addr} {fp wr : List Addr} {n : Nat} {P : Nat -> Value -> Prop} {St : Nat -> Heap -> Prop}
end
section
variable {prog : Program} {w : World} {A : Around} {E : Value -> Shared -> Prop} {s : Shared}
end
section
variable {Γ : Cn} {X : Cx} {e : Expr} {f : FE} {pos p : Pos}
end
end L2
end
section
namespace L2
open PySem PySem.Spec PyProof.Rows
def TDn (Γ : Cn) (K : PySem.W.Frag) (f : FE) : TE := fun σ H Q => ∃ G₀ H₀ G ρ d, At Γ K G₀ H₀ G H ρ σ /\ f ρ = some d /\ ∀ v G' H', Step G H G' H' -> Rep Γ K G' v d -> NewL H G' v d -> Q v H'
structure DN (Γ : Cn) (X : Cx) (e : Expr) (f : FE) : Prop where
  out : PE X e (TDn Γ X.K f)
section
variable {Γ : Cn} {X : Cx} {a b c e tg iter : Expr} {es : List Expr} {fa fb fc f fe : FE} {fr fi : FA} {pos p p2 pos' : Pos} {ft : FT} {g : FG} {x : Str}
variable {scope : Scope} {N' : List Str} {fv : List (Option Nat)} {ifs : List Expr} {elt : Expr}
structure DBn (Γ : Cn) (X : Cx) (N' : List Str) (scope : Scope) (tg : Expr) (ifs : List Expr) (elt : Expr) (g : FG) (ft : FT) (fe : FE) : Prop where
  out : ∀ (cl : List (Str × Addr)) (C : Addr) (s₀ : Shared) (H₀ : Hp) (fp : List Addr), DG Γ (compCx X N' scope cl C s₀ H₀ fp) tg g /\ DTs Γ (compCx X N' scope cl C s₀ H₀ fp) ifs ft /\ DN Γ (compCx X N' scope cl C s₀ H₀ fp) elt fe
end
def spN (Γ : Cn) (K : PySem.W.Frag) (n : Nat) (F : List D -> Option D) : Sp := fun vs H Q _ => ∃ G ds d, Same G H /\ Reps Γ K G vs ds /\ ds.length = n /\ F ds = some d /\ ∀ v G' H', Step G H G' H' -> Rep Γ K G' v d -> NewL H G' v d -> Q v H'
section
variable {Γ : Cn} {P : Program} {w : World} {K : PySem.W.Frag} {mg : Str -> Option Value} {base : Heap}
structure CalN (Γ : Cn) (P : Program) (w : World) (K : PySem.W.Frag) (mg : Str -> Option Value) (base : Heap) (x : Str) (n k : Nat) (F : List D -> Option D) : Prop where
  ex : ∃ f fd ps, FnOk P w K mg base CX0 k f fd ps (spN Γ K n F) /\ mg x = some (.ref f) /\ PySem.W.keepIn K (.ref f) = true /\ Binds K fd ps []
structure CalMN (Γ : Cn) (P : Program) (w : World) (K : PySem.W.Frag) (mg : Str -> Option Value) (base : Heap) (c m : Str) (n k : Nat) (F : List D -> Option D) : Prop where
  ex : ∃ C f fd ps, Γ.cls c = some C /\ Cls K C /\ Meth K C m f /\ FnOk P w K mg base CX0 k f fd ps (spN Γ K n F) /\ Binds K fd ps []
structure CalMO (Γ : Cn) (P : Program) (w : World) (K : PySem.W.Frag) (mg : Str -> Option Value) (base : Heap) (c m : Str) (n k : Nat) (F : List D -> Option (List D)) : Prop where
  ex : ∃ C f fd ps, Γ.cls c = some C /\ Cls K C /\ Meth K C m f /\ FnOk P w K mg base CX0 k f fd ps (spO Γ K n F) /\ Binds K fd ps []
end
section
variable {Γ : Cn} {X : Cx} {e o : Expr} {es : List Expr} {fo f : FE} {fr : FA} {pos p apos pos' : Pos} {c m x : Str}
end
end L2
end
section
namespace Law
open PySem L2
end Law
end
section
namespace L2
open PySem PySem.Spec PyProof.Rows
structure Fly (P : Program) (w : World) (base : Heap) (outer : List Env) (H H' : Hp) (s : Shared) (B : Heap) (e : Addr) (cls a0 : Value) (h : Heap) : Prop where
  bst : base.StaysIn B
  keep : ∀ b o, s.heap.get? b = some o -> H b = none -> b ∉ frs outer -> B.get? b = some o
  slot : ∀ b o, s.heap.get? b = some o -> H b = none -> b ∈ frs outer -> ∃ sl, h.get? b = some { o with slots := sl }
  nofl : ∀ b o, s.heap.get? b = some o -> b ∈ frs outer -> ∀ vs, o.data ≠ .fields vs
  free : ∀ b o, s.heap.get? b = some o -> H b = none -> H' b = none
  there : ∀ b o, s.heap.get? b = some o -> b ∉ frs outer -> ∃ o', B.get? b = some o'
  frf : ∀ b ∈ frs outer, H b = none
  tups : ∀ b xs, H b = some (.tup xs) -> H' b = some (.tup xs)
  frzs : ∀ b o u, H b = some (.frz o u) -> H' b = some (.frz o u)
  tbls : ∀ b ps, H b = some (.tbl ps) -> ∃ more, H' b = some (.tbl (ps ++ more))
  hok : HOk P w H' B
  fly : Heap.FlyingW B outer e cls a0 h
  new : H' e = none
section
variable {P : Program} {w : World} {base B : Heap} {outer : List Env} {H H' : Hp} {s : Shared} {e : Addr} {cls a0 : Value} {h h' : Heap}
theorem Fly.on (F : Fly P w base outer H H' s B e cls a0 h) (k : h.UpToSlots h') (f : Heap.FlyingW B outer e cls a0 h') : Fly P w base outer H H' s B e cls a0 h' :=
  ⟨F.bst, F.keep, fun b o q n hb => by
    obtain ⟨sl, e1⟩ := F.slot b o q n hb
    obtain ⟨sl', e2⟩ := k b _ e1 (F.nofl b o q hb)
    exact ⟨sl', e2⟩, F.nofl, F.free, F.there, F.frf, F.tups, F.frzs, F.tbls, F.hok, f, F.new⟩
theorem Fly.un (F : Fly P w base outer H H' s B e cls a0 h) : Un (frs outer) [] H H' s.heap h where
  keep := fun b o q n hb _ => F.fly.1 b o (F.keep b o q n hb)
  slot := fun b o q n hb _ => F.slot b o q n hb
  free := fun b o q n _ => F.free b o q n
  there := fun b o q _ => by
    by_cases hb : b ∈ frs outer
    · obtain ⟨sl, e1⟩ := F.slot b o q (F.frf b hb) hb
      exact ⟨_, e1⟩
    · obtain ⟨o', e1⟩ := F.there b o q hb
      exact ⟨o', F.fly.1 b o' e1⟩
  tups := F.tups
  frzs := F.frzs
  tbls := F.tbls
theorem Fly.hk (F : Fly P w base outer H H' s B e cls a0 h) : HOk P w H' h := F.hok.kept F.fly.1
end
def CXO (P : Program) (w : World) (base : Heap) : CXT := fun outer H s E e s' =>
  ∃ a cls a0 B H', e = .ref a /\ s'.os = s.os /\ AllBare s'.gens /\ Fly P w base outer H H' s B a cls a0 s'.heap /\ E cls none H'
section
variable {P : Program} {w : World} {K : PySem.W.Frag} {mg : Str -> Option Value} {base : Heap} {N : List Str} {qual : Str} {scope : Scope} {f : Addr} {cd : Value} {A : Around} {outer : List Env} {s₀ : Shared} {H₀ : Hp} {E : XK}
  {pins : List (Addr × Obj)} {σ : St} {H : Hp} {s : Shared} {h1 : Heap} {e : Addr} {cls : Value} {vs : List Value}
theorem fly_raise (I : Inv (cxOf (CXO P w base) P w K mg base N qual scope f cd A outer s₀ H₀ E) pins σ H s) (hx : Heap.MadeExcOf s.heap h1 e cls vs) (hE : E cls none H) :
    (cxOf (CXO P w base) P w K mg base N qual scope f cd A outer s₀ H₀ E).xe (.ref e) { s with heap := h1 } := by
  have hst := I.stack
  have hin : ∀ env ∈ (envOfC qual scope s₀.heap.objs.size f cd :: outer), ∀ b, env.frame = some b -> b ∈ (envOfC qual scope s₀.heap.objs.size f cd :: outer).filterMap (·.frame) := fun env he b hb => List.mem_filterMap.mpr ⟨env, he, hb⟩
  have hfs : ∀ b, b ∈ frs outer -> b ∈ frs (envOfC qual scope s₀.heap.objs.size f cd :: outer) := fun b hb => by
    obtain ⟨env, he, hf⟩ := List.mem_filterMap.mp hb
    exact List.mem_filterMap.mpr ⟨env, List.mem_cons_of_mem _ he, hf⟩
  have hmem : ∀ b, b ∈ frs (envOfC qual scope s₀.heap.objs.size f cd :: outer) -> b = s₀.heap.objs.size \/ b ∈ frs outer := fun b hb => List.mem_cons.mp (I.stkSub b hb)
  have old : ∀ b o, s₀.heap.get? b = some o -> b ∉ frs outer -> b ∉ frs (envOfC qual scope s₀.heap.objs.size f cd :: outer) := fun b o q nb hb => by
    rcases hmem b hb with z | z
    · exact absurd (Heap.lt_size q) (by rw [z]; exact Nat.lt_irrefl _)
    · exact nb z
  have trk : ∀ b u, H b = some u -> b ∉ frs (envOfC qual scope s₀.heap.objs.size f cd :: outer) := fun b u q hb => by
    rw [I.stkFree b hb] at q; cases q
  refine wpAny_leaves_madeW (base := PySem.W.hideAll s.heap ((envOfC qual scope s₀.heap.objs.size f cd :: outer).filterMap (·.frame))) I.ok.frames rfl (fun b o q => PySem.W.of_hideAll _ q) (PySem.W.funFrames_hide hst hin) hx fun h' t x1 x2 x3 x4 => ?_
  have noex : ∀ b : Addr, b ∉ (cxOf (CXO P w base) P w K mg base N qual scope f cd A outer s₀ H₀ E).ex := fun b z => absurd (show b ∈ ([] : List Addr) from z) (by simp)
  refine ⟨e, cls, _, _, H, rfl, I.os, I.bare, ⟨fun b o q => ?_, fun b o q n hb => ?_, fun b o q n hb => ?_, fun b o q hb => ?_, fun b o q n => I.base.free b o q n (noex b), fun b o q hb => ?_, fun b hb => I.ok.frf b hb, I.base.tups, I.base.frzs, I.base.tbls, ?_, x1, ?_⟩, hE⟩
  · refine PySem.W.hideAll_get _ (I.bk b o q) fun hm => ?_
    have z : base.get? b = none := (hst.mem hm).1
    rw [z] at q; cases q
  · exact PySem.W.hideAll_get _ (I.base.keep b o q n hb (noex b)) (old b o q hb)
  · obtain ⟨sl, e1⟩ := I.base.slot b o q n hb (noex b)
    obtain ⟨_, o2, e2, hnf⟩ := hst.mem (hfs b hb)
    rw [e1] at e2
    cases e2
    obtain ⟨sl', e3⟩ := x4 b _ (hx.keeps _ _ e1) hnf
    exact ⟨sl', e3⟩
  · obtain ⟨_, o2, e2, hnf⟩ := I.ok.funs.mem hb
    have z : s₀.heap.get? b = some o2 := e2
    rw [q] at z
    cases z
    exact hnf
  · obtain ⟨o', e1⟩ := I.base.there b o q (noex b)
    exact ⟨o', PySem.W.hideAll_get _ e1 (old b o q hb)⟩
  · intro b u q
    refine (I.hok b u q).stay (fun c v hc r => PySem.W.hideAll_get _ r ?_) (fun _ z => z) fun _ _ z => z
    rcases hc with rfl | hc
    · exact trk c u q
    · exact trk c _ hc
  · cases q : H e with
    | none => rfl
    | some u =>
      have := (I.hok e u q).lt
      have hn := hx.new
      exfalso
      obtain ⟨ob, hob⟩ : ∃ ob, s.heap.get? e = some ob := by
        have z := I.hok e u q
        cases u with
        | lst xs => obtain ⟨_, _, _, _, e⟩ := z; exact ⟨_, e⟩
        | tup xs => obtain ⟨_, _, _, ⟨o, e, _⟩⟩ := z; exact ⟨_, e⟩
        | dK kvs => obtain ⟨_, _, _, _, o, _, _, e, _⟩ := z; exact ⟨_, e⟩
        | dT kvs => obtain ⟨_, _, _, _, o, _, _, e, _⟩ := z; exact ⟨_, e⟩
        | set S n => obtain ⟨o, _, _, _, e, _⟩ := z; exact ⟨_, e⟩
        | ins C dx fs => obtain ⟨_, _, _, e, _⟩ := z; exact ⟨_, e⟩
        | own y => obtain ⟨_, e⟩ := z; exact ⟨_, e⟩
        | xd fs => obtain ⟨_, ⟨_, _, _, e, _⟩, _⟩ := z; exact ⟨_, e⟩
        | rng lo hi => obtain ⟨_, _, _, e⟩ := z; exact ⟨_, e⟩
        | frz ob u => obtain ⟨e, _⟩ := z; exact ⟨_, e⟩
        | tbl ps => exact ⟨_, z⟩
        | met f y => exact ⟨_, z⟩
        | ext φ => obtain ⟨_, ⟨_, e⟩, _⟩ := z; exact ⟨_, e⟩
      rw [hn] at hob
      cases hob
end
end L2
end
section
namespace L2
open PySem PySem.Spec PyProof.Rows
def ContX (Γ : Cn) (K : PySem.W.Frag) (n : String) (R : Hp -> Prop) (E : Ends) (H₀ G' H' : Hp) (σ' : St) (fl : Fl) : Prop := (fl = .rt (.ty n) -> R H') /\ (fl ≠ .rt (.ty n) -> Cont Γ K E H₀ G' H' σ' fl)
def TDx (Γ : Cn) (K : PySem.W.Frag) (n : String) (R : Hp -> Prop) (g : FS) : TS := fun E σ H => ∃ G₀ H₀ G ρ fl ρ', At Γ K G₀ H₀ G H ρ σ /\ g ρ = some (fl, ρ') /\ ∀ σ' G' H', Same G G' -> At Γ K G₀ H₀ G' H' ρ' σ' -> ContX Γ K n R E H₀ G' H' σ' fl
structure DX (Γ : Cn) (X : Cx) (n : String) (R : Hp -> Prop) (st : Stmt) (g : FS) : Prop where
  out : PS X st (TDx Γ X.K n R g)
structure DXs (Γ : Cn) (X : Cx) (n : String) (R : Hp -> Prop) (st : List Stmt) (g : FS) : Prop where
  out : PSs X st (TDx Γ X.K n R g)
def noTy (g : FS) : FS := fun ρ => match g ρ with
  | some (.rt (.ty _), _) => none
  | r => r
section
variable {Γ : Cn} {X : Cx} {n : String} {R : Hp -> Prop} {c tg iter : Expr} {fi : FA} {pos : Pos} {g g' : FS} {st : Stmt} {sts : List Stmt} {ft : FT} {gg : FG}
theorem TDx.noTy : ∀ E σ H, TDx Γ X.K n R (noTy g) E σ H -> TDs Γ X.K g E σ H := by
  rintro E σ H ⟨G₀, H₀, G, ρ, fl, ρ', A, h, k⟩
  unfold L2.noTy at h
  split at h
  · cases h
  · rename_i hne
    refine ⟨G₀, H₀, G, ρ, fl, ρ', A, h, fun σ' G' H' sm A' => (k σ' G' H' sm A').2 fun z => ?_⟩
    subst z
    exact hne _ _ h
theorem dx_of (h : DS Γ X st g) : DX Γ X n R st (noTy g) := ⟨h.1.imp TDx.noTy⟩
theorem dxs_of (h : DSs Γ X sts g) : DXs Γ X n R sts (noTy g) := ⟨h.1.imp TDx.noTy⟩
theorem dxs_nil : DXs Γ X n R [] sNil := ⟨pss_nil.imp fun E σ H => by
  rintro ⟨G₀, H₀, G, ρ, fl, ρ', A, h, k⟩
  cases h
  exact (k σ G H (.refl _) A).2 (fun z => nomatch z)⟩
theorem dxs_one (h : DX Γ X n R st g) : DXs Γ X n R [st] g := ⟨pss_one h.1⟩
theorem dxs_cons (h1 : DX Γ X n R st g) (h2 : DXs Γ X n R sts g') : DXs Γ X n R (st :: sts) (sSeq g g') := ⟨(pss_cons h1.1 h2.1).imp fun E σ H => by
  rintro ⟨G₀, H₀, G, ρ, fl, ρ', A, h, k⟩
  unfold sSeq at h
  obtain ⟨⟨fl1, ρ1⟩, h1, h⟩ := Option.bind_eq_some_iff.mp h
  refine ⟨G₀, H₀, G, ρ, fl1, ρ1, A, h1, fun σ1 G1 H1 sm A1 => ?_⟩
  cases fl1 with
  | nx => exact ⟨(fun z => nomatch z), fun _ => ⟨G₀, H₀, G1, ρ1, fl, ρ', A1, h, fun σ' G' H' sm' A' => k σ' G' H' (sm.trans sm') A'⟩⟩
  | bk => cases h; exact k σ1 G1 H1 sm A1
  | ct => cases h; exact k σ1 G1 H1 sm A1
  | rt d => cases h; exact k σ1 G1 H1 sm A1
  | ow d => cases h; exact k σ1 G1 H1 sm A1
  | nw d => cases h; exact k σ1 G1 H1 sm A1
  | od d => cases h; exact k σ1 G1 H1 sm A1⟩
theorem dx_if {sa sb : List Stmt} (hc : DT Γ X c ft) (ha : DXs Γ X n R sa g) (hb : DXs Γ X n R sb g') : DX Γ X n R (.If c sa sb pos) (sIf ft g g') := ⟨(ps_if hc.1 ha.1 hb.1).imp fun E σ H => by
  rintro ⟨G₀, H₀, G, ρ, fl, ρ', A, h, k⟩
  unfold sIf at h
  obtain ⟨x, hx, h⟩ := Option.bind_eq_some_iff.mp h
  refine ⟨G₀, H₀, G, ρ, x, A, hx, fun G1 H1 s1 => ?_⟩
  cases x with
  | true => exact iteT ⟨G₀, H₀, G1, ρ, fl, ρ', A.step s1, by simpa using h, fun σ2 G2 H2 sm2 A2 => k σ2 G2 H2 (s1.gg.trans sm2) A2⟩
  | false => exact iteF ⟨G₀, H₀, G1, ρ, fl, ρ', A.step s1, by simpa using h, fun σ2 G2 H2 sm2 A2 => k σ2 G2 H2 (s1.gg.trans sm2) A2⟩⟩
theorem dx_for {body : List Stmt} (hp : PassesOwn (model X.prog X.w) X.A X.env X.xe) (hc : X.calm = true) (hi : DI Γ X tg iter fi) (hg : DG Γ X tg gg) (hb : DXs Γ X n R body g) (hs : ∀ x, foldedSetIterable iter X.env x = pure x := by intro _; rfl) :
    DX Γ X n R (.For tg iter body [] pos) (sFor fi gg g) := ⟨(ps_for hp hc hi.1 hg.pg hb.1 hs).imp fun E σ H => by
  rintro ⟨G₀, H₀, G, ρ, fl, ρ', A, h, k⟩
  unfold sFor at h
  obtain ⟨xs, hx, h⟩ := Option.bind_eq_some_iff.mp h
  refine ⟨G₀, H₀, G, ρ, xs, A, hx, fun J G1 H1 s1 Y => ?_⟩
  refine ⟨fun i m σ' H' => m = xs.length - i /\ i <= xs.length /\ ∃ G' ρ1, Same G1 G' /\ At Γ X.K G₀ H₀ G' H' ρ1 σ' /\ forL gg g (xs.drop i) ρ1 = some (fl, ρ'), ⟨xs.length, rfl, Nat.zero_le _, G1, ρ, .refl _, A.step s1, by rw [List.drop_zero]; exact h⟩, ?_⟩
  rintro i m σ' H' ⟨rfl, hi, G', ρ1, sm, A', hr⟩
  by_cases hlt : i < xs.length
  · right
    have hxi : xs[i]? = some xs[i] := by simp [hlt]
    obtain ⟨go, yl⟩ := Y.go i _ G' H' hxi sm A'.gh
    have hdr : xs.drop i = xs[i] :: xs.drop (i + 1) := List.drop_eq_getElem_cons hlt
    rw [hdr] at hr
    unfold forL at hr
    obtain ⟨ρ2, h2, hr⟩ := Option.bind_eq_some_iff.mp hr
    obtain ⟨⟨fl3, ρ3⟩, h3, hr⟩ := Option.bind_eq_some_iff.mp hr
    refine ⟨go, fun σ3 H3 => (fl3 = .nx \/ fl3 = .ct) /\ ∃ G3, Same G1 G3 /\ At Γ X.K G₀ H₀ G3 H3 ρ3 σ3, fun σ3 H3 ⟨hfl, G3, sm3, A3⟩ => ?_, fun x H2 hy => ?_⟩
    · refine ⟨xs.length - (i + 1), by omega, rfl, hlt, G3, ρ3, sm3, A3, ?_⟩
      rcases hfl with e | e <;> subst e <;> exact hr
    · obtain ⟨G2, s2, r2⟩ := yl x H2 hy
      refine ⟨G₀, H₀, G2, ρ1, _, ρ2, A'.step s2, r2, h2, fun σ2 A2 => ⟨G₀, H₀, G2, ρ2, fl3, ρ3, A2, h3, fun σ3 G3 H3 sm3 A3 => ?_⟩⟩
      have smm : Same G1 G3 := (sm.trans s2.gg).trans sm3
      cases fl3 with
      | nx => exact ⟨fun z => (nomatch z), fun _ => ⟨.inl rfl, G3, smm, A3⟩⟩
      | ct => exact ⟨fun z => (nomatch z), fun _ => ⟨.inr rfl, G3, smm, A3⟩⟩
      | bk => cases hr; exact ⟨fun z => (nomatch z), fun _ => (k σ3 G3 H3 (s1.gg.trans smm) A3).2 (fun z => nomatch z)⟩
      | rt d => cases hr; exact k σ3 G3 H3 (s1.gg.trans smm) A3
      | ow d => cases hr; exact k σ3 G3 H3 (s1.gg.trans smm) A3
      | nw d => cases hr; exact k σ3 G3 H3 (s1.gg.trans smm) A3
      | od d => cases hr; exact k σ3 G3 H3 (s1.gg.trans smm) A3
  · left
    have e : i = xs.length := by omega
    subst e
    rw [List.drop_length] at hr
    cases hr
    exact ⟨Y.stop G' H' sm A'.gh, (k σ' G' H' (s1.gg.trans sm) A').2 (fun z => nomatch z)⟩⟩
end
def sRaise (n : String) (fr : FA) : FS := fun ρ => (fr ρ).map fun _ => (.rt (.ty n), ρ)
section
variable {Γ : Cn} {P : Program} {w : World} {K : PySem.W.Frag} {mg : Str -> Option Value} {base : Heap} {N : List Str} {qual : Str} {scope : Scope} {f C : Addr} {cd : Value} {A : Around} {outer : List Env} {s₀ : Shared} {H₀ : Hp} {E : XK}
  {R : Hp -> Prop} {n : String} {x : Str} {np cpos pos : Pos} {e₀ : Expr} {rest : List Expr} {fr : FA} {Bn newId initId : String} {bmB : List Value}
theorem dx_raise (hE : ∀ H', R H' -> E (.ref C) none H') (O : OwnCls x C bmB newId mg base) (FB : ExcBaseFacts Bn newId initId bmB)
    (hg : Gl (cxOf (CXO P w base) P w K mg base N qual scope f cd A outer s₀ H₀ E) x)
    (ha : DA Γ (cxOf (CXO P w base) P w K mg base N qual scope f cd A outer s₀ H₀ E) (e₀ :: rest) fr) (hn : ∀ ρ ds, fr ρ = some ds -> ds.length <= sizeLine)
    (he : starEach (e₀ :: rest) (envOfC qual scope s₀.heap.objs.size f cd) = (false, eval e₀ (envOfC qual scope s₀.heap.objs.size f cd)) :: starEach rest (envOfC qual scope s₀.heap.objs.size f cd) := by rfl)
    (hpl : (backTo cpos (starEach rest (envOfC qual scope s₀.heap.objs.size f cd))).any (·.1) = false := by rfl) (hdb : (x == ("__debug__" : Str)) = false := by decide) :
    DX Γ (cxOf (CXO P w base) P w K mg base N qual scope f cd A outer s₀ H₀ E) n R (.Raise (some (.Call (.Name x np) (e₀ :: rest) [] cpos)) none pos) (sRaise n fr) := ⟨by
  intro pins s σ H D I hq
  obtain ⟨G₀, H₀', G, ρ, fl, ρ', At0, h, k⟩ := hq
  unfold sRaise at h
  obtain ⟨ds, hd, h⟩ := Option.map_eq_some_iff.mp h
  cases h
  have hh : (cxOf (CXO P w base) P w K mg base N qual scope f cd A outer s₀ H₀ E).A.handled = none := I.ok.hd rfl
  obtain ⟨tl, Ns, nm, q, bs, hdct, sn, sub, ab, col, dd, k0, k1, k2, k3, k5, mN, hC, hN, hni, T⟩ := O.obj
  refine wpAny_Raise_call_subT (C := C) (nm := nm) (q := q) (N := Ns) (bs := bs) (bm := tl) (hdct := hdct) (sn := sn) (sub := sub) (ab := ab) (col := col) (dd := dd) (k0 := k0) (k1 := k1) (k2 := k2) (k3 := k3) (k5 := k5)
    FB (mN := mN) (T.hasType FB.hasBase) hh ?_ hni (ld_glob I hg O.bound ⟨rfl, ?_⟩ hdb)
  · show (backTo cpos (starEach (e₀ :: rest) (envOfC qual scope s₀.heap.objs.size f cd))).any (·.1) = false
    rw [he]; show (false || (backTo cpos (starEach rest (envOfC qual scope s₀.heap.objs.size f cd))).any (·.1)) = false; rw [hpl]; rfl
  · have key := ha.out cpos pins s σ H (fun vs H1 => vs.length <= sizeLine /\ R H1) I ⟨G₀, H₀', G, ρ, ds, At0, hd, fun vs G' H' st r => ⟨by rw [r.length]; exact hn ρ ds hd, (k σ G' H' st.gg (At0.step st)).1 rfl⟩⟩
    have key' : wpAny (model P w) (A.deeper (envOfC qual scope s₀.heap.objs.size f cd)) (spliced (backTo cpos (starEach (e₀ :: rest) (envOfC qual scope s₀.heap.objs.size f cd)))) _ _ s := key
    show wpAny (model P w) (A.deeper (envOfC qual scope s₀.heap.objs.size f cd)) (evalArgs (.ref C) true (backTo cpos (starEach (e₀ :: rest) (envOfC qual scope s₀.heap.objs.size f cd))) []) _ _ s
    rw [he] at key' ⊢
    refine Calls.evalArgs_plain (wpAny_mono key' (fun vs s₂ h₂ => ?_) fun _ _ y => y)
    obtain ⟨xs, H2, I2, r2, z2, w2⟩ := h₂
    have kb := I2.bk
    exact ⟨rfl, by rw [← r2.length]; exact z2, kb _ _ hC, hN.keeps kb, T.keeps kb, fun h' e hx => fly_raise I2 hx (hE _ w2)⟩⟩
end
def spX (Γ : Cn) (K : PySem.W.Frag) (m : Nat) (F : List D -> Option D) (n : String) (C : Addr) : Sp := fun vs H Q E => ∃ G ds d, Same G H /\ Reps Γ K G vs ds /\ ds.length = m /\ F ds = some d /\
  (d = .ty n -> ∀ G' H', Step G H G' H' -> E (.ref C) none H') /\ (d ≠ .ty n -> ∀ v G' H', Step G H G' H' -> Rep Γ K G' v d -> Q v H')
section
variable {Γ : Cn} {P : Program} {w : World} {K : PySem.W.Frag} {mg : Str -> Option Value} {base : Heap}
theorem Fun.okX {x qual : Str} {st : Stmt} {f C : Addr} {fd : FuncData} {N ps : List Str} {k : Nat} {g : FS} {n : String} (F : Fun K x qual st f fd) (S : FnScope N ps (defScope st))
    (hbody : ∀ (cdv : Value) (A : Around) (outer : List Env) (s : Shared) (H : Hp) (E : XK), Room k (A.deeper (envOfC qual (defScope st) s.heap.objs.size f cdv)) ->
      DXs Γ (cxOf (CXO P w base) P w K mg base N qual (defScope st) f cdv A outer s H E) n (E (.ref C) none) (defBody st) g) :
    FnOk P w K mg base (CXO P w base) (k + 1) f fd ps (spX Γ K ps.length (runD (N.length - ps.length) g) n C) := by
  obtain ⟨oc, od, kV, doc, pm, an, cdv, ct, osl, rfl, lk, hcd⟩ := F.ex
  refine fn_of lk hcd S (fun vs H Q E h => ?_) fun A outer s H vs Q E hr h => ?_
  · obtain ⟨G, ds, d, _, r, hl, _⟩ := h
    rw [r.length, hl]
  · obtain ⟨G, ds, d, gh, r, hl, hd, kx, kn⟩ := h
    refine ⟨_, (hbody cdv A outer s H E hr).1, ?_⟩
    unfold runD at hd
    obtain ⟨⟨fl, ρ'⟩, hg, hd⟩ := Option.bind_eq_some_iff.mp hd
    refine ⟨G, H, G, _, fl, ρ', start_rel gh r (by rw [r.length, hl]), hg, fun σ' G' H' sm A' => ?_⟩
    cases fl with
    | rt d' =>
      cases hd
      refine ⟨fun z => kx (by cases z; rfl) G' H' A'.st, fun z v rv => kn (fun y => z (by rw [y])) v G' H' A'.st rv⟩
    | nx => cases hd; exact ⟨fun z => (nomatch z), fun _ => kn (fun y => nomatch y) .non G' H' A'.st .non⟩
    | bk => cases hd
    | ct => cases hd
    | ow d => cases hd
    | nw d => cases hd
    | od d => cases hd
def noTyD (F : List D -> Option D) : List D -> Option D := fun ds => match F ds with
  | some (.ty _) => none
  | r => r
theorem FnOk.noX {k : Nat} {f C : Addr} {fd : FuncData} {ps : List Str} {m : Nat} {F : List D -> Option D} {n : String} (h : FnOk P w K mg base (CXO P w base) k f fd ps (spX Γ K m F n C)) : FnOk P w K mg base CX0 k f fd ps (spF Γ K m (noTyD F)) := by
  refine ⟨fun vs H Q E q => ?_, fun A outer s H args us vs Q E hr he hb hv hs => ?_⟩
  · obtain ⟨G, ds, d, a, b, c, e, k⟩ := q
    unfold noTyD at e
    split at e
    · cases e
    · rename_i hne
      exact h.len vs H Q E ⟨G, ds, d, a, b, c, e, fun z => absurd (by rw [← z]; exact e) (hne n), fun _ => k⟩
  · obtain ⟨G, ds, d, a, b, c, e, k⟩ := hs
    unfold noTyD at e
    split at e
    · cases e
    · rename_i hne
      refine codeAny_mono (h.run A outer s H args us vs Q E0 hr he hb hv ⟨G, ds, d, a, b, c, e, fun z => absurd (by rw [← z]; exact e) (hne n), fun _ => k⟩) fun r s' q => ?_
      cases r with
      | ok fl => cases fl <;> exact q
      | error x => obtain ⟨_, _, _, _, _, _, _, _, _, z⟩ := q; exact z.elim
structure CalX (Γ : Cn) (P : Program) (w : World) (K : PySem.W.Frag) (mg : Str -> Option Value) (base : Heap) (x : Str) (m k : Nat) (F : List D -> Option D) (n : String) (C : Addr) : Prop where
  ex : ∃ f fd ps, FnOk P w K mg base (CXO P w base) k f fd ps (spX Γ K m F n C) /\ mg x = some (.ref f) /\ PySem.W.keepIn K (.ref f) = true /\ Binds K fd ps []
theorem CalX.cal {x : Str} {m k : Nat} {F : List D -> Option D} {n : String} {C : Addr} (h : CalX Γ P w K mg base x m k F n C) : Cal Γ P w K mg base x m k (noTyD F) := by
  obtain ⟨f, fd, ps, h1, h2⟩ := h.ex
  exact ⟨f, fd, ps, h1.noX, h2⟩
theorem Dfn.calX {x : Str} {st : Stmt} {N ps : List Str} {k : Nat} {g : FS} {n : String} {C : Addr} (F : Dfn K mg x st) (S : FnScope N ps (defScope st))
    (hb : ∀ (kV doc pm : Value) (an : Option Addr) (cdv ct : Value) (us : List Value), us.length = ps.length -> bindArgs (PySem.W.fnOf x x (defArgs st) (defBody st) (defScope st) .none kV doc pm an cdv ct) ⟨us, []⟩ = pure (ps.zip us))
    (hbody : ∀ (f : Addr) (cdv : Value) (A : Around) (outer : List Env) (s : Shared) (H : Hp) (E : XK), Room k (A.deeper (envOfC x (defScope st) s.heap.objs.size f cdv)) ->
      DXs Γ (cxOf (CXO P w base) P w K mg base N x (defScope st) f cdv A outer s H E) n (E (.ref C) Option.none) (defBody st) g) : CalX Γ P w K mg base x ps.length (k + 1) (runD (N.length - ps.length) g) n C := by
  obtain ⟨f, fd, h1, h2⟩ := F.ex
  exact ⟨f, fd, ps, h1.okX S (hbody f), h2, h1.kp, h1.binds hb⟩
end
end L2
end
section
namespace L2
open PySem PySem.Spec PyProof.Rows
def ExcAt (a : Addr) (cls : Value) (h : Heap) : Prop := ∃ o vs, h.get? a = some o /\ o.cls = cls /\ o.data = .fields vs
theorem ExcAt.stay {a : Addr} {cls : Value} {h1 h2 : Heap} (x : ExcAt a cls h1) (k : ∀ o, h1.get? a = some o -> h2.get? a = some o) : ExcAt a cls h2 := by
  obtain ⟨o, vs, e, c⟩ := x
  exact ⟨o, vs, k _ e, c⟩
section
variable {P : Program} {w : World} {base B : Heap} {outer : List Env} {H H' : Hp} {s : Shared} {e : Addr} {cls a0 : Value} {h h' : Heap}
theorem Fly.exc (F : Fly P w base outer H H' s B e cls a0 h) : ExcAt e cls h := by
  obtain ⟨oe, vs, h1, h2, h3, h4⟩ := F.fly.first
  exact ⟨oe, vs, h1, h2, h3⟩
theorem Fly.fresh (F : Fly P w base outer H H' s B e cls a0 h) : s.heap.get? e = none := by
  cases q : s.heap.get? e with
  | none => rfl
  | some o =>
    exfalso
    have nf : e ∉ frs outer := fun hb => by
      obtain ⟨_, o', h1, h2⟩ := F.fly.2.2.1.mem hb
      obtain ⟨oe, vs, k1, k2, k3⟩ := F.exc
      rw [h1] at k1
      cases k1
      exact h2 vs k3
    obtain ⟨o', z⟩ := F.there e o q nf
    rw [F.fly.2.1] at z
    cases z
theorem Fly.unE (F : Fly P w base outer H H' s B e cls a0 h) : Un (frs outer) [] H (upd H' e (.ext (ExcAt e cls))) s.heap h := by
  have u := F.un
  have ne : ∀ b u, H' b = some u -> b ≠ e := fun b u q z => by subst z; rw [F.new] at q; cases q
  refine ⟨u.keep, u.slot, fun b o q n hx => ?_, u.there, fun b xs q => ?_, fun b o xs q => ?_, fun b ps q => ?_⟩
  · rw [upd_ne (fun z => by subst z; rw [F.fresh] at q; cases q)]; exact u.free b o q n hx
  · have z := u.tups b xs q; rw [upd_ne (ne b _ z)]; exact z
  · have z := u.frzs b o xs q; rw [upd_ne (ne b _ z)]; exact z
  · obtain ⟨m, z⟩ := u.tbls b ps q; exact ⟨m, by rw [upd_ne (ne b _ z)]; exact z⟩
theorem Fly.hkE (F : Fly P w base outer H H' s B e cls a0 h) : HOk P w (upd H' e (.ext (ExcAt e cls))) h := by
  have ne : ∀ b u, H' b = some u -> b ≠ e := fun b u q z => by subst z; rw [F.new] at q; cases q
  intro b u q
  by_cases hb : b = e
  · subst hb
    rw [upd_same] at q
    cases q
    obtain ⟨o, vs, k1, _⟩ := id F.exc
    exact ⟨F.exc, ⟨o, k1⟩, fun h1 h2 p k => p.stay k⟩
  · rw [upd_ne hb] at q
    exact (F.hk b u q).stay (fun c v _ r => r) (fun c z => by rw [upd_ne (ne c _ z)]; exact z) fun c xs z => by rw [upd_ne (ne c _ z)]; exact z
end
abbrev Cx.marked (X : Cx) (v : Value) : Cx := { X with A := X.A.mark (some v), calm := false, xe := fun _ _ => False }
section
variable {X : Cx} {pins : List (Addr × Obj)} {σ : St} {H : Hp} {s : Shared} {v : Value}
theorem Inv.marked (I : Inv X pins σ H s) (v : Value) : Inv (X.marked v) pins σ H s :=
  ⟨⟨I.ok.mod, I.ok.kind, I.ok.glob, I.ok.blt, I.ok.above, I.ok.inj, I.ok.has, I.ok.cab, (fun z => nomatch z), I.ok.frames, I.ok.stk, I.ok.exf, I.ok.bs, I.ok.bsz, I.ok.noex, I.ok.exfs, I.ok.funs, I.ok.frf⟩, I.os, I.bare, I.base, I.loc, I.cell, I.free, I.freeC, I.pin, I.hok, I.len⟩
theorem Inv.unmarked (ok : X.Ok) (I : Inv (X.marked v) pins σ H s) : Inv X pins σ H s := ⟨ok, I.os, I.bare, I.base, I.loc, I.cell, I.free, I.freeC, I.pin, I.hok, I.len⟩
theorem unbind_ok {M : Model} {A : Around} {E : Value -> Shared -> Prop} {j : Nat} {n : Str} {pos : Pos} {Q : Unit -> Shared -> Prop} (I : Inv X pins σ H s) (hN : X.N.Nodup) (hj : X.N[j]? = some n) (hk : X.env.kindOf n = some .local)
    (h : ∀ s', Inv X pins (σ.set j none) H s' -> Q () s') : wpAny M A (do bindName X.env n .none; unbindBehindTheSuite X.env n pos) Q E s := by
  obtain ⟨m, hn, hl⟩ := id I.loc
  have hcls : (X.env.scope.kind == .class || (X.env.scope.kind == .module && X.env.locals != X.env.globals)) = false := by rw [I.ok.kind]; rfl
  have hjσ : j < σ.length := by rw [I.len]; exact (List.getElem?_eq_some_iff.mp hj).1
  have cne := I.cne
  refine wpAny_nameGoes_keeps hk hn hcls fun h' v hn' hs => ?_
  obtain ⟨oL, _, _, hoL, _⟩ := id hn
  have tracked : HOk X.prog X.w H h' := fun b ob e => by
    refine (I.hok b ob e).stay (fun c w' hc q => (hs.2 c ?_).trans q) (fun _ q => q) fun _ _ q => q
    rintro rfl
    rcases hc with rfl | hc
    · rw [I.free] at e; cases e
    · rw [I.free] at hc; cases hc
  refine h _ ⟨I.ok, I.os, I.bare, ⟨fun b o e n hb hx => ?_, fun b o e n hb hx => ?_, I.base.free, fun b o e hx => ?_, I.base.tups, I.base.frzs, I.base.tbls⟩, ⟨_, hn', fun i y v' e1 e2 e3 => ?_⟩, fun y c e => ?_, I.free, I.freeC, fun p hp => ?_, tracked, by simpa using I.len⟩
  · exact (hs.2 b (Nat.ne_of_lt (Nat.lt_of_lt_of_le (Heap.lt_size e) I.ok.above))).trans (I.base.keep b o e n hb hx)
  · obtain ⟨sl, e1⟩ := I.base.slot b o e n hb hx
    exact ⟨sl, (hs.2 b (Nat.ne_of_lt (Nat.lt_of_lt_of_le (Heap.lt_size e) I.ok.above))).trans e1⟩
  · obtain ⟨o', e1⟩ := I.base.there b o e hx
    exact ⟨o', (hs.2 b (Nat.ne_of_lt (Nat.lt_of_lt_of_le (Heap.lt_size e) I.ok.above))).trans e1⟩
  · by_cases hi : i = j
    · subst hi
      rw [List.getElem?_set_self hjσ] at e2
      cases e2
    · rw [List.getElem?_set_ne (Ne.symm hi)] at e2
      obtain ⟨u', r', q⟩ := hl i y v' e1 e2 e3
      refine ⟨u', r', ?_⟩
      rcases q with ⟨k, e⟩ | ⟨k, c, e, z⟩
      · refine .inl ⟨k, ?_⟩
        have : y ≠ n := fun e => hi (nodup_ix hN e1 (e ▸ hj))
        simp [this, e]
      · exact .inr ⟨k, c, e, z.sameBut hs (cne y c e)⟩
  · obtain ⟨w', z⟩ := I.cell y c e
    exact ⟨w', z.sameBut hs (cne y c e)⟩
  · obtain ⟨e, n, ne, nf, d⟩ := I.pin p hp
    exact ⟨(hs.2 p.1 ne).trans e, n, ne, nf, d⟩
end
def tTry (K : PySem.W.Frag) (sp : Sp) (cv : Value) (i j : Nat) (t : TA) : TS := fun D σ H => t σ H fun vs H1 => ∃ (Q : VK) (E : XK), sp vs H1 Q E /\ (∀ v H2, Q v H2 -> D.nx σ H2) /\
  ∀ cls H2, E cls none H2 -> PySem.W.exmOne K cls cv = some true /\ ∀ a, H2 a = none -> D.nx (((σ.set j (some (.ref a))).set i (some (.ref a))).set j none) (upd H2 a (.ext (ExcAt a cls)))
section
variable {X : Cx} {k : Nat} {f : Addr} {fd : FuncData} {ps : List Str} {sp : Sp} {fx cx n y : Str} {p p2 p3 cp py np ap hp pos : Pos} {e : Expr} {es : List Expr} {t : TA} {cv : Value} {i j : Nat}
theorem ps_try (F : FnOk X.prog X.w X.K X.mg X.base (CXO X.prog X.w X.base) k f fd ps sp) (hr : Room k X.A) (hx0 : ∀ e s, ¬ X.xe e s) (hst : X.stack = X.env :: X.outer) (hfr : X.env.frame = some X.env.locals)
    (hg : Gl X fx) (hm : X.mg fx = some (.ref f)) (hk : PySem.W.keepIn X.K (.ref f) = true) (hb : Binds X.K fd ps []) (ha : PA X (e :: es) t) (hgc : Gl X cx) (hmc : X.mg cx = some cv)
    (hN : X.N.Nodup) (hi : X.N[i]? = some y) (hy : X.env.kindOf y = some .local) (hj : X.N[j]? = some n) (hn : X.env.kindOf n = some .local) (hij : i ≠ j)
    (hdb : (fx == ("__debug__" : Str)) = false := by decide) (hdc : (cx == ("__debug__" : Str)) = false := by decide) (hdn : (n == ("__debug__" : Str)) = false := by decide) (hdd : (n == ("__classdict__" : Str)) = false := by decide)
    (he : starEach (e :: es) X.env = (false, eval e X.env) :: starEach es X.env := by rfl) (hpl : (backTo p2 (starEach es X.env)).any (·.1) = false := by rfl)
    (hs1 : swapsWith (.Call (.Name fx p) (e :: es) [] p2) none p3.line X.env = pure false := by rfl) (hs2 : swapsWith (.Name n np) (some (.Name y py)) ap.line X.env = pure false := by rfl) :
    PS X (.Try [.Expr (.Call (.Name fx p) (e :: es) [] p2) p3] [.ExceptHandler (some (.Name cx cp)) (some n) [.Assign [.Name y py] (.Name n np) ap] hp] [] [] pos) (tTry X.K sp cv i j t) := by
  intro pins s σ H D I h
  refine wpAny_Try_except ?_
  refine wpAny_execs_cons (wpAny_Expr_any ?_ I.quiet hs1)
  refine wpAny_Call_Name_kw (ld_glob I hg hm ?_ hdb)
  refine PySem.W.callWith_K (h₀ := X.base) I.ok.mod.kin hk (wpAny_mono (ha p2 pins s σ H _ I h) (fun us s1 q => ?_) fun x s1 z => (hx0 x s1 z).elim) he hpl
  obtain ⟨vs, H1, I1, r1, Q, E, hsp, hnx, hex⟩ := q
  refine ⟨I1.kIn, ?_⟩
  have r2 : Vals (vs ++ []) (us ++ []) := by rw [List.append_nil, List.append_nil]; exact r1
  have hl : (us ++ []).length = ps.length := by rw [List.append_nil, ← r1.length]; exact F.len _ _ _ _ hsp
  refine wpAny_call (codeAny_mono (F.run X.A X.stack s1 H1 ⟨us, []⟩ us vs Q E hr I1.env0 (by have := hb s1 us I1.kIn hl; rwa [List.append_nil] at this) r1 hsp) fun r s' hq => ?_)
  cases r with
  | ok fl =>
    cases fl with
    | ret u =>
      obtain ⟨v, H', I', rv, q⟩ := I1.after hq
      exact wpAny_execs_nil (wpAny_execs_nil ⟨σ, H', I', hnx v H' q⟩)
    | next => exact False.elim hq
    | brk => exact False.elim hq
    | cont => exact False.elim hq
  | error x =>
    obtain ⟨a, cls, a0, B, H2, rfl, hos, hgens, F1, hE⟩ := hq
    obtain ⟨hxm, hnx2⟩ := hex cls H2 hE
    have invOf : ∀ {h' : Heap} {tk : Nat}, Fly X.prog X.w X.base X.stack H1 H2 s1 B a cls a0 h' -> Inv X pins σ H2 { s' with heap := h', toks := tk } := fun {h' tk} F' => I1.call' hos F'.un F'.hk hgens (fun b z => absurd z (by simp))
    have invE : ∀ {h' : Heap} {tk : Nat}, Fly X.prog X.w X.base X.stack H1 H2 s1 B a cls a0 h' -> Inv X pins σ (upd H2 a (.ext (ExcAt a cls))) { s' with heap := h', toks := tk } := fun {h' tk} F' => I1.call' hos F'.unE F'.hkE hgens (fun b z => absurd z (by simp))
    have F1s := F1.fly
    rw [hst] at F1s
    refine wpAny_looks_onW (by rw [I.ok.frames, hst]) hfr F1s fun h₄ hheld₄ hsm₄ => ?_
    refine wpAny_landsW hheld₄ fun h₅ hfl₅ hsm₅' => ?_
    have F5 : Fly X.prog X.w X.base X.stack H1 H2 s1 B a cls a0 h₅ := F1.on (hsm₄.trans hsm₅') (by rw [hst]; exact hfl₅)
    have I5 := (invOf (tk := s'.toks) F5).marked (.ref a)
    refine wpAny_handleBy_cons (codeAny_handlers_test (ld_glob I5 hgc hmc ?_ hdc)) (by intro q; cases q)
    obtain ⟨oe, ws, hoe, hoec, hoed⟩ := F5.exc
    have LT : PySem.W.Looks (model X.prog X.w) h₅ (typeOf (.ref a)) cls := hoec ▸ (PySem.W.Looks.ld hoe).andThen .now
    refine (PySem.W.exm_one (M := model X.prog X.w) I5.kIn LT hxm).here ?_
    refine codeAny_handlers_suite_as ?_
    refine lands_againW hfl₅ fun h₆ hfl₆ hsm₆ => ?_
    have F6 : Fly X.prog X.w X.base X.stack H1 H2 s1 B a cls a0 h₆ := F5.on hsm₆ (by rw [hst]; exact hfl₆)
    have I6 := invE (tk := s'.toks) F6
    refine store_ok I6 hN hj (.inl hn) (show RelV (.ref a) (.ref a) from rfl) (fun s7 I7 => ?_) (.inr hn)
    have I7m := I7.marked (.ref a)
    have asg : PSs (X.marked (.ref a)) [.Assign [.Name y py] (.Name n np) ap] (tAsg (tVar j) (gName i)) := pss_one (ps_set (X := X.marked (.ref a)) hN hi (.inl hy) (pe_var (X := X.marked (.ref a)) hj (.inl hn) hdn hdd) hs2 (.inr hy))
    have jl : j < σ.length := by rw [I1.len]; exact (List.getElem?_eq_some_iff.mp hj).1
    refine wpAny_mono (asg pins s7 _ _ { nx := fun σ' H' => σ' = (σ.set j (some (.ref a))).set i (some (.ref a)) /\ H' = upd H2 a (.ext (ExcAt a cls)), rt := fun _ _ => False } I7m ⟨.ref a, by rw [List.getElem?_set_self jl], rfl, rfl⟩) (fun fl s8 q => ?_) fun _ _ z => z.elim
    cases fl with
    | next =>
      obtain ⟨σ', H', I8, rfl, rfl⟩ := q
      refine unbind_ok (I8.unmarked I.ok) hN hj hn fun s9 I9 => ?_
      exact ⟨_, _, I9, hnx2 a F1.new⟩
    | brk => obtain ⟨_, _, _, z⟩ := q; exact z.elim
    | cont => obtain ⟨_, _, _, z⟩ := q; exact z.elim
    | ret u => obtain ⟨_, _, _, _, _, z⟩ := q; exact z.elim
end
end L2
end
section
namespace L2
open PySem PySem.Spec PyProof.Rows PySem.W Builtin Builtin.ObjectAttr Builtin.Getset_descriptor
structure ExcK (K : PySem.W.Frag) (C : Addr) : Prop where
  cls : ∃ cd, clsIn K C = some cd
  ga : findIn K (.ref C) "__getattribute__" = some (some (.builtin "BaseException.__getattribute__"))
  noga : findIn K (.ref C) "__getattr__" = some none
  lk : findIn K (.ref C) "__class__" = some (some (.builtin "object.__class__"))
  gs : specialIn K (.builtin "object.__class__") "__get__" = some (some (.builtin "getset_descriptor.__get__"))
  takes : takesIn K (.builtin "object.__class__") = some true
  mro : mroIn K C (.type "object") = some true
  base : subIn K (.ref C) (.type "BaseException") = some true
section
variable {prog : Program} {w : World} {A : Around} {E : Value -> Shared -> Prop} {s : Shared} {K : PySem.W.Frag} {x C : Addr} {M : Model} {h : Heap}
theorem exc_type (p : ExcAt x (.ref C) h) : Looks M h (typeOf (.ref x)) (.ref C) := by
  obtain ⟨o, vs, h1, h2, _⟩ := p
  exact h2 ▸ (Looks.ld h1).andThen .now
theorem exc_find (Z : ExcK K C) (X : K.In h) : Looks M h (Builtin.ObjectAttr.find (.ref x) (.ref C) "__class__") (.bind (.builtin "getset_descriptor.__get__") (.builtin "object.__class__")) := by
  have L1 := looks_findIn (M := M) X Z.lk
  have L2 : Looks M h (Builtin.ObjectAttr.getOf (some (.builtin "object.__class__"))) (some (.builtin "getset_descriptor.__get__")) := looks_specialIn X Z.gs
  have L3 := looks_takesIn (M := M) X Z.takes
  exact L1.andThen (L2.andThen ((show Looks M h (Builtin.ObjectAttr.dataDescriptor? (some (.builtin "object.__class__")) (some (.builtin "getset_descriptor.__get__"))) (some (.builtin "getset_descriptor.__get__", .builtin "object.__class__")) from L3.andThen .now).andThen (Looks.tag .now)))
theorem exc_get {tp : Value} {R : Result -> Shared -> Prop} (Z : ExcK K C) (X : K.In s.heap) (p : ExcAt x (.ref C) s.heap)
    (h : R (.ok (.ret (.ref C))) s) : codeAny (model prog w) A (.call (.builtin "getset_descriptor.__get__") ⟨[.builtin "object.__class__", .ref x, tp], []⟩) R s := by
  obtain ⟨hh, g, dr, t, os⟩ := s
  have L0 := exc_type (M := model prog w) p
  have L1 := looks_mroIn (M := model prog w) X Z.mro
  refine codeAny_call_builtin KF.slot_gs.plain KF.entry_gs (KF.slot_gs.check _ _ _ _ _ _ _ _ KF.type_class (KF.args_gs _ _ _) ?_)
  unfold Builtin.«getset_descriptor.__get__» descrGet
  rw [dga_obj]
  refine wpAny_bind (wpAny_pure ?_)
  unfold descrGetter descrCheckInstance descrNameAndClass isInstance
  simp only [KF.owner_class]
  repeat lk
  refine ⟨Code.quiet_builtin _ (by decide +kernel), codeAny_builtin KF.entry_class ?_⟩
  unfold Builtin.«object.__class__» shownTypeOf
  repeat lk
  exact h
theorem exc_entry {tk : Tok} {Q : Fin -> Shared -> Prop} (Z : ExcK K C) (X : K.In s.heap) (p : ExcAt x (.ref C) s.heap) (h : Q (.done (.ret (.ref C))) s) :
    wpAny (model prog w) A (Builtin.«object.__getattribute__» ⟨[.ref x, .str "__class__" tk], []⟩) Q E s := by
  obtain ⟨hh, g, dr, t, os⟩ := s
  have L0 := exc_type (M := model prog w) p
  have L1 := exc_find (M := model prog w) (x := x) Z X
  unfold Builtin.«object.__getattribute__»
  refine wpAny_bind (wpAny_pure ?_)
  refine wpAny_bind (wpAny_pure ?_)
  refine wpAny_bind (L0.at (wpAny_bind (L1.at ?_)))
  show wpAny _ _ (bindTo (.builtin "getset_descriptor.__get__") (.builtin "object.__class__") (.ref x) (.ref C)) _ _ _
  unfold bindTo
  exact wpAny_bind (wpAny_holding (wpAny_call (exc_get Z X p (wpAny_pure h))))
theorem exc_check {nameV : Value} {Q : Unit -> Shared -> Prop} (Z : ExcK K C) (X : K.In s.heap) (p : ExcAt x (.ref C) s.heap) (hq : Q () s) : wpAny M A (checkBuiltinCall "BaseException.__getattribute__" ⟨[.ref x, nameV], []⟩) Q E s := by
  obtain ⟨hh, g, dr, t, os⟩ := s
  have hk : builtinKind "BaseException.__getattribute__" = some .slot := by decide +kernel
  have hsplit : splitId "BaseException.__getattribute__" = some ("BaseException", "__getattribute__") := by decide +kernel
  have L0 := exc_type (M := M) p
  have L1 : Looks M hh (isSubtype (.ref C) (.type "BaseException")) true := looks_subIn X Z.base
  have L2 : Looks M hh (isInstance (.ref x) (.type "BaseException")) true := L0.andThen L1
  have ha := F.args_bexc_ga (.ref x) nameV
  simp only [checkBuiltinCall, hk, hsplit]
  refine wpAny_bind (L2.at ?_)
  repeat (first | exact hq | wp_step)
theorem exc_call {tk : Tok} {R : Result -> Shared -> Prop} (Z : ExcK K C) (X : K.In s.heap) (p : ExcAt x (.ref C) s.heap) (h : R (.ok (.ret (.ref C))) s) :
    codeAny (model prog w) A (.call (.builtin "BaseException.__getattribute__") ⟨[.ref x, .str "__class__" tk], []⟩) R s :=
  codeAny_call_builtin F.attr_ValueError.ga.plain F.entry_bexc_ga (exc_check Z X p (exc_entry Z X p h))
theorem exc_class {Q : Option Value -> Shared -> Prop} (Z : ExcK K C) (X : K.In s.heap) (p : ExcAt x (.ref C) s.heap) (h : Q (some (.ref C)) { s with toks := s.toks + 1 }) : wpAny (model prog w) A (getAttr? (.ref x) "__class__") Q E s := by
  obtain ⟨hh, g, d, t, os⟩ := s
  have L0 := exc_type (M := model prog w) p
  have L1 := looks_findIn (M := model prog w) X Z.ga
  have L2 := looks_findIn (M := model prog w) X Z.noga
  have hb := F.attr_ValueError.ga.bind (.ref x)
  unfold getAttr? getAttrBy? getAttrBy
  refine wpAny_bind (wpAny_mkText (wpAny_bind (wpAny_attempt (wpAny_holding (wpAny_bind (L0.at (wpAny_bind (L1.at ?_))))))))
  show wpAny _ _ (getAttrByItsOwn _ _ _ _ _ _) _ _ _
  unfold getAttrByItsOwn hookBefore
  refine wpAny_bind (L2.at ?_)
  refine wpAny_bind (wpAny_attempt (wpAny_holding ?_))
  show wpAny _ _ (boundAndCalled _ _ _) _ _ _
  unfold boundAndCalled
  rw [hb]
  refine wpAny_bind (wpAny_pure ?_)
  refine wpAny_call (exc_call Z X p ?_)
  exact handed_on rfl (wpAny_pure h)
theorem kitx_exc (Z : ExcK K C) : KitX K (.ref x) (.ref C) (ExcAt x (.ref C)) where
  ty := fun _ _ _ p => exc_type p
  it := fun _ _ X _ => by
    obtain ⟨cdD, hcD⟩ := Z.cls
    unfold clsIn at hcD
    split at hcD
    · rename_i c' d' cd' sl' ho
      intro A' Q' E' s' k q
      unfold isType loadHead
      exact wpAny_bind (wpAny_loadPart (k _ _ (X _ _ ho)) (wpAny_pure q))
    · cases hcD
  ne := fun h tp dd its n sl X htp => by
    obtain ⟨cdD, hcD⟩ := Z.cls
    refine Bool.eq_false_iff.mpr fun q => ?_
    have e : C = tp := Value.ref.inj (beq_iff_eq.mp q)
    subst e
    unfold clsIn at hcD
    split at hcD
    · rename_i c' d' cd' sl' ho
      have z := (X _ _ ho).symm.trans htp
      cases z
    · cases hcD
  ca := fun X p k => exc_class Z X p k
end
end L2
end
section
namespace L2
open PySem PySem.Spec PyProof.Rows
section
variable {Γ : Cn} {X : Cx} {a b c e o i : Expr} {es : List Expr} {fa fb fc f fo fk fx : FE} {fr fi : FA} {pos p apos cpos : Pos}
def repD : D -> Option D
  | .str x => if (reprText x).length <= 1000000 then some (.str (reprText x)) else none
  | _ => none
theorem dj_rep (hv : DE Γ X e f) (h : DJ Γ X es fr) (hs : evalEach (.FormattedValue e 114 none p :: es) X.env = eval (.FormattedValue e 114 none p) X.env :: evalEach es X.env := by rfl) : DJ Γ X (.FormattedValue e 114 none p :: es) (aCons (b1 repD f) fr) := ⟨fun acc pins s σ H Q I ⟨G₀, H₀, G, ρ, ds, z, A, hq, hz, k⟩ => by
  unfold aCons b1 at hq
  obtain ⟨d, hd, hq⟩ := Option.bind_eq_some_iff.mp hq
  obtain ⟨xs, hxs, rfl⟩ := Option.map_eq_some_iff.mp hq
  obtain ⟨d0, hd0, hd⟩ := Option.bind_eq_some_iff.mp hd
  unfold repD at hd
  split at hd
  · rename_i x
    split at hd
    · rename_i hrl
      cases hd
      unfold catD at hz
      obtain ⟨w, hw, hz2⟩ := Option.bind_eq_some_iff.mp hz
      clear hz
      have hz := hz2
      clear hz2
      have hrs : (reprText x).length <= sizeLine := by have := sizeLine_eq; omega
      have hw' : w = reprText x := by
        unfold txtD at hw
        simp only at hw
        split at hw
        · exact (Option.some.inj hw).symm
        · rename_i hno
          exact absurd hrs hno
      subst hw'
      split at hz
      · rename_i hl
        rw [hs]
        refine joinParts_cons (wpAny_FormattedValue_repr (thn (hv.1 pins s σ H (fun v H' => ∃ G', Step G H G' H' /\ Rep Γ X.K G' v (.str x)) I ⟨G₀, H₀, G, ρ, _, A, hd0, fun v G' H' st r => ⟨G', st, r⟩⟩) fun v s1 ⟨v', H1, I1, r1, G1, st, rp⟩ => ?_))
        cases rp.str_inv
        obtain ⟨t, rfl⟩ := r1
        refine wpAny_pyReprObj_str ?_ hrs
        refine formatField_str (fun t' tk => ?_) hrs
        exact ⟨hl, h.1 _ pins _ σ _ Q ((I1.tok _).tok tk) ⟨G₀, H₀, G1, ρ, xs, z, A.step st, hxs, hz, fun G' H' s' => k G' H' (st.trans s')⟩⟩
      · cases hz
    · cases hd
  · cases hd⟩
def upperD : D -> Option D
  | .str x => if x.length <= 1000 then some (.str (Txt.upper x)) else none
  | _ => none
theorem mt_upper : MtR X "str.upper" (fun v vs H Q => ∃ x, v = .str x /\ vs = [] /\ x.length <= 1000 /\ Q (.str (Txt.upper x)) H) := by
  intro pins s σ H x xs v us Q I rx rs h
  obtain ⟨z, rfl, rfl, hz, q⟩ := h
  obtain ⟨t, rfl⟩ := rx
  cases rs
  exact PyProof.Rows.SCL.upper (by omega) fun _ => ⟨.str _, H, I.tok _, ⟨_, rfl⟩, q⟩
theorem de_upper (ho : DE Γ X o fo) (hbase : attributeBase o "upper" X.env (eval o X.env) = eval o X.env := by rfl) (hline : (apos.endLine == cpos.line) = true := by rfl) : DE Γ X (.Call (.Attribute o "upper" apos) [] [] cpos) (b1 upperD fo) :=
  ⟨(pe_bm0 PySem.F.plainAttrs_str PySem.F.slot_str_upper PySem.F.type_str_upper mt_upper ho.1 hbase hline).imp fun σ H Q => by
    rintro ⟨G₀, H₀, G, ρ, d, A, hq, k⟩
    unfold b1 at hq
    obtain ⟨x, hx, hq⟩ := Option.bind_eq_some_iff.mp hq
    refine ⟨G₀, H₀, G, ρ, x, A, hx, fun v G' H' st rp => ?_⟩
    unfold upperD at hq
    split at hq
    · split at hq
      · cases hq
        cases rp.str_inv
        exact ⟨rfl, _, rfl, rfl, by assumption, k _ G' H' st (.str _)⟩
      · cases hq
    · cases hq⟩
def lenKD : List D -> Option D
  | [.dk l] => some (.int (l.length : Nat))
  | _ => none
theorem bd_lenK : BltD Γ X "len" lenKD := ⟨_, call_lenD, fun {G H vs ds z} gh r h Q k => by
  unfold lenKD at h
  split at h
  · cases h
    obtain ⟨v, rfl, r1⟩ := r.one
    cases r1 with
    | @dk a us kvs ha e rv =>
      have hl := congrArg List.length e
      rw [List.length_map, List.length_map] at hl
      exact ⟨a, us, rfl, gh _ _ ha, k _ G H (.refl gh) (by rw [hl]; exact .int _)⟩
  · cases h⟩
def cut1 (x y z : Str) : Str := if (Builtin.Str.occurrences x y 0 x.length 1).isEmpty = true then x else Builtin.Str.glued z (Builtin.Str.partsBetween x (Builtin.Str.occurrences x y 0 x.length 1) y.length)
theorem gives_cut1 (x y z : Str) (t u v n : Tok) (h0 : (u == 0 || v == 0) = false) (huv : (u == v) = false) (hyz : (y == z) = false) (hz : y.length ≠ 0) (hl : x.length + z.length <= 2000) (ho : (Builtin.Str.occurrences x y 0 x.length 1).length <= 1) :
    Gives (Builtin.«str.replace» ⟨[.str x t, .str y u, .str z v, .int 1 n], []⟩) (if (Builtin.Str.occurrences x y 0 x.length 1).isEmpty = true then .val (.str x t) else .str (Builtin.Str.glued z (Builtin.Str.partsBetween x (Builtin.Str.occurrences x y 0 x.length 1) y.length))) := by
  have hy0 : (y.length == 0 && z.length == 0) = false := by simp [hz]
  show Gives (if ((Builtin.Str.occurrences x y 0 x.length 1).isEmpty || (y.length == 0 && z.length == 0)) = true then (do rule "str.replace.nothing"; ret (.str x t)) else
          (do let same ← isSame (.str y u) (.str z v)
              if same = true then (do rule "str.replace.old-is-new"; ret (.str x t)) else
              if Builtin.Str.tooLong (x.length + (Builtin.Str.occurrences x y 0 x.length 1).length * z.length) = true then unsupported "str.replace:memory" else
              retStr (Builtin.Str.glued z (Builtin.Str.partsBetween x (Builtin.Str.occurrences x y 0 x.length 1) y.length)))) _
  rw [hy0, Bool.or_false]
  cases hc : (Builtin.Str.occurrences x y 0 x.length 1).isEmpty
  · have htl : Builtin.Str.tooLong (x.length + (Builtin.Str.occurrences x y 0 x.length 1).length * z.length) = false := by
      have : (Builtin.Str.occurrences x y 0 x.length 1).length * z.length <= 1 * z.length := Nat.mul_le_mul_right _ ho
      unfold Builtin.Str.tooLong sizeLine
      exact decide_eq_false (by omega)
    rw [isSame_str_other y z u v h0 huv hyz, htl]
    exact .of_eq rfl
  · exact .rule (.of_eq rfl)
theorem ld_var {E : Value -> Shared -> Prop} {pins : List (Addr × Obj)} {s : Shared} {σ : St} {H : Hp} {x : Str} {j : Nat} {v : V} {Q : Value -> Shared -> Prop} (I : Inv X pins σ H s) (hN : X.N[j]? = some x) (hv : Vis X.env.scope x) (hσ : σ[j]? = some (some v)) (h : ∀ u, RelV v u -> Q u s)
    (hd : (x == ("__debug__" : Str)) = false := by decide) (hcd : (x == ("__classdict__" : Str)) = false := by decide) : wpAny (model X.prog X.w) X.A (eval (.Name x pos) X.env) Q E s := by
  obtain ⟨m, hn, hl⟩ := I.loc
  obtain ⟨u, r, l⟩ := hl j x v hN hσ hv
  have fin := h u r
  rcases l with ⟨hk, hm⟩ | ⟨hk, d, hc, hcell⟩
  · exact wpAny_Name (wpAny_loadName_local I.ok.kind hk hn hm fin) hd
  · rcases hk with hk | hk
    · exact wpAny_Name (wpAny_loadName_cell I.ok.kind hk hc hcell fin) hd
    · exact wpAny_Name (wpAny_loadName_free I.ok.kind hk hc hcell fin hcd) hd
def cutD (y z : Str) : D -> Option D
  | .str x => if x.length <= 1000 /\ (cut1 x y z).length <= 2000 then some (.str (cut1 x y z)) else none
  | _ => none
theorem da_rep {x c y z : Str} {j1 j2 j3 j4 : Nat} {p1 px pb pa p2 p3 p4 : Pos} (i : Nat) (h : DA Γ X es fr) (hy : y.length ≠ 0) (hyz : (y == z) = false) (hz : z.length <= 100) (hc : c.length ≠ 0) (hN : X.N[i]? = some x := by rfl) (hv : Vis X.env.scope x := by first | exact Or.inl rfl | exact Or.inr (Or.inl rfl) | exact Or.inr (Or.inr rfl))
    (hd : (x == ("__debug__" : Str)) = false := by decide) (hcd : (x == ("__classdict__" : Str)) = false := by decide)
    (hbase : attributeBase (.Name x pa) "replace" X.env (eval (.Name x pa) X.env) = eval (.Name x pa) X.env := by rfl) (hline : (apos.endLine == cpos.line) = true := by rfl)
    (hfew : ((backTo cpos (starEach [.Constant (.str y) j2 p2, .Constant (.str z) j3 p3, .Constant (.int 1) j4 p4] X.env)).all (fun x => !x.1) && (backToKw cpos (keywordEach [] X.env)).all (fun x => x.1.isSome)
      && decide ([Expr.Constant (.str y) j2 p2, .Constant (.str z) j3 p3, .Constant (.int 1) j4 p4].length + ([] : List Keyword).length + (if ([] : List Keyword).isEmpty then 0 else 1) < 30)) = true := by rfl)
    (hs : starEach (.BinOp (.Constant (.str c) j1 p1) .Add (.Name x px) pb :: .Call (.Attribute (.Name x pa) "replace" apos) [.Constant (.str y) j2 p2, .Constant (.str z) j3 p3, .Constant (.int 1) j4 p4] [] cpos :: es) X.env
      = (false, eval (.BinOp (.Constant (.str c) j1 p1) .Add (.Name x px) pb) X.env) :: (false, eval (.Call (.Attribute (.Name x pa) "replace" apos) [.Constant (.str y) j2 p2, .Constant (.str z) j3 p3, .Constant (.int 1) j4 p4] [] cpos) X.env) :: starEach es X.env := by rfl) :
    DA Γ X (.BinOp (.Constant (.str c) j1 p1) .Add (.Name x px) pb :: .Call (.Attribute (.Name x pa) "replace" apos) [.Constant (.str y) j2 p2, .Constant (.str z) j3 p3, .Constant (.int 1) j4 p4] [] cpos :: es)
      (aCons (b2 addD (vC (.str c)) (vSh i)) (aCons (b1 (cutD y z) (vSh i)) fr)) := ⟨by
  intro pos pins s σ H Q I hq
  obtain ⟨G₀, H₀, G, ρ, ds, A, hq, k⟩ := hq
  unfold aCons b2 b1 at hq
  obtain ⟨d2, hd2, hq⟩ := Option.bind_eq_some_iff.mp hq
  obtain ⟨rest, hq1, rfl⟩ := Option.map_eq_some_iff.mp hq
  obtain ⟨d3, hd3, hq1⟩ := Option.bind_eq_some_iff.mp hq1
  obtain ⟨ds, hds, rfl⟩ := Option.map_eq_some_iff.mp hq1
  obtain ⟨dc, hdc, hd2⟩ := Option.bind_eq_some_iff.mp hd2
  cases hdc
  obtain ⟨dx, hdx, hd2⟩ := Option.bind_eq_some_iff.mp hd2
  obtain ⟨dx', hdx', hd3⟩ := Option.bind_eq_some_iff.mp hd3
  have e : dx' = dx := by rw [hdx] at hdx'; exact (Option.some.inj hdx').symm
  subst e
  obtain ⟨v, hσ, rv⟩ := A.env.sh i _ (vSh_some hdx)
  unfold cutD at hd3
  split at hd3
  · rename_i r
    split at hd3
    · rename_i hrl0
      obtain ⟨hrl, hcl⟩ := hrl0
      cases hd3
      have hd2' : c.length + r.length <= sizeLine /\ d2 = .str (c ++ r) := by
        unfold addD at hd2
        simp only at hd2
        split at hd2
        · rename_i hl; exact ⟨hl, (Option.some.inj hd2).symm⟩
        · cases hd2
      obtain ⟨hl2, rfl⟩ := hd2'
      cases rv.str_inv
      have hoc : (Builtin.Str.occurrences r y 0 r.length 1).length <= 1 := StrLaws.occ_length_le r y 0 r.length 1
      have gh := A.gh
      rw [hs]
      show wpAny _ _ (spliced ((false, eval (.BinOp (.Constant (.str c) j1 p1) .Add (.Name x px) pb) X.env) :: backTo pos ((false, eval (.Call (.Attribute (.Name x pa) "replace" apos) [.Constant (.str y) j2 p2, .Constant (.str z) j3 p3, .Constant (.int 1) j4 p4] [] cpos) X.env) :: starEach es X.env))) _ _ s
      refine Calls.spliced_cons (wpAny_BinOp (Calls.Constant_str (ld_var (I.tok _) hN hv hσ (fun u ru => ?_) hd hcd)))
      obtain ⟨t, rfl⟩ := ru
      have key : ∀ (t' : Tok) (tk : Nat), tk ≠ 0 -> wpAny (model X.prog X.w) X.A (spliced (backTo pos ((false, eval (.Call (.Attribute (.Name x pa) "replace" apos) [.Constant (.str y) j2 p2, .Constant (.str z) j3 p3, .Constant (.int 1) j4 p4] [] cpos) X.env) :: starEach es X.env)))
          (fun vs s' => AP X pins σ Q (.str (c ++ r) t' :: vs) s') X.xe { s with toks := tk } := fun t' tk htk => by
        have I3 : Inv X pins σ H { s with toks := tk } := I.tok tk
        show wpAny _ _ (spliced ((false, eval (.Call (.Attribute (.Name x pa) "replace" apos) [.Constant (.str y) j2 p2, .Constant (.str z) j3 p3, .Constant (.int 1) j4 p4] [] cpos) X.env) :: backTo pos (starEach es X.env))) _ _ _
        refine Calls.spliced_cons (wpAny_Call_method_late hbase hfew hline rfl (ld_var I3 hN hv hσ (fun u ru => ?_) hd hcd))
        obtain ⟨t2, rfl⟩ := ru
        refine ⟨"str", "str.replace", PySem.F.plainAttrs_str, PySem.F.slot_str_replace, PySem.F.type_str_replace, typeIs_str _ _ _, (fun a h => nomatch h), ?_⟩
        refine Calls.callWith_builtin rfl (Calls.evalArgs_plain ?_)
        refine Calls.spliced_cons (Calls.Constant_str (k := j2) (pos := p2) (Calls.spliced_cons (Calls.Constant_str (k := j3) (pos := p3) (Calls.spliced_cons (wpAny_Constant_int (k := j4) (pos := p4) (Calls.spliced_nil ?_))))))
        have fin : ∀ (t3 : Tok) (tk3 : Nat), wpAny (model X.prog X.w) X.A (spliced (backTo pos (starEach es X.env))) (fun vs s' => AP X pins σ Q (.str (c ++ r) t' :: .str (cut1 r y z) t3 :: vs) s') X.xe { s with toks := tk3 } := fun t3 tk3 => by
          refine thn (h.1 pos pins _ σ H (fun vs H' => Q (.str (c ++ r) :: .str (cut1 r y z) :: vs) H') (I.tok tk3) ⟨G₀, H₀, G, ρ, ds, A, hds, fun vs G' H' st rs => k _ G' H' st (.cons (.str _) (.cons (.str _) rs))⟩) fun us s' ⟨vs, H', I', r', q'⟩ => ?_
          exact ⟨.str (c ++ r) :: .str (cut1 r y z) :: vs, H', I', .cons (show RelV (.str (c ++ r)) _ from ⟨_, rfl⟩) (.cons (show RelV (.str (cut1 r y z)) _ from ⟨_, rfl⟩) r'), q'⟩
        refine call_gives PySem.F.slot_str_replace (typeIs_str _ _ _) PySem.F.entry_str_replace (PySem.F.args_str_replace_4 _ _ _ _) (gives_cut1 r y z t2 tk (tk + 1) (tk + 1 + 1) ?_ ?_ hyz hy (by omega) hoc) ?_
        · simp [htk]
        · simp
        · unfold cut1 at fin
          cases hemp : (Builtin.Str.occurrences r y 0 r.length 1).isEmpty
          · rw [hemp] at fin
            simp only [Bool.false_eq_true, if_false] at fin ⊢
            have hcl2 : (Builtin.Str.glued z (Builtin.Str.partsBetween r (Builtin.Str.occurrences r y 0 r.length 1) y.length)).length <= 2000 := by
              unfold cut1 at hcl
              rw [hemp] at hcl
              simpa using hcl
            exact ⟨by have := sizeLine_eq; omega, fin _ _⟩
          · rw [hemp] at fin
            simp only [if_true] at fin ⊢
            exact fin t2 _
      refine PySem.P.add_str ?_
      have hc0 : (c.length == 0) = false := by simpa using hc
      rw [hc0]
      simp only [Bool.false_eq_true, if_false]
      cases hr0 : (r.length == 0)
      · simp only [Bool.false_eq_true, if_false]
        exact ⟨by have : (c ++ r).length = c.length + r.length := Str.length_append c r; omega, key _ _ (Nat.succ_ne_zero _)⟩
      · simp only [if_true]
        have er : c ++ r = c := by
          have : r.cps = #[] := Array.eq_empty_of_size_eq_zero (by simpa [Str.length] using hr0)
          show (⟨c.cps ++ r.cps⟩ : Str) = c
          rw [this, Array.append_empty]
        have kk := key s.toks (s.toks + 1) (Nat.succ_ne_zero _)
        rw [er] at kk
        exact kk
    · cases hd3
  · cases hd3⟩
end
end L2
end
section
namespace L2
open PySem PySem.Spec PyProof.Rows
section
variable {Γ : Cn} {X : Cx} {a : Expr} {fa : FE} {pos : Pos}
theorem de_negI (h : DE Γ X a fa) : DE Γ X (.UnaryOp .USub a pos) (b1 negD fa) := ⟨fun pins s σ H Q I => by
  rintro ⟨G₀, H₀, G, ρ, d, A, hq, k⟩
  unfold b1 at hq
  obtain ⟨x, hx, hq⟩ := Option.bind_eq_some_iff.mp hq
  refine UnaryOp_ (thn (h.1 pins s σ H (fun v H' => ∃ G', Step G H G' H' /\ Rep Γ X.K G' v x) I ⟨G₀, H₀, G, ρ, x, A, hx, fun v G' H' st r => ⟨G', st, r⟩⟩) fun v s1 ⟨v', H1, I1, r1, G1, st, rp⟩ => ?_)
  unfold negD at hq
  split at hq
  · cases hq
    cases rp.int_inv
    obtain ⟨t, rfl⟩ := r1
    exact PyProof.Rows.neg_int ⟨.int _, H1, I1.tok _, ⟨_, rfl⟩, k _ G1 H1 st (.int _)⟩
  · cases hq⟩
end
def valC : V -> Option Value
  | .ref a => some (.ref a)
  | .ty n => some (.type n)
  | _ => none
theorem valC_rel {c : V} {u cv : Value} (r : RelV c u) (h : valC c = some cv) : u = cv := by
  cases c <;> cases h
  · exact r
  · exact r
theorem valC_rels : ∀ {xs : List V} {us its : List Value}, Vals xs us -> xs.mapM valC = some its -> us = its
  | [], _, _, .nil, h => by cases h; rfl
  | x :: xs, u :: us, its, .cons r t, h => by
    rw [List.mapM_cons] at h
    obtain ⟨a, ha, h⟩ := Option.bind_eq_some_iff.mp h
    obtain ⟨b, hb, h⟩ := Option.bind_eq_some_iff.mp h
    cases h
    rw [valC_rel r ha, valC_rels t hb]
inductive TyX (K : PySem.W.Frag) (H : Hp) : V -> Value -> Prop where
  | non : TyX K H .non (.type "NoneType")
  | exc {a C : Addr} : H a = some (.ext (ExcAt a (.ref C))) -> ExcK K C -> TyX K H (.ref a) (.ref C)
inductive IsiC (K : PySem.W.Frag) (H : Hp) (t : Value) : V -> Bool -> Prop where
  | one {c : V} {cv : Value} {b : Bool} : valC c = some cv -> PySem.W.kitOne K t cv = some b -> IsiC K H t c b
  | tup {tp : Addr} {xs : List V} {its : List Value} {b : Bool} : H tp = some (.tup xs) -> xs.mapM valC = some its -> PySem.W.kitAny K t its = some b -> IsiC K H t (.ref tp) b
def isiX (K : PySem.W.Frag) : List V -> Hp -> VK -> Prop := fun vs H Q => ∃ x t c b, vs = [x, c] /\ TyX K H x t /\ IsiC K H t c b /\ Q (.bl b) H
section
variable {X : Cx}
theorem call_isiX : CallR X (.builtin "isinstance") (isiX X.K) := by
  intro pins s σ H xs us Q I r h
  obtain ⟨x, t, c, b, rfl, ty, ic, q⟩ := h
  obtain ⟨u, w', rfl, r1, r2⟩ := vals2 r
  have fin : ∀ tk, EP X pins σ Q (.bool b) { s with toks := tk } := fun tk => ⟨.bl b, H, I.tok tk, rfl, q⟩
  have go : ∀ {Hh : Heap -> Prop} {xv : Value}, u = xv -> PySem.W.KitX X.K xv t Hh -> Hh s.heap -> xv ≠ .builtin "__main__.__loader__#opaque" -> wpAny (model X.prog X.w) X.A (call (.builtin "isinstance") [u, w']) (EP X pins σ Q) X.xe s := fun {Hh xv} eu Z p hx => by
    subst eu
    cases ic with
    | one hv hk =>
      have e := valC_rel r2 hv
      subst e
      exact PySem.W.kia_one Z I.kIn p hk hx fin
    | @tup tp ys its _ htp hm hk =>
      cases (show w' = Value.ref tp from r2)
      obtain ⟨hz, its', rv, o, ho, hoc, n, hod⟩ := (show ObjOk X.prog X.w H s.heap tp (.tup ys) from I.hok tp _ htp)
      have e := valC_rels rv hm
      subst e
      obtain ⟨oc, odi, oda, osl⟩ := o
      simp only at hoc hod
      subst hoc hod
      exact PySem.W.kia_tup Z I.kIn p ho hk hx fin
  cases ty with
  | non => exact go r1 PySem.W.kitx_none True.intro (fun z => nomatch z)
  | @exc a C ha Z =>
    obtain ⟨p, _⟩ := (show ObjOk X.prog X.w H s.heap a (.ext (ExcAt a (.ref C))) from I.hok a _ ha)
    exact go r1 (kitx_exc Z) p (fun z => nomatch z)
end
def refF (F : List D -> Option D) : List D -> Option D := fun ds => match F ds with
  | some (.ty n) => if n = "NoPlan" then some (.bl true) else none
  | some _ => some (.bl false)
  | none => none
structure RefK (K : PySem.W.Frag) (mg : Str -> Option Value) (CP CS CR CY CH CT : Addr) : Prop where
  mP : mg "NoPlan" = some (.ref CP)
  mS : mg "ShopError" = some (.ref CS)
  mR : mg "NoRow" = some (.ref CR)
  mY : mg "NoSay" = some (.ref CY)
  mH : mg "NoShop" = some (.ref CH)
  mT : mg "NoTree" = some (.ref CT)
  exm : PySem.W.exmOne K (.ref CP) (.ref CS) = some true
  k0 : PySem.W.kitOne K (.type "NoneType") (.ref CP) = some false
  k2 : PySem.W.kitOne K (.ref CP) (.type "ValueError") = some true
  k3 : PySem.W.kitAny K (.ref CP) [.ref CR, .ref CY, .ref CH, .ref CT] = some false
  exk : ExcK K CP
end L2
end
section
namespace L2
open PySem PySem.Spec PyProof.Rows
theorem own_K {K : PySem.W.Frag} {base : Heap} {mg : Str -> Option Value} {x : Str} {C : Addr} {bmB : List Value} {newId : String} (X : K.In base) (hm : mg x = some (.ref C)) (q : PySem.W.excIn K C bmB newId = true) : OwnCls x C bmB newId mg base := by
  refine ⟨hm, ?_⟩
  unfold PySem.W.excIn at q
  split at q
  · rename_i dd0 cd0 sl0 look
    split at q
    · rename_i C1 bm1 p0 p1 p2 p3 nw p5 hmro hsl
      simp only [Bool.not_eq_true', Bool.and_eq_true, beq_iff_eq] at q
      obtain ⟨⟨⟨⟨⟨rfl, rfl⟩, nodel⟩, tl⟩, nsok⟩, noin⟩ := q
      obtain ⟨y1, y2, y3, y4, y5, y6, y7, y8, y9, y10, y11⟩ := cd0
      dsimp only at hmro nodel nsok noin
      subst hmro nodel
      obtain ⟨sll⟩ := sl0
      simp only at hsl
      subst hsl
      exact ⟨bm1, y4, y1, y5, y2, y6, y7, y8, y9, y10, dd0, p0, p1, p2, p3, p5, _, X _ _ look, .of_isNs (PySem.W.isNs_of_in X nsok), PySem.W.nsMap_none_of_in X nsok noin, PySem.W.tail_of_in X tl⟩
    · cases q
  · cases q
end L2
end
section
namespace Law
open PySem L2 PySem.Spec PyProof.Rows
def top (i : Nat) : Stmt := PySem.Challenge.pw_shopbound_k24_no_plan.main.body.getD i (.Pass ⟨0, 0, 0, 0⟩)
abbrev s__law_rows : Stmt := top 18
abbrev s_is_numeral : Stmt := top 11
abbrev s_is_name : Stmt := top 10
abbrev s_is_plan_row : Stmt := top 15
abbrev s_number_of : Stmt := top 12
abbrev s_read_plan : Stmt := top 16
abbrev s__law_refused : Stmt := top 20
abbrev s__law_spoilt : Stmt := top 19
abbrev s_law : Stmt := top 21
def t_FIGURES (mg : Str -> Option Value) : Tok := match mg "FIGURES" with | some (.str _ t) => t | _ => 0
def t_LONGEST_NAME (mg : Str -> Option Value) : Tok := match mg "LONGEST_NAME" with | some (.int _ t) => t | _ => 0
def t_PARTING (mg : Str -> Option Value) : Tok := match mg "PARTING" with | some (.str _ t) => t | _ => 0
structure Bn (mg : Str -> Option Value) : Prop where
  z_ValueError : mg "ValueError" = none
  z_all : mg "all" = none
  z_enumerate : mg "enumerate" = none
  z_isinstance : mg "isinstance" = none
  z_len : mg "len" = none
  z_range : mg "range" = none
  z_str : mg "str" = none
  c_FIGURES : mg "FIGURES" = some (.str "0123456789" (t_FIGURES mg))
  c_LONGEST_NAME : mg "LONGEST_NAME" = some (.int 8 (t_LONGEST_NAME mg))
  c_PARTING : mg "PARTING" = some (.str "; " (t_PARTING mg))
end Law
end
section
set_option maxHeartbeats 4000000
namespace Law
open PySem L2 PySem.Spec PyProof.Rows
variable {Γ : Cn} {P : Program} {w : World} {K : PySem.W.Frag} {mg : Str -> Option Value} {base : Heap}
noncomputable def G__law_rows : List D -> Option D := runD 0
    (sRet (lstF (compF (itR rng1 (aCons (b2 addD (vC (.int 1)) (b2 modD (vSh 0) (vC (.int 5)))) aNil)) (gSet 0) tT (b2 addD (b2 addD (b2 mulD (b2 ixD (lstF (szF (aCons (vC (.str "a")) (aCons (vC (.str "b")) (aCons (vC (.str "c")) (aCons (vC (.str "d")) (aCons (vC (.str "e")) aNil))))))) (vSh 0)) (b2 addD (vC (.int 1)) (b2 modD (b2 fdivD (vSh 1) (vC (.int 5))) (vC (.int 3))))) (vC (.str " i"))) (b2 mulD (vC (.str "j")) (b2 modD (vSh 0) (vC (.int 3))))) [none, some 0])))
theorem sc__law_rows : FnScope ["_law_cell"] ["_law_cell"] (defScope s__law_rows) := ⟨rfl, rfl, rfl, by decide +kernel, rfl, by decide +kernel, by decide +kernel⟩
theorem cal__law_rows (F : Dfn K mg "_law_rows" s__law_rows) (B : Bn mg)  : Cal Γ P w K mg base "_law_rows" 1 1 (G__law_rows) :=
  F.cal (k := 0) sc__law_rows (fun _ _ _ _ _ _ us hl => match us, hl with | [_], _ => rfl) fun f cdv A outer s H E hr =>
    (dss_one (ds_ret (DO.de (do_lc rfl (CompScope.of rfl rfl) (FvOk.of (N' := ["_law_k", "_law_cell"]) (fv := [none, some 0]) rfl) (di_range1 rfl B.z_range (da_cons (de_add de_int (de_mod (de_var 0) de_int)) da_nil)) ⟨fun _ _ _ _ _ => ⟨(dg_name 0 (show (["_law_k", "_law_cell"] : List Str).Nodup by decide +kernel)), dts_nil, (de_add (de_add (de_mul (de_ix (DO.de (do_lst (da_cons de_str (da_cons de_str (da_cons de_str (da_cons de_str (da_cons de_str da_nil))))))) (de_var 0)) (de_add de_int (de_mod (de_fdiv (de_var 1) de_int) de_int))) de_str) (de_mul de_str (de_mod (de_var 0) de_int)))⟩⟩))))
noncomputable def G_is_numeral : List D -> Option D := runD 0
    (sSeq (sIf (orT (toB (b2 eqD (vSh 0) (vC (.str "")))) (andT (toB (b2 eqD (b2 ixD (vSh 0) (vC (.int 0))) (vC (.str "0")))) (toB (b2 neD (vSh 0) (vC (.str "0")))))) (sRet (vC (.bl false))) sNil) (sRet (cF allD (aCons (lstF (compF (itS (vSh 0)) (gSet 0) tT (b2 inSD (vSh 0) (vC (.str "0123456789"))) [none])) aNil))))
theorem sc_is_numeral : FnScope ["word"] ["word"] (defScope s_is_numeral) := ⟨rfl, rfl, rfl, by decide +kernel, rfl, by decide +kernel, by decide +kernel⟩
theorem cal_is_numeral (F : Dfn K mg "is_numeral" s_is_numeral) (B : Bn mg)  : Cal Γ P w K mg base "is_numeral" 1 1 (G_is_numeral) :=
  F.cal (k := 0) sc_is_numeral (fun _ _ _ _ _ _ us hl => match us, hl with | [_], _ => rfl) fun f cdv A outer s H E hr =>
    (dss_cons (ds_if (DW.dt (dw_or (dt_cmp cd_eq (de_var 0) de_str (nomark _)) (dw_or1 (DW.dt (dw_and (dt_cmp cd_eq (de_ix (de_var 0) de_int) de_str (nomark _)) (dw_and1 (dt_cmp cd_ne (de_var 0) de_str (nomark _)))))))) (dss_one (ds_ret de_bl)) dss_nil) (dss_one (ds_ret (de_callB (bd_all rfl) rfl B.z_all (by rfl) (da_cons (DO.de (do_lc rfl (CompScope.of rfl rfl) (FvOk.of (N' := ["sign"]) (fv := [none]) rfl) (di_str (de_var 0)) ⟨fun _ _ _ _ _ => ⟨(dg_name 0 (show (["sign"] : List Str).Nodup by decide +kernel)), dts_nil, (de_cmp cd_inS (de_var 0) (de_globS rfl B.c_FIGURES) (by rfl))⟩⟩)) da_nil)))))
noncomputable def G_is_name : List D -> Option D := runD 0
    (sSeq (sIf (orT (notT (toB (cF isiD (aCons (vSh 0) (aCons (vC (.ty "str")) aNil))))) (notT (toB (chD leD leD (vC (.int 1)) (cF lenD (aCons (vSh 0) aNil)) (vC (.int 8)))))) (sRet (vC (.bl false))) sNil) (sRet (cF allD (aCons (lstF (compF (itS (vSh 0)) (gSet 0) tT (chD leD leD (vC (.str "a")) (vSh 0) (vC (.str "z"))) [none])) aNil))))
theorem sc_is_name : FnScope ["thing"] ["thing"] (defScope s_is_name) := ⟨rfl, rfl, rfl, by decide +kernel, rfl, by decide +kernel, by decide +kernel⟩
theorem cal_is_name (F : Dfn K mg "is_name" s_is_name) (B : Bn mg)  : Cal Γ P w K mg base "is_name" 1 1 (G_is_name) :=
  F.cal (k := 0) sc_is_name (fun _ _ _ _ _ _ us hl => match us, hl with | [_], _ => rfl) fun f cdv A outer s H E hr =>
    (dss_cons (ds_if (DW.dt (dw_or (dt_not (dt_val (de_callB bd_isi rfl B.z_isinstance (by rfl) (da_cons (de_var 0) (da_cons (de_ty rfl B.z_str (by rfl)) da_nil))))) (dw_or1 (dt_not (dt_chain cd_le cd_le de_int (de_callB bd_len rfl B.z_len (by rfl) (da_cons (de_var 0) da_nil)) (de_globI rfl B.c_LONGEST_NAME)))))) (dss_one (ds_ret de_bl)) dss_nil) (dss_one (ds_ret (de_callB (bd_all rfl) rfl B.z_all (by rfl) (da_cons (DO.de (do_lc rfl (CompScope.of rfl rfl) (FvOk.of (N' := ["sign"]) (fv := [none]) rfl) (di_str (de_var 0)) ⟨fun _ _ _ _ _ => ⟨(dg_name 0 (show (["sign"] : List Str).Nodup by decide +kernel)), dts_nil, (de_chain cd_le cd_le de_str (de_var 0) de_str)⟩⟩)) da_nil)))))
noncomputable def G_is_plan_row (F_is_numeral : List D -> Option D) (F_is_name : List D -> Option D) : List D -> Option D := runD 0
    (sRet (andD (b2 eqD (cF lenD (aCons (vSh 0) aNil)) (vC (.int 3))) (andD (cF F_is_name (aCons (b2 ixD (vSh 0) (vC (.int 0))) aNil)) (andD (cF F_is_name (aCons (b2 ixD (vSh 0) (vC (.int 1))) aNil)) (cF F_is_numeral (aCons (b2 ixD (vSh 0) (vC (.int 2))) aNil))))))
theorem sc_is_plan_row : FnScope ["words"] ["words"] (defScope s_is_plan_row) := ⟨rfl, rfl, rfl, by decide +kernel, rfl, by decide +kernel, by decide +kernel⟩
theorem cal_is_plan_row {F_is_numeral : List D -> Option D} {F_is_name : List D -> Option D} (F : Dfn K mg "is_plan_row" s_is_plan_row) (B : Bn mg) (c_is_numeral : Cal Γ P w K mg base "is_numeral" 1 1 F_is_numeral) (c_is_name : Cal Γ P w K mg base "is_name" 1 1 F_is_name) : Cal Γ P w K mg base "is_plan_row" 1 2 (G_is_plan_row F_is_numeral F_is_name) :=
  F.cal (k := 1) sc_is_plan_row (fun _ _ _ _ _ _ us hl => match us, hl with | [_], _ => rfl) fun f cdv A outer s H E hr =>
    (dss_one (ds_ret (de_and (de_cmp cd_eq (de_callB bd_len rfl B.z_len (by rfl) (da_cons (de_var 0) da_nil)) de_int (nomark _)) (de_and (de_cal c_is_name hr (by decide) rfl (da_cons (de_ix (de_var 0) de_int) da_nil) ln1) (de_and (de_cal c_is_name hr (by decide) rfl (da_cons (de_ix (de_var 0) de_int) da_nil) ln1) (de_one (de_cal c_is_numeral hr (by decide) rfl (da_cons (de_ix (de_var 0) de_int) da_nil) ln1)))))))
noncomputable def G_number_of : List D -> Option D := runD 2
    (sSeq (sSet 1 (vC (.int 0))) (sSeq (sFor (itS (vSh 0)) (gSet 2) (sSet 1 (b2 addD (b2 mulD (vSh 1) (vC (.int 10))) (mF indexD (vC (.str "0123456789")) (aCons (vSh 2) aNil))))) (sRet (vSh 1))))
theorem sc_number_of : FnScope ["numeral", "number", "sign"] ["numeral"] (defScope s_number_of) := ⟨rfl, rfl, rfl, by decide +kernel, rfl, by decide +kernel, by decide +kernel⟩
theorem cal_number_of (F : Dfn K mg "number_of" s_number_of) (B : Bn mg)  : Cal Γ P w K mg base "number_of" 1 1 (G_number_of) :=
  F.cal (k := 0) sc_number_of (fun _ _ _ _ _ _ us hl => match us, hl with | [_], _ => rfl) fun f cdv A outer s H E hr =>
    (dss_cons (ds_set 1 sc_number_of.nd de_int) (dss_cons (ds_for PassesOwn.never rfl (di_str (de_var 0)) (dg_name 2 sc_number_of.nd) (dss_one (ds_set 1 sc_number_of.nd (de_add (de_mul (de_var 1) de_int) (de_bm PySem.F.plainAttrs_str PySem.F.slot_str_index PySem.F.type_str_index md_index (de_globS rfl B.c_FIGURES) (da_cons (de_var 2) da_nil)))))) (dss_one (ds_ret (de_var 1)))))
noncomputable def G_read_plan (F_is_plan_row : List D -> Option D) (F_number_of : List D -> Option D) : List D -> Option D := runD 4
    (sSeq (sIf (notT (toB (cF isiD (aCons (vSh 0) (aCons (vC (.ty "str")) aNil))))) (sRaise "NoPlan" (aCons (vC (.str "a plan is read from a text alone")) aNil)) sNil) (sSeq (noTy (sOdk 1)) (sSeq (sIf (toB (b2 eqD (vSh 0) (vC (.str "")))) (noTy (sFrzD 1 (sRet (vSh 1)))) sNil) (sSeq (noTy (sSet 2 (vC (.str "")))) (sSeq (sFor (itF (mF splitD (vSh 0) (aCons (vC (.str "; ")) aNil))) (gSet 3) (sSeq (noTy (sSet 4 (mF splitD (vSh 3) (aCons (vC (.str " ")) aNil)))) (sSeq (sIf (notT (toB (cF F_is_plan_row (aCons (vSh 4) aNil)))) (sRaise "NoPlan" (aCons (fsF (aCons (vC (.str "no row of a plan: ")) (aCons (b1 repD (vSh 3)) aNil))) aNil)) sNil) (sSeq (sIf (toB (b2 leD (b2 ixD (vSh 4) (vC (.int 0))) (vSh 2))) (sRaise "NoPlan" (aCons (fsF (aCons (vC (.str "not behind ")) (aCons (vSh 2) (aCons (vC (.str ": ")) (aCons (b1 repD (vSh 3)) aNil))))) aNil)) sNil) (sSeq (noTy (sDPutO 1 (b2 ixD (vSh 4) (vC (.int 0))) (tupF (szF (aCons (b2 ixD (vSh 4) (vC (.int 1))) (aCons (cF F_number_of (aCons (b2 ixD (vSh 4) (vC (.int 2))) aNil)) aNil)))))) (noTy (sSet 2 (b2 ixD (vSh 4) (vC (.int 0)))))))))) (noTy (sFrzD 1 (sRet (vSh 1)))))))))
theorem sc_read_plan : FnScope ["text", "plan", "step_ahead", "row", "words"] ["text"] (defScope s_read_plan) := ⟨rfl, rfl, rfl, by decide +kernel, rfl, by decide +kernel, by decide +kernel⟩
theorem cal_read_plan {F_is_plan_row : List D -> Option D} {F_number_of : List D -> Option D} {CP : Addr} (O : OwnCls "NoPlan" CP [.type "ValueError", .type "Exception", .type "BaseException", .type "object"] "ValueError.__new__" mg base) (F : Dfn K mg "read_plan" s_read_plan) (B : Bn mg) (c_is_plan_row : Cal Γ P w K mg base "is_plan_row" 1 2 F_is_plan_row) (c_number_of : Cal Γ P w K mg base "number_of" 1 1 F_number_of) : CalX Γ P w K mg base "read_plan" 1 3 (G_read_plan F_is_plan_row F_number_of) "NoPlan" CP :=
  F.calX (k := 2) sc_read_plan (fun _ _ _ _ _ _ us hl => match us, hl with | [_], _ => rfl) fun f cdv A outer s H E hr =>
    (dxs_cons (dx_if (dt_not (dt_val (de_callB bd_isi rfl B.z_isinstance (by rfl) (da_cons (de_var 0) (da_cons (de_ty rfl B.z_str (by rfl)) da_nil))))) (dxs_one (dx_raise (fun _ h => h) O PySem.F.excBase_ValueError rfl (da_cons de_str da_nil) (fun ρ ds h => by rw [ln1 ρ ds h]; decide))) dxs_nil) (dxs_cons (dx_of (ds_odk 1 sc_read_plan.nd)) (dxs_cons (dx_if (dt_cmp cd_eq (de_var 0) de_str (nomark _)) (dxs_of (dss_frzD 1 (dss_one (ds_ret (de_var 1))))) dxs_nil) (dxs_cons (dx_of (ds_set 2 sc_read_plan.nd de_str)) (dxs_cons (dx_for PassesOwn.leaving rfl (di_seq (de_bm PySem.F.plainAttrs_str PySem.F.slot_str_split PySem.F.type_str_split md_split (de_var 0) (da_cons (de_globS rfl B.c_PARTING) da_nil))) (dg_name 3 sc_read_plan.nd) (dxs_cons (dx_of (ds_set 4 sc_read_plan.nd (de_bm PySem.F.plainAttrs_str PySem.F.slot_str_split PySem.F.type_str_split md_split (de_var 3) (da_cons de_str da_nil)))) (dxs_cons (dx_if (dt_not (dt_val (de_cal c_is_plan_row hr (by decide) rfl (da_cons (de_var 4) da_nil) ln1))) (dxs_one (dx_raise (fun _ h => h) O PySem.F.excBase_ValueError rfl (da_cons (de_fs (dj_const (dj_rep (de_var 3) dj_nil))) da_nil) (fun ρ ds h => by rw [ln1 ρ ds h]; decide))) dxs_nil) (dxs_cons (dx_if (dt_cmp cd_le (de_ix (de_var 4) de_int) (de_var 2) (nomark _)) (dxs_one (dx_raise (fun _ h => h) O PySem.F.excBase_ValueError rfl (da_cons (de_fs (dj_const (dj_val (de_var 2) (dj_const (dj_rep (de_var 3) dj_nil))))) da_nil) (fun ρ ds h => by rw [ln1 ρ ds h]; decide))) dxs_nil) (dxs_cons (dx_of (ds_dputO 1 (hu66 hr) (de_ix (de_var 4) de_int) (de_tup (da_cons (de_ix (de_var 4) de_int) (da_cons (de_cal c_number_of hr (by decide) rfl (da_cons (de_ix (de_var 4) de_int) da_nil) ln1) da_nil))))) (dxs_one (dx_of (ds_set 2 sc_read_plan.nd (de_ix (de_var 4) de_int))))))))) (dxs_of (dss_frzD 1 (dss_one (ds_ret (de_var 1))))))))))
noncomputable def G__law_refused (F_read_plan : List D -> Option D) : List D -> Option D := refF F_read_plan
theorem sc__law_refused : FnScope ["_law_text", "_law_caught", "e"] ["_law_text"] (defScope s__law_refused) := ⟨rfl, rfl, rfl, by decide +kernel, rfl, by decide +kernel, by decide +kernel⟩
theorem cal__law_refused {F_read_plan : List D -> Option D} {CP CS CR CY CH CT : Addr} (F : Dfn K mg "_law_refused" s__law_refused) (B : Bn mg) (R : RefK K mg CP CS CR CY CH CT) (c_read_plan : CalX Γ P w K mg base "read_plan" 1 3 F_read_plan "NoPlan" CP) : Cal Γ P w K mg base "_law_refused" 1 4 (G__law_refused F_read_plan) := by
  obtain ⟨f, fd, h1, h2⟩ := F.ex
  obtain ⟨f2, fd2, ps2, g1, g2, g3, g4⟩ := c_read_plan.ex
  refine ⟨f, fd, ["_law_text"], Fun.ok (k := 3) h1 sc__law_refused (fun vs H Q E h => ?_) (fun cdv A outer s H vs Q E hr h => ?_), h2, h1.kp, h1.binds (fun _ _ _ _ _ _ us hl => match us, hl with | [_], _ => rfl)⟩
  · obtain ⟨G, ds, d, _, r, hl, _⟩ := h
    rw [r.length, hl]; rfl
  · obtain ⟨G, ds, d, gh, r, hl, hd, k⟩ := h
    have hv : ∃ v0, vs = [v0] := by
      have e := r.length.trans hl
      match vs, e with
      | [v0], _ => exact ⟨v0, rfl⟩
    obtain ⟨v0, rfl⟩ := hv
    refine ⟨_, pss_cons (ps_set (i := 1) sc__law_refused.nd rfl (.inl rfl) pe_non) (pss_cons (ps_try (i := 1) (j := 2) g1 (hr.mono (by decide)) (fun _ _ z => z) rfl rfl rfl g2 g3 g4 (pa_cons (pe_var (i := 0) rfl (.inl rfl)) pa_nil) rfl R.mS sc__law_refused.nd rfl rfl rfl rfl (by decide))
      (pss_cons (ps_if (PW.pt (pw_or (pt_not (pt_val (pe_callB call_isiX rfl B.z_isinstance (by rfl) (pa_cons (pe_var (i := 1) rfl (.inl rfl)) (pa_cons (pe_glob (v := .ref CP) rfl R.mP rfl) pa_nil)))))
        (pw_or1 (pt_not (pt_val (pe_callB call_isiX rfl B.z_isinstance (by rfl) (pa_cons (pe_var (i := 1) rfl (.inl rfl)) (pa_cons (pe_bltn (v := .ty "ValueError") rfl B.z_ValueError (by rfl) rfl) pa_nil)))))))) (pss_one (ps_ret pe_bl)) pss_nil)
      (pss_one (ps_ret (pe_not (pe_callB call_isiX rfl B.z_isinstance (by rfl) (pa_cons (pe_var (i := 1) rfl (.inl rfl)) (pa_cons (pe_tup (pa_cons (pe_glob (v := .ref CR) rfl R.mR rfl) (pa_cons (pe_glob (v := .ref CY) rfl R.mY rfl) (pa_cons (pe_glob (v := .ref CH) rfl R.mH rfl) (pa_cons (pe_glob (v := .ref CT) rfl R.mT rfl) pa_nil))))) pa_nil)))))))), ?_⟩
    show tTry K (spX Γ K 1 F_read_plan "NoPlan" CP) (.ref CS) 1 2 (tCons (tVar 0) tNil) _ [some v0, some .non, none] H
    refine ⟨v0, rfl, ?_⟩
    unfold G__law_refused refF at hd
    cases hF : F_read_plan ds with
    | none => rw [hF] at hd; cases hd
    | some y =>
      rw [hF] at hd
      by_cases hy : y = .ty "NoPlan"
      · subst hy
        cases hd
        refine ⟨fun _ _ => False, fun cls _ H2 => cls = .ref CP /\ ∃ G2, Step G H G2 H2, ⟨G, ds, _, gh, r, hl, hF, fun _ G' H' st => ⟨rfl, G', st⟩, fun z => absurd rfl z⟩, fun _ _ z => z.elim, ?_⟩
        rintro cls H2 ⟨rfl, G2, st⟩
        refine ⟨R.exm, fun a ha => ?_⟩
        have st3 := st.trans (Step.newOwn (o := .ext (ExcAt a (.ref CP))) st.gh ha)
        have ty : TyX K (upd H2 a (.ext (ExcAt a (.ref CP)))) (.ref a) (.ref CP) := .exc upd_same R.exk
        refine ⟨.ref a, rfl, .ref a, .ref CP, .ref CP, true, rfl, ty, .one rfl (by unfold PySem.W.kitOne; rw [if_pos (beq_self_eq_true _)]), true, rfl, ?_⟩
        refine ⟨.ref a, rfl, .ref a, .ref CP, .ty "ValueError", true, rfl, ty, .one rfl R.k2, true, rfl, ?_⟩
        refine ⟨.ref a, rfl, by show 4 <= sizeLine; decide, fun p hp => ?_⟩
        have ne : a ≠ p := fun z => by subst z; rw [upd_same] at hp; cases hp
        refine ⟨.ref a, .ref CP, .ref p, false, rfl, .exc (by rw [upd_ne ne]; exact upd_same) R.exk, .tup upd_same rfl R.k3, false, rfl, ?_⟩
        exact k _ G2 _ (st3.trans (Step.newOwn st3.gh hp)) (.bl true)
      · have hd' : d = .bl false := by
          split at hd
          · rename_i n hn
            cases hn
            split at hd
            · rename_i hnn; subst hnn; exact absurd rfl hy
            · cases hd
          · cases hd; rfl
          · rename_i hn; cases hn
        subst hd'
        refine ⟨fun _ H2 => ∃ G2, Step G H G2 H2, fun _ _ _ => False, ⟨G, ds, y, gh, r, hl, hF, fun z => absurd z hy, fun _ v G' H' st _ => ⟨G', st⟩⟩, ?_, fun _ _ z => z.elim⟩
        rintro v H2 ⟨G2, st⟩
        refine ⟨.non, rfl, .non, .type "NoneType", .ref CP, false, rfl, .non, .one rfl R.k0, false, rfl, ?_⟩
        exact k _ G2 H2 st (.bl false)
noncomputable def G__law_spoilt : List D -> Option D := runD 4
    (sSeq (sSet 2 (b2 modD (b2 fdivD (vSh 1) (vC (.int 24))) (cF lenD (aCons (vSh 0) aNil)))) (sSeq (sSet 3 (b2 ixD (vSh 0) (vSh 2))) (sSeq (sSet 4 (mF splitD (vSh 3) (aCons (vC (.str " ")) aNil))) (sSeq (sSet 5 (lstF (szF (aCons (b2 addD (vSh 3) (vC (.str " "))) (aCons (b2 addD (vC (.str " ")) (vSh 3)) (aCons (b1 (cutD " " "  ") (vSh 3)) (aCons (b2 ixD (vSh 4) (vC (.int 0))) (aCons (b2 addD (vSh 3) (vC (.str " 3"))) (aCons (b2 addD (b2 addD (b2 ixD (vSh 4) (vC (.int 0))) (vC (.str " "))) (b2 ixD (vSh 4) (vC (.int 2)))) aNil))))))))) (sSeq (sSet 5 (b2 addD (vSh 5) (lstF (szF (aCons (b1 upperD (vSh 3)) (aCons (b2 addD (b2 addD (vC (.str "abcdefghi ")) (b2 ixD (vSh 4) (vC (.int 1)))) (vC (.str " 4"))) (aCons (b2 addD (b2 addD (b2 addD (b2 ixD (vSh 4) (vC (.int 0))) (vC (.str " "))) (b2 ixD (vSh 4) (vC (.int 1)))) (vC (.str " 04"))) (aCons (b2 addD (vSh 3) (vC (.str "\n"))) (aCons (vC (.str "")) aNil))))))))) (sSeq (sSet 5 (b2 addD (vSh 5) (lstF (szF (aCons (b2 addD (b2 addD (b2 addD (b2 ixD (vSh 4) (vC (.int 0))) (vC (.str " "))) (b2 ixD (vSh 4) (vC (.int 1)))) (vC (.str " -1"))) (aCons (b2 addD (b2 addD (b2 addD (b2 ixD (vSh 4) (vC (.int 0))) (vC (.str " "))) (b2 ixD (vSh 4) (vC (.int 1)))) (vC (.str " 1.0"))) (aCons (b2 addD (b2 addD (vSh 3) (vC (.str "; "))) (vSh 3)) aNil))))))) (sSeq (sSet 5 (b2 addD (vSh 5) (lstF (szF (aCons (b2 addD (vC (.str "zz")) (slF (vSh 3) (pS (b1 negD (vC (.int 1)))) pN)) (aCons (b2 addD (b2 addD (vC (.str " ")) (b2 ixD (vSh 4) (vC (.int 1)))) (vC (.str " 1"))) (aCons (b2 addD (b2 ixD (vSh 4) (vC (.int 0))) (vC (.str " abcdefghi 1"))) (aCons (b2 addD (b2 ixD (vSh 4) (vC (.int 0))) (vC (.str "  1"))) (aCons (b2 addD (vSh 3) (vC (.str ";"))) aNil))))))))) (sSeq (sSet 5 (b2 addD (vSh 5) (lstF (szF (aCons (b2 addD (b2 addD (vC (.str "1 ")) (b2 ixD (vSh 4) (vC (.int 1)))) (vC (.str " 1"))) (aCons (b2 addD (b2 addD (b2 addD (b2 ixD (vSh 4) (vC (.int 0))) (vC (.str " "))) (b2 ixD (vSh 4) (vC (.int 1)))) (vC (.str " +1"))) (aCons (b2 addD (b2 addD (b2 addD (b2 ixD (vSh 4) (vC (.int 0))) (vC (.str " "))) (b2 ixD (vSh 4) (vC (.int 1)))) (vC (.str " 1_0"))) aNil))))))) (sSeq (sSet 5 (b2 addD (vSh 5) (lstF (szF (aCons (b2 addD (b2 ixD (vSh 4) (vC (.int 0))) (vC (.str " I 1"))) (aCons (b2 addD (b2 ixD (vSh 4) (vC (.int 0))) (vC (.str " i1 1"))) aNil)))))) (sRet (mF joinD (vC (.str "; ")) (aCons (b2 addD (b2 addD (slF (vSh 0) pN (pS (vSh 2))) (lstF (szF (aCons (b2 ixD (vSh 5) (b2 modD (vSh 1) (vC (.int 24)))) aNil)))) (slF (vSh 0) (pS (b2 addD (vSh 2) (vC (.int 1)))) pN)) aNil))))))))))))
theorem sc__law_spoilt : FnScope ["_law_rows_here", "_law_cell", "_law_at", "_law_row", "_law_words", "_law_some"] ["_law_rows_here", "_law_cell"] (defScope s__law_spoilt) := ⟨rfl, rfl, rfl, by decide +kernel, rfl, by decide +kernel, by decide +kernel⟩
theorem cal__law_spoilt (F : Dfn K mg "_law_spoilt" s__law_spoilt) (B : Bn mg)  : Cal Γ P w K mg base "_law_spoilt" 2 1 (G__law_spoilt) :=
  F.cal (k := 0) sc__law_spoilt (fun _ _ _ _ _ _ us hl => match us, hl with | [_, _], _ => rfl) fun f cdv A outer s H E hr =>
    (dss_cons (ds_set 2 sc__law_spoilt.nd (de_mod (de_fdiv (de_var 1) de_int) (de_callB bd_len rfl B.z_len (by rfl) (da_cons (de_var 0) da_nil)))) (dss_cons (ds_set 3 sc__law_spoilt.nd (de_ix (de_var 0) (de_var 2))) (dss_cons (ds_set 4 sc__law_spoilt.nd (de_bm PySem.F.plainAttrs_str PySem.F.slot_str_split PySem.F.type_str_split md_split (de_var 3) (da_cons de_str da_nil))) (dss_cons (ds_set 5 sc__law_spoilt.nd (DO.de (do_lst (da_cons (de_add (de_var 3) de_str) (da_rep 3 (da_cons (de_ix (de_var 4) de_int) (da_cons (de_add (de_var 3) de_str) (da_cons (de_add (de_add (de_ix (de_var 4) de_int) de_str) (de_ix (de_var 4) de_int)) da_nil))) (by decide) (by decide +kernel) (by decide) (by decide)))))) (dss_cons (ds_set 5 sc__law_spoilt.nd (de_add (de_var 5) (DO.de (do_lst (da_cons (de_upper (de_var 3)) (da_cons (de_add (de_add de_str (de_ix (de_var 4) de_int)) de_str) (da_cons (de_add (de_add (de_add (de_ix (de_var 4) de_int) de_str) (de_ix (de_var 4) de_int)) de_str) (da_cons (de_add (de_var 3) de_str) (da_cons de_str da_nil))))))))) (dss_cons (ds_set 5 sc__law_spoilt.nd (de_add (de_var 5) (DO.de (do_lst (da_cons (de_add (de_add (de_add (de_ix (de_var 4) de_int) de_str) (de_ix (de_var 4) de_int)) de_str) (da_cons (de_add (de_add (de_add (de_ix (de_var 4) de_int) de_str) (de_ix (de_var 4) de_int)) de_str) (da_cons (de_add (de_add (de_var 3) de_str) (de_var 3)) da_nil))))))) (dss_cons (ds_set 5 sc__law_spoilt.nd (de_add (de_var 5) (DO.de (do_lst (da_cons (de_add de_str (de_slice (de_var 3) (dp_some (de_negI de_int)) dp_none)) (da_cons (de_add (de_add de_str (de_ix (de_var 4) de_int)) de_str) (da_cons (de_add (de_ix (de_var 4) de_int) de_str) (da_cons (de_add (de_ix (de_var 4) de_int) de_str) (da_cons (de_add (de_var 3) de_str) da_nil))))))))) (dss_cons (ds_set 5 sc__law_spoilt.nd (de_add (de_var 5) (DO.de (do_lst (da_cons (de_add (de_add de_str (de_ix (de_var 4) de_int)) de_str) (da_cons (de_add (de_add (de_add (de_ix (de_var 4) de_int) de_str) (de_ix (de_var 4) de_int)) de_str) (da_cons (de_add (de_add (de_add (de_ix (de_var 4) de_int) de_str) (de_ix (de_var 4) de_int)) de_str) da_nil))))))) (dss_cons (ds_set 5 sc__law_spoilt.nd (de_add (de_var 5) (DO.de (do_lst (da_cons (de_add (de_ix (de_var 4) de_int) de_str) (da_cons (de_add (de_ix (de_var 4) de_int) de_str) da_nil)))))) (dss_one (ds_ret (de_bm PySem.F.plainAttrs_str PySem.F.slot_str_join PySem.F.type_str_join md_join de_str (da_cons (de_add (de_add (de_slice (de_var 0) dp_none (dp_some (de_var 2))) (DO.de (do_lst (da_cons (de_ix (de_var 5) (de_mod (de_var 1) de_int)) da_nil)))) (de_slice (de_var 0) (dp_some (de_add (de_var 2) de_int)) dp_none)) da_nil)))))))))))))
noncomputable def G_law (F__law_rows : List D -> Option D) (F_read_plan : List D -> Option D) (F__law_refused : List D -> Option D) (F__law_spoilt : List D -> Option D) : List D -> Option D := runD 3
    (sSeq (sFor (itF (b2 addD (lstF (szF (aCons (vC (.int 3)) aNil))) (slF (vSh 0) pN (pS (vC (.int 60)))))) (gSet 1) (sSeq (sSet 2 (lstF (compF (itE (cF F__law_rows (aCons (b2 fdivD (vSh 1) (vC (.int 100))) aNil))) (gTupD 2 (gsCons (gSet 0) (gsCons (gSet 1) gsNil))) tT (b2 addD (b2 addD (vSh 1) (vC (.str " "))) (cF strD (aCons (b2 mulD (b2 modD (b2 fdivD (vSh 2) (vC (.int 7))) (vC (.int 9))) (vSh 0)) aNil))) [none, none, some 1]))) (sSeq (sIf (orT (toB (b2 neD (cF lenKD (aCons (cF (noTyD F_read_plan) (aCons (mF joinD (vC (.str "; ")) (aCons (vSh 2) aNil)) aNil)) aNil)) (cF lenD (aCons (vSh 2) aNil)))) (toB (b2 dNeD (cF (noTyD F_read_plan) (aCons (vC (.str "")) aNil)) (vC (.dk []))))) (sRet (vC (.bl false))) sNil) (sSeq (sIf (andT (toB (b2 gtD (cF lenD (aCons (vSh 2) aNil)) (vC (.int 1)))) (notT (toB (cF F__law_refused (aCons (mF joinD (vC (.str "; ")) (aCons (b1 revD (vSh 2)) aNil)) aNil))))) (sRet (vC (.bl false))) sNil) (sSeq (sSet 3 (cF F__law_spoilt (aCons (vSh 2) (aCons (vSh 1) aNil)))) (sSeq (sIf (andT (toB (b2 neD (vSh 3) (vC (.str "")))) (notT (toB (cF F__law_refused (aCons (vSh 3) aNil))))) (sRet (vC (.bl false))) sNil) (sIf (notT (toB (cF F__law_refused (aCons (b2 ixD (lstF (szF (aCons (vC .non) (aCons (vC (.int 5)) (aCons (vC (.bl true)) (aCons (lstF (szF (aCons (vC (.str "a b 1")) aNil))) (aCons (tupF (szF (aCons (vC (.str "a")) aNil))) (aCons (vC (.dk [])) (aCons (vC (.int 9)) aNil))))))))) (b2 modD (vSh 1) (vC (.int 7)))) aNil)))) (sRet (vC (.bl false))) sNil))))))) (sRet (vC (.bl true))))
theorem sc_law : FnScope ["_law_script", "_law_cell", "_law_rows_here", "_law_text"] ["_law_script"] (defScope s_law) := ⟨rfl, rfl, rfl, by decide +kernel, rfl, by decide +kernel, by decide +kernel⟩
theorem bod_law {F__law_rows : List D -> Option D} {F_read_plan : List D -> Option D} {F__law_refused : List D -> Option D} {F__law_spoilt : List D -> Option D} (B : Bn mg) (c__law_rows : Cal Γ P w K mg base "_law_rows" 1 1 F__law_rows) {CP : Addr} (c_read_plan : CalX Γ P w K mg base "read_plan" 1 3 F_read_plan "NoPlan" CP) (c__law_refused : Cal Γ P w K mg base "_law_refused" 1 4 F__law_refused) (c__law_spoilt : Cal Γ P w K mg base "_law_spoilt" 2 1 F__law_spoilt) (f : Addr) (cdv : Value) (A : Around) (outer : List Env) (s : Shared) (H : Hp) (E : XK) (hr : Room 4 (A.deeper (envOfC "law" (defScope s_law) s.heap.objs.size f cdv))) : DSs Γ (cxOf CX0 P w K mg base ["_law_script", "_law_cell", "_law_rows_here", "_law_text"] "law" (defScope s_law) f cdv A outer s H E).nox (defBody s_law)
    (sSeq (sFor (itF (b2 addD (lstF (szF (aCons (vC (.int 3)) aNil))) (slF (vSh 0) pN (pS (vC (.int 60)))))) (gSet 1) (sSeq (sSet 2 (lstF (compF (itE (cF F__law_rows (aCons (b2 fdivD (vSh 1) (vC (.int 100))) aNil))) (gTupD 2 (gsCons (gSet 0) (gsCons (gSet 1) gsNil))) tT (b2 addD (b2 addD (vSh 1) (vC (.str " "))) (cF strD (aCons (b2 mulD (b2 modD (b2 fdivD (vSh 2) (vC (.int 7))) (vC (.int 9))) (vSh 0)) aNil))) [none, none, some 1]))) (sSeq (sIf (orT (toB (b2 neD (cF lenKD (aCons (cF (noTyD F_read_plan) (aCons (mF joinD (vC (.str "; ")) (aCons (vSh 2) aNil)) aNil)) aNil)) (cF lenD (aCons (vSh 2) aNil)))) (toB (b2 dNeD (cF (noTyD F_read_plan) (aCons (vC (.str "")) aNil)) (vC (.dk []))))) (sRet (vC (.bl false))) sNil) (sSeq (sIf (andT (toB (b2 gtD (cF lenD (aCons (vSh 2) aNil)) (vC (.int 1)))) (notT (toB (cF F__law_refused (aCons (mF joinD (vC (.str "; ")) (aCons (b1 revD (vSh 2)) aNil)) aNil))))) (sRet (vC (.bl false))) sNil) (sSeq (sSet 3 (cF F__law_spoilt (aCons (vSh 2) (aCons (vSh 1) aNil)))) (sSeq (sIf (andT (toB (b2 neD (vSh 3) (vC (.str "")))) (notT (toB (cF F__law_refused (aCons (vSh 3) aNil))))) (sRet (vC (.bl false))) sNil) (sIf (notT (toB (cF F__law_refused (aCons (b2 ixD (lstF (szF (aCons (vC .non) (aCons (vC (.int 5)) (aCons (vC (.bl true)) (aCons (lstF (szF (aCons (vC (.str "a b 1")) aNil))) (aCons (tupF (szF (aCons (vC (.str "a")) aNil))) (aCons (vC (.dk [])) (aCons (vC (.int 9)) aNil))))))))) (b2 modD (vSh 1) (vC (.int 7)))) aNil)))) (sRet (vC (.bl false))) sNil))))))) (sRet (vC (.bl true)))) :=
    (dss_cons (ds_for PassesOwn.never rfl (di_seq (de_add (DO.de (do_lst (da_cons de_int da_nil))) (de_slice (de_var 0) dp_none (dp_some de_int)))) (dg_name 1 sc_law.nd) (dss_cons (ds_lc 2 sc_law.nd rfl (CompScope.of rfl rfl) (FvOk.of (N' := ["_law_k", "_law_row", "_law_cell"]) (fv := [none, none, some 1]) rfl) (di_enum rfl B.z_enumerate (de_cal c__law_rows hr (by decide) rfl (da_cons (de_fdiv (de_var 1) de_int) da_nil) ln1)) ⟨fun _ _ _ _ _ => ⟨(dg_tup (n := 2) rfl (dgs_cons (dg_name 0 (show (["_law_k", "_law_row", "_law_cell"] : List Str).Nodup by decide +kernel)) (dgs_cons (dg_name 1 (show (["_law_k", "_law_row", "_law_cell"] : List Str).Nodup by decide +kernel)) dgs_nil))), dts_nil, (de_add (de_add (de_var 1) de_str) (de_callTy td_str rfl B.z_str (by rfl) (da_cons (de_mul (de_mod (de_fdiv (de_var 2) de_int) de_int) (de_var 0)) da_nil)))⟩⟩) (dss_cons (ds_if (DW.dt (dw_or (dt_cmp cd_ne (de_callB bd_lenK rfl B.z_len (by rfl) (da_cons (de_cal (c_read_plan).cal hr (by decide) rfl (da_cons (de_bm PySem.F.plainAttrs_str PySem.F.slot_str_join PySem.F.type_str_join md_join de_str (da_cons (de_var 2) da_nil)) da_nil) ln1) da_nil)) (de_callB bd_len rfl B.z_len (by rfl) (da_cons (de_var 2) da_nil)) (nomark _)) (dw_or1 (dt_cmp (cd_dne (hu66 hr)) (de_cal (c_read_plan).cal hr (by decide) rfl (da_cons de_str da_nil) ln1) de_dict0 (nomark _))))) (dss_one (ds_ret de_bl)) dss_nil) (dss_cons (ds_if (DW.dt (dw_and (dt_cmp cd_gt (de_callB bd_len rfl B.z_len (by rfl) (da_cons (de_var 2) da_nil)) de_int (nomark _)) (dw_and1 (dt_not (dt_val (de_cal c__law_refused hr (by decide) rfl (da_cons (de_bm PySem.F.plainAttrs_str PySem.F.slot_str_join PySem.F.type_str_join md_join de_str (da_cons (de_rev (de_var 2)) da_nil)) da_nil) ln1)))))) (dss_one (ds_ret de_bl)) dss_nil) (dss_cons (ds_set 3 sc_law.nd (de_cal c__law_spoilt hr (by decide) rfl (da_cons (de_var 2) (da_cons (de_var 1) da_nil)) ln2)) (dss_cons (ds_if (DW.dt (dw_and (dt_cmp cd_ne (de_var 3) de_str (nomark _)) (dw_and1 (dt_not (dt_val (de_cal c__law_refused hr (by decide) rfl (da_cons (de_var 3) da_nil) ln1)))))) (dss_one (ds_ret de_bl)) dss_nil) (dss_one (ds_if (dt_not (dt_val (de_cal c__law_refused hr (by decide) rfl (da_cons (de_ix (DO.de (do_lst (da_cons de_non (da_cons de_int (da_cons de_bl (da_cons (DO.de (do_lst (da_cons de_str da_nil))) (da_cons (de_tup (da_cons de_str da_nil)) (da_cons de_dict0 (da_cons de_int da_nil))))))))) (de_mod (de_var 1) de_int)) da_nil) ln1))) (dss_one (ds_ret de_bl)) dss_nil)))))))) (dss_one (ds_ret de_bl)))
end Law
end
section
namespace Law
open PySem L2 PySem.Spec PyProof.Rows
noncomputable def F__law_rows : List D -> Option D := G__law_rows
noncomputable def F_is_numeral : List D -> Option D := G_is_numeral
noncomputable def F_is_name : List D -> Option D := G_is_name
noncomputable def F_is_plan_row : List D -> Option D := G_is_plan_row F_is_numeral F_is_name
noncomputable def F_number_of : List D -> Option D := G_number_of
noncomputable def F_read_plan : List D -> Option D := G_read_plan F_is_plan_row F_number_of
noncomputable def F__law_refused : List D -> Option D := G__law_refused F_read_plan
noncomputable def F__law_spoilt : List D -> Option D := G__law_spoilt
noncomputable def F_law : List D -> Option D := G_law F__law_rows F_read_plan F__law_refused F__law_spoilt
end Law
end
section
namespace Law
open PySem L2 PySem.StrLaws PySem.Builtin.Str
theorem at_of {x y : Str} {k : Nat} {l : List Nat} (hk : k <= x.length) (h : x.cps.toList.drop k = y.cps.toList ++ l) : At x y x.length k := by
  have hy : y.cps.toList.length = y.length := by simp [Str.length]
  have hx : x.cps.toList.length = x.length := by simp [Str.length]
  refine ⟨?_, ?_⟩
  · have := congrArg List.length h
    rw [List.length_drop, List.length_append, hy, hx] at this
    omega
  · rw [subAt_eq, h, ← hy, List.take_left]
    simp
theorem strSub_eq {x p : Str} {a b : Nat} {l : List Nat} (h : x.cps.toList.drop a = p.cps.toList ++ l) (hb : b - a = p.length) : strSub x a b = p := by
  apply Str.ext'
  apply Array.toList_inj.mp
  have hp : p.cps.toList.length = p.length := by simp [Str.length]
  rw [strSub_toList, h, hb, ← hp, List.take_left]
theorem join_list (y p q : Str) (r : List Str) : (Str.join y (p :: q :: r)).cps.toList = p.cps.toList ++ (y.cps.toList ++ (Str.join y (q :: r)).cps.toList) := by
  show ((p ++ y ++ Str.join y (q :: r)).cps).toList = _
  simp only [Str.cps_append, Array.toList_append, List.append_assoc]
theorem at_pre2 {x y : Str} {c0 c1 : Nat} (hy : y.cps.toList = [c0, c1]) {k : Nat} (h : At x y x.length k) : x.cps.toList[k]? = some c0 /\ x.cps.toList[k + 1]? = some c1 := by
  have h2 := h.2
  rw [subAt_eq, hy] at h2
  have e := eq_of_beq h2
  have hl : y.length = 2 := by
    have : y.cps.toList.length = 2 := by rw [hy]; rfl
    simpa [Str.length] using this
  have e0 : ((x.cps.toList.drop k).take y.length)[0]? = some c0 := by rw [e]; rfl
  have e1 : ((x.cps.toList.drop k).take y.length)[1]? = some c1 := by rw [e]; rfl
  rw [List.getElem?_take_of_lt (by omega), List.getElem?_drop] at e0 e1
  exact ⟨by simpa using e0, e1⟩
def Ok2 (c0 c1 : Nat) (q : Str) : Prop := ∀ i, q.cps.toList[i]? = some c0 -> q.cps.toList[i + 1]? ≠ some c1
theorem parts_join2 {x y : Str} {c0 c1 : Nat} (hy : y.cps.toList = [c0, c1]) (hne : c0 ≠ c1) : ∀ (ps : List Str) (p : Str) (a : Nat) (cuts : List Nat) (f : Nat), a <= x.length -> x.cps.toList.drop a = (Str.join y (p :: ps)).cps.toList -> (∀ q ∈ p :: ps, Ok2 c0 c1 q) ->
    ChainG x y x.length a cuts f -> (∀ k, f <= k -> ¬ At x y x.length k) -> partsFrom x y.length a cuts = p :: ps
  | [], p, a, cuts, f, ha, hx, hf, hc, hn => by
    have hx' : x.cps.toList.drop a = p.cps.toList := hx
    cases cuts with
    | nil =>
      show [strSub x a x.length] = [p]
      rw [strSub_eq (l := []) (by rw [hx', List.append_nil])]
      have := congrArg List.length hx'
      simp only [List.length_drop, Array.length_toList] at this
      exact this
    | cons c r =>
      obtain ⟨h1, h3⟩ := at_pre2 hy hc.2.1
      have h2 : (x.cps.toList.drop a)[c - a]? = some c0 := by rw [List.getElem?_drop, Nat.add_sub_cancel' hc.1]; exact h1
      have h4 : (x.cps.toList.drop a)[c - a + 1]? = some c1 := by rw [List.getElem?_drop, show a + (c - a + 1) = c + 1 by have := hc.1; omega]; exact h3
      rw [hx'] at h2 h4
      exact absurd h4 (hf p List.mem_cons_self _ h2)
  | q :: ps, p, a, cuts, f, ha, hx, hf, hc, hn => by
    rw [join_list] at hx
    have hpl : p.cps.toList.length = p.length := by simp [Str.length]
    have hyl : y.cps.toList.length = y.length := by simp [Str.length]
    have hd : x.cps.toList.drop (a + p.length) = y.cps.toList ++ (Str.join y (q :: ps)).cps.toList := by
      rw [← List.drop_drop, hx, ← hpl, List.drop_left]
    have hle : a + p.length <= x.length := by
      have := congrArg List.length hx
      rw [List.length_drop, List.length_append, hpl] at this
      have hx2 : x.cps.toList.length = x.length := by simp [Str.length]
      omega
    have hA : At x y x.length (a + p.length) := at_of hle hd
    have low : ∀ k, a <= k -> At x y x.length k -> a + p.length <= k := fun k hk h => by
      rcases Nat.lt_or_ge k (a + p.length) with z | z
      · obtain ⟨h1, h3⟩ := at_pre2 hy h
        have h2 : (x.cps.toList.drop a)[k - a]? = some c0 := by rw [List.getElem?_drop, Nat.add_sub_cancel' hk]; exact h1
        have h4 : (x.cps.toList.drop a)[k - a + 1]? = some c1 := by rw [List.getElem?_drop, show a + (k - a + 1) = k + 1 by omega]; exact h3
        rw [hx, List.getElem?_append_left (by rw [hpl]; omega)] at h2
        rw [hx] at h4
        rcases Nat.lt_or_ge (k - a + 1) p.length with z2 | z2
        · rw [List.getElem?_append_left (by rw [hpl]; omega)] at h4
          exact absurd h4 (hf p List.mem_cons_self _ h2)
        · rw [List.getElem?_append_right (by rw [hpl]; omega), hpl, show k - a + 1 - p.length = 0 by omega, hy] at h4
          exact absurd (Option.some.inj h4) hne
      · exact z
    cases cuts with
    | nil =>
      have e : f = a := hc
      subst e
      exact absurd hA (hn _ (Nat.le_add_right _ _))
    | cons c r =>
      obtain ⟨c1', c2, c3, c4⟩ := hc
      have e : c = a + p.length := by
        have := low c c1' c2
        rcases Nat.lt_or_ge (a + p.length) c with z | z
        · exact absurd hA (c3 _ (Nat.le_add_right _ _) z)
        · omega
      subst e
      show strSub x a (a + p.length) :: partsFrom x y.length (a + p.length + y.length) r = p :: q :: ps
      rw [strSub_eq hx (by omega), parts_join2 hy hne ps q (a + p.length + y.length) r f hA.1 (by rw [← List.drop_drop, hd, ← hyl, List.drop_left]) (fun z hz => hf z (List.mem_cons_of_mem _ hz)) c4 hn]
theorem split_join2 {y : Str} {c0 c1 : Nat} (hy : y.cps.toList = [c0, c1]) (hne : c0 ≠ c1) (hk : Builtin.Str.strKind y = 1) (p : Str) (ps : List Str) (hf : ∀ q ∈ p :: ps, Ok2 c0 c1 q) : Txt.split (Txt.join y (p :: ps)) y = p :: ps := by
  have ej : Txt.join y (p :: ps) = Str.join y (p :: ps) := glued_eq_join y _
  rw [ej]
  generalize hX : Str.join y (p :: ps) = x
  have hyl : 1 <= y.length := by
    have : y.cps.toList.length = [c0, c1].length := by rw [hy]
    simp only [Array.length_toList, List.length_cons] at this
    show 1 <= y.cps.size
    omega
  obtain ⟨f, hc, hn⟩ := occ_tight x y hyl
  have key := parts_join2 hy hne ps p 0 _ f (Nat.zero_le _) (by rw [List.drop_zero, hX]) hf hc hn
  have whole : (occurrences x y 0 x.length (x.length + 1)) = [] -> [x] = p :: ps := fun e => by
    rw [e] at key
    rw [← key]
    show [x] = [strSub x 0 x.length]
    rw [sub_whole]
  unfold Txt.split
  split
  · rename_i h1
    rw [Bool.or_eq_true, decide_eq_true_eq, decide_eq_true_eq] at h1
    apply whole
    cases e : occurrences x y 0 x.length (x.length + 1) with
    | nil => rfl
    | cons c r =>
      rw [e] at hc
      have := hc.2.1.1
      rcases h1 with h1 | h1
      · omega
      · rw [hk] at h1
        have : 1 <= Builtin.Str.strKind x := by unfold Builtin.Str.strKind; split; exact Nat.le_refl _; split <;> decide
        omega
  · split
    · rename_i h2
      exact whole (List.isEmpty_iff.mp h2)
    · rw [partsBetween_eq]; exact key
theorem join_dbl (y p q : Str) (B : List Str) : ∀ A : List Str, Str.join y (A ++ (p ++ y ++ q) :: B) = Str.join y (A ++ p :: q :: B)
  | [] => by
    cases B with
    | nil => rfl
    | cons b r =>
      show (p ++ y ++ q) ++ y ++ Str.join y (b :: r) = p ++ y ++ (q ++ y ++ Str.join y (b :: r))
      simp only [Str.append_assoc]
  | [a] => by
    show a ++ y ++ Str.join y ((p ++ y ++ q) :: B) = a ++ y ++ Str.join y (p :: q :: B)
    rw [show Str.join y ((p ++ y ++ q) :: B) = Str.join y (p :: q :: B) from join_dbl y p q B []]
  | a :: b :: A => by
    show a ++ y ++ Str.join y (b :: A ++ (p ++ y ++ q) :: B) = a ++ y ++ Str.join y (b :: A ++ p :: q :: B)
    rw [join_dbl y p q B (b :: A)]
end Law
end
section
namespace Law
open PySem L2
theorem atI_nat {α : Type} (l : List α) (n : Nat) : atI l (n : Int) = l[n]? := by
  unfold atI ixN
  rw [if_pos (by omega)]
  by_cases h : n < l.length
  · rw [if_pos (by omega)]; simp
  · rw [if_neg (by omega)]; simp; omega
theorem b2_of {g : D -> D -> Option D} {fa fb : FE} {ρ : Env'} {x y z : D} (h1 : fa ρ = some x) (h2 : fb ρ = some y) (h3 : g x y = some z) : b2 g fa fb ρ = some z := by
  unfold b2; rw [h1, Option.bind_some, h2, Option.bind_some]; exact h3
theorem b1_of {g : D -> Option D} {fa : FE} {ρ : Env'} {x z : D} (h1 : fa ρ = some x) (h3 : g x = some z) : b1 g fa ρ = some z := by
  unfold b1; rw [h1]; exact h3
theorem cF_of {g : List D -> Option D} {fr : FA} {ρ : Env'} {ds : List D} {z : D} (h1 : fr ρ = some ds) (h2 : g ds = some z) : cF g fr ρ = some z := by
  unfold cF; rw [h1]; exact h2
theorem mF_of {g : D -> List D -> Option D} {f : FE} {fr : FA} {ρ : Env'} {d : D} {ds : List D} {z : D} (h0 : f ρ = some d) (h1 : fr ρ = some ds) (h2 : g d ds = some z) : mF g f fr ρ = some z := by
  unfold mF; rw [h0, Option.bind_some, h1]; exact h2
theorem cons_of {f : FE} {fr : FA} {ρ : Env'} {d : D} {ds : List D} (h1 : f ρ = some d) (h2 : fr ρ = some ds) : aCons f fr ρ = some (d :: ds) := by
  unfold aCons; rw [h1, Option.bind_some, h2]; rfl
theorem one_of {f : FE} {ρ : Env'} {d : D} (h1 : f ρ = some d) : aCons f aNil ρ = some [d] := cons_of h1 rfl
theorem run_of {n : Nat} {g : FS} {ds : List D} {d : D} {ρ' : Env'} (h : g (ds.map (fun d => some (Slot.sh d)) ++ List.replicate n none) = some (.rt d, ρ')) : runD n g ds = some d := by
  unfold runD; rw [h]; rfl
theorem run_to {n : Nat} {g : FS} {ds : List D} {d : D} (ρ : Env') {ρ' : Env'} (e : ds.map (fun d => some (Slot.sh d)) ++ List.replicate n none = ρ) (h : g ρ = some (.rt d, ρ')) : runD n g ds = some d := by
  subst e; exact run_of h
theorem ret_of {f : FE} {ρ : Env'} {d : D} (h : f ρ = some d) : sRet f ρ = some (.rt d, ρ) := by unfold sRet; rw [h]; rfl
theorem toB_of {f : FE} {ρ : Env'} {b : Bool} (h : f ρ = some (.bl b)) : toB f ρ = some b := by unfold toB; rw [h]; rfl
theorem skip_of {ft : FT} {X E : FS} {ρ : Env'} (h : ft ρ = some false) : sSeq (sIf ft X sNil) E ρ = E ρ := by
  simp only [sSeq, sIf, h, Option.bind_some, Bool.false_eq_true, if_false, sNil]
theorem not_of {A : FE} {ρ : Env'} (hA : A ρ = some (.bl true)) : notT (toB A) ρ = some false := by
  simp only [notT, toB_of hA, Option.map_some, Bool.not_true]
theorem or_of {f g : FT} {ρ : Env'} (h1 : f ρ = some false) (h2 : g ρ = some false) : orT f g ρ = some false := by
  simp only [orT, h1, Option.bind_some, Bool.false_eq_true, if_false, h2]
theorem set_of {i : Nat} {f : FE} {g : FS} {ρ : Env'} {d : D} (h : f ρ = some d) : sSeq (sSet i f) g ρ = g (ρ.set i (some (.sh d))) := by
  simp only [sSeq, sSet, h, Option.map_some, Option.bind_some]
theorem for_of {fi : FA} {gg : FG} {body E : FS} {ρ ρ' : Env'} {xs : List D} (h1 : fi ρ = some xs) (h2 : forL gg body xs ρ = some (.nx, ρ')) : sSeq (sFor fi gg body) E ρ = E ρ' := by
  simp only [sSeq, sFor, h1, Option.bind_some, h2]
theorem seq_of {g g' : FS} {ρ ρ1 : Env'} (h : g ρ = some (.nx, ρ1)) : sSeq g g' ρ = g' ρ1 := by
  simp only [sSeq, h, Option.bind_some]
theorem set1_of {i : Nat} {f : FE} {ρ : Env'} {d : D} (h : f ρ = some d) : sSet i f ρ = some (.nx, ρ.set i (some (.sh d))) := by unfold sSet; rw [h]; rfl
theorem forL_cons {gg : FG} {body : FS} {x : D} {xs : List D} {ρ ρ1 ρ2 : Env'} {R : Option (Fl × Env')} (h1 : gg x ρ = some ρ1) (h2 : body ρ1 = some (.nx, ρ2)) (h3 : forL gg body xs ρ2 = R) : forL gg body (x :: xs) ρ = R := by
  simp only [forL, h1, h2, Option.bind_some]
  exact h3
theorem gSet_of {i : Nat} {d : D} {ρ : Env'} : gSet i d ρ = some (ρ.set i (some (.sh d))) := rfl
theorem sc_cps : ("; " : Str).cps.toList = [59, 32] := by decide +kernel
theorem sp_len : (" " : Str).length = 1 := by decide +kernel
theorem sc_len : ("; " : Str).length = 2 := by decide +kernel
theorem catD_cons {acc y : Str} {d : D} {r : List D} (h1 : txtD d = some y) (h2 : (acc ++ y).length <= sizeLine) : catD acc (d :: r) = catD (acc ++ y) r := by
  unfold catD
  rw [h1, Option.bind_some, if_pos h2]
  cases r <;> rfl
theorem txt_str {y : Str} (h : y.length <= 1000) : txtD (.str y) = some y := if_pos (by unfold sizeLine; omega)
theorem strs_map : ∀ ys : List Str, strsD (ys.map D.str) = some ys
  | [] => rfl
  | y :: r => by
    show (strsD (r.map D.str)).map (y :: ·) = _
    rw [strs_map r]
    rfl
theorem join_ok {sep : Str} {ys : List Str} {B : Nat} (hB : ∀ y ∈ ys, y.length <= B) (hb : B <= 1000) (hs : sep.length <= 10) (hl : ys.length <= 100) : joinD (.str sep) [.lst (ys.map D.str)] = some (.str (Txt.join sep ys)) := by
  show ((strsD (ys.map D.str)).bind fun ys => if (ys.map (·.length)).sum + ys.length * sep.length <= 16777216 then some (D.str (Txt.join sep ys)) else none) = _
  have h1 := StrLaws.sumLen_le (B := B) ys hB
  have h2 : ys.length * B <= 100 * 1000 := Nat.mul_le_mul hl hb
  have h3 : ys.length * sep.length <= 100 * 10 := Nat.mul_le_mul hl hs
  rw [strs_map, Option.bind_some, if_pos (by omega)]
theorem put_of {i : Nat} {fk fv : FE} {ρ : Env'} {l : List (Key × D)} {x : Str} {d : D} (hi : ρ[i]? = some (some (.odk l))) (hv : fv ρ = some d) (hk : fk ρ = some (.str x)) (hl : l.length < 100000) : sDPutO i fk fv ρ = some (.nx, ρ.set i (some (.odk (putG l (Sum.inr x) d)))) := by
  unfold sDPutO
  rw [hv, Option.bind_some, hk, Option.bind_some, hi]
  show ((some (Sum.inr x : Key)).bind fun k => if l.length < 100000 then some (Fl.nx, ρ.set i (some (.odk (putG l k d)))) else none) = _
  rw [Option.bind_some, if_pos hl]
theorem split_of {x y : Str} (h1 : y.length ≠ 0) (h2 : x.length <= 1000000) : splitD (.str x) [.str y] = some (.lst ((Txt.split x y).map D.str)) := if_pos ⟨h1, h2⟩
theorem join_len (sep : Str) (B : Nat) : ∀ ys : List Str, (∀ y ∈ ys, y.length <= B) -> (Str.join sep ys).length <= ys.length * (B + sep.length)
  | [], _ => by show 0 <= _; omega
  | [x], h => by
    show x.length <= _
    have := h x List.mem_cons_self
    simp only [List.length_cons, List.length_nil, Nat.zero_add, Nat.one_mul]
    omega
  | x :: y :: r, h => by
    have ih := join_len sep B (y :: r) fun z hz => h z (List.mem_cons_of_mem _ hz)
    have hx := h x List.mem_cons_self
    show (x ++ sep ++ Str.join sep (y :: r)).length <= _
    rw [Str.length_append, Str.length_append, List.length_cons, Nat.add_mul, Nat.one_mul]
    omega
end Law
end
section
namespace Law
open PySem L2
noncomputable def rdX : FS := sSeq (noTy (sSet 4 (mF splitD (vSh 3) (aCons (vC (.str " ")) aNil)))) (sSeq (sIf (notT (toB (cF F_is_plan_row (aCons (vSh 4) aNil)))) (sRaise "NoPlan" (aCons (fsF (aCons (vC (.str "no row of a plan: ")) (aCons (b1 repD (vSh 3)) aNil))) aNil)) sNil) (sSeq (sIf (toB (b2 leD (b2 ixD (vSh 4) (vC (.int 0))) (vSh 2))) (sRaise "NoPlan" (aCons (fsF (aCons (vC (.str "not behind ")) (aCons (vSh 2) (aCons (vC (.str ": ")) (aCons (b1 repD (vSh 3)) aNil))))) aNil)) sNil) (sSeq (noTy (sDPutO 1 (b2 ixD (vSh 4) (vC (.int 0))) (tupF (szF (aCons (b2 ixD (vSh 4) (vC (.int 1))) (aCons (cF F_number_of (aCons (b2 ixD (vSh 4) (vC (.int 2))) aNil)) aNil)))))) (noTy (sSet 2 (b2 ixD (vSh 4) (vC (.int 0))))))))
structure GR (row w0 w1 w2 : Str) : Prop where
  len : row.length <= 100
  len0 : w0.length <= 100
  rep : (reprText row).length <= 1000
  ok2 : Ok2 59 32 row
  sp : Txt.split row " " = [w0, w1, w2]
  ok : F_is_plan_row [.lst [.str w0, .str w1, .str w2]] = some (.bl true)
  num : ∃ v, F_number_of [.str w2] = some (.int v)
structure BR (row : Str) : Prop where
  len : row.length <= 100
  rep : (reprText row).length <= 1000
  ok2 : Ok2 59 32 row
  no : F_is_plan_row [.lst ((Txt.split row " ").map D.str)] = some (.bl false)
theorem noTy_nx {g : FS} {ρ ρ' : Env'} (h : g ρ = some (.nx, ρ')) : noTy g ρ = some (.nx, ρ') := by unfold noTy; rw [h]
theorem notF_of {A : FE} {ρ : Env'} (hA : A ρ = some (.bl false)) : notT (toB A) ρ = some true := by unfold notT toB; rw [hA]; rfl
theorem rep_of {row : Str} (h : (reprText row).length <= 1000) : repD (.str row) = some (.str (reprText row)) := if_pos (by omega)
theorem raise_of {ft : FT} {fr : FA} {E : FS} {ρ : Env'} {ds : List D} (h : ft ρ = some true) (hf : fr ρ = some ds) : sSeq (sIf ft (sRaise "NoPlan" fr) sNil) E ρ = some (.rt (.ty "NoPlan"), ρ) := by
  unfold sSeq sIf sRaise
  rw [h, Option.bind_some, if_pos rfl, hf]
  rfl
theorem e_len : (Str.empty).length = 0 := by decide
theorem words_of {T : D} {l : List (Key × D)} {ah row : Str} {w : Option Slot} (h : row.length <= 100) (g : FS) :
    sSeq (noTy (sSet 4 (mF splitD (vSh 3) (aCons (vC (.str " ")) aNil)))) g [some (.sh T), some (.odk l), some (.sh (.str ah)), some (.sh (.str row)), w] = g [some (.sh T), some (.odk l), some (.sh (.str ah)), some (.sh (.str row)), some (.sh (.lst ((Txt.split row " ").map D.str)))] :=
  seq_of (noTy_nx (set1_of (mF_of (d := .str row) (ds := [.str " "]) rfl rfl (split_of (by rw [sp_len]; decide) (by omega)))))
theorem rd_bad {T : D} {l : List (Key × D)} {ah row : Str} {w : Option Slot} (h : BR row) :
    ∃ ρ', rdX [some (.sh T), some (.odk l), some (.sh (.str ah)), some (.sh (.str row)), w] = some (.rt (.ty "NoPlan"), ρ') := by
  have hs : sizeLine = 16777216 := sizeLine_eq
  have h1 := h.rep
  have n1 : ("no row of a plan: " : Str).length = 18 := by decide +kernel
  have hc : catD Str.empty [.str "no row of a plan: ", .str (reprText row)] = some (Str.empty ++ "no row of a plan: " ++ reprText row) := by
    rw [catD_cons (txt_str (y := "no row of a plan: ") (by rw [n1]; omega)) (by simp only [Str.length_append, e_len, n1]; omega), catD_cons (txt_str (by omega)) (by simp only [Str.length_append, e_len, n1]; omega)]
    unfold catD
    rw [if_pos (by simp only [Str.length_append, e_len, n1]; omega)]
  refine ⟨_, (words_of h.len _).trans (raise_of (notF_of (cF_of (ds := [.lst ((Txt.split row " ").map D.str)]) rfl h.no)) (one_of (d := .str (Str.empty ++ "no row of a plan: " ++ reprText row)) ?_))⟩
  unfold fsF
  rw [cons_of (d := .str "no row of a plan: ") rfl (one_of (b1_of (x := .str row) rfl (rep_of h.rep))), Option.bind_some, hc]
  rfl
theorem le_false {x ah : Str} (h : ltS ah x = true) : leD (.str x) (.str ah) = some (.bl false) := by
  show some (D.bl (!ltS ah x)) = _
  rw [h]; rfl
theorem le_true {x ah : Str} (h : ltS ah x = false) : leD (.str x) (.str ah) = some (.bl true) := by
  show some (D.bl (!ltS ah x)) = _
  rw [h]; rfl
theorem rd_good {T : D} {l : List (Key × D)} {ah row w0 w1 w2 : Str} {w : Option Slot} (h : GR row w0 w1 w2) (hlt : ltS ah w0 = true) (hl : l.length < 100) :
    ∃ d, rdX [some (.sh T), some (.odk l), some (.sh (.str ah)), some (.sh (.str row)), w] = some (.nx, [some (.sh T), some (.odk (putG l (Sum.inr w0) d)), some (.sh (.str w0)), some (.sh (.str row)), some (.sh (.lst [.str w0, .str w1, .str w2]))]) := by
  obtain ⟨v, hv⟩ := h.num
  have e0 : ixD (.lst [.str w0, .str w1, .str w2]) (.int 0) = some (.str w0) := atI_nat _ 0
  have e1 : ixD (.lst [.str w0, .str w1, .str w2]) (.int 1) = some (.str w1) := atI_nat _ 1
  have e2 : ixD (.lst [.str w0, .str w1, .str w2]) (.int 2) = some (.str w2) := atI_nat _ 2
  refine ⟨.tup [.str w1, .int v], (words_of h.len _).trans ?_⟩
  rw [h.sp]
  show sSeq _ _ [some (.sh T), some (.odk l), some (.sh (.str ah)), some (.sh (.str row)), some (.sh (.lst [.str w0, .str w1, .str w2]))] = _
  refine (skip_of (not_of (cF_of (ds := [.lst [.str w0, .str w1, .str w2]]) rfl h.ok))).trans ?_
  refine (skip_of (toB_of (b2_of (b2_of rfl rfl e0) rfl (le_false hlt)))).trans ?_
  have hv : tupF (szF (aCons (b2 ixD (vSh 4) (vC (.int 1))) (aCons (cF F_number_of (aCons (b2 ixD (vSh 4) (vC (.int 2))) aNil)) aNil))) [some (.sh T), some (.odk l), some (.sh (.str ah)), some (.sh (.str row)), some (.sh (.lst [.str w0, .str w1, .str w2]))] = some (.tup [.str w1, .int v]) := by
    unfold tupF szF
    rw [cons_of (b2_of rfl rfl e1) (one_of (cF_of (one_of (b2_of rfl rfl e2)) hv)), Option.bind_some, if_pos (show [D.str w1, D.int v].length <= sizeLine from (show 2 <= sizeLine by decide))]
    rfl
  refine (seq_of (noTy_nx (put_of (i := 1) (l := l) (x := w0) rfl hv (b2_of rfl rfl e0) (by omega)))).trans ?_
  exact noTy_nx (set1_of (b2_of rfl rfl e0))
theorem rd_late {T : D} {l : List (Key × D)} {ah row w0 w1 w2 : Str} {w : Option Slot} (h : GR row w0 w1 w2) (hlt : ltS ah w0 = false) (ha : ah.length <= 100) :
    ∃ ρ', rdX [some (.sh T), some (.odk l), some (.sh (.str ah)), some (.sh (.str row)), w] = some (.rt (.ty "NoPlan"), ρ') := by
  have hs : sizeLine = 16777216 := sizeLine_eq
  have h1 := h.rep
  have n1 : ("not behind " : Str).length = 11 := by decide +kernel
  have n2 : (": " : Str).length = 2 := by decide +kernel
  have e0 : ixD (.lst [.str w0, .str w1, .str w2]) (.int 0) = some (.str w0) := atI_nat _ 0
  have hc : catD Str.empty [.str "not behind ", .str ah, .str ": ", .str (reprText row)] = some (Str.empty ++ "not behind " ++ ah ++ ": " ++ reprText row) := by
    rw [catD_cons (txt_str (y := "not behind ") (by rw [n1]; omega)) (by simp only [Str.length_append, e_len, n1]; omega), catD_cons (txt_str (by omega)) (by simp only [Str.length_append, e_len, n1]; omega), catD_cons (txt_str (y := ": ") (by rw [n2]; omega)) (by simp only [Str.length_append, e_len, n1, n2]; omega),
      catD_cons (txt_str (by omega)) (by simp only [Str.length_append, e_len, n1, n2]; omega)]
    unfold catD
    rw [if_pos (by simp only [Str.length_append, e_len, n1, n2]; omega)]
  refine ⟨[some (.sh T), some (.odk l), some (.sh (.str ah)), some (.sh (.str row)), some (.sh (.lst [.str w0, .str w1, .str w2]))], (words_of h.len _).trans ?_⟩
  · rw [h.sp]
    show sSeq _ _ [some (.sh T), some (.odk l), some (.sh (.str ah)), some (.sh (.str row)), some (.sh (.lst [.str w0, .str w1, .str w2]))] = _
    refine (skip_of (not_of (cF_of (ds := [.lst [.str w0, .str w1, .str w2]]) rfl h.ok))).trans ?_
    refine raise_of (toB_of (b2_of (b2_of rfl rfl e0) rfl (le_true hlt))) (one_of (d := .str (Str.empty ++ "not behind " ++ ah ++ ": " ++ reprText row)) ?_)
    unfold fsF
    rw [cons_of (d := .str "not behind ") rfl (cons_of (d := .str ah) rfl (cons_of (d := .str ": ") rfl (one_of (b1_of (x := .str row) rfl (rep_of h.rep))))), Option.bind_some, hc]
    rfl
end Law
end
section
namespace Law
open PySem L2
theorem putG_len {l : List (Key × D)} {k : Key} {d : D} (h : k ∉ l.map (·.1)) : (putG l k d).map (·.1) = l.map (·.1) ++ [k] := by
  unfold putG
  have : (l.any fun kv => decide (kv.1 = k)) = false := by
    rw [List.any_eq_false]
    intro kv hkv
    simp only [decide_eq_true_eq]
    intro e
    exact h (List.mem_map.mpr ⟨kv, hkv, e⟩)
  rw [this, if_neg Bool.false_ne_true, List.map_append]
  rfl
section
variable {R A B C : Nat -> Str} {T : D}
theorem rd_pre : ∀ (zs : List Nat) (l : List (Key × D)) (ah : Str) (r w : Option Slot), (∀ k ∈ zs, GR (R k) (A k) (B k) (C k)) -> (∀ k ∈ zs, ltS ah (A k) = true) -> zs.Pairwise (fun i j => ltS (A i) (A j) = true /\ A i ≠ A j) -> (∀ k ∈ zs, (Sum.inr (A k) : Key) ∉ l.map (·.1)) -> ah.length <= 100 -> l.length + zs.length < 100 ->
    ∃ l' ah' r' w', l'.length = l.length + zs.length /\ ah'.length <= 100 /\ ((zs = [] /\ ah' = ah) \/ ∃ k ∈ zs.getLast?, ah' = A k) /\ ∀ tl : List D, forL (gSet 3) rdX ((zs.map R).map D.str ++ tl) [some (.sh T), some (.odk l), some (.sh (.str ah)), r, w] = forL (gSet 3) rdX tl [some (.sh T), some (.odk l'), some (.sh (.str ah')), r', w']
  | [], l, ah, r, w, _, _, _, _, ha, _ => ⟨l, ah, r, w, rfl, ha, .inl ⟨rfl, rfl⟩, fun _ => rfl⟩
  | k :: zs, l, ah, r, w, h1, h2, h3, h4, ha, h5 => by
    rw [List.length_cons] at h5
    rw [List.pairwise_cons] at h3
    obtain ⟨d, hd⟩ := rd_good (T := T) (l := l) (w := w) (h1 k List.mem_cons_self) (h2 k List.mem_cons_self) (by omega)
    have hk := putG_len (d := d) (h4 k List.mem_cons_self)
    have hlen : (putG l (Sum.inr (A k)) d).length = l.length + 1 := by
      have := congrArg List.length hk
      simpa using this
    obtain ⟨l', ah', r', w', e1, e2, e3, e4⟩ := rd_pre zs (putG l (Sum.inr (A k)) d) (A k) (some (.sh (.str (R k)))) (some (.sh (.lst [.str (A k), .str (B k), .str (C k)]))) (fun j hj => h1 j (List.mem_cons_of_mem _ hj)) (fun j hj => (h3.1 j hj).1) h3.2 (fun j hj z => by
      rw [hk] at z
      rcases List.mem_append.mp z with z | z
      · exact h4 j (List.mem_cons_of_mem _ hj) z
      · exact (h3.1 j hj).2 (Sum.inr.inj (List.mem_singleton.mp z)).symm) (h1 k List.mem_cons_self).len0 (by rw [hlen]; omega)
    refine ⟨l', ah', r', w', by rw [e1, hlen, List.length_cons]; omega, e2, ?_, fun tl => ?_⟩
    · right
      rcases e3 with ⟨rfl, e3⟩ | ⟨j, hj, e3⟩
      · exact ⟨k, rfl, e3⟩
      · cases zs with
        | nil => cases hj
        | cons z zs' => exact ⟨j, by rw [List.getLast?_cons_cons]; exact hj, e3⟩
    · rw [List.map_cons, List.map_cons, List.cons_append]
      exact forL_cons gSet_of hd (e4 tl)
theorem rd_start {x : Str} (hx : x ≠ "") (hl : x.length <= 1000000) {ρ' : Env'} (h : forL (gSet 3) rdX ((Txt.split x "; ").map D.str) [some (.sh (.str x)), some (.odk []), some (.sh (.str "")), none, none] = some (.rt (.ty "NoPlan"), ρ')) : F_read_plan [.str x] = some (.ty "NoPlan") := by
  have hne2 : toB (b2 eqD (vSh 0) (vC (.str ""))) [some (.sh (.str x)), some (.odk []), none, none, none] = some false :=
    toB_of (b2_of (x := .str x) (y := .str "") rfl rfl (by show some (D.bl (decide (x = ""))) = _; rw [decide_eq_false hx]))
  have hit : itF (mF splitD (vSh 0) (aCons (vC (.str "; ")) aNil)) [some (.sh (.str x)), some (.odk []), some (.sh (.str "")), none, none] = some ((Txt.split x "; ").map D.str) := by
    unfold itF
    rw [mF_of (d := .str x) (ds := [.str "; "]) rfl rfl (split_of (by rw [sc_len]; decide) hl)]
    rfl
  have e1 : ∀ E : FS, sSeq (sFor (itF (mF splitD (vSh 0) (aCons (vC (.str "; ")) aNil))) (gSet 3) rdX) E [some (.sh (.str x)), some (.odk []), some (.sh (.str "")), none, none] = some (.rt (.ty "NoPlan"), ρ') := fun E => by
    unfold sSeq sFor
    rw [hit, Option.bind_some, h]
    rfl
  refine run_to [some (.sh (.str x)), none, none, none, none] rfl (ρ' := ρ') ((skip_of (not_of rfl)).trans ((seq_of (ρ1 := [some (.sh (.str x)), some (.odk []), none, none, none]) (noTy_nx rfl)).trans ((skip_of hne2).trans ((seq_of (noTy_nx (set1_of (d := .str "") rfl))).trans (e1 _)))))
theorem rd_done {x : Str} (hx : x ≠ "") (hl : x.length <= 1000000) {l : List (Key × D)} {a r w : Option Slot} (h : forL (gSet 3) rdX ((Txt.split x "; ").map D.str) [some (.sh (.str x)), some (.odk []), some (.sh (.str "")), none, none] = some (.nx, [some (.sh (.str x)), some (.odk l), a, r, w])) : F_read_plan [.str x] = some (.dk l) := by
  have hne2 : toB (b2 eqD (vSh 0) (vC (.str ""))) [some (.sh (.str x)), some (.odk []), none, none, none] = some false :=
    toB_of (b2_of (x := .str x) (y := .str "") rfl rfl (by show some (D.bl (decide (x = ""))) = _; rw [decide_eq_false hx]))
  have hit : itF (mF splitD (vSh 0) (aCons (vC (.str "; ")) aNil)) [some (.sh (.str x)), some (.odk []), some (.sh (.str "")), none, none] = some ((Txt.split x "; ").map D.str) := by
    unfold itF
    rw [mF_of (d := .str x) (ds := [.str "; "]) rfl rfl (split_of (by rw [sc_len]; decide) hl)]
    rfl
  have e1 : ∃ ρ', sSeq (sFor (itF (mF splitD (vSh 0) (aCons (vC (.str "; ")) aNil))) (gSet 3) rdX) (noTy (sFrzD 1 (sRet (vSh 1)))) [some (.sh (.str x)), some (.odk []), some (.sh (.str "")), none, none] = some (.rt (.dk l), ρ') := ⟨_, (for_of hit h).trans rfl⟩
  obtain ⟨ρ', e1⟩ := e1
  refine run_to [some (.sh (.str x)), none, none, none, none] rfl (ρ' := ρ') ((skip_of (not_of rfl)).trans ((seq_of (ρ1 := [some (.sh (.str x)), some (.odk []), none, none, none]) (noTy_nx rfl)).trans ((skip_of hne2).trans ((seq_of (noTy_nx (set1_of (d := .str "") rfl))).trans e1))))
end
end Law
end
section
namespace Law
open PySem L2
def W0 (k m : Nat) : Str := ⟨(List.replicate (m + 1) (97 + k)).toArray⟩
def W1 (k : Nat) : Str := ⟨(105 :: List.replicate (k % 3) 106).toArray⟩
def W2 (k c : Nat) : Str := ⟨((Nat.toDigits 10 (c * k)).map Char.toNat).toArray⟩
def RowS (k m c : Nat) : Str := ⟨((W0 k m).cps.toList ++ 32 :: ((W1 k).cps.toList ++ 32 :: (W2 k c).cps.toList)).toArray⟩
def isT : Option D -> Bool
  | some (.bl b) => b
  | _ => false
def isF : Option D -> Bool
  | some (.bl b) => !b
  | _ => false
def isI : Option D -> Bool
  | some (.int _) => true
  | _ => false
theorem isT_of {o : Option D} (h : isT o = true) : o = some (.bl true) := by
  unfold isT at h
  split at h
  · subst h; rfl
  · cases h
theorem isF_of {o : Option D} (h : isF o = true) : o = some (.bl false) := by
  unfold isF at h
  split at h
  · rename_i b
    cases b
    · rfl
    · cases h
  · cases h
theorem isI_of {o : Option D} (h : isI o = true) : ∃ v, o = some (.int v) := by
  unfold isI at h
  split at h
  · exact ⟨_, rfl⟩
  · cases h
def ok2b : List Nat -> Bool
  | [] => true
  | [_] => true
  | a :: b :: r => !(a == 59 && b == 32) && ok2b (b :: r)
theorem ok2b_of : ∀ {l : List Nat}, ok2b l = true -> ∀ i, l[i]? = some 59 -> l[i + 1]? ≠ some 32
  | [], _, i, h => by simp at h
  | [_], _, i, h => by simp
  | a :: b :: r, hb, 0, h => by
    simp only [ok2b, Bool.and_eq_true, Bool.not_eq_true', Bool.and_eq_false_iff] at hb
    simp only [List.getElem?_cons_zero, Option.some.injEq] at h
    subst h
    simp only [Nat.zero_add, List.getElem?_cons_succ, List.getElem?_cons_zero, ne_eq, Option.some.injEq]
    intro e
    subst e
    rcases hb.1 with z | z <;> simp at z
  | a :: b :: r, hb, i + 1, h => by
    simp only [ok2b, Bool.and_eq_true] at hb
    simp only [List.getElem?_cons_succ] at h ⊢
    exact ok2b_of hb.2 i h
noncomputable def chkG (k m c : Nat) : Bool := Txt.split (RowS k m c) " " == [W0 k m, W1 k, W2 k c] && isT (F_is_plan_row [.lst [.str (W0 k m), .str (W1 k), .str (W2 k c)]]) && isI (F_number_of [.str (W2 k c)]) && ok2b (RowS k m c).cps.toList && decide ((RowS k m c).length <= 100) && decide ((reprText (RowS k m c)).length <= 1000) && decide ((W0 k m).length <= 100)
theorem chkG_all : ((List.range 5).all fun k => (List.range 3).all fun m => (List.range 9).all fun c => chkG k m c) = true := by decide +kernel
theorem gr_of {k m c : Nat} (hk : k < 5) (hm : m < 3) (hc : c < 9) : GR (RowS k m c) (W0 k m) (W1 k) (W2 k c) := by
  have h := chkG_all
  rw [List.all_eq_true] at h
  have h1 := h k (List.mem_range.mpr hk)
  rw [List.all_eq_true] at h1
  have h2 := h1 m (List.mem_range.mpr hm)
  rw [List.all_eq_true] at h2
  have h3 := h2 c (List.mem_range.mpr hc)
  unfold chkG at h3
  simp only [Bool.and_eq_true, decide_eq_true_eq] at h3
  obtain ⟨⟨⟨⟨⟨⟨a1, a2⟩, a3⟩, a4⟩, a5⟩, a6⟩, a7⟩ := h3
  exact ⟨a5, a7, a6, fun i => ok2b_of a4 i, eq_of_beq a1, isT_of a2, isI_of a3⟩
theorem lt_all : ((List.range 5).all fun k => (List.range 5).all fun j => (List.range 3).all fun m => ltS (W0 j m) (W0 k m) == decide (j < k)) = true := by decide +kernel
theorem lt_W {j k m : Nat} (hj : j < 5) (hk : k < 5) (hm : m < 3) : ltS (W0 j m) (W0 k m) = decide (j < k) := by
  have h := lt_all
  rw [List.all_eq_true] at h
  have h1 := h k (List.mem_range.mpr hk)
  rw [List.all_eq_true] at h1
  have h2 := h1 j (List.mem_range.mpr hj)
  rw [List.all_eq_true] at h2
  exact eq_of_beq (h2 m (List.mem_range.mpr hm))
theorem lt_0all : ((List.range 5).all fun k => (List.range 3).all fun m => ltS "" (W0 k m)) = true := by decide +kernel
theorem lt_0 {k m : Nat} (hk : k < 5) (hm : m < 3) : ltS "" (W0 k m) = true := by
  have h := lt_0all
  rw [List.all_eq_true] at h
  have h1 := h k (List.mem_range.mpr hk)
  rw [List.all_eq_true] at h1
  exact h1 m (List.mem_range.mpr hm)
theorem W_ne {j k m : Nat} (h : j ≠ k) : W0 j m ≠ W0 k m := fun e => by
  have := congrArg (fun s : Str => s.cps.toList[0]?) e
  simp [W0] at this
  exact h this
end Law
end
section
namespace Law
open PySem L2
noncomputable def sA1 : FA := szF (aCons (b2 addD (vSh 3) (vC (.str " "))) (aCons (b2 addD (vC (.str " ")) (vSh 3)) (aCons (b1 (cutD " " "  ") (vSh 3)) (aCons (b2 ixD (vSh 4) (vC (.int 0))) (aCons (b2 addD (vSh 3) (vC (.str " 3"))) (aCons (b2 addD (b2 addD (b2 ixD (vSh 4) (vC (.int 0))) (vC (.str " "))) (b2 ixD (vSh 4) (vC (.int 2)))) aNil))))))
noncomputable def sA2 : FA := szF (aCons (b1 upperD (vSh 3)) (aCons (b2 addD (b2 addD (vC (.str "abcdefghi ")) (b2 ixD (vSh 4) (vC (.int 1)))) (vC (.str " 4"))) (aCons (b2 addD (b2 addD (b2 addD (b2 ixD (vSh 4) (vC (.int 0))) (vC (.str " "))) (b2 ixD (vSh 4) (vC (.int 1)))) (vC (.str " 04"))) (aCons (b2 addD (vSh 3) (vC (.str "\n"))) (aCons (vC (.str "")) aNil)))))
noncomputable def sA3 : FA := szF (aCons (b2 addD (b2 addD (b2 addD (b2 ixD (vSh 4) (vC (.int 0))) (vC (.str " "))) (b2 ixD (vSh 4) (vC (.int 1)))) (vC (.str " -1"))) (aCons (b2 addD (b2 addD (b2 addD (b2 ixD (vSh 4) (vC (.int 0))) (vC (.str " "))) (b2 ixD (vSh 4) (vC (.int 1)))) (vC (.str " 1.0"))) (aCons (b2 addD (b2 addD (vSh 3) (vC (.str "; "))) (vSh 3)) aNil)))
noncomputable def sA4 : FA := szF (aCons (b2 addD (vC (.str "zz")) (slF (vSh 3) (pS (b1 negD (vC (.int 1)))) pN)) (aCons (b2 addD (b2 addD (vC (.str " ")) (b2 ixD (vSh 4) (vC (.int 1)))) (vC (.str " 1"))) (aCons (b2 addD (b2 ixD (vSh 4) (vC (.int 0))) (vC (.str " abcdefghi 1"))) (aCons (b2 addD (b2 ixD (vSh 4) (vC (.int 0))) (vC (.str "  1"))) (aCons (b2 addD (vSh 3) (vC (.str ";"))) aNil)))))
noncomputable def sA5 : FA := szF (aCons (b2 addD (b2 addD (vC (.str "1 ")) (b2 ixD (vSh 4) (vC (.int 1)))) (vC (.str " 1"))) (aCons (b2 addD (b2 addD (b2 addD (b2 ixD (vSh 4) (vC (.int 0))) (vC (.str " "))) (b2 ixD (vSh 4) (vC (.int 1)))) (vC (.str " +1"))) (aCons (b2 addD (b2 addD (b2 addD (b2 ixD (vSh 4) (vC (.int 0))) (vC (.str " "))) (b2 ixD (vSh 4) (vC (.int 1)))) (vC (.str " 1_0"))) aNil)))
noncomputable def sA6 : FA := szF (aCons (b2 addD (b2 ixD (vSh 4) (vC (.int 0))) (vC (.str " I 1"))) (aCons (b2 addD (b2 ixD (vSh 4) (vC (.int 0))) (vC (.str " i1 1"))) aNil))
def rhoS (a b c : Option Slot) (row w0 w1 w2 : Str) (e : Option Slot) : Env' := [a, b, c, some (.sh (.str row)), some (.sh (.lst [.str w0, .str w1, .str w2])), e]
noncomputable def someOf (row w0 w1 w2 : Str) : Option (List D) := (sA1 (rhoS none none none row w0 w1 w2 none)).bind fun l1 => (sA2 (rhoS none none none row w0 w1 w2 none)).bind fun l2 => (sA3 (rhoS none none none row w0 w1 w2 none)).bind fun l3 => (sA4 (rhoS none none none row w0 w1 w2 none)).bind fun l4 => (sA5 (rhoS none none none row w0 w1 w2 none)).bind fun l5 => (sA6 (rhoS none none none row w0 w1 w2 none)).map fun l6 => l1 ++ l2 ++ l3 ++ l4 ++ l5 ++ l6
noncomputable def brb : D -> Bool
  | .str b => decide (b.length <= 100) && decide ((reprText b).length <= 1000) && ok2b b.cps.toList && isF (F_is_plan_row [.lst ((Txt.split b " ").map D.str)])
  | _ => false
def isStr (x : Str) : D -> Bool
  | .str y => y == x
  | _ => false
noncomputable def chkS (k m c : Nat) : Bool := match someOf (RowS k m c) (W0 k m) (W1 k) (W2 k c) with
  | some l => l.length == 24 && (List.range 24).all fun j => match l[j]? with
    | some d => if j = 13 then isStr (RowS k m c ++ "; " ++ RowS k m c) d else brb d
    | none => false
  | none => false
end Law
end
section
namespace Law
theorem chkS_0 : ((List.range 3).all fun m => (List.range 9).all fun c => chkS 0 m c) = true := by decide +kernel
end Law
end
section
namespace Law
theorem chkS_1 : ((List.range 3).all fun m => (List.range 9).all fun c => chkS 1 m c) = true := by decide +kernel
end Law
end
section
namespace Law
theorem chkS_2 : ((List.range 3).all fun m => (List.range 9).all fun c => chkS 2 m c) = true := by decide +kernel
end Law
end
section
namespace Law
theorem chkS_3 : ((List.range 3).all fun m => (List.range 9).all fun c => chkS 3 m c) = true := by decide +kernel
end Law
end
section
namespace Law
theorem chkS_4 : ((List.range 3).all fun m => (List.range 9).all fun c => chkS 4 m c) = true := by decide +kernel
end Law
end
section
namespace Law
open PySem L2
theorem set_seq {i : Nat} {f : FE} {g : FS} {ρ : Env'} {d : D} {R : Option (Fl × Env')} (h : f ρ = some d) (h2 : g (ρ.set i (some (.sh d))) = R) : sSeq (sSet i f) g ρ = R := (set_of h).trans h2
theorem lst_of {fr : FA} {ρ : Env'} {l : List D} (h : fr ρ = some l) : lstF fr ρ = some (.lst l) := by unfold lstF; rw [h]; rfl
theorem add_lst {x y : List D} (h : x.length + y.length <= 1000) : addD (.lst x) (.lst y) = some (.lst (x ++ y)) := if_pos (by have := sizeLine_eq; omega)
section
variable {a b c e : Option Slot} {row w0 w1 w2 : Str}
end
theorem sl_pre (f : Nat -> D) (X : Option Slot) (r : Env') : ∀ (n a : Nat), n < 5 -> a <= n -> slF (vSh 0) pN (pS (vSh 2)) (some (.sh (.lst ((List.range (n + 1)).map f))) :: X :: some (.sh (.int (a : Nat))) :: r) = some (.lst (((List.range (n + 1)).map f).take a))
  | 0, 0, _, _ => rfl
  | 1, 0, _, _ => rfl
  | 1, 1, _, _ => rfl
  | 2, 0, _, _ => rfl
  | 2, 1, _, _ => rfl
  | 2, 2, _, _ => rfl
  | 3, 0, _, _ => rfl
  | 3, 1, _, _ => rfl
  | 3, 2, _, _ => rfl
  | 3, 3, _, _ => rfl
  | 4, 0, _, _ => rfl
  | 4, 1, _, _ => rfl
  | 4, 2, _, _ => rfl
  | 4, 3, _, _ => rfl
  | 4, 4, _, _ => rfl
  | n + 5, a, h, _ => absurd h (by omega)
  | 0, a + 1, _, h => absurd h (by omega)
  | 1, a + 2, _, h => absurd h (by omega)
  | 2, a + 3, _, h => absurd h (by omega)
  | 3, a + 4, _, h => absurd h (by omega)
  | 4, a + 5, _, h => absurd h (by omega)
theorem sl_post (f : Nat -> D) (X : Option Slot) (r : Env') : ∀ (n a : Nat), n < 5 -> a <= n -> slF (vSh 0) (pS (b2 addD (vSh 2) (vC (.int 1)))) pN (some (.sh (.lst ((List.range (n + 1)).map f))) :: X :: some (.sh (.int (a : Nat))) :: r) = some (.lst (((List.range (n + 1)).map f).drop (a + 1)))
  | 0, 0, _, _ => rfl
  | 1, 0, _, _ => rfl
  | 1, 1, _, _ => rfl
  | 2, 0, _, _ => rfl
  | 2, 1, _, _ => rfl
  | 2, 2, _, _ => rfl
  | 3, 0, _, _ => rfl
  | 3, 1, _, _ => rfl
  | 3, 2, _, _ => rfl
  | 3, 3, _, _ => rfl
  | 4, 0, _, _ => rfl
  | 4, 1, _, _ => rfl
  | 4, 2, _, _ => rfl
  | 4, 3, _, _ => rfl
  | 4, 4, _, _ => rfl
  | n + 5, a, h, _ => absurd h (by omega)
  | 0, a + 1, _, h => absurd h (by omega)
  | 1, a + 2, _, h => absurd h (by omega)
  | 2, a + 3, _, h => absurd h (by omega)
  | 3, a + 4, _, h => absurd h (by omega)
  | 4, a + 5, _, h => absurd h (by omega)
end Law
end
section
namespace Law
open PySem L2
def rowsS (n m c : Nat) : List Str := (List.range (n + 1)).map fun k => RowS k m c
theorem rowsS_len (n m c : Nat) : (rowsS n m c).length = n + 1 := by unfold rowsS; rw [List.length_map, List.length_range]
theorem rows_D (n m c : Nat) : (rowsS n m c).map D.str = (List.range (n + 1)).map fun k => D.str (RowS k m c) := by unfold rowsS; rw [List.map_map]; rfl
theorem take_D (n m c a : Nat) : ((List.range (n + 1)).map fun k => D.str (RowS k m c)).take a = ((rowsS n m c).take a).map D.str := by rw [← rows_D, List.map_take]
theorem drop_D (n m c a : Nat) : ((List.range (n + 1)).map fun k => D.str (RowS k m c)).drop a = ((rowsS n m c).drop a).map D.str := by rw [← rows_D, List.map_drop]
theorem fdiv_of {x y : Int} (h : 0 < y /\ y < 1073741824) : fdivD (.int x) (.int y) = some (.int (x / y)) := if_pos h
theorem mod_of {x y : Int} (h : 0 < y) : modD (.int x) (.int y) = some (.int (x % y)) := if_pos h
theorem spoilt_ok {n m c a j : Nat} {cell : Int} {l : List D} {b : Str} (hn : n < 5) (ha : a <= n) (hm : m < 3) (hc : c < 9) (hs : someOf (RowS a m c) (W0 a m) (W1 a) (W2 a c) = some l) (hl : l.length = 24)
    (hat : cell / 24 % ((n + 1 : Nat) : Int) = (a : Nat)) (hj : cell % 24 = (j : Nat)) (hb : l[j]? = some (.str b)) (hbl : b.length <= 1000) :
    F__law_spoilt [.lst ((rowsS n m c).map D.str), .int cell] = some (.str (Txt.join "; " ((rowsS n m c).take a ++ b :: (rowsS n m c).drop (a + 1)))) := by
  have G := gr_of (k := a) (by omega) hm hc
  rw [rows_D]
  unfold someOf at hs
  obtain ⟨l1, h1, hs⟩ := Option.bind_eq_some_iff.mp hs
  obtain ⟨l2, h2, hs⟩ := Option.bind_eq_some_iff.mp hs
  obtain ⟨l3, h3, hs⟩ := Option.bind_eq_some_iff.mp hs
  obtain ⟨l4, h4, hs⟩ := Option.bind_eq_some_iff.mp hs
  obtain ⟨l5, h5, hs⟩ := Option.bind_eq_some_iff.mp hs
  obtain ⟨l6, h6, hs⟩ := Option.map_eq_some_iff.mp hs
  subst hs
  simp only [List.length_append] at hl
  generalize hL : (List.range (n + 1)).map (fun k => D.str (RowS k m c)) = L
  have hLl : L.length = n + 1 := by rw [← hL, List.length_map, List.length_range]
  have e1 : b2 modD (b2 fdivD (vSh 1) (vC (.int 24))) (cF lenD (aCons (vSh 0) aNil)) [some (.sh (.lst L)), some (.sh (.int cell)), none, none, none, none] = some (.int (a : Nat)) := by
    refine b2_of (x := .int (cell / 24)) (y := .int ((n + 1 : Nat) : Int)) (b2_of (x := .int cell) (y := .int 24) rfl rfl (fdiv_of ⟨by decide, by decide⟩)) (cF_of (ds := [.lst L]) rfl ?_) ?_
    · show some (D.int (L.length : Nat)) = _
      rw [hLl]
    · rw [mod_of (by omega), hat]
  have e2 : b2 ixD (vSh 0) (vSh 2) [some (.sh (.lst L)), some (.sh (.int cell)), some (.sh (.int (a : Nat))), none, none, none] = some (.str (RowS a m c)) := by
    refine b2_of (x := .lst L) (y := .int (a : Nat)) rfl rfl ((atI_nat L a).trans ?_)
    rw [← hL, List.getElem?_map, List.getElem?_range (by omega)]
    rfl
  have e3 : mF splitD (vSh 3) (aCons (vC (.str " ")) aNil) [some (.sh (.lst L)), some (.sh (.int cell)), some (.sh (.int (a : Nat))), some (.sh (.str (RowS a m c))), none, none] = some (.lst [.str (W0 a m), .str (W1 a), .str (W2 a c)]) := by
    refine mF_of (d := .str (RowS a m c)) (ds := [.str " "]) rfl rfl ?_
    rw [split_of (by rw [sp_len]; decide) (by have := G.len; omega), G.sp]
    rfl
  have P : ∀ E : Option Slot, rhoS (some (.sh (.lst L))) (some (.sh (.int cell))) (some (.sh (.int (a : Nat)))) (RowS a m c) (W0 a m) (W1 a) (W2 a c) E = [some (.sh (.lst L)), some (.sh (.int cell)), some (.sh (.int (a : Nat))), some (.sh (.str (RowS a m c))), some (.sh (.lst [.str (W0 a m), .str (W1 a), .str (W2 a c)])), E] := fun _ => rfl
  have k1 : ∀ E : Option Slot, sA1 [some (.sh (.lst L)), some (.sh (.int cell)), some (.sh (.int (a : Nat))), some (.sh (.str (RowS a m c))), some (.sh (.lst [.str (W0 a m), .str (W1 a), .str (W2 a c)])), E] = some l1 := fun E => (show _ = sA1 (rhoS none none none (RowS a m c) (W0 a m) (W1 a) (W2 a c) none) from rfl).trans h1
  have k2 : ∀ E : Option Slot, sA2 [some (.sh (.lst L)), some (.sh (.int cell)), some (.sh (.int (a : Nat))), some (.sh (.str (RowS a m c))), some (.sh (.lst [.str (W0 a m), .str (W1 a), .str (W2 a c)])), E] = some l2 := fun E => (show _ = sA2 (rhoS none none none (RowS a m c) (W0 a m) (W1 a) (W2 a c) none) from rfl).trans h2
  have k3 : ∀ E : Option Slot, sA3 [some (.sh (.lst L)), some (.sh (.int cell)), some (.sh (.int (a : Nat))), some (.sh (.str (RowS a m c))), some (.sh (.lst [.str (W0 a m), .str (W1 a), .str (W2 a c)])), E] = some l3 := fun E => (show _ = sA3 (rhoS none none none (RowS a m c) (W0 a m) (W1 a) (W2 a c) none) from rfl).trans h3
  have k4 : ∀ E : Option Slot, sA4 [some (.sh (.lst L)), some (.sh (.int cell)), some (.sh (.int (a : Nat))), some (.sh (.str (RowS a m c))), some (.sh (.lst [.str (W0 a m), .str (W1 a), .str (W2 a c)])), E] = some l4 := fun E => (show _ = sA4 (rhoS none none none (RowS a m c) (W0 a m) (W1 a) (W2 a c) none) from rfl).trans h4
  have k5 : ∀ E : Option Slot, sA5 [some (.sh (.lst L)), some (.sh (.int cell)), some (.sh (.int (a : Nat))), some (.sh (.str (RowS a m c))), some (.sh (.lst [.str (W0 a m), .str (W1 a), .str (W2 a c)])), E] = some l5 := fun E => (show _ = sA5 (rhoS none none none (RowS a m c) (W0 a m) (W1 a) (W2 a c) none) from rfl).trans h5
  have k6 : ∀ E : Option Slot, sA6 [some (.sh (.lst L)), some (.sh (.int cell)), some (.sh (.int (a : Nat))), some (.sh (.str (RowS a m c))), some (.sh (.lst [.str (W0 a m), .str (W1 a), .str (W2 a c)])), E] = some l6 := fun E => (show _ = sA6 (rhoS none none none (RowS a m c) (W0 a m) (W1 a) (W2 a c) none) from rfl).trans h6
  refine run_to (n := 4) [some (.sh (.lst L)), some (.sh (.int cell)), none, none, none, none] (ρ' := [some (.sh (.lst L)), some (.sh (.int cell)), some (.sh (.int (a : Nat))), some (.sh (.str (RowS a m c))), some (.sh (.lst [.str (W0 a m), .str (W1 a), .str (W2 a c)])), some (.sh (.lst (l1 ++ l2 ++ l3 ++ l4 ++ l5 ++ l6)))]) rfl ?_
  refine set_seq e1 (set_seq e2 (set_seq e3 (set_seq (lst_of (k1 _)) ?_)))
  refine set_seq (b2_of (x := .lst l1) (y := .lst l2) rfl (lst_of (k2 _)) (add_lst (by omega))) ?_
  refine set_seq (b2_of (x := .lst (l1 ++ l2)) (y := .lst l3) rfl (lst_of (k3 _)) (add_lst (by simp only [List.length_append]; omega))) ?_
  refine set_seq (b2_of (x := .lst (l1 ++ l2 ++ l3)) (y := .lst l4) rfl (lst_of (k4 _)) (add_lst (by simp only [List.length_append]; omega))) ?_
  refine set_seq (b2_of (x := .lst (l1 ++ l2 ++ l3 ++ l4)) (y := .lst l5) rfl (lst_of (k5 _)) (add_lst (by simp only [List.length_append]; omega))) ?_
  refine set_seq (b2_of (x := .lst (l1 ++ l2 ++ l3 ++ l4 ++ l5)) (y := .lst l6) rfl (lst_of (k6 _)) (add_lst (by simp only [List.length_append]; omega))) ?_
  refine ret_of (mF_of (d := .str "; ") (ds := [.lst (((rowsS n m c).take a ++ b :: (rowsS n m c).drop (a + 1)).map D.str)]) rfl (one_of ?_) (join_ok (B := 1000) (fun y hy => ?_) (by omega) (by rw [sc_len]; omega) ?_))
  · have f1 := sl_pre (fun k => D.str (RowS k m c)) (some (.sh (.int cell))) [some (.sh (.str (RowS a m c))), some (.sh (.lst [.str (W0 a m), .str (W1 a), .str (W2 a c)])), some (.sh (.lst (l1 ++ l2 ++ l3 ++ l4 ++ l5 ++ l6)))] n a hn ha
    have f2 := sl_post (fun k => D.str (RowS k m c)) (some (.sh (.int cell))) [some (.sh (.str (RowS a m c))), some (.sh (.lst [.str (W0 a m), .str (W1 a), .str (W2 a c)])), some (.sh (.lst (l1 ++ l2 ++ l3 ++ l4 ++ l5 ++ l6)))] n a hn ha
    rw [take_D, hL] at f1
    rw [drop_D, hL] at f2
    have lt1 : ((rowsS n m c).take a).length <= 5 := by rw [List.length_take, rowsS_len]; omega
    have lt2 : ((rowsS n m c).drop (a + 1)).length <= 5 := by rw [List.length_drop, rowsS_len]; omega
    refine (b2_of (x := .lst (((rowsS n m c).take a).map D.str ++ [.str b])) (y := .lst (((rowsS n m c).drop (a + 1)).map D.str)) (b2_of (x := .lst (((rowsS n m c).take a).map D.str)) (y := .lst [.str b]) f1 (lst_of ?_) (add_lst (by simp only [List.length_map, List.length_singleton]; omega))) f2 (add_lst (by simp only [List.length_map, List.length_singleton, List.length_append]; omega))).trans ?_
    · unfold szF
      rw [one_of (d := .str b) (b2_of (x := .lst (l1 ++ l2 ++ l3 ++ l4 ++ l5 ++ l6)) (y := .int (j : Nat)) rfl (b2_of (x := .int cell) (y := .int 24) rfl rfl (by rw [mod_of (by decide), hj])) ((atI_nat _ j).trans hb)), Option.bind_some, if_pos (show [D.str b].length <= sizeLine from (show 1 <= sizeLine by decide))]
    · rw [List.map_append, List.map_cons, List.append_assoc]; rfl
  · rcases List.mem_append.mp hy with hy | hy
    · obtain ⟨k, hk, rfl⟩ := List.mem_map.mp (List.mem_of_mem_take hy)
      have := (gr_of (k := k) (m := m) (c := c) (by have := List.mem_range.mp hk; omega) hm hc).len
      omega
    · rcases List.mem_cons.mp hy with rfl | hy
      · exact hbl
      · obtain ⟨k, hk, rfl⟩ := List.mem_map.mp (List.mem_of_mem_drop hy)
        have := (gr_of (k := k) (m := m) (c := c) (by have := List.mem_range.mp hk; omega) hm hc).len
        omega
  · simp only [List.length_append, List.length_cons, List.length_take, List.length_drop, rowsS_len]
    omega
end Law
end
section
namespace Law
open PySem L2
theorem join_eq (y : Str) (ps : List Str) : Txt.join y ps = Str.join y ps := StrLaws.glued_eq_join y ps
theorem split_rows : ∀ (ys : List Str), ys ≠ [] -> (∀ q ∈ ys, Ok2 59 32 q) -> Txt.split (Txt.join "; " ys) "; " = ys
  | [], h, _ => absurd rfl h
  | p :: ps, _, h => split_join2 sc_cps (by decide) (by decide +kernel) p ps h
theorem text_len {ys : List Str} (h : ∀ y ∈ ys, y.length <= 100) (hl : ys.length <= 20) : (Txt.join "; " ys).length <= 1000000 := by
  rw [join_eq]
  have := join_len "; " 100 ys h
  rw [sc_len] at this
  omega
theorem forL_raise {gg : FG} {body : FS} {x : D} {xs : List D} {ρ ρ1 ρ2 : Env'} {d : D} (h1 : gg x ρ = some ρ1) (h2 : body ρ1 = some (.rt d, ρ2)) : forL gg body (x :: xs) ρ = some (.rt d, ρ2) := by
  simp only [forL, h1, h2, Option.bind_some]
section
variable {n m c : Nat}
theorem gr_in (hn : n < 5) (hm : m < 3) (hc : c < 9) {q : Str} (h : q ∈ rowsS n m c) : ∃ k, k <= n /\ q = RowS k m c /\ GR (RowS k m c) (W0 k m) (W1 k) (W2 k c) := by
  obtain ⟨k, hk, rfl⟩ := List.mem_map.mp h
  have := List.mem_range.mp hk
  exact ⟨k, by omega, rfl, gr_of (by omega) hm hc⟩
theorem take_rows (a : Nat) (ha : a <= n + 1) : (rowsS n m c).take a = (List.range a).map fun k => RowS k m c := by
  unfold rowsS
  rw [← List.map_take, List.take_range, Nat.min_eq_left ha]
theorem pre_rows {T : D} (hm : m < 3) (hc : c < 9) (a : Nat) (ha : a <= 5) : ∃ l' ah' r' w', l'.length = a /\ ah'.length <= 100 /\ (a = 0 \/ ah' = W0 (a - 1) m) /\ ∀ tl : List D, forL (gSet 3) rdX (((List.range a).map fun k => RowS k m c).map D.str ++ tl) [some (.sh T), some (.odk []), some (.sh (.str "")), none, none] = forL (gSet 3) rdX tl [some (.sh T), some (.odk l'), some (.sh (.str ah')), r', w'] := by
  obtain ⟨l', ah', r', w', e1, e2, e3, e4⟩ := rd_pre (T := T) (R := fun k => RowS k m c) (A := fun k => W0 k m) (B := W1) (C := fun k => W2 k c) (List.range a) [] "" none none (fun k hk => gr_of (by have := List.mem_range.mp hk; omega) hm hc) (fun k hk => lt_0 (by have := List.mem_range.mp hk; omega) hm)
    (List.pairwise_lt_range.imp_of_mem fun {i j} hi hj hij => ⟨by rw [lt_W (by have := List.mem_range.mp hi; omega) (by have := List.mem_range.mp hj; omega) hm]; exact decide_eq_true hij, W_ne (by omega)⟩) (fun k _ z => by cases z) (by decide) (by rw [List.length_range, List.length_nil]; omega)
  refine ⟨l', ah', r', w', by rw [e1, List.length_range, List.length_nil]; omega, e2, ?_, e4⟩
  rcases e3 with ⟨z, _⟩ | ⟨k, hk, z⟩
  · left
    have := congrArg List.length z
    rw [List.length_range] at this
    exact this
  · right
    cases a with
    | zero => cases hk
    | succ a =>
      rw [List.range_succ, List.getLast?_concat] at hk
      cases hk
      exact z
theorem read_good (hn : n < 5) (hm : m < 3) (hc : c < 9) : ∃ l : List (Key × D), l.length = n + 1 /\ F_read_plan [.str (Txt.join "; " (rowsS n m c))] = some (.dk l) := by
  have hne : rowsS n m c ≠ [] := fun e => by have := rowsS_len n m c; rw [e] at this; cases this
  have hsp := split_rows (rowsS n m c) hne fun q hq => by obtain ⟨k, _, rfl, g⟩ := gr_in hn hm hc hq; exact g.ok2
  have hlen := text_len (ys := rowsS n m c) (fun q hq => by obtain ⟨k, _, rfl, g⟩ := gr_in hn hm hc hq; exact g.len) (by rw [rowsS_len]; omega)
  obtain ⟨l', ah', r', w', e1, e2, e3, e4⟩ := pre_rows (T := .str (Txt.join "; " (rowsS n m c))) hm hc (n + 1) (by omega)
  have h := e4 []
  rw [List.append_nil] at h
  refine ⟨l', e1, rd_done (fun e => ?_) hlen (a := some (.sh (.str ah'))) (r := r') (w := w') (by rw [hsp]; exact h)⟩
  have z : Txt.split ("" : Str) ("; " : Str) = [("" : Str)] := by decide +kernel
  rw [e, z] at hsp
  have hh := congrArg List.head? hsp
  unfold rowsS at hh
  rw [List.range_succ_eq_map, List.map_cons] at hh
  have h0 : ("" : Str) = RowS 0 m c := Option.some.inj hh
  have := congrArg (fun s : Str => s.cps.toList.length) h0
  have e0 : ("" : Str).cps.toList.length = 0 := by decide
  simp only [e0] at this
  simp [RowS, W0] at this
theorem read_bad {a : Nat} {b : Str} (hn : n < 5) (ha : a <= n) (hm : m < 3) (hc : c < 9) (h : BR b) (hne : Txt.join "; " ((rowsS n m c).take a ++ b :: (rowsS n m c).drop (a + 1)) ≠ "") : F_read_plan [.str (Txt.join "; " ((rowsS n m c).take a ++ b :: (rowsS n m c).drop (a + 1)))] = some (.ty "NoPlan") := by
  have mem : ∀ q ∈ (rowsS n m c).take a ++ b :: (rowsS n m c).drop (a + 1), q = b \/ q ∈ rowsS n m c := fun q hq => by
    rcases List.mem_append.mp hq with hq | hq
    · exact .inr (List.mem_of_mem_take hq)
    · rcases List.mem_cons.mp hq with hq | hq
      · exact .inl hq
      · exact .inr (List.mem_of_mem_drop hq)
  have hsp := split_rows ((rowsS n m c).take a ++ b :: (rowsS n m c).drop (a + 1)) (by simp) fun q hq => by
    rcases mem q hq with rfl | hq
    · exact h.ok2
    · obtain ⟨k, _, rfl, g⟩ := gr_in hn hm hc hq; exact g.ok2
  have hlen := text_len (ys := (rowsS n m c).take a ++ b :: (rowsS n m c).drop (a + 1)) (fun q hq => by
    rcases mem q hq with rfl | hq
    · exact h.len
    · obtain ⟨k, _, rfl, g⟩ := gr_in hn hm hc hq; exact g.len) (by simp only [List.length_append, List.length_cons, List.length_take, List.length_drop, rowsS_len]; omega)
  generalize Txt.join "; " ((rowsS n m c).take a ++ b :: (rowsS n m c).drop (a + 1)) = X at hsp hlen hne ⊢
  obtain ⟨l', ah', r', w', e1, e2, e3, e4⟩ := pre_rows (T := .str X) hm hc a (by omega)
  obtain ⟨ρ', hb⟩ := rd_bad (T := .str X) (l := l') (ah := ah') (w := w') h
  refine rd_start hne hlen (ρ' := ρ') ?_
  rw [hsp, take_rows a (by omega), List.map_append]
  refine (e4 _).trans ?_
  rw [List.map_cons]
  exact forL_raise gSet_of hb
theorem read_twice {a : Nat} (hn : n < 5) (ha : a <= n) (hm : m < 3) (hc : c < 9) (hne : Txt.join "; " ((rowsS n m c).take a ++ (RowS a m c ++ "; " ++ RowS a m c) :: (rowsS n m c).drop (a + 1)) ≠ "") : F_read_plan [.str (Txt.join "; " ((rowsS n m c).take a ++ (RowS a m c ++ "; " ++ RowS a m c) :: (rowsS n m c).drop (a + 1)))] = some (.ty "NoPlan") := by
  have ej : Txt.join "; " ((rowsS n m c).take a ++ (RowS a m c ++ "; " ++ RowS a m c) :: (rowsS n m c).drop (a + 1)) = Txt.join "; " ((rowsS n m c).take a ++ RowS a m c :: RowS a m c :: (rowsS n m c).drop (a + 1)) := by
    rw [join_eq, join_eq, join_dbl]
  rw [ej] at hne ⊢
  have ga := gr_of (k := a) (by omega) hm hc
  have mem : ∀ q ∈ (rowsS n m c).take a ++ RowS a m c :: RowS a m c :: (rowsS n m c).drop (a + 1), q = RowS a m c \/ q ∈ rowsS n m c := fun q hq => by
    rcases List.mem_append.mp hq with hq | hq
    · exact .inr (List.mem_of_mem_take hq)
    · rcases List.mem_cons.mp hq with hq | hq
      · exact .inl hq
      · rcases List.mem_cons.mp hq with hq | hq
        · exact .inl hq
        · exact .inr (List.mem_of_mem_drop hq)
  have hsp := split_rows ((rowsS n m c).take a ++ RowS a m c :: RowS a m c :: (rowsS n m c).drop (a + 1)) (by simp) fun q hq => by
    rcases mem q hq with rfl | hq
    · exact ga.ok2
    · obtain ⟨k, _, rfl, g⟩ := gr_in hn hm hc hq; exact g.ok2
  have hlen := text_len (ys := (rowsS n m c).take a ++ RowS a m c :: RowS a m c :: (rowsS n m c).drop (a + 1)) (fun q hq => by
    rcases mem q hq with rfl | hq
    · exact ga.len
    · obtain ⟨k, _, rfl, g⟩ := gr_in hn hm hc hq; exact g.len) (by simp only [List.length_append, List.length_cons, List.length_take, List.length_drop, rowsS_len]; omega)
  generalize Txt.join "; " ((rowsS n m c).take a ++ RowS a m c :: RowS a m c :: (rowsS n m c).drop (a + 1)) = X at hsp hlen hne ⊢
  obtain ⟨l', ah', r', w', e1, e2, e3, e4⟩ := pre_rows (T := .str X) hm hc (a + 1) (by omega)
  have e3' : ah' = W0 a m := by
    rcases e3 with z | z
    · cases z
    · exact z
  obtain ⟨ρ', hb⟩ := rd_late (T := .str X) (l := l') (ah := ah') (w := w') ga (by rw [e3', lt_W (by omega) (by omega) hm]; exact decide_eq_false (by omega)) e2
  refine rd_start hne hlen (ρ' := ρ') ?_
  have er : (rowsS n m c).take a ++ RowS a m c :: RowS a m c :: (rowsS n m c).drop (a + 1) = ((List.range (a + 1)).map fun k => RowS k m c) ++ RowS a m c :: (rowsS n m c).drop (a + 1) := by
    rw [take_rows a (by omega), List.range_succ, List.map_append, List.append_assoc]
    rfl
  rw [hsp, er, List.map_append]
  refine (e4 _).trans ?_
  rw [List.map_cons]
  exact forL_raise gSet_of hb
theorem read_back (hn : n < 5) (h1 : 1 <= n) (hm : m < 3) (hc : c < 9) : F_read_plan [.str (Txt.join "; " (rowsS n m c).reverse)] = some (.ty "NoPlan") := by
  obtain ⟨p, rfl⟩ : ∃ p, n = p + 1 := ⟨n - 1, by omega⟩
  have er : (rowsS (p + 1) m c).reverse = RowS (p + 1) m c :: RowS p m c :: ((List.range p).map fun k => RowS k m c).reverse := by
    unfold rowsS
    rw [List.range_succ, List.range_succ, List.map_append, List.map_append]
    simp
  have hsp := split_rows (rowsS (p + 1) m c).reverse (by rw [er]; simp) fun q hq => by obtain ⟨k, _, rfl, g⟩ := gr_in hn hm hc (List.mem_reverse.mp hq); exact g.ok2
  have hlen := text_len (ys := (rowsS (p + 1) m c).reverse) (fun q hq => by obtain ⟨k, _, rfl, g⟩ := gr_in hn hm hc (List.mem_reverse.mp hq); exact g.len) (by rw [List.length_reverse, rowsS_len]; omega)
  have hne : Txt.join "; " (rowsS (p + 1) m c).reverse ≠ "" := fun e => by
    have z : Txt.split ("" : Str) ("; " : Str) = [("" : Str)] := by decide +kernel
    rw [e, z, er] at hsp
    have := congrArg List.length hsp
    simp at this
  generalize Txt.join "; " (rowsS (p + 1) m c).reverse = X at hsp hlen hne ⊢
  have g1 := gr_of (k := p + 1) (m := m) (c := c) (by omega) hm hc
  have g0 := gr_of (k := p) (m := m) (c := c) (by omega) hm hc
  obtain ⟨d, hd⟩ := rd_good (T := .str X) (l := []) (ah := "") (w := none) g1 (lt_0 (by omega) hm) (by decide)
  obtain ⟨ρ', hb⟩ := rd_late (T := .str X) (l := putG [] (Sum.inr (W0 (p + 1) m)) d) (ah := W0 (p + 1) m) (w := some (.sh (.lst [.str (W0 (p + 1) m), .str (W1 (p + 1)), .str (W2 (p + 1) c)]))) g0 (by rw [lt_W (by omega) (by omega) hm]; exact decide_eq_false (by omega)) g1.len0
  refine rd_start hne hlen (ρ' := ρ') ?_
  rw [hsp, er, List.map_cons, List.map_cons]
  exact forL_cons gSet_of hd (forL_raise gSet_of hb)
end
end Law
end
section
namespace Law
open PySem L2
theorem compL_congr {fe : FE} {s s' : Option Slot} (h : ∀ x, fe [x, s] = fe [x, s']) : ∀ (xs : List D) (a : Option Slot), compL (gSet 0) tT fe xs [a, s] = compL (gSet 0) tT fe xs [a, s']
  | [], _ => rfl
  | x :: xs, a => by
    show ((some true).bind fun b => if b = true then (fe [some (.sh x), s]).bind fun d => (compL (gSet 0) tT fe xs [some (.sh x), s]).map (d :: ·) else compL (gSet 0) tT fe xs [some (.sh x), s]) = ((some true).bind fun b => if b = true then (fe [some (.sh x), s']).bind fun d => (compL (gSet 0) tT fe xs [some (.sh x), s']).map (d :: ·) else compL (gSet 0) tT fe xs [some (.sh x), s'])
    rw [h, compL_congr h xs (some (.sh x))]
abbrev g2 : FG := gTupD 2 (gsCons (gSet 0) (gsCons (gSet 1) gsNil))
theorem compL_congr2 {fe : FE} {s s' : Option Slot} (h : ∀ x y, fe [x, y, s] = fe [x, y, s']) : ∀ (xs : List D) (a b : Option Slot), compL g2 tT fe xs [a, b, s] = compL g2 tT fe xs [a, b, s']
  | [], _, _ => rfl
  | x :: xs, a, b => by
    have key : ∀ d e : D, compL g2 tT fe (.tup [d, e] :: xs) [a, b, s] = compL g2 tT fe (.tup [d, e] :: xs) [a, b, s'] := fun d e => by
      show ((some true).bind fun t => if t = true then (fe [some (.sh d), some (.sh e), s]).bind fun z => (compL g2 tT fe xs [some (.sh d), some (.sh e), s]).map (z :: ·) else compL g2 tT fe xs [some (.sh d), some (.sh e), s]) = ((some true).bind fun t => if t = true then (fe [some (.sh d), some (.sh e), s']).bind fun z => (compL g2 tT fe xs [some (.sh d), some (.sh e), s']).map (z :: ·) else compL g2 tT fe xs [some (.sh d), some (.sh e), s'])
      rw [h, compL_congr2 h xs (some (.sh d)) (some (.sh e))]
    match x with
    | .tup [d, e] => exact key d e
    | .tup [] => rfl
    | .tup [_] => rfl
    | .tup (_ :: _ :: _ :: _) => rfl
    | .non => rfl
    | .bl _ => rfl
    | .int _ => rfl
    | .str _ => rfl
    | .lst _ => rfl
    | .scr _ => rfl
    | .dk _ => rfl
    | .dt _ => rfl
    | .ins _ _ => rfl
    | .ty _ => rfl
noncomputable def rowE : FE := b2 addD (b2 addD (vSh 1) (vC (.str " "))) (cF strD (aCons (b2 mulD (b2 modD (b2 fdivD (vSh 2) (vC (.int 7))) (vC (.int 9))) (vSh 0)) aNil))
noncomputable def eltE : FE := b2 addD (b2 addD (b2 mulD (b2 ixD (lstF (szF (aCons (vC (.str "a")) (aCons (vC (.str "b")) (aCons (vC (.str "c")) (aCons (vC (.str "d")) (aCons (vC (.str "e")) aNil))))))) (vSh 0)) (b2 addD (vC (.int 1)) (b2 modD (b2 fdivD (vSh 1) (vC (.int 5))) (vC (.int 3))))) (vC (.str " i"))) (b2 mulD (vC (.str "j")) (b2 modD (vSh 0) (vC (.int 3))))
noncomputable def rowsE : FE := lstF (compF (itE (cF F__law_rows (aCons (b2 fdivD (vSh 1) (vC (.int 100))) aNil))) g2 tT rowE [none, none, some 1])
theorem bind_cg {α β : Type} {o : Option α} {f g : α -> Option β} (h : ∀ x, f x = g x) : o.bind f = o.bind g := by rw [funext h]
theorem b2_cg {g : D -> D -> Option D} {fa fb : FE} {ρ ρ' : Env'} (h1 : fa ρ = fa ρ') (h2 : fb ρ = fb ρ') : b2 g fa fb ρ = b2 g fa fb ρ' := by unfold b2; rw [h1, h2]
theorem rows_cg {q q' : Int} (h5 : q % 5 = q' % 5) (h3 : q / 5 % 3 = q' / 5 % 3) : F__law_rows [.int q] = F__law_rows [.int q'] := by
  have hm : ∀ z : Int, b2 addD (vC (.int 1)) (b2 modD (vSh 0) (vC (.int 5))) [some (.sh (.int z))] = some (.int (1 + z % 5)) := fun z => b2_of (x := .int 1) (y := .int (z % 5)) rfl (b2_of (x := .int z) (y := .int 5) rfl rfl (mod_of (by decide))) rfl
  have hf : ∀ z : Int, b2 modD (b2 fdivD (vSh 1) (vC (.int 5))) (vC (.int 3)) [none, some (.sh (.int z))] = some (.int (z / 5 % 3)) := fun z => b2_of (x := .int (z / 5)) (y := .int 3) (b2_of (x := .int z) (y := .int 5) rfl rfl (fdiv_of ⟨by decide, by decide⟩)) rfl (mod_of (by decide))
  have hf' : ∀ (x : Option Slot) (z : Int), b2 modD (b2 fdivD (vSh 1) (vC (.int 5))) (vC (.int 3)) [x, some (.sh (.int z))] = some (.int (z / 5 % 3)) := fun x z => (show _ = b2 modD (b2 fdivD (vSh 1) (vC (.int 5))) (vC (.int 3)) [none, some (.sh (.int z))] from rfl).trans (hf z)
  have he : ∀ x : Option Slot, eltE [x, some (.sh (.int q))] = eltE [x, some (.sh (.int q'))] := fun x => b2_cg (b2_cg (b2_cg rfl (b2_cg rfl (by rw [hf', hf', h3]))) rfl) rfl
  show ((sRet (lstF (compF (itR rng1 (aCons (b2 addD (vC (.int 1)) (b2 modD (vSh 0) (vC (.int 5)))) aNil)) (gSet 0) tT eltE [none, some 0])) [some (.sh (.int q))]).bind _) = ((sRet (lstF (compF (itR rng1 (aCons (b2 addD (vC (.int 1)) (b2 modD (vSh 0) (vC (.int 5)))) aNil)) (gSet 0) tT eltE [none, some 0])) [some (.sh (.int q'))]).bind _)
  have hc : compF (itR rng1 (aCons (b2 addD (vC (.int 1)) (b2 modD (vSh 0) (vC (.int 5)))) aNil)) (gSet 0) tT eltE [none, some 0] [some (.sh (.int q))] = compF (itR rng1 (aCons (b2 addD (vC (.int 1)) (b2 modD (vSh 0) (vC (.int 5)))) aNil)) (gSet 0) tT eltE [none, some 0] [some (.sh (.int q'))] := by
    unfold compF itR
    rw [one_of (hm q), one_of (hm q'), h5]
    refine bind_cg fun xs => ?_
    show (if xs.length <= sizeLine then compL (gSet 0) tT eltE xs [none, some (.sh (.int q))] else none) = (if xs.length <= sizeLine then compL (gSet 0) tT eltE xs [none, some (.sh (.int q'))] else none)
    rw [compL_congr he xs none]
  unfold sRet lstF
  rw [hc]
  cases compF (itR rng1 (aCons (b2 addD (vC (.int 1)) (b2 modD (vSh 0) (vC (.int 5)))) aNil)) (gSet 0) tT eltE [none, some 0] [some (.sh (.int q'))] <;> rfl
noncomputable def RW (n m c : Nat) : Option (List D) := compF (itE (cF F__law_rows (aCons (vC (.int ((n + 5 * m : Nat) : Int))) aNil))) g2 tT rowE [none, none, some 1] [none, some (.sh (.int ((7 * c : Nat) : Int)))]
theorem rowsE_cg {S x2 x3 : Option Slot} {cell : Int} {n m c : Nat} (hn : cell / 100 % 5 = (n : Nat)) (hm : cell / 100 / 5 % 3 = (m : Nat)) (hc : cell / 7 % 9 = (c : Nat)) (n5 : n < 5) (m3 : m < 3) (c9 : c < 9) : rowsE [S, some (.sh (.int cell)), x2, x3] = (RW n m c).map D.lst := by
  have hd : ∀ (x y : Option Slot) (z : Int), b2 modD (b2 fdivD (vSh 2) (vC (.int 7))) (vC (.int 9)) [x, y, some (.sh (.int z))] = some (.int (z / 7 % 9)) := fun x y z => b2_of (x := .int (z / 7)) (y := .int 9) (b2_of (x := .int z) (y := .int 7) rfl rfl (fdiv_of ⟨by decide, by decide⟩)) rfl (mod_of (by decide))
  have he : ∀ x y : Option Slot, rowE [x, y, some (.sh (.int cell))] = rowE [x, y, some (.sh (.int ((7 * c : Nat) : Int)))] := fun x y => b2_cg rfl (by
    unfold cF aCons
    rw [show b2 mulD (b2 modD (b2 fdivD (vSh 2) (vC (.int 7))) (vC (.int 9))) (vSh 0) [x, y, some (.sh (.int cell))] = b2 mulD (b2 modD (b2 fdivD (vSh 2) (vC (.int 7))) (vC (.int 9))) (vSh 0) [x, y, some (.sh (.int ((7 * c : Nat) : Int)))] from b2_cg (by rw [hd, hd, hc]; congr 2; omega) rfl]
    rfl)
  have hi : itE (cF F__law_rows (aCons (b2 fdivD (vSh 1) (vC (.int 100))) aNil)) [S, some (.sh (.int cell)), x2, x3] = itE (cF F__law_rows (aCons (vC (.int ((n + 5 * m : Nat) : Int))) aNil)) [none, some (.sh (.int ((7 * c : Nat) : Int)))] := by
    unfold itE cF
    rw [one_of (b2_of (x := .int cell) (y := .int 100) rfl rfl (fdiv_of ⟨by decide, by decide⟩)), one_of (d := .int ((n + 5 * m : Nat) : Int)) rfl, Option.bind_some, Option.bind_some, rows_cg (q := cell / 100) (q' := ((n + 5 * m : Nat) : Int)) (by omega) (by omega)]
  unfold rowsE lstF RW compF
  rw [hi]
  refine congrArg (Option.map D.lst) (bind_cg fun xs => ?_)
  show (if xs.length <= sizeLine then compL g2 tT rowE xs [none, none, some (.sh (.int cell))] else none) = (if xs.length <= sizeLine then compL g2 tT rowE xs [none, none, some (.sh (.int ((7 * c : Nat) : Int)))] else none)
  rw [compL_congr2 he xs none none]
def strs? : List D -> Option (List Str)
  | [] => some []
  | .str x :: r => (strs? r).map (x :: ·)
  | _ => none
theorem strs?_of : ∀ {l : List D} {xs : List Str}, strs? l = some xs -> l = xs.map D.str
  | [], _, h => by cases h; rfl
  | .str x :: r, xs, h => by
    unfold strs? at h
    obtain ⟨ys, hy, rfl⟩ := Option.map_eq_some_iff.mp h
    rw [strs?_of hy]
    rfl
theorem RW_all : ((List.range 5).all fun n => (List.range 3).all fun m => (List.range 9).all fun c => (RW n m c).bind strs? == some (rowsS n m c)) = true := by decide +kernel
theorem RW_ok {n m c : Nat} (hn : n < 5) (hm : m < 3) (hc : c < 9) : RW n m c = some ((rowsS n m c).map D.str) := by
  have h := RW_all
  rw [List.all_eq_true] at h
  have h1 := h n (List.mem_range.mpr hn)
  rw [List.all_eq_true] at h1
  have h2 := h1 m (List.mem_range.mpr hm)
  rw [List.all_eq_true] at h2
  have h3 := eq_of_beq (h2 c (List.mem_range.mpr hc))
  obtain ⟨l, hl, h3⟩ := Option.bind_eq_some_iff.mp h3
  rw [hl, strs?_of h3]
end Law
end
section
namespace Law
open PySem L2
theorem chk_of {f : Nat -> Nat -> Bool} (h : ((List.range 3).all fun m => (List.range 9).all fun c => f m c) = true) {m c : Nat} (hm : m < 3) (hc : c < 9) : f m c = true := by
  rw [List.all_eq_true] at h
  have h1 := h m (List.mem_range.mpr hm)
  rw [List.all_eq_true] at h1
  exact h1 c (List.mem_range.mpr hc)
theorem chkS_at {k m c : Nat} (hk : k < 5) (hm : m < 3) (hc : c < 9) : chkS k m c = true := by
  match k, hk with
  | 0, _ => exact chk_of chkS_0 hm hc
  | 1, _ => exact chk_of chkS_1 hm hc
  | 2, _ => exact chk_of chkS_2 hm hc
  | 3, _ => exact chk_of chkS_3 hm hc
  | 4, _ => exact chk_of chkS_4 hm hc
theorem some_of {k m c : Nat} (hk : k < 5) (hm : m < 3) (hc : c < 9) : ∃ l, someOf (RowS k m c) (W0 k m) (W1 k) (W2 k c) = some l /\ l.length = 24 /\ ∀ j, j < 24 -> ∃ b, l[j]? = some (.str b) /\ (b = RowS k m c ++ "; " ++ RowS k m c \/ BR b) := by
  have h := chkS_at hk hm hc
  unfold chkS at h
  split at h
  · rename_i l hl
    rw [Bool.and_eq_true, List.all_eq_true] at h
    refine ⟨l, hl, eq_of_beq h.1, fun j hj => ?_⟩
    have hj2 := h.2 j (List.mem_range.mpr hj)
    split at hj2
    · rename_i d hd
      split at hj2
      · unfold isStr at hj2
        split at hj2
        · rename_i y
          exact ⟨y, hd, .inl (eq_of_beq hj2)⟩
        · cases hj2
      · unfold brb at hj2
        split at hj2
        · rename_i y
          simp only [Bool.and_eq_true, decide_eq_true_eq] at hj2
          exact ⟨y, hd, .inr ⟨hj2.1.1.1, hj2.1.1.2, fun i => ok2b_of hj2.1.2 i, isF_of hj2.2⟩⟩
        · cases hj2
    · cases hj2
  · cases h
theorem ref_true {x : D} (h : F_read_plan [x] = some (.ty "NoPlan")) : F__law_refused [x] = some (.bl true) := by
  show refF F_read_plan [x] = _
  unfold refF
  rw [h]
  rfl
noncomputable def noneE : FE := b2 ixD (lstF (szF (aCons (vC .non) (aCons (vC (.int 5)) (aCons (vC (.bl true)) (aCons (lstF (szF (aCons (vC (.str "a b 1")) aNil))) (aCons (tupF (szF (aCons (vC (.str "a")) aNil))) (aCons (vC (.dk [])) (aCons (vC (.int 9)) aNil))))))))) (b2 modD (vSh 1) (vC (.int 7)))
def noText (k : Nat) : D := [.non, .int 5, .bl true, .lst [.str "a b 1"], .tup [.str "a"], .dk [], .int 9].getD k .non
theorem raise0 {x : D} {t : String} (ht : tyD x = some t) (hf : isiT t "str" = some false) : F_read_plan [x] = some (.ty "NoPlan") := by
  refine run_to [some (.sh x), none, none, none, none] (ρ' := [some (.sh x), none, none, none, none]) rfl (raise_of (notF_of (cF_of (ds := [x, .ty "str"]) rfl ?_)) (one_of (d := .str "a plan is read from a text alone") rfl))
  show (tyD x).bind (fun t => (isiT t "str").map D.bl) = _
  rw [ht, Option.bind_some, hf]
  rfl
theorem none_ok : ∀ k : Nat, k < 7 -> F_read_plan [noText k] = some (.ty "NoPlan")
  | 0, _ => raise0 (t := "NoneType") rfl rfl
  | 1, _ => raise0 (t := "int") rfl rfl
  | 2, _ => raise0 (t := "bool") rfl rfl
  | 3, _ => raise0 (t := "list") rfl rfl
  | 4, _ => raise0 (t := "tuple") rfl rfl
  | 5, _ => raise0 (t := "dict") rfl rfl
  | 6, _ => raise0 (t := "int") rfl rfl
  | k + 7, h => absurd h (by omega)
theorem none_at : ∀ k : Nat, k < 7 -> ixD (.lst [.non, .int 5, .bl true, .lst [.str "a b 1"], .tup [.str "a"], .dk [], .int 9]) (.int (k : Nat)) = some (noText k)
  | 0, _ => rfl
  | 1, _ => rfl
  | 2, _ => rfl
  | 3, _ => rfl
  | 4, _ => rfl
  | 5, _ => rfl
  | 6, _ => rfl
  | k + 7, h => absurd h (by omega)
theorem noneE_ok {S x2 x3 : Option Slot} {cell : Int} {k : Nat} (hk : k < 7) (h : cell % 7 = (k : Nat)) : noneE [S, some (.sh (.int cell)), x2, x3] = some (noText k) := by
  refine b2_of (x := .lst [.non, .int 5, .bl true, .lst [.str "a b 1"], .tup [.str "a"], .dk [], .int 9]) (y := .int (k : Nat)) rfl (b2_of (x := .int cell) (y := .int 7) rfl rfl (by rw [mod_of (by decide), h])) (none_at k hk)
theorem read_nil : F_read_plan [.str ""] = some (.dk []) := rfl
noncomputable def test2 : FT := orT (toB (b2 neD (cF lenKD (aCons (cF (noTyD F_read_plan) (aCons (mF joinD (vC (.str "; ")) (aCons (vSh 2) aNil)) aNil)) aNil)) (cF lenD (aCons (vSh 2) aNil)))) (toB (b2 dNeD (cF (noTyD F_read_plan) (aCons (vC (.str "")) aNil)) (vC (.dk []))))
noncomputable def test3 : FT := andT (toB (b2 gtD (cF lenD (aCons (vSh 2) aNil)) (vC (.int 1)))) (notT (toB (cF F__law_refused (aCons (mF joinD (vC (.str "; ")) (aCons (b1 revD (vSh 2)) aNil)) aNil))))
noncomputable def test5 : FT := andT (toB (b2 neD (vSh 3) (vC (.str "")))) (notT (toB (cF F__law_refused (aCons (vSh 3) aNil))))
noncomputable def test6 : FT := notT (toB (cF F__law_refused (aCons noneE aNil)))
noncomputable def lawB : FS := sSeq (sSet 2 rowsE) (sSeq (sIf test2 (sRet (vC (.bl false))) sNil) (sSeq (sIf test3 (sRet (vC (.bl false))) sNil) (sSeq (sSet 3 (cF F__law_spoilt (aCons (vSh 2) (aCons (vSh 1) aNil)))) (sSeq (sIf test5 (sRet (vC (.bl false))) sNil) (sIf test6 (sRet (vC (.bl false))) sNil)))))
theorem noTyD_dk {F : List D -> Option D} {ds : List D} {l : List (Key × D)} (h : F ds = some (.dk l)) : noTyD F ds = some (.dk l) := by unfold noTyD; rw [h]
theorem andF_of {f g : FT} {ρ : Env'} (h : f ρ = some false) : andT f g ρ = some false := by unfold andT; rw [h]; rfl
theorem andTF_of {f g : FT} {ρ : Env'} (h : f ρ = some true) (h2 : g ρ = some false) : andT f g ρ = some false := by unfold andT; rw [h, Option.bind_some, if_pos rfl]; exact h2
theorem join_rows {ys : List Str} (h : ∀ y ∈ ys, y.length <= 100) (hl : ys.length <= 20) : joinD (.str "; ") [.lst (ys.map D.str)] = some (.str (Txt.join "; " ys)) := join_ok (B := 100) h (by omega) (by rw [sc_len]; omega) (by omega)
theorem lawB_ok {S x2 x3 : Option Slot} (cell : Int) : ∃ y2 y3, lawB [S, some (.sh (.int cell)), x2, x3] = some (.nx, [S, some (.sh (.int cell)), y2, y3]) := by
  obtain ⟨n, hn⟩ : ∃ n : Nat, cell / 100 % 5 = (n : Nat) := ⟨(cell / 100 % 5).toNat, by omega⟩
  obtain ⟨m, hm⟩ : ∃ m : Nat, cell / 100 / 5 % 3 = (m : Nat) := ⟨(cell / 100 / 5 % 3).toNat, by omega⟩
  obtain ⟨c, hc⟩ : ∃ c : Nat, cell / 7 % 9 = (c : Nat) := ⟨(cell / 7 % 9).toNat, by omega⟩
  obtain ⟨j, hj⟩ : ∃ j : Nat, cell % 24 = (j : Nat) := ⟨(cell % 24).toNat, by omega⟩
  obtain ⟨k, hk⟩ : ∃ k : Nat, cell % 7 = (k : Nat) := ⟨(cell % 7).toNat, by omega⟩
  have n5 : n < 5 := by omega
  have m3 : m < 3 := by omega
  have c9 : c < 9 := by omega
  have j24 : j < 24 := by omega
  have k7 : k < 7 := by omega
  have hpos : (0 : Int) < ((n + 1 : Nat) : Int) := by omega
  obtain ⟨a, ha⟩ : ∃ a : Nat, cell / 24 % ((n + 1 : Nat) : Int) = (a : Nat) := ⟨(cell / 24 % ((n + 1 : Nat) : Int)).toNat, by have := Int.emod_nonneg (cell / 24) (b := ((n + 1 : Nat) : Int)) (by omega); omega⟩
  have an : a <= n := by have := Int.emod_lt_of_pos (cell / 24) hpos; omega
  have hR := rowsE_cg (S := S) (x2 := x2) (x3 := x3) hn hm hc n5 m3 c9
  rw [RW_ok n5 m3 c9] at hR
  obtain ⟨l, hl, hr⟩ := read_good (n := n) (m := m) (c := c) n5 m3 c9
  obtain ⟨es, he, hel, heb⟩ := some_of (k := a) (m := m) (c := c) (by omega) m3 c9
  obtain ⟨b, hb, hbb⟩ := heb j j24
  have ga := gr_of (k := a) (m := m) (c := c) (by omega) m3 c9
  have hbl : b.length <= 1000 := by
    rcases hbb with rfl | h
    · have := ga.len
      rw [Str.length_append, Str.length_append, sc_len]
      omega
    · have := h.len
      omega
  have hsp := spoilt_ok n5 an m3 c9 he hel ha hj hb hbl
  have rl : ∀ y ∈ rowsS n m c, y.length <= 100 := fun y hy => by obtain ⟨k, _, rfl, g⟩ := gr_in n5 m3 c9 hy; exact g.len
  have rlen := rowsS_len n m c
  have jr := join_rows rl (by omega)
  have jb := join_rows (ys := (rowsS n m c).reverse) (fun y hy => rl y (List.mem_reverse.mp hy)) (by rw [List.length_reverse]; omega)
  have llen : lenD [.lst ((rowsS n m c).map D.str)] = some (.int ((n + 1 : Nat) : Int)) := by
    show some (D.int (((rowsS n m c).map D.str).length : Nat)) = _
    rw [List.length_map, rlen]
  generalize hRs : (rowsS n m c).map D.str = RD at hR hsp jr llen
  have hrev : revD (.lst RD) = some (.lst ((rowsS n m c).reverse.map D.str)) := by
    show some (D.lst RD.reverse) = _
    rw [← hRs, List.map_reverse]
  refine ⟨some (.sh (.lst RD)), some (.sh (.str (Txt.join "; " ((rowsS n m c).take a ++ b :: (rowsS n m c).drop (a + 1))))), set_seq hR ?_⟩
  show sSeq (sIf test2 _ _) _ [S, some (.sh (.int cell)), some (.sh (.lst RD)), x3] = _
  refine (skip_of (or_of (toB_of (b2_of (x := .int (l.length : Nat)) (y := .int ((n + 1 : Nat) : Int)) (cF_of (ds := [.dk l]) (one_of (cF_of (ds := [.str (Txt.join "; " (rowsS n m c))]) (one_of (mF_of (d := .str "; ") (ds := [.lst RD]) rfl rfl jr)) (noTyD_dk hr))) rfl) (cF_of (ds := [.lst RD]) rfl llen) ?_)) (toB_of (b2_of (x := .dk []) (y := .dk []) (cF_of (ds := [.str ""]) rfl (noTyD_dk read_nil)) rfl rfl)))).trans ?_
  · show some (D.bl (!decide (((l.length : Nat) : Int) = ((n + 1 : Nat) : Int)))) = _
    rw [hl, decide_eq_true rfl]
    rfl
  refine (skip_of ?_).trans ?_
  · show test3 [S, some (.sh (.int cell)), some (.sh (.lst RD)), x3] = some false
    have g1 : toB (b2 gtD (cF lenD (aCons (vSh 2) aNil)) (vC (.int 1))) [S, some (.sh (.int cell)), some (.sh (.lst RD)), x3] = some (decide ((1 : Int) < ((n + 1 : Nat) : Int))) := toB_of (b2_of (x := .int ((n + 1 : Nat) : Int)) (y := .int 1) (cF_of (ds := [.lst RD]) rfl llen) rfl rfl)
    by_cases h1 : 1 <= n
    · exact andTF_of (g1.trans (by rw [decide_eq_true (by omega)])) (not_of (cF_of (ds := [.str (Txt.join "; " (rowsS n m c).reverse)]) (one_of (mF_of (d := .str "; ") (ds := [.lst ((rowsS n m c).reverse.map D.str)]) rfl (one_of (b1_of (x := .lst RD) rfl hrev)) jb)) (ref_true (read_back n5 h1 m3 c9))))
    · exact andF_of (g1.trans (by rw [decide_eq_false (by omega)]))
  refine set_seq (cF_of (ds := [.lst RD, .int cell]) rfl hsp) ?_
  refine (skip_of ?_).trans ?_
  · show test5 [S, some (.sh (.int cell)), some (.sh (.lst RD)), some (.sh (.str (Txt.join "; " ((rowsS n m c).take a ++ b :: (rowsS n m c).drop (a + 1)))))] = some false
    have g2 : toB (b2 neD (vSh 3) (vC (.str ""))) [S, some (.sh (.int cell)), some (.sh (.lst RD)), some (.sh (.str (Txt.join "; " ((rowsS n m c).take a ++ b :: (rowsS n m c).drop (a + 1)))))] = some (!decide (Txt.join "; " ((rowsS n m c).take a ++ b :: (rowsS n m c).drop (a + 1)) = "")) := toB_of (b2_of (x := .str (Txt.join "; " ((rowsS n m c).take a ++ b :: (rowsS n m c).drop (a + 1)))) (y := .str "") rfl rfl rfl)
    by_cases h0 : Txt.join "; " ((rowsS n m c).take a ++ b :: (rowsS n m c).drop (a + 1)) = ""
    · exact andF_of (g2.trans (by rw [decide_eq_true h0]; rfl))
    · refine andTF_of (g2.trans (by rw [decide_eq_false h0]; rfl)) (not_of (cF_of (ds := [.str (Txt.join "; " ((rowsS n m c).take a ++ b :: (rowsS n m c).drop (a + 1)))]) rfl (ref_true ?_)))
      rcases hbb with rfl | h
      · exact read_twice n5 an m3 c9 h0
      · exact read_bad n5 an m3 c9 h h0
  have t6 : test6 [S, some (.sh (.int cell)), some (.sh (.lst RD)), some (.sh (.str (Txt.join "; " ((rowsS n m c).take a ++ b :: (rowsS n m c).drop (a + 1)))))] = some false := not_of (cF_of (ds := [noText k]) (one_of (noneE_ok k7 hk)) (ref_true (none_ok k k7)))
  show sIf test6 _ _ [S, some (.sh (.int cell)), some (.sh (.lst RD)), some (.sh (.str (Txt.join "; " ((rowsS n m c).take a ++ b :: (rowsS n m c).drop (a + 1)))))] = _
  unfold sIf
  rw [t6, Option.bind_some, if_neg Bool.false_ne_true]
  rfl
theorem l_loop {S : Option Slot} : ∀ (cs : List Int) (s1 s2 s3 : Option Slot), ∃ s1' s2' s3', forL (gSet 1) lawB (cs.map D.int) [S, s1, s2, s3] = some (.nx, [S, s1', s2', s3'])
  | [], s1, s2, s3 => ⟨s1, s2, s3, rfl⟩
  | c :: r, s1, s2, s3 => by
    obtain ⟨a2, a3, h1⟩ := lawB_ok (S := S) (x2 := s2) (x3 := s3) c
    obtain ⟨b1, b2, b3, h2⟩ := l_loop (S := S) r (some (.sh (.int c))) a2 a3
    exact ⟨b1, b2, b3, forL_cons gSet_of h1 h2⟩
theorem law_true (ns : List Int) (hlen : ns.length <= 63) : F_law [.scr ns] = some (.bl true) := by
  obtain ⟨b1, b2', b3, hl⟩ := l_loop (S := some (.sh (.scr ns))) (3 :: cutL ns none (some 60)) none none none
  have hc : (cutL ns none (some 60)).length <= 63 := by
    unfold cutL
    rw [List.length_take, List.length_drop]
    omega
  have hs : slF (vSh 0) pN (pS (vC (.int 60))) [some (.sh (.scr ns)), none, none, none] = some (.lst ((cutL ns none (some 60)).map D.int)) := rfl
  have h3 : lstF (szF (aCons (vC (.int 3)) aNil)) [some (.sh (.scr ns)), none, none, none] = some (.lst [.int 3]) := rfl
  have hi : itF (b2 addD (lstF (szF (aCons (vC (.int 3)) aNil))) (slF (vSh 0) pN (pS (vC (.int 60))))) [some (.sh (.scr ns)), none, none, none] = some ((3 :: cutL ns none (some 60)).map D.int) := by
    unfold itF
    rw [b2_of h3 hs (add_lst (by simp only [List.length_cons, List.length_nil, List.length_map]; omega)), Option.bind_some]
    rfl
  have e1 : sSeq (sFor (itF (b2 addD (lstF (szF (aCons (vC (.int 3)) aNil))) (slF (vSh 0) pN (pS (vC (.int 60)))))) (gSet 1) lawB) (sRet (vC (.bl true))) [some (.sh (.scr ns)), none, none, none] = some (.rt (.bl true), _) :=
    (for_of hi hl).trans (ret_of rfl)
  exact run_to [some (.sh (.scr ns)), none, none, none] rfl e1
end Law
end
section
namespace Law
open PySem L2 PySem.Spec PyProof.Rows
def Gam : Cn := ⟨fun _ => none, none⟩
def spLaw (K : PySem.W.Frag) : Sp := fun vs H Q _ => ∃ (a : Addr) (ns : List Int), vs = [.ref a] /\ SqL K H a (ns.map V.int) /\ ns.length <= 63 /\ ∀ H', Q (.bl true) H'
theorem all_mk {l : PySem.W.OpenLaw} {w : World} {K : PySem.W.Frag} {h : Heap} {mg : Str -> Option Value} {fa : Addr} (X : K.In h) (G : h.Ns mainGlobals mg) (hfa : mg "law" = some (.ref fa))
    (d0 : Dfn K mg "_law_rows" s__law_rows)
    (d1 : Dfn K mg "is_numeral" s_is_numeral)
    (d2 : Dfn K mg "is_name" s_is_name)
    (d3 : Dfn K mg "is_plan_row" s_is_plan_row)
    (d4 : Dfn K mg "number_of" s_number_of)
    (d5 : Dfn K mg "read_plan" s_read_plan)
    (d6 : Dfn K mg "_law_refused" s__law_refused)
    (d7 : Dfn K mg "_law_spoilt" s__law_spoilt)
    (a8 : PySem.W.nsIn K mainGlobals "law" = some (some (.ref f8))) (l8 : K.lookup f8 = some ⟨oc8, od8, .func (PySem.W.fnOf "law" "law" (defArgs s_law) (defBody s_law) (defScope s_law) .none kV8 dc8 pm8 an8 cd8 ct8), sl8⟩) (c8 : PySem.W.codeIn K cd8 "law" = true) (k8 : PySem.W.keepIn K (.ref f8) = true)
    {CP : Addr} (aCP : PySem.W.nsIn K mainGlobals "NoPlan" = some (some (.ref CP)))
    {CS : Addr} (aCS : PySem.W.nsIn K mainGlobals "ShopError" = some (some (.ref CS)))
    {CR : Addr} (aCR : PySem.W.nsIn K mainGlobals "NoRow" = some (some (.ref CR)))
    {CY : Addr} (aCY : PySem.W.nsIn K mainGlobals "NoSay" = some (some (.ref CY)))
    {CH : Addr} (aCH : PySem.W.nsIn K mainGlobals "NoShop" = some (some (.ref CH)))
    {CT : Addr} (aCT : PySem.W.nsIn K mainGlobals "NoTree" = some (some (.ref CT)))
    (xe : PySem.W.excIn K CP [.type "ValueError", .type "Exception", .type "BaseException", .type "object"] "ValueError.__new__" = true)
    (xm : PySem.W.exmOne K (.ref CP) (.ref CS) = some true)
    (x0 : PySem.W.kitOne K (.type "NoneType") (.ref CP) = some false)
    (x2 : PySem.W.kitOne K (.ref CP) (.type "ValueError") = some true)
    (x3 : PySem.W.kitAny K (.ref CP) [.ref CR, .ref CY, .ref CH, .ref CT] = some false)
    (xc : PySem.W.isClsIn K CP = true)
    (xga : PySem.W.findIn K (.ref CP) "__getattribute__" = some (some (.builtin "BaseException.__getattribute__")))
    (xno : PySem.W.findIn K (.ref CP) "__getattr__" = some none)
    (xlk : PySem.W.findIn K (.ref CP) "__class__" = some (some (.builtin "object.__class__")))
    (xgs : PySem.W.specialIn K (.builtin "object.__class__") "__get__" = some (some (.builtin "getset_descriptor.__get__")))
    (xtk : PySem.W.takesIn K (.builtin "object.__class__") = some true)
    (xmr : PySem.W.mroIn K CP (.type "object") = some true)
    (xsu : PySem.W.subIn K (.ref CP) (.type "BaseException") = some true)
    (z_ValueError : PySem.W.nsIn K mainGlobals "ValueError" = some none)
    (z_all : PySem.W.nsIn K mainGlobals "all" = some none)
    (z_enumerate : PySem.W.nsIn K mainGlobals "enumerate" = some none)
    (z_isinstance : PySem.W.nsIn K mainGlobals "isinstance" = some none)
    (z_len : PySem.W.nsIn K mainGlobals "len" = some none)
    (z_range : PySem.W.nsIn K mainGlobals "range" = some none)
    (z_str : PySem.W.nsIn K mainGlobals "str" = some none)
    {tk_FIGURES : Tok} (z_FIGURES : PySem.W.nsIn K mainGlobals "FIGURES" = some (some (.str "0123456789" tk_FIGURES)))
    {tk_LONGEST_NAME : Tok} (z_LONGEST_NAME : PySem.W.nsIn K mainGlobals "LONGEST_NAME" = some (some (.int 8 tk_LONGEST_NAME)))
    {tk_PARTING : Tok} (z_PARTING : PySem.W.nsIn K mainGlobals "PARTING" = some (some (.str "; " tk_PARTING)))
    : ∃ fd : FuncData, (∀ (s : Shared) (v : Value), BindsTo s fd ⟨[v], []⟩ [("_law_script", v)]) /\ ∀ base : Heap, K.In base -> base.Ns mainGlobals mg -> FnOk l.prog w K mg base CX0 5 fa fd ["_law_script"] (spLaw K) := by
  have e := hfa.symm.trans (PySem.W.mg_of X G a8)
  have e2 := Value.ref.inj (Option.some.inj e)
  subst e2
  have B : Bn mg := ⟨PySem.W.mg_none_of X G z_ValueError, PySem.W.mg_none_of X G z_all, PySem.W.mg_none_of X G z_enumerate, PySem.W.mg_none_of X G z_isinstance, PySem.W.mg_none_of X G z_len, PySem.W.mg_none_of X G z_range, PySem.W.mg_none_of X G z_str, by have q := PySem.W.mg_of X G z_FIGURES; rw [q]; unfold t_FIGURES; rw [q], by have q := PySem.W.mg_of X G z_LONGEST_NAME; rw [q]; unfold t_LONGEST_NAME; rw [q], by have q := PySem.W.mg_of X G z_PARTING; rw [q]; unfold t_PARTING; rw [q]⟩
  refine ⟨PySem.W.fnOf "law" "law" (defArgs s_law) (defBody s_law) (defScope s_law) .none kV8 dc8 pm8 an8 cd8 ct8, fun s v => .of_eq rfl, fun base KB _ => ?_⟩
  have RK : RefK K mg CP CS CR CY CH CT := ⟨PySem.W.mg_of X G aCP, PySem.W.mg_of X G aCS, PySem.W.mg_of X G aCR, PySem.W.mg_of X G aCY, PySem.W.mg_of X G aCH, PySem.W.mg_of X G aCT, xm, x0, x2, x3, ⟨Option.isSome_iff_exists.mp xc, xga, xno, xlk, xgs, xtk, xmr, xsu⟩⟩
  have C__law_rows : Cal Gam l.prog w K mg base "_law_rows" 1 1 F__law_rows := cal__law_rows d0 B
  have C_is_numeral : Cal Gam l.prog w K mg base "is_numeral" 1 1 F_is_numeral := cal_is_numeral d1 B
  have C_is_name : Cal Gam l.prog w K mg base "is_name" 1 1 F_is_name := cal_is_name d2 B
  have C_is_plan_row : Cal Gam l.prog w K mg base "is_plan_row" 1 2 F_is_plan_row := cal_is_plan_row d3 B C_is_numeral C_is_name
  have C_number_of : Cal Gam l.prog w K mg base "number_of" 1 1 F_number_of := cal_number_of d4 B
  have C_read_plan : CalX Gam l.prog w K mg base "read_plan" 1 3 F_read_plan "NoPlan" CP := cal_read_plan (own_K KB (PySem.W.mg_of X G aCP) xe) d5 B C_is_plan_row C_number_of
  have C__law_refused : Cal Gam l.prog w K mg base "_law_refused" 1 4 F__law_refused := cal__law_refused d6 B RK C_read_plan
  have C__law_spoilt : Cal Gam l.prog w K mg base "_law_spoilt" 2 1 F__law_spoilt := cal__law_spoilt d7 B
  have FL := fun_mk (st := s_law) l8 c8 k8
  have ok : FnOk l.prog w K mg base CX0 5 fa _ ["_law_script"] (spF Gam K 1 F_law) := FL.okD (k := 4) sc_law (bod_law B C__law_rows C_read_plan C__law_refused C__law_spoilt fa)
  refine ok.imp fun vs H Q E hq => ?_
  obtain ⟨a, ns, rfl, hS, hlen, k⟩ := hq
  exact ⟨H, [.scr ns], .bl true, Same.refl H, .cons (.scr hS) .nil, rfl, law_true ns hlen, fun v G' H' _ r => by rw [r.bl_inv]; exact k H'⟩
theorem walk {l : PySem.W.OpenLaw} {q : Program} {loose : List Str} {XP : (Str -> Option Value) -> Heap -> Prop} {YP : World -> Heap -> Prop} {d : DefRec} {K : Params -> PySem.W.Frag} (hn : l.most = some 63) (hdf : d.params.defaults = [])
    (hY : ∀ (w : World) (h : Heap), YP w h -> (K w.params).In h)
    (F : ∀ (w : World) (mg : Str -> Option Value) (fa : Addr) (h : Heap), (K w.params).In h -> h.Ns mainGlobals mg -> mg d.name = some (.ref fa) ->
      ∃ fd : FuncData, (∀ (s : Shared) (u : Value), BindsTo s fd ⟨[u], []⟩ [("_law_script", u)]) /\ ∀ base : Heap, (K w.params).In base -> base.Ns mainGlobals mg -> FnOk l.prog w (K w.params) mg base CX0 5 fa fd ["_law_script"] (spLaw (K w.params))) :
    PySem.W.WalkO q loose XP YP l.row.toRowW d [] (fun f vs => PySem.call f vs) :=
  L2.walk_of (n := 63) (k := 5) (x := "_law_script") (CX := fun _ => CX0) (sp := fun w => spLaw (K w.params)) hn (by decide) hdf ⟨rfl, by decide, by decide⟩ hY F (fun _ _ a ns hl _ hS => ⟨a, ns, rfl, hS, hl, fun _ => rfl⟩) fun _ _ _ _ _ z => z
end Law
open PySem PySem.W PyProof.Rows L2
set_option maxRecDepth 100000 in
set_option maxHeartbeats 0 in
theorem PySem.Challenge.cw_shopbound_k24_no_plan_holds : PySem.Challenge.rw_shopbound_k24_no_plan.Holds := by
  w_on; o_law; k_head; (case hw => w_witness2)
  k_fill
  refine Law.walk (l := PySem.Challenge.rw_shopbound_k24_no_plan) rfl rfl (fun w h Y => PySem.W.kIn_of Y) ?F
  case F =>
    intro w mg fa h KX G hmg
    refine' Law.all_mk KX G hmg ?d0 ?d1 ?d2 ?d3 ?d4 ?d5 ?d6 ?d7 ?a8 ?l8 ?c8 ?k8 ?aCP ?aCS ?aCR ?aCY ?aCH ?aCT ?xe ?xm ?x0 ?x2 ?x3 ?xc ?xga ?xno ?xlk ?xgs ?xtk ?xmr ?xsu ?z_ValueError ?z_all ?z_enumerate ?z_isinstance ?z_len ?z_range ?z_str ?z_FIGURES ?z_LONGEST_NAME ?z_PARTING
    (case d0 => refine' Dfn.mk' KX G ?a ?l ?c ?k; (case a => k_is); (case l => k_is); (case c => k_is); (case k => k_is))
    (case d1 => refine' Dfn.mk' KX G ?a ?l ?c ?k; (case a => k_is); (case l => k_is); (case c => k_is); (case k => k_is))
    (case d2 => refine' Dfn.mk' KX G ?a ?l ?c ?k; (case a => k_is); (case l => k_is); (case c => k_is); (case k => k_is))
    (case d3 => refine' Dfn.mk' KX G ?a ?l ?c ?k; (case a => k_is); (case l => k_is); (case c => k_is); (case k => k_is))
    (case d4 => refine' Dfn.mk' KX G ?a ?l ?c ?k; (case a => k_is); (case l => k_is); (case c => k_is); (case k => k_is))
    (case d5 => refine' Dfn.mk' KX G ?a ?l ?c ?k; (case a => k_is); (case l => k_is); (case c => k_is); (case k => k_is))
    (case d6 => refine' Dfn.mk' KX G ?a ?l ?c ?k; (case a => k_is); (case l => k_is); (case c => k_is); (case k => k_is))
    (case d7 => refine' Dfn.mk' KX G ?a ?l ?c ?k; (case a => k_is); (case l => k_is); (case c => k_is); (case k => k_is))
    (case a8 => k_is)
    (case l8 => k_is)
    (case c8 => k_is)
    (case k8 => k_is)
    (case aCP => k_is)
    (case aCS => k_is)
    (case aCR => k_is)
    (case aCY => k_is)
    (case aCH => k_is)
    (case aCT => k_is)
    (case xe => k_exc)
    (case xm => kts_exm)
    (case x0 => kit_is)
    (case x2 => kit_is)
    (case x3 => kit_is)
    (case xc => k_is)
    (case xga => k_is)
    (case xno => k_is)
    (case xlk => k_is)
    (case xgs => k_is)
    (case xtk => k_is)
    (case xmr => k_is)
    (case xsu => k_is)
    (case z_ValueError => k_is)
    (case z_all => k_is)
    (case z_enumerate => k_is)
    (case z_isinstance => k_is)
    (case z_len => k_is)
    (case z_range => k_is)
    (case z_str => k_is)
    (case z_FIGURES => k_is)
    (case z_LONGEST_NAME => k_is)
    (case z_PARTING => k_is)
end
