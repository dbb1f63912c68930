import PyProof.Rows.All
import Wide.All
import OpenK.AllK
import Wide.FinOn
import Lean
import PyProof.EqAt
import PyProof.EqKinds
import PyProof.TupleCall
import KE.KDictOf
import PyProof.AttrMiss
import PyProof.IsiH_list
import PySem.SetOps
import PySem.Challenge.RW_shopbound_k25_pairs_that_meet
set_option Elab.async false
set_option linter.all false
set_option maxRecDepth 100000
section
namespace L2
open PySem PySem.Spec PyProof.Rows
abbrev Key := Sum Int Str
def keyIs : Key -> Value -> Bool
  | .inl k, v => Value.isInt k v
  | .inr x, v => Value.isStrOf x v
def keyH (w : World) : Key -> Int
  | .inl k => hashInt k
  | .inr x => hashStr w x
theorem zbn : ∀ {k : Key} {v : Value}, keyIs k v = true -> (∃ i t, k = Sum.inl i /\ v = Value.int i t) \/ (∃ x t, k = Sum.inr x /\ v = Value.str x t)
  | .inl i, v, h => by
    obtain ⟨t, e⟩ := Value.isInt_shape (k := i) (v := v) h
    exact .inl ⟨i, t, rfl, e⟩
  | .inr x, v, h => by
    obtain ⟨t, e⟩ := Value.isStrOf_shape (x := x) (v := v) h
    exact .inr ⟨x, t, rfl, e⟩
theorem keyIs_int (i : Int) (t : Tok) : keyIs (.inl i) (.int i t) = true := by simp [keyIs, Value.isInt]
theorem keyIs_str (x : Str) (t : Tok) : keyIs (.inr x) (.str x t) = true := by simp [keyIs, Value.isStrOf]
theorem key_ll (a b : Int) : decide ((Sum.inl a : Key) = Sum.inl b) = (a == b) := by
  by_cases e : a = b
  · subst e; simp
  · have h : ¬ (Sum.inl a : Key) = Sum.inl b := fun q => e (Sum.inl.inj q)
    rw [decide_eq_false h]
    exact (beq_eq_false_iff_ne.mpr e).symm
theorem key_rr (a b : Str) : decide ((Sum.inr a : Key) = Sum.inr b) = decide (a = b) := by
  by_cases e : a = b
  · subst e; simp
  · have h : ¬ (Sum.inr a : Key) = Sum.inr b := fun q => e (Sum.inr.inj q)
    rw [decide_eq_false h, decide_eq_false e]
theorem key_lr (a : Int) (b : Str) : decide ((Sum.inl a : Key) = Sum.inr b) = false := decide_eq_false (fun q => nomatch q)
theorem key_rl (a : Str) (b : Int) : decide ((Sum.inr a : Key) = Sum.inl b) = false := decide_eq_false (fun q => nomatch q)
def zaX (prog : Program) (w : World) : PySem.KeyKind prog w Key where
  is := keyIs
  hash := keyH w
  inj := fun v a b ha hb => by
    rcases zbn ha with ⟨i, t, rfl, rfl⟩ | ⟨x, t, rfl, rfl⟩
    · rcases zbn hb with ⟨j, u, rfl, e⟩ | ⟨y, u, rfl, e⟩
      · injection e with e1 _; rw [e1]
      · exact nomatch e
    · rcases zbn hb with ⟨j, u, rfl, e⟩ | ⟨y, u, rfl, e⟩
      · exact nomatch e
      · injection e with e1 _; rw [e1]
  byValue := fun k v h => by
    rcases zbn h with ⟨i, t, rfl, rfl⟩ | ⟨x, t, rfl, rfl⟩ <;> rfl
  pyHash := fun hv h => by
    rcases zbn hv with ⟨i, t, rfl, rfl⟩ | ⟨x, t, rfl, rfl⟩
    · exact wpAny_pyHash_int h
    · exact wpAny_pyHash_str h
  eqBool := fun hu hv h => by
    rcases zbn hu with ⟨i, t, rfl, rfl⟩ | ⟨x, t, rfl, rfl⟩
    · rcases zbn hv with ⟨j, u, rfl, rfl⟩ | ⟨y, u, rfl, rfl⟩
      · rw [key_ll] at h; exact wpAny_eqBool_int h
      · rw [key_lr] at h; exact SeqAt.EqAt.int_str i t y u _ _ _ _ h
    · rcases zbn hv with ⟨j, u, rfl, rfl⟩ | ⟨y, u, rfl, rfl⟩
      · rw [key_rl] at h; exact SeqAt.EqAt.str_int x t j u _ _ _ _ h
      · rw [key_rr] at h; exact wpAny_eqBool_str h
  «strs» := fun k x t v h => by
    rcases zbn h with ⟨i, u, rfl, e⟩ | ⟨y, u, rfl, e⟩
    · exact nomatch e
    · injection e with e1 _
      subst e1
      cases v <;> rfl
theorem mixKind_int (prog : Program) (w : World) (i : Int) (t : Tok) : (zaX prog w).is (.inl i) (.int i t) = true := keyIs_int i t
theorem mixKind_str (prog : Program) (w : World) (x : Str) (t : Tok) : (zaX prog w).is (.inr x) (.str x t) = true := keyIs_str x t
end L2
namespace L2
open PySem PySem.Spec PyProof.Rows
inductive V where
  | non | bl (b : Bool) | int (i : Int) | str (x : Str) | byt (b : Array UInt8) | flt (b : UInt64) | ref (a : Addr) | ty (n : String)
  deriving DecidableEq
def zca : V -> Value -> Prop
  | .non, u => u = Value.none
  | .bl b, u => u = Value.bool b
  | .int i, u => ∃ t, u = Value.int i t
  | .str x, u => ∃ t, u = Value.str x t
  | .byt b, u => ∃ t, u = Value.bytes b t
  | .flt b, u => ∃ t, u = Value.float b t
  | .ref a, u => u = Value.ref a
  | .ty n, u => u = Value.type n
abbrev zb3 : List V -> List Value -> Prop := Paired zca
theorem zb3.length {xs : List V} {us : List Value} (r : zb3 xs us) : xs.length = us.length := Paired.length r
theorem zb3.get : ∀ {xs : List V} {us : List Value} {i : Nat} {x : V}, zb3 xs us -> xs[i]? = some x -> ∃ u, us[i]? = some u /\ zca x u
  | _, _, _, _, .nil, e => by simp at e
  | _, _, 0, _, .cons r _, e => by simp at e; subst e; exact ⟨_, rfl, r⟩
  | _, _, i + 1, x, .cons _ t, e => by
    obtain ⟨u, h1, h2⟩ := zb3.get (i := i) (x := x) t (by simpa using e)
    exact ⟨u, by simpa using h1, h2⟩
theorem zb3.append : ∀ {xs ys : List V} {us ws : List Value}, zb3 xs us -> zb3 ys ws -> zb3 (xs ++ ys) (us ++ ws)
  | _, _, _, _, .nil, s => s
  | _, _, _, _, .cons r t, s => .cons r (zb3.append t s)
theorem zb3.take : ∀ {xs : List V} {us : List Value} (n : Nat), zb3 xs us -> zb3 (xs.take n) (us.take n)
  | _, _, 0, _ => .nil
  | _, _, _ + 1, .nil => .nil
  | _, _, n + 1, .cons r t => .cons r (zb3.take n t)
theorem zb3.drop : ∀ {xs : List V} {us : List Value} (n : Nat), zb3 xs us -> zb3 (xs.drop n) (us.drop n)
  | _, _, 0, r => r
  | _, _, _ + 1, .nil => .nil
  | _, _, n + 1, .cons _ t => zb3.drop n t
def RelO : Option V -> Option Value -> Prop
  | some v, some u => zca v u
  | none, none => True
  | _, _ => False
def KV {κ : Type} : List (κ × V) -> List (κ × Value) -> Prop := Paired fun (p : κ × V) (q : κ × Value) => p.1 = q.1 /\ zca p.2 q.2
def kV : Key -> V
  | .inl i => .int i
  | .inr x => .str x
inductive HO where
  | lst (xs : List V)
  | tup (xs : List V)
  | dK (kvs : List (Key × V)) | dT (kvs : List (List Key × V))
  | set (S : Int -> Bool) (n : Nat)
  | ins (C dx : Addr) (fs : List (Str × V))
  | own (x : Addr)
  | xd (fs : List (Str × V))
  | met (f x : Addr)
  | rng (lo hi : Int)
  | frz (o : Obj) (u : HO)
  | tbl (ps : Array Value)
  | ext (φ : Heap -> Prop)
abbrev Hp := Addr -> Option HO
def upd (H : Hp) (a : Addr) (o : HO) : Hp := fun b => if b = a then some o else H b
theorem zaH {H : Hp} {a : Addr} {o : HO} : upd H a o a = some o := by unfold upd; rw [if_pos rfl]
theorem zaB {H : Hp} {a b : Addr} {o : HO} (h : b ≠ a) : upd H a o b = H b := by unfold upd; rw [if_neg h]
theorem ne_of {H : Hp} {a b : Addr} {o u : HO} (h : H a = some o) (h' : H b = some u) (d : o ≠ u) : a ≠ b := by
  intro e; subst e; rw [h] at h'; exact d (Option.some.inj h')
theorem zat {H : Hp} {a b : Addr} {o : HO} (h : H a = some o) (h' : H b = none) : a ≠ b := by
  intro e; subst e; rw [h] at h'; cases h'
section
variable (P : Program) (w : World)
def zcF (H : Hp) (h : Heap) (a : Addr) : HO -> Prop
  | .lst xs => xs.length <= sizeLine /\ ∃ (its : List Value) (n : Nat), zb3 xs its /\ h.get? a = some { cls := .type "list", data := .seq its.toArray n }
  | .tup xs => xs.length <= sizeLine /\ ∃ its : List Value, zb3 xs its /\ IsTup h a its.toArray
  | .dK kvs => kvs.length <= sizeLine /\ (a == sysModules) = false /\ ∃ vs, KV kvs vs /\ h.DictOf (zaX P w) a vs
  | .dT kvs => kvs.length <= sizeLine /\ (a == sysModules) = false /\ ∃ xs : List (List Key × Addr × Value),
      Paired (fun (p : List Key × V) (q : List Key × Addr × Value) => p.1 = q.1 /\ H q.2.1 = some (.tup (p.1.map kV)) /\ zca p.2 q.2.2) kvs xs /\
      ∃ o es ep, h.get? a = some o /\ o.ExactDict /\ o.data = .dict es ep /\ es.toList = xs.map (entryOfKey (tupleKind (zaX P w))) /\ (xs.map (·.1)).Nodup
  | .set S n => h.SetOf (intKind P w) a S n
  | .ins C dx fs => H dx = some (.own a) /\ fs.length <= 1000 /\ dx ≠ a /\ h.get? a = some (PySem.W.instObj C dx) /\
      ∃ mA, h.Ns1 dx mA /\ (∀ f, RelO (fs.lookup f) (mA f)) /\ PySem.Within mA (fs.map (·.1))
  | .own _ => ∃ o, h.get? a = some o
  | .xd fs => ∃ mA, h.Ns1 a mA /\ ∀ f, RelO (fs.lookup f) (mA f)
  | .rng lo hi => ∃ t u v, h.get? a = some { cls := .type "range", data := .fields #[.int lo t, .int hi u, .int 1 v] }
  | .frz o u => h.get? a = some o /\ zcF H h a u
  | .tbl ps => h.get? a = some { cls := .none, data := .fields ps }
  | .met f x => h.get? a = some (PySem.W.methodObj (.ref f) (.ref x))
  | .ext φ => φ h /\ (∃ o, h.get? a = some o) /\ ∀ h1 h2 : Heap, φ h1 -> (∀ o, h1.get? a = some o -> h2.get? a = some o) -> φ h2
def HOk (H : Hp) (h : Heap) : Prop := ∀ a o, H a = some o -> zcF P w H h a o
end
section
variable {P : Program} {w : World} {H H' : Hp} {h h' : Heap} {a : Addr} {o : HO}
theorem zcF.lt (x : zcF P w H h a o) : a < h.objs.size := by
  cases o with
  | lst xs => obtain ⟨_, _, _, _, e⟩ := x; exact Heap.lt_size e
  | tup xs => obtain ⟨_, _, _, p⟩ := x; exact p.lt
  | dK kvs => obtain ⟨_, _, _, _, o, _, _, e, _⟩ := x; exact Heap.lt_size e
  | dT kvs => obtain ⟨_, _, _, _, o, _, _, e, _⟩ := x; exact Heap.lt_size e
  | set S n => obtain ⟨o, _, _, _, e, _⟩ := x; exact Heap.lt_size e
  | ins C dx fs => obtain ⟨_, _, _, e, _⟩ := x; exact Heap.lt_size e
  | own y => obtain ⟨_, e⟩ := x; exact Heap.lt_size e
  | xd fs => obtain ⟨_, ⟨_, _, _, e, _⟩, _⟩ := x; exact Heap.lt_size e
  | rng lo hi => obtain ⟨_, _, _, e⟩ := x; exact Heap.lt_size e
  | frz ob u => obtain ⟨e, _⟩ := x; exact Heap.lt_size e
  | tbl ps => exact Heap.lt_size (show h.get? a = some _ from x)
  | met f y => exact Heap.lt_size (show h.get? a = some _ from x)
  | ext φ => obtain ⟨_, ⟨_, e⟩, _⟩ := x; exact Heap.lt_size e
theorem Paired.mapP {α β : Type} {F G : α -> β -> Prop} : ∀ {l₁ : List α} {l₂ : List β}, Paired F l₁ l₂ -> (∀ a b, F a b -> G a b) -> Paired G l₁ l₂
  | _, _, .nil, _ => .nil
  | _, _, .cons r t, f => .cons (f _ _ r) (Paired.mapP t f)
theorem zcF.stay (x : zcF P w H h a o) (k : ∀ b u, (b = a \/ H b = some (.own a)) -> h.get? b = some u -> h'.get? b = some u)
    (ho : ∀ b, H b = some (.own a) -> H' b = some (.own a)) (ht : ∀ b xs, H b = some (.tup xs) -> H' b = some (.tup xs)) : zcF P w H' h' a o := by
  induction o with
  | lst xs => obtain ⟨z, its, n, r, e⟩ := x; exact ⟨z, its, n, r, k _ _ (.inl rfl) e⟩
  | tup xs => obtain ⟨z, its, r, ob, e, c⟩ := x; exact ⟨z, its, r, ob, k _ _ (.inl rfl) e, c⟩
  | dK kvs => obtain ⟨z, y, vs, r, ob, es, ep, e, c⟩ := x; exact ⟨z, y, vs, r, ob, es, ep, k _ _ (.inl rfl) e, c⟩
  | dT kvs =>
    obtain ⟨z, y, xs, r, ob, es, ep, e, c⟩ := x
    exact ⟨z, y, xs, Paired.mapP r fun p q z => ⟨z.1, ht _ _ z.2.1, z.2.2⟩, ob, es, ep, k _ _ (.inl rfl) e, c⟩
  | set S n => obtain ⟨ob, es, ep, t, e, c⟩ := x; exact ⟨ob, es, ep, t, k _ _ (.inl rfl) e, c⟩
  | ins C dx fs =>
    obtain ⟨d, z, ne, e, mA, ⟨od, es, ep, e2, c⟩, r⟩ := x
    exact ⟨ho _ d, z, ne, k _ _ (.inl rfl) e, mA, ⟨od, es, ep, k _ _ (.inr d) e2, c⟩, r⟩
  | own y => obtain ⟨ob, e⟩ := x; exact ⟨ob, k _ _ (.inl rfl) e⟩
  | xd fs => obtain ⟨mA, ⟨od, es, ep, e, c⟩, r⟩ := x; exact ⟨mA, ⟨od, es, ep, k _ _ (.inl rfl) e, c⟩, r⟩
  | rng lo hi => obtain ⟨t, u, v, e⟩ := x; exact ⟨t, u, v, k _ _ (.inl rfl) e⟩
  | frz ob u ih => obtain ⟨e, q⟩ := x; exact ⟨k _ _ (.inl rfl) e, ih q⟩
  | tbl ps =>
    have e : h.get? a = some { cls := .none, data := .fields ps } := x
    show h'.get? a = some { cls := .none, data := .fields ps }
    exact k a _ (.inl rfl) e
  | met f y =>
    have e : h.get? a = some (PySem.W.methodObj (.ref f) (.ref y)) := x
    show h'.get? a = some (PySem.W.methodObj (.ref f) (.ref y))
    exact k a _ (.inl rfl) e
  | ext φ => obtain ⟨p, ⟨o, e⟩, st⟩ := x; exact ⟨st _ _ p fun o q => k _ _ (.inl rfl) q, ⟨o, k _ _ (.inl rfl) e⟩, st⟩
theorem HOk.lt (x : HOk P w H h) (e : H a = some o) : a < h.objs.size := (x a o e).lt
theorem HOk.fresh (x : HOk P w H h) (e : h.objs.size <= a) : H a = none := by
  cases q : H a with
  | none => rfl
  | some u => exact absurd (Nat.lt_of_lt_of_le (x.lt q) e) (Nat.lt_irrefl _)
theorem HOk.kept (x : HOk P w H h) (k : ∀ b u, h.get? b = some u -> h'.get? b = some u) : HOk P w H h' := fun a o e =>
  (x a o e).stay (fun b u _ q => k b u q) (fun _ q => q) fun _ _ q => q
theorem HOk.laid (x : HOk P w H h) (k : ∀ b u, h.get? b = some u -> h'.get? b = some u) (hp : h.objs.size <= a) (new : zcF P w (upd H a o) h' a o) : HOk P w (upd H a o) h' := fun b u e => by
  have hn := x.fresh hp
  by_cases hb : b = a
  · subst hb; rw [zaH] at e; cases e; exact new
  · rw [zaB hb] at e
    exact (x b u e).stay (fun c v _ q => k c v q) (fun c q => by rw [zaB (zat q hn)]; exact q) fun c xs q => by rw [zaB (zat q hn)]; exact q
end
def Rd (H : Hp) (a : Addr) (u : HO) : Prop := H a = some u \/ ∃ o, H a = some (.frz o u)
theorem Rd.ok {P : Program} {w : World} {H : Hp} {h : Heap} {a : Addr} {u : HO} (r : Rd H a u) (x : HOk P w H h) : zcF P w H h a u := by
  rcases r with r | ⟨o, r⟩
  · exact x a u r
  · obtain ⟨_, q⟩ := x a _ r
    exact q
def Mut : Option HO -> Prop
  | some (.lst _) => True
  | some (.dK _) => True
  | some (.dT _) => True
  | some (.set _ _) => True
  | some (.ins _ _ _) => True
  | some (.ext _) => True
  | _ => False
section
variable {P : Program} {w : World} {H : Hp} {h h' : Heap} {x e : Addr} {o' : HO}
theorem HOk.write (ok : HOk P w H h) (mu : Mut (H x)) (he : e = x \/ H e = some (.own x)) (k : ∀ b u, b ≠ e -> h.get? b = some u -> h'.get? b = some u) (heo : ∃ u, h'.get? e = some u)
    (new : zcF P w (upd H x o') h' x o') : HOk P w (upd H x o') h' := fun b u q => by
  have nown : ∀ c y, H c = some (.own y) -> c ≠ x := fun c y r z => by subst z; rw [r] at mu; exact mu
  have ntup : ∀ c xs, H c = some (.tup xs) -> c ≠ x := fun c xs r z => by subst z; rw [r] at mu; exact mu
  by_cases hb : b = x
  · subst hb; rw [zaH] at q; cases q; exact new
  · rw [zaB hb] at q
    by_cases hbe : b = e
    · have q' : H b = some (.own x) := by
        rcases he with z | z
        · exact absurd (hbe.trans z) hb
        · rw [hbe]; exact z
      rw [q] at q'; cases q'
      obtain ⟨v, hv⟩ := heo
      exact ⟨v, by rw [hbe]; exact hv⟩
    · refine (ok b u q).stay (fun c v hc r => k c v ?_ r) (fun c r => by rw [zaB (nown c b r)]; exact r) fun c xs r => by rw [zaB (ntup c xs r)]; exact r
      rcases hc with rfl | hc
      · exact hbe
      · rintro rfl
        rcases he with z | z
        · exact nown c b hc z
        · rw [hc] at z; cases z; exact hb rfl
end
structure Un (fs ex : List Addr) (H H' : Hp) (h h' : Heap) : Prop where
  keep : ∀ b o, h.get? b = some o -> H b = none -> b ∉ fs -> b ∉ ex -> h'.get? b = some o
  slot : ∀ b o, h.get? b = some o -> H b = none -> b ∈ fs -> b ∉ ex -> ∃ sl, h'.get? b = some { o with slots := sl }
  free : ∀ b o, h.get? b = some o -> H b = none -> b ∉ ex -> H' b = none
  there : ∀ b o, h.get? b = some o -> b ∉ ex -> ∃ o', h'.get? b = some o'
  tups : ∀ b xs, H b = some (.tup xs) -> H' b = some (.tup xs)
  frzs : ∀ b o u, H b = some (.frz o u) -> H' b = some (.frz o u)
  tbls : ∀ b ps, H b = some (.tbl ps) -> ∃ more, H' b = some (.tbl (ps ++ more))
section
variable {fs fs' ex ex' : List Addr} {H H1 H2 : Hp} {h h1 h2 h' : Heap} {a x e : Addr} {o : HO}
theorem Un.any (u : Un fs ex H H1 h h1) {b : Addr} {ob : Obj} (q : h.get? b = some ob) (n : H b = none) (hx : b ∉ ex) : ∃ sl, h1.get? b = some { ob with slots := sl } := by
  by_cases hb : b ∈ fs
  · exact u.slot b ob q n hb hx
  · exact ⟨ob.slots, u.keep b ob q n hb hx⟩
theorem Un.kept (k : ∀ b u, h.get? b = some u -> h'.get? b = some u) : Un fs ex H H h h' :=
  ⟨fun b ob q _ _ _ => k b ob q, fun b ob q _ _ _ => ⟨ob.slots, k b ob q⟩, fun _ _ _ n _ => n, fun b ob q _ => ⟨ob, k b ob q⟩, fun _ _ q => q, fun _ _ _ q => q, fun _ ps q => ⟨#[], by rw [q]; simp⟩⟩
theorem Un.refl : Un fs ex H H h h := Un.kept fun _ _ q => q
theorem Un.laid (k : ∀ b u, h.get? b = some u -> h'.get? b = some u) (hp : h.objs.size <= a) (hn : H a = none) : Un fs ex H (upd H a o) h h' where
  keep := fun b u q _ _ _ => k b u q
  slot := fun b u q _ _ _ => ⟨u.slots, k b u q⟩
  free := fun b u q n _ => by rw [zaB (Nat.ne_of_lt (Nat.lt_of_lt_of_le (Heap.lt_size q) hp))]; exact n
  there := fun b u q _ => ⟨u, k b u q⟩
  tups := fun b xs q => by rw [zaB (zat q hn)]; exact q
  frzs := fun b u xs q => by rw [zaB (zat q hn)]; exact q
  tbls := fun b ps q => ⟨#[], by rw [zaB (zat q hn), q]; simp⟩
theorem Un.write (mu : Mut (H x)) (he : e = x \/ H e = some (.own x)) (k : ∀ b u, b ≠ e -> h.get? b = some u -> h'.get? b = some u) (heo : ∃ u, h'.get? e = some u) : Un fs ex H (upd H x o) h h' := by
  have hx : ∀ b, H b = none -> b ≠ x := fun b n z => by subst z; rw [n] at mu; exact mu
  have hb : ∀ b, H b = none -> b ≠ e := fun b n z => by
    subst z
    rcases he with r | r
    · exact hx b n r
    · rw [n] at r; cases r
  have hm : ∀ b u, H b = some u -> ¬ Mut (some u) -> b ≠ x := fun b u q nm z => by subst z; rw [q] at mu; exact nm mu
  refine ⟨fun b u q n _ _ => k b u (hb b n) q, fun b u q n _ _ => ⟨u.slots, k b u (hb b n) q⟩, fun b u q n _ => by rw [zaB (hx b n)]; exact n, fun b u q _ => ?_,
    fun b xs q => by rw [zaB (hm b _ q fun z => z)]; exact q, fun b u xs q => by rw [zaB (hm b _ q fun z => z)]; exact q, fun b ps q => ⟨#[], by rw [zaB (hm b _ q fun z => z), q]; simp⟩⟩
  by_cases hbe : b = e
  · subst hbe; exact heo
  · exact ⟨u, k b u hbe q⟩
end
def trk (h : Heap) (H : Hp) : List Addr := (List.range h.objs.size).filter fun a => (H a).isSome
def hidT (h : Heap) (H : Hp) : Heap := PySem.W.hideAll h (trk h H)
theorem hidT_size (h : Heap) (H : Hp) : (hidT h H).objs.size = h.objs.size := PySem.W.hideAll_size _ _
theorem hidT_get {h : Heap} {H : Hp} {b : Addr} {o : Obj} (e : h.get? b = some o) (n : H b = none) : (hidT h H).get? b = some o :=
  PySem.W.hideAll_get _ e fun hm => by
    have q : (H b).isSome = true := (List.mem_filter.mp hm).2
    rw [n] at q; simp at q
theorem of_hidT {h : Heap} {H : Hp} {b : Addr} {o : Obj} (e : (hidT h H).get? b = some o) : h.get? b = some o /\ H b = none := by
  have e' : h.get? b = some o := PySem.W.of_hideAll (trk h H) e
  refine ⟨e', ?_⟩
  cases q : H b with
  | none => rfl
  | some x =>
    have hm : b ∈ trk h H := List.mem_filter.mpr ⟨List.mem_range.mpr (Heap.lt_size e'), by simp [q]⟩
    have z : (hidT h H).get? b = none := PySem.W.hideAll_none (trk h H) hm
    rw [z] at e; cases e
def allNews (g h : Heap) (L : Addr) : List (Addr × Obj) := (List.range h.objs.size).filterMap fun a => if a = L \/ (g.get? a).isSome = true then none else (h.get? a).map fun o => (a, o)
def zcY (g h : Heap) (L d : Addr) : List (Addr × Obj) := (allNews g h L).filter fun p => decide (p.1 ≠ d)
end L2
namespace L2
open PySem PySem.Spec PyProof.Rows
structure Mod (K : PySem.W.Frag) (mg : Str -> Option Value) (base : Heap) : Prop where
  kin : K.In base
  glob : base.Ns mainGlobals mg
  blt : ∃ mb, base.Ns builtinsNs mb /\ ∀ x : Str, x ≠ "__name__" -> mb x = bootBuiltins x
  nolimit : base.NoLimit
structure Cx where
  prog : Program
  w : World
  K : PySem.W.Frag
  mg : Str -> Option Value
  base : Heap
  A : Around
  N : List Str
  s₀ : Shared
  H₀ : Hp
  env : Env
  outer : List Env
  stack : List Env
  ex : List Addr
  fn : Str -> Bool
  calm : Bool
  pn : List (Addr × Obj)
  xe : Value -> Shared -> Prop
def frs (l : List Env) : List Addr := l.filterMap (·.frame)
abbrev Cx.fs (X : Cx) : List Addr := frs X.outer
def Vis (sc : Scope) (x : Str) : Prop := sc.names.lookup x = some .local \/ sc.names.lookup x = some .cell \/ sc.names.lookup x = some .free
def Loc (sc : Scope) (x : Str) : Prop := sc.names.lookup x = some .local \/ sc.names.lookup x = some .cell
def Look (env : Env) (h : Heap) (m : Str -> Option Value) (x : Str) (u : Value) : Prop :=
  (env.kindOf x = some .local /\ m x = some u) \/ ((env.kindOf x = some .cell \/ env.kindOf x = some .free) /\ ∃ c, env.cells.lookup x = some c /\ h.IsCell c (some u))
structure Cx.Ok (X : Cx) : Prop where
  mod : Mod X.K X.mg X.base
  kind : X.env.scope.kind = .function
  glob : X.env.globals = mainGlobals
  blt : X.env.builtins = builtinsNs
  above : X.s₀.heap.objs.size <= X.env.locals
  inj : ∀ x y c, X.env.cells.lookup x = some c -> X.env.cells.lookup y = some c -> x = y
  has : ∀ x, (X.env.kindOf x = some .cell \/ X.env.kindOf x = some .free) -> ∃ c, X.env.cells.lookup x = some c
  cab : ∀ x c, X.fn x = true -> X.env.cells.lookup x = some c -> X.s₀.heap.objs.size <= c
  hd : X.calm = true -> X.A.handled = none
  frames : X.A.frames = some X.stack
  stk : X.stack = X.outer \/ (X.stack = X.env :: X.outer /\ X.env.frame = some X.env.locals)
  exf : ∀ b ∈ X.ex, b ≠ X.env.locals /\ ∀ x c, X.env.cells.lookup x = some c -> c ≠ b
  bs : ∀ b o, X.base.get? b = some o -> X.s₀.heap.get? b = some o /\ X.H₀ b = none
  bsz : X.base.objs.size <= X.s₀.heap.objs.size
  noex : ∀ b o, X.base.get? b = some o -> b ∉ X.ex
  exfs : ∀ b ∈ X.ex, b ∉ X.fs
  funs : X.s₀.heap.FunFrames X.base X.outer
  frf : ∀ b ∈ X.fs, X.H₀ b = none
structure Inv (X : Cx) (pins : List (Addr × Obj)) (σ : List (Option V)) (H : Hp) (s : Shared) : Prop where
  ok : X.Ok
  os : s.os = X.s₀.os
  bare : AllBare s.gens
  base : Un X.fs X.ex X.H₀ H X.s₀.heap s.heap
  loc : ∃ m, s.heap.Ns X.env.locals m /\ ∀ (i : Nat) (x : Str) (v : V), X.N[i]? = some x -> σ[i]? = some (some v) -> Vis X.env.scope x -> ∃ u, zca v u /\ Look X.env s.heap m x u
  cell : ∀ x c, X.env.cells.lookup x = some c -> ∃ v, s.heap.IsCell c v
  free : H X.env.locals = none
  freeC : ∀ x c, X.env.cells.lookup x = some c -> H c = none
  pin : ∀ p ∈ X.pn ++ pins, s.heap.get? p.1 = some p.2 /\ H p.1 = none /\ p.1 ≠ X.env.locals /\ p.1 ∉ X.fs /\ ∀ v, p.2.data ≠ .cell v
  hok : HOk X.prog X.w H s.heap
  len : σ.length = X.N.length
section
variable {X : Cx} {pins : List (Addr × Obj)} {σ : List (Option V)} {H H' : Hp} {s : Shared} {h' : Heap}
theorem Cx.Ok.nofr (ok : X.Ok) {b : Addr} {o : Obj} (e : X.base.get? b = some o) : b ∉ X.fs := fun hb => by
  have := (ok.funs.mem hb).1
  rw [e] at this; cases this
theorem Inv.bs (I : Inv X pins σ H s) : ∀ b o, X.base.get? b = some o -> s.heap.get? b = some o /\ H b = none := fun b o e =>
  ⟨I.base.keep b o (I.ok.bs b o e).1 (I.ok.bs b o e).2 (I.ok.nofr e) (I.ok.noex b o e), I.base.free b o (I.ok.bs b o e).1 (I.ok.bs b o e).2 (I.ok.noex b o e)⟩
theorem Inv.bk (I : Inv X pins σ H s) : ∀ b o, X.base.get? b = some o -> s.heap.get? b = some o := fun b o e => (I.bs b o e).1
theorem Inv.mod (I : Inv X pins σ H s) : Mod X.K X.mg X.base := I.ok.mod
theorem Inv.kIn (I : Inv X pins σ H s) : X.K.In s.heap := I.ok.mod.kin.keeps I.bk
theorem Inv.lt (I : Inv X pins σ H s) : X.env.locals < s.heap.objs.size := let ⟨_, hn, _⟩ := I.loc; hn.lt
theorem Inv.sz (I : Inv X pins σ H s) : X.s₀.heap.objs.size <= s.heap.objs.size := Nat.le_trans I.ok.above (Nat.le_of_lt I.lt)
theorem Inv.nofs (I : Inv X pins σ H s) {a : Addr} (h : s.heap.objs.size <= a) : a ∉ X.fs := fun hb => by
  obtain ⟨_, o, ho, _⟩ := I.ok.funs.mem hb
  exact absurd (Nat.lt_of_lt_of_le (Heap.lt_size ho) (Nat.le_trans I.sz h)) (Nat.lt_irrefl _)
theorem Inv.cne (I : Inv X pins σ H s) : ∀ x c, X.env.cells.lookup x = some c -> c ≠ X.env.locals := fun x c e z => by
  obtain ⟨v, o, ho, hd⟩ := I.cell x c e
  obtain ⟨m, ⟨o', es, ep, ho', hd', _⟩, _⟩ := I.loc
  rw [z, ho'] at ho; cases ho; rw [hd'] at hd; cases hd
theorem Inv.funs (I : Inv X pins σ H s) : s.heap.FunFrames X.base X.outer := by
  have all : ∀ (l : List Env), (∀ b ∈ frs l, b ∈ X.fs) -> X.s₀.heap.FunFrames X.base l -> s.heap.FunFrames X.base l := by
    intro l
    induction l with
    | nil => intro _ _; trivial
    | cons env r ih =>
      intro hs hl
      obtain ⟨hk, ⟨L, o, hf, hn, ho, hd⟩, hr⟩ := hl
      have hL : L ∈ X.fs := hs L (by unfold frs; rw [List.filterMap_cons, hf]; exact List.mem_cons_self)
      obtain ⟨sl, e⟩ := I.base.slot L o ho (I.ok.frf L hL) hL fun z => I.ok.exfs L z hL
      exact ⟨hk, ⟨L, _, hf, hn, e, hd⟩, ih (fun b hb => hs b (by unfold frs; rw [List.filterMap_cons, hf]; exact List.mem_cons_of_mem _ hb)) hr⟩
  exact all X.outer (fun _ hb => hb) I.ok.funs
theorem Inv.stack (I : Inv X pins σ H s) : s.heap.FunFrames X.base X.stack := by
  rcases I.ok.stk with e | ⟨e, hf⟩
  · rw [e]; exact I.funs
  · rw [e]
    obtain ⟨m, hn, _⟩ := I.loc
    refine .cons (by rw [I.ok.kind]; decide) hf hn ?_ I.funs
    exact Heap.get?_none_of_le (Nat.le_trans I.ok.bsz I.ok.above)
theorem Inv.stkSub (I : Inv X pins σ H s) : ∀ b ∈ frs X.stack, b ∈ X.env.locals :: X.fs := fun b hb => by
  rcases I.ok.stk with e | ⟨e, hf⟩
  · rw [e] at hb; exact List.mem_cons_of_mem _ hb
  · rw [e] at hb
    unfold frs at hb
    rw [List.filterMap_cons, hf] at hb
    exact hb
theorem Inv.stkFree (I : Inv X pins σ H s) : ∀ b ∈ frs X.stack, H b = none := fun b hb => by
  rcases List.mem_cons.mp (I.stkSub b hb) with e | hb
  · rw [e]; exact I.free
  · obtain ⟨_, o, ho, _⟩ := I.ok.funs.mem hb
    exact I.base.free b o ho (I.ok.frf b hb) fun z => I.ok.exfs b z hb
theorem Inv.step {g' : Array GenState} {t' : Nat} {d' : Drawn} {ch : List Addr} (I : Inv X pins σ H s)
    (hch : ∀ b ∈ ch, (b ∈ X.ex \/ X.s₀.heap.objs.size <= b) /\ b ≠ X.env.locals /\ (∀ x c, X.env.cells.lookup x = some c -> c ≠ b) /\ ∀ p ∈ X.pn ++ pins, p.1 ≠ b)
    (keep : ∀ b o, b ≠ X.env.locals -> b ∉ X.fs -> b ∉ ch -> s.heap.get? b = some o -> H b = none -> h'.get? b = some o)
    (slot : ∀ b o, b ≠ X.env.locals -> b ∈ X.fs -> b ∉ ch -> s.heap.get? b = some o -> H b = none -> ∃ sl, h'.get? b = some { o with slots := sl }) (free : ∀ b o, b ∉ ch -> s.heap.get? b = some o -> H b = none -> H' b = none)
    (there : ∀ b o, b ∉ ch -> s.heap.get? b = some o -> ∃ o', h'.get? b = some o')
    (tups : ∀ b xs, H b = some (.tup xs) -> H' b = some (.tup xs)) (frzs : ∀ b o u, H b = some (.frz o u) -> H' b = some (.frz o u)) (tbls : ∀ b ps, H b = some (.tbl ps) -> ∃ more, H' b = some (.tbl (ps ++ more)))
    (ns : ∀ m, s.heap.Ns X.env.locals m -> h'.Ns X.env.locals m) (hok : HOk X.prog X.w H' h') (hg : AllBare g') :
    Inv X pins σ H' { s with heap := h', gens := g', drawn := d', toks := t' } := by
  have neL : ∀ b o, X.s₀.heap.get? b = some o -> b ≠ X.env.locals := fun b o e => Nat.ne_of_lt (Nat.lt_of_lt_of_le (Heap.lt_size e) I.ok.above)
  have neC : ∀ b o, X.s₀.heap.get? b = some o -> b ∉ X.ex -> b ∉ ch := fun b o e hx hb => by
    rcases (hch b hb).1 with z | z
    · exact hx z
    · exact absurd (Nat.lt_of_lt_of_le (Heap.lt_size e) z) (Nat.lt_irrefl _)
  have cellK : ∀ x c, X.env.cells.lookup x = some c -> ∀ v, s.heap.IsCell c v -> h'.IsCell c v := fun x c e v ⟨o, ho, hd⟩ => by
    have nch : c ∉ ch := fun z => (hch c z).2.2.1 x c e rfl
    by_cases hc : c ∈ X.fs
    · obtain ⟨sl, q⟩ := slot c o (I.cne x c e) hc nch ho (I.freeC x c e)
      exact ⟨_, q, hd⟩
    · exact ⟨o, keep c o (I.cne x c e) hc nch ho (I.freeC x c e), hd⟩
  refine ⟨I.ok, I.os, hg, ⟨fun b o e n hb hx => ?_, fun b o e n hb hx => ?_, fun b o e n hx => ?_, fun b o e hx => ?_, fun b xs e => tups b xs (I.base.tups b xs e), fun b o xs e => frzs b o xs (I.base.frzs b o xs e), fun b ps e => ?_⟩, ?_, fun x c e => ?_, ?_, fun x c e => ?_, fun p hp => ?_, hok, I.len⟩
  · exact keep b o (neL b o e) hb (neC b o e hx) (I.base.keep b o e n hb hx) (I.base.free b o e n hx)
  · obtain ⟨sl, e1⟩ := I.base.slot b o e n hb hx
    obtain ⟨sl', e2⟩ := slot b _ (neL b o e) hb (neC b o e hx) e1 (I.base.free b o e n hx)
    exact ⟨sl', e2⟩
  · obtain ⟨o', e1⟩ := I.base.there b o e hx
    exact free b o' (neC b o e hx) e1 (I.base.free b o e n hx)
  · obtain ⟨o', e1⟩ := I.base.there b o e hx
    exact there b o' (neC b o e hx) e1
  · obtain ⟨m1, e1⟩ := I.base.tbls b ps e
    obtain ⟨m2, e2⟩ := tbls b _ e1
    exact ⟨m1 ++ m2, by rw [e2, Array.append_assoc]⟩
  · obtain ⟨m, hn, hl⟩ := I.loc
    refine ⟨m, ns m hn, fun i x v e1 e2 e3 => ?_⟩
    obtain ⟨u, r, l⟩ := hl i x v e1 e2 e3
    refine ⟨u, r, ?_⟩
    rcases l with l | ⟨k, c, e, z⟩
    · exact .inl l
    · exact .inr ⟨k, c, e, cellK x c e _ z⟩
  · obtain ⟨v, z⟩ := I.cell x c e
    exact ⟨v, cellK x c e v z⟩
  · obtain ⟨m, ⟨o, _, _, ho, _⟩, _⟩ := I.loc
    exact free _ o (fun z => (hch _ z).2.1 rfl) ho I.free
  · obtain ⟨v, o, ho, hd⟩ := I.cell x c e
    exact free c o (fun z => (hch c z).2.2.1 x c e rfl) ho (I.freeC x c e)
  · obtain ⟨e, n, ne, nf, d⟩ := I.pin p hp
    have nch : p.1 ∉ ch := fun z => (hch p.1 z).2.2.2 p hp rfl
    exact ⟨keep p.1 p.2 ne nf nch e n, free p.1 p.2 nch e n, ne, nf, d⟩
theorem Inv.un {t' : Nat} (I : Inv X pins σ H s) (u : Un X.fs [] H H' s.heap h') (hok : HOk X.prog X.w H' h') : Inv X pins σ H' { s with heap := h', toks := t' } := by
  obtain ⟨m, ⟨o, es, ep, ho, r⟩, _⟩ := id I.loc
  obtain ⟨sl, hL⟩ := u.any ho I.free (by simp)
  exact I.step (g' := s.gens) (d' := s.drawn) (ch := []) (fun _ z => nomatch z) (fun b o _ hb _ e n => u.keep b o e n hb (by simp)) (fun b o _ hb _ e n => u.slot b o e n hb (by simp)) (fun b o _ e n => u.free b o e n (by simp)) (fun b o _ e => u.there b o e (by simp)) u.tups u.frzs u.tbls (fun m' hm => by
    obtain ⟨o', es', ep', ho', r'⟩ := hm
    rw [ho] at ho'; cases ho'
    exact ⟨_, es', ep', hL, r'⟩) hok I.bare
theorem Inv.call {g' : Array GenState} {t' : Nat} {d' : Drawn} {ch : List Addr} (I : Inv X pins σ H s) (u : Un (frs X.stack) ch H H' s.heap h') (hok : HOk X.prog X.w H' h') (hg : AllBare g')
    (hch : ∀ b ∈ ch, (b ∈ X.ex \/ X.s₀.heap.objs.size <= b) /\ b ≠ X.env.locals /\ (∀ x c, X.env.cells.lookup x = some c -> c ≠ b) /\ ∀ p ∈ X.pn ++ pins, p.1 ≠ b) :
    Inv X pins σ H' { s with heap := h', gens := g', drawn := d', toks := t' } := by
  obtain ⟨m, ⟨o, es, ep, ho, r⟩, _⟩ := id I.loc
  obtain ⟨sl, hL⟩ := u.any ho I.free fun z => (hch _ z).2.1 rfl
  exact I.step (ch := ch) hch (fun b o hL hb hc e n => u.keep b o e n (fun z => (List.mem_cons.mp (I.stkSub b z)).elim hL hb) hc) (fun b o _ _ hc e n => u.any e n hc) (fun b o hc e n => u.free b o e n hc) (fun b o hc e => u.there b o e hc) u.tups u.frzs u.tbls (fun m' hm => by
    obtain ⟨o', es', ep', ho', r'⟩ := hm
    rw [ho] at ho'; cases ho'
    exact ⟨_, es', ep', hL, r'⟩) hok hg
theorem Inv.turned {t' : Nat} {it : Addr} (I : Inv X pins σ H s) (k : ∀ b o, b ≠ it -> s.heap.get? b = some o -> h'.get? b = some o) (hn : H it = none) (hL : it ≠ X.env.locals)
    (h1 : it ∈ X.ex \/ X.s₀.heap.objs.size <= it) (h2 : ∀ x c, X.env.cells.lookup x = some c -> c ≠ it) (h3 : ∀ p ∈ X.pn ++ pins, p.1 ≠ it) : Inv X pins σ H { s with heap := h', toks := t' } := by
  have nit : ∀ b u, H b = some u -> b ≠ it := fun b u e z => by rw [z, hn] at e; cases e
  refine I.step (g' := s.gens) (d' := s.drawn) (ch := [it]) (fun b hb => ?_) (fun b o _ _ hc e _ => k b o (fun z => hc (by simp [z])) e) (fun b o _ _ hc e _ => ⟨o.slots, k b o (fun z => hc (by simp [z])) e⟩) (fun _ _ _ _ n => n)
    (fun b o hc e => ⟨o, k b o (fun z => hc (by simp [z])) e⟩) (fun _ _ e => e) (fun _ _ _ e => e) (fun b ps e => ⟨#[], by rw [e]; simp⟩) (fun m hm => ?_) (fun b u e => ?_) I.bare
  · have e : b = it := by simpa using hb
    subst e
    exact ⟨h1, hL, h2, h3⟩
  · obtain ⟨o, es, ep, ho, r⟩ := hm
    exact ⟨o, es, ep, k _ o (Ne.symm hL) ho, r⟩
  · refine (I.hok b u e).stay (fun c v hc q => k c v ?_ q) (fun _ q => q) fun _ _ q => q
    rcases hc with z | z
    · rw [z]; exact nit b u e
    · exact nit c _ z
theorem Inv.tok (I : Inv X pins σ H s) (t : Nat) : Inv X pins σ H { s with toks := t } := I.un (h' := s.heap) (t' := t) Un.refl I.hok
theorem Inv.kept {t' : Nat} (I : Inv X pins σ H s) (k : ∀ b u, s.heap.get? b = some u -> h'.get? b = some u) : Inv X pins σ H { s with heap := h', toks := t' } := I.un (Un.kept k) (I.hok.kept k)
theorem Inv.laid {a : Addr} {o : HO} {t' : Nat} (I : Inv X pins σ H s) (k : ∀ b u, s.heap.get? b = some u -> h'.get? b = some u) (hp : s.heap.objs.size <= a) (new : zcF X.prog X.w (upd H a o) h' a o) :
    Inv X pins σ (upd H a o) { s with heap := h', toks := t' } := I.un (Un.laid k hp (I.hok.fresh hp)) (I.hok.laid k hp new)
theorem Inv.write {x e : Addr} {o : HO} {t' : Nat} (I : Inv X pins σ H s) (mu : Mut (H x)) (he : e = x \/ H e = some (.own x)) (k : ∀ b u, b ≠ e -> s.heap.get? b = some u -> h'.get? b = some u) (heo : ∃ u, h'.get? e = some u)
    (new : zcF X.prog X.w (upd H x o) h' x o) : Inv X pins σ (upd H x o) { s with heap := h', toks := t' } := I.un (Un.write mu he k heo) (I.hok.write mu he k heo new)
theorem Inv.pins_of {pins' : List (Addr × Obj)} (I : Inv X pins σ H s) (h : ∀ p ∈ pins', s.heap.get? p.1 = some p.2 /\ H p.1 = none /\ p.1 ≠ X.env.locals /\ p.1 ∉ X.fs /\ ∀ v, p.2.data ≠ .cell v) : Inv X pins' σ H s :=
  ⟨I.ok, I.os, I.bare, I.base, I.loc, I.cell, I.free, I.freeC, fun p hp => (List.mem_append.mp hp).elim (fun z => I.pin p (List.mem_append_left _ z)) (h p), I.hok, I.len⟩
theorem nodup_ix {N : List Str} (hN : N.Nodup) {i j : Nat} {x : Str} (a : N[i]? = some x) (b : N[j]? = some x) : i = j := by
  obtain ⟨h1, e1⟩ := List.getElem?_eq_some_iff.mp a
  obtain ⟨h2, e2⟩ := List.getElem?_eq_some_iff.mp b
  exact (List.getElem_inj hN).mp (e1.trans e2.symm)
theorem store_ok2 {M : Model} {A : Around} {E : Value -> Shared -> Prop} {i : Nat} {x : Str} {v : V} {u : Value} {Q : Unit -> Shared -> Prop} (I : Inv X pins σ H s) (hN : X.N.Nodup) (hi : X.N[i]? = some x) (hx : Loc X.env.scope x) (r : zca v u)
    (h : ∀ s', Inv X pins (σ.set i (some v)) H s' -> (∃ a, Heap.SameBut a s.heap s'.heap /\ (a = X.env.locals \/ X.env.cells.lookup x = some a)) -> Q () s') (hf : X.fn x = true \/ X.env.scope.names.lookup x = some .local := by first | exact .inl rfl | exact .inr rfl | assumption) : wpAny M A (storeName X.env x u) Q E s := by
  obtain ⟨m, hn, hl⟩ := id I.loc
  have hcls : (X.env.scope.kind == .class || (X.env.scope.kind == .module && X.env.locals != X.env.globals)) = false := by rw [I.ok.kind]; rfl
  have hiσ : i < σ.length := by rw [I.len]; exact (List.getElem?_eq_some_iff.mp hi).1
  have cne := I.cne
  have tracked : ∀ {a : Addr} {h' : Heap}, (∃ o, s.heap.get? a = some o /\ H a = none) -> Heap.SameBut a s.heap h' -> HOk X.prog X.w H h' := fun {a h'} ha hs b ob e => by
    obtain ⟨_, _, hfree⟩ := ha
    refine (I.hok b ob e).stay (fun c w' hc q => (hs.2 c ?_).trans q) (fun _ q => q) fun _ _ q => q
    rintro rfl
    rcases hc with rfl | hc
    · rw [hfree] at e; cases e
    · rw [hfree] at hc; cases hc
  rcases hx with hk | hk
  · refine wpAny_storeName_local hk hn (fun h' hn' hs => ?_) hcls
    obtain ⟨oL, _, _, hoL, _⟩ := id hn
    refine h _ ⟨I.ok, I.os, I.bare, ⟨fun b o e n hb hx => ?_, fun b o e n hb hx => ?_, I.base.free, fun b o e hx => ?_, I.base.tups, I.base.frzs, I.base.tbls⟩, ⟨_, hn', fun j y v' e1 e2 e3 => ?_⟩, fun y c e => ?_, I.free, I.freeC, fun p hp => ?_, tracked ⟨oL, hoL, I.free⟩ hs, by simpa using I.len⟩ ⟨_, hs, .inl rfl⟩
    · exact (hs.2 b (Nat.ne_of_lt (Nat.lt_of_lt_of_le (Heap.lt_size e) I.ok.above))).trans (I.base.keep b o e n hb hx)
    · obtain ⟨sl, e1⟩ := I.base.slot b o e n hb hx
      exact ⟨sl, (hs.2 b (Nat.ne_of_lt (Nat.lt_of_lt_of_le (Heap.lt_size e) I.ok.above))).trans e1⟩
    · obtain ⟨o', e1⟩ := I.base.there b o e hx
      exact ⟨o', (hs.2 b (Nat.ne_of_lt (Nat.lt_of_lt_of_le (Heap.lt_size e) I.ok.above))).trans e1⟩
    · by_cases hj : j = i
      · subst hj
        rw [hi] at e1; cases e1
        rw [List.getElem?_set_self hiσ] at e2
        cases e2
        exact ⟨u, r, .inl ⟨hk, by simp⟩⟩
      · rw [List.getElem?_set_ne (Ne.symm hj)] at e2
        obtain ⟨u', r', q⟩ := hl j y v' e1 e2 e3
        refine ⟨u', r', ?_⟩
        rcases q with ⟨k, e⟩ | ⟨k, c, e, z⟩
        · refine .inl ⟨k, ?_⟩
          have : y ≠ x := fun e => hj (nodup_ix hN e1 (e ▸ hi))
          simp [this, e]
        · exact .inr ⟨k, c, e, z.sameBut hs (cne y c e)⟩
    · obtain ⟨w', z⟩ := I.cell y c e
      exact ⟨w', z.sameBut hs (cne y c e)⟩
    · obtain ⟨e, n, ne, nf, d⟩ := I.pin p hp
      exact ⟨(hs.2 p.1 ne).trans e, n, ne, nf, d⟩
  · have hfn : X.fn x = true := by
      rcases hf with z | z
      · exact z
      · rw [z] at hk; cases hk
    obtain ⟨c, hc⟩ := I.ok.has x (.inl hk)
    obtain ⟨w', z⟩ := I.cell x c hc
    refine wpAny_storeName_cell I.ok.kind hk hc z (fun h' hc' hs => ?_)
    obtain ⟨oc, hoc, hocd⟩ := id z
    refine h { s with heap := h' } ⟨I.ok, I.os, I.bare, ⟨fun b o e n hb hx => ?_, fun b o e n hb hx => ?_, I.base.free, fun b o e hx => ?_, I.base.tups, I.base.frzs, I.base.tbls⟩, ⟨m, hn.sameBut hs (Ne.symm (cne x c hc)), fun j y v' e1 e2 e3 => ?_⟩, fun y c' e => ?_, I.free, I.freeC, fun p hp => ?_, tracked ⟨oc, hoc, I.freeC x c hc⟩ hs, by simpa using I.len⟩ ⟨c, hs, .inr hc⟩
    · exact (hs.2 b (Nat.ne_of_lt (Nat.lt_of_lt_of_le (Heap.lt_size e) (I.ok.cab x c hfn hc)))).trans (I.base.keep b o e n hb hx)
    · obtain ⟨sl, e1⟩ := I.base.slot b o e n hb hx
      exact ⟨sl, (hs.2 b (Nat.ne_of_lt (Nat.lt_of_lt_of_le (Heap.lt_size e) (I.ok.cab x c hfn hc)))).trans e1⟩
    · obtain ⟨o', e1⟩ := I.base.there b o e hx
      exact ⟨o', (hs.2 b (Nat.ne_of_lt (Nat.lt_of_lt_of_le (Heap.lt_size e) (I.ok.cab x c hfn hc)))).trans e1⟩
    · by_cases hj : j = i
      · subst hj
        rw [hi] at e1; cases e1
        rw [List.getElem?_set_self hiσ] at e2
        cases e2
        exact ⟨u, r, .inr ⟨.inl hk, c, hc, hc'⟩⟩
      · rw [List.getElem?_set_ne (Ne.symm hj)] at e2
        obtain ⟨u', r', q⟩ := hl j y v' e1 e2 e3
        refine ⟨u', r', ?_⟩
        rcases q with q | ⟨k, c', e, z'⟩
        · exact .inl q
        · refine .inr ⟨k, c', e, z'.sameBut hs ?_⟩
          rintro rfl
          exact hj (nodup_ix hN e1 (I.ok.inj _ _ _ e hc ▸ hi))
    · by_cases hcc : c' = c
      · subst hcc; exact ⟨_, hc'⟩
      · obtain ⟨w2, z2⟩ := I.cell y c' e
        exact ⟨w2, z2.sameBut hs hcc⟩
    · obtain ⟨e, n, ne, nf, d⟩ := I.pin p hp
      refine ⟨(hs.2 p.1 ?_).trans e, n, ne, nf, d⟩
      intro q
      rw [q, hoc] at e
      have q' : oc = p.2 := Option.some.inj e
      exact d w' (by rw [← q']; exact hocd)
theorem store_ok {M : Model} {A : Around} {E : Value -> Shared -> Prop} {i : Nat} {x : Str} {v : V} {u : Value} {Q : Unit -> Shared -> Prop} (I : Inv X pins σ H s) (hN : X.N.Nodup) (hi : X.N[i]? = some x) (hx : Loc X.env.scope x) (r : zca v u)
    (h : ∀ s', Inv X pins (σ.set i (some v)) H s' -> Q () s') (hf : X.fn x = true \/ X.env.scope.names.lookup x = some .local := by first | exact .inl rfl | exact .inr rfl | assumption) : wpAny M A (storeName X.env x u) Q E s :=
  store_ok2 I hN hi hx r (fun s' I' _ => h s' I') hf
theorem Inv.call' {s' : Shared} {ch : List Addr} (I : Inv X pins σ H s) (ho : s'.os = s.os) (u : Un (frs X.stack) ch H H' s.heap s'.heap) (hok : HOk X.prog X.w H' s'.heap) (hg : AllBare s'.gens)
    (hch : ∀ b ∈ ch, (b ∈ X.ex \/ X.s₀.heap.objs.size <= b) /\ b ≠ X.env.locals /\ (∀ x c, X.env.cells.lookup x = some c -> c ≠ b) /\ ∀ p ∈ X.pn ++ pins, p.1 ≠ b) : Inv X pins σ H' s' := by
  obtain ⟨h', g', d', t', o'⟩ := s'
  have e : o' = s.os := ho
  subst e
  exact I.call (g' := g') (t' := t') (d' := d') u hok hg hch
end
abbrev XK := Value -> Option Addr -> Hp -> Prop
abbrev St := List (Option V)
abbrev VK := V -> Hp -> Prop
abbrev TE := St -> Hp -> VK -> Prop
abbrev TT := St -> Hp -> (Bool -> Hp -> Prop) -> Prop
abbrev TA := St -> Hp -> (List V -> Hp -> Prop) -> Prop
structure Ends where
  nx : St -> Hp -> Prop
  rt : VK
  bk : St -> Hp -> Prop := fun _ _ => False
  ct : St -> Hp -> Prop := fun _ _ => False
abbrev TS := Ends -> St -> Hp -> Prop
def EP (X : Cx) (pins : List (Addr × Obj)) (σ : St) (Q : VK) (u : Value) (s' : Shared) : Prop := ∃ v H', Inv X pins σ H' s' /\ zca v u /\ Q v H'
def TP (X : Cx) (pins : List (Addr × Obj)) (σ : St) (Q : Bool -> Hp -> Prop) (b : Bool) (s' : Shared) : Prop := ∃ H', Inv X pins σ H' s' /\ Q b H'
def AP (X : Cx) (pins : List (Addr × Obj)) (σ : St) (Q : List V -> Hp -> Prop) (us : List Value) (s' : Shared) : Prop := ∃ vs H', Inv X pins σ H' s' /\ zb3 vs us /\ Q vs H'
def SP (X : Cx) (pins : List (Addr × Obj)) (D : Ends) (f : Flow) (s' : Shared) : Prop :=
  match f with
  | .next => ∃ σ' H', Inv X pins σ' H' s' /\ D.nx σ' H'
  | .brk => ∃ σ' H', Inv X pins σ' H' s' /\ D.bk σ' H'
  | .cont => ∃ σ' H', Inv X pins σ' H' s' /\ D.ct σ' H'
  | .ret u => ∃ v σ' H', Inv X pins σ' H' s' /\ zca v u /\ D.rt v H'
def PE (X : Cx) (e : Expr) (t : TE) : Prop :=
  ∀ (pins : List (Addr × Obj)) (s : Shared) (σ : St) (H : Hp) (Q : VK), Inv X pins σ H s -> t σ H Q -> wpAny (model X.prog X.w) X.A (eval e X.env) (EP X pins σ Q) X.xe s
def PT (X : Cx) (e : Expr) (t : TT) : Prop :=
  ∀ (pins : List (Addr × Obj)) (s : Shared) (σ : St) (H : Hp) (Q : Bool -> Hp -> Prop), Inv X pins σ H s -> t σ H Q -> wpAny (model X.prog X.w) X.A (isTrue e X.env (eval e X.env)) (TP X pins σ Q) X.xe s
def PW (X : Cx) (e : Expr) (t : TT) : Prop :=
  ∀ (whole : Sem Value) (pins : List (Addr × Obj)) (s : Shared) (σ : St) (H : Hp) (Q : Bool -> Hp -> Prop), Inv X pins σ H s -> t σ H Q -> wpAny (model X.prog X.w) X.A (isTrue e X.env whole) (TP X pins σ Q) X.xe s
theorem PW.pt {X : Cx} {e : Expr} {t : TT} (h : PW X e t) : PT X e t := h _
def PA (X : Cx) (es : List Expr) (t : TA) : Prop :=
  ∀ (pos : Pos) (pins : List (Addr × Obj)) (s : Shared) (σ : St) (H : Hp) (Q : List V -> Hp -> Prop), Inv X pins σ H s -> t σ H Q -> wpAny (model X.prog X.w) X.A (spliced (backTo pos (starEach es X.env))) (AP X pins σ Q) X.xe s
def PS (X : Cx) (st : Stmt) (t : TS) : Prop :=
  ∀ (pins : List (Addr × Obj)) (s : Shared) (σ : St) (H : Hp) (D : Ends), Inv X pins σ H s -> t D σ H -> wpAny (model X.prog X.w) X.A (exec st X.env) (SP X pins D) X.xe s
def PSs (X : Cx) (st : List Stmt) (t : TS) : Prop :=
  ∀ (pins : List (Addr × Obj)) (s : Shared) (σ : St) (H : Hp) (D : Ends), Inv X pins σ H s -> t D σ H -> wpAny (model X.prog X.w) X.A (execs st X.env) (SP X pins D) X.xe s
theorem thn {α : Type} {t : Sem α} {Q Q' : α -> Shared -> Prop} {M : Model} {A : Around} {E : Value -> Shared -> Prop} {s : Shared} (h : wpAny M A t Q E s) (hQ : ∀ a s, Q a s -> Q' a s) : wpAny M A t Q' E s := wpAny_mono h hQ fun _ _ x => x
end L2
namespace L2
open PySem PySem.Spec PyProof.Rows
section
variable {X : Cx}
theorem bin {a b : Expr} {ta tb : TE} (ha : PE X a ta) (hb : PE X b tb) {pins : List (Addr × Obj)} {s : Shared} {σ : St} {H : Hp} {R : V -> V -> Hp -> Prop} (I : Inv X pins σ H s) (h : ta σ H fun x H1 => tb σ H1 fun y H2 => R x y H2)
    {α : Type} {Q : α -> Shared -> Prop} {f : Value -> Value -> Sem α}
    (hf : ∀ v u s2 x y H2, Inv X pins σ H2 s2 -> zca x v -> zca y u -> R x y H2 -> wpAny (model X.prog X.w) X.A (f v u) Q X.xe s2) :
    wpAny (model X.prog X.w) X.A (eval a X.env) (fun v s₁ => wpAny (model X.prog X.w) X.A (eval b X.env) (fun u s₂ => wpAny (model X.prog X.w) X.A (f v u) Q X.xe s₂) X.xe s₁) X.xe s := by
  refine thn (ha pins s σ H _ I h) fun v s1 ⟨x, H1, I1, r1, q1⟩ => ?_
  refine thn (hb pins s1 σ H1 _ I1 q1) fun u s2 ⟨y, H2, I2, r2, q2⟩ => ?_
  exact hf v u s2 x y H2 I2 r1 r2 q2
def tVar (i : Nat) : TE := fun σ H Q => ∃ v, σ[i]? = some (some v) /\ Q v H
def tC (v : V) : TE := fun _ H Q => Q v H
theorem pe_var {i : Nat} {x : Str} {pos : Pos} (hN : X.N[i]? = some x) (hv : Vis X.env.scope x) (hd : (x == ("__debug__" : Str)) = false := by decide) (hcd : (x == ("__classdict__" : Str)) = false := by decide) : PE X (.Name x pos) (tVar i) := by
  intro pins s σ H Q I h
  obtain ⟨v, e, h⟩ := h
  obtain ⟨m, hn, hl⟩ := I.loc
  obtain ⟨u, r, l⟩ := hl i x v hN e hv
  have fin : EP X pins σ Q u s := ⟨v, H, I, r, h⟩
  rcases l with ⟨hk, hm⟩ | ⟨hk, c, hc, hcell⟩
  · exact wpAny_Name (wpAny_loadName_local I.ok.kind hk hn hm fin) hd
  · rcases hk with hk | hk
    · exact wpAny_Name (wpAny_loadName_cell I.ok.kind hk hc hcell fin) hd
    · exact wpAny_Name (wpAny_loadName_free I.ok.kind hk hc hcell fin hcd) hd
theorem pe_int {i j pos} : PE X (.Constant (.int i) j pos) (tC (.int i)) := fun _ _ _ H _ I h => wpAny_Constant_int ⟨.int i, H, I.tok _, ⟨_, rfl⟩, h⟩
theorem pe_bl {b j pos} : PE X (.Constant (.bool b) j pos) (tC (.bl b)) := fun _ _ _ H _ I h => Constant_bool ⟨.bl b, H, I, rfl, h⟩
theorem pe_non {j pos} : PE X (.Constant .none j pos) (tC .non) := fun _ _ _ H _ I h => Constant_none ⟨.non, H, I, rfl, h⟩
theorem pe_str {x j pos} : PE X (.Constant (.str x) j pos) (tC (.str x)) := fun _ _ _ H _ I h => Calls.Constant_str ⟨.str x, H, I.tok _, ⟨_, rfl⟩, h⟩
def Gl (X : Cx) (x : Str) : Prop := X.env.kindOf x = some .globalImplicit
theorem ld_glob {E : Value -> Shared -> Prop} {pins : List (Addr × Obj)} {s : Shared} {σ : St} {H : Hp} {x : Str} {u : Value} {pos : Pos} {Q : Value -> Shared -> Prop} (I : Inv X pins σ H s) (hg : Gl X x) (hm : X.mg x = some u) (h : Q u s)
    (hd : (x == ("__debug__" : Str)) = false := by decide) : wpAny (model X.prog X.w) X.A (eval (.Name x pos) X.env) Q E s :=
  Calls.Name_function_global I.ok.kind hg (Calls.loadGlobal_global (by rw [I.ok.glob]; exact I.mod.glob.keeps I.bk) hm h) hd
theorem ld_blt {E : Value -> Shared -> Prop} {pins : List (Addr × Obj)} {s : Shared} {σ : St} {H : Hp} {x : Str} {u : Value} {pos : Pos} {Q : Value -> Shared -> Prop} (I : Inv X pins σ H s) (hg : Gl X x) (hm : X.mg x = none) (hv : bootBuiltins x = some u) (h : Q u s)
    (hn : x ≠ "__name__" := by decide) (hd : (x == ("__debug__" : Str)) = false := by decide) : wpAny (model X.prog X.w) X.A (eval (.Name x pos) X.env) Q E s := by
  obtain ⟨mb, h1, h2⟩ := I.mod.blt
  exact Calls.Name_function_global I.ok.kind hg (Calls.loadGlobal_builtin (by rw [I.ok.glob]; exact I.mod.glob.keeps I.bk) hm (by rw [I.ok.blt]; exact h1.keeps I.bk) ((h2 x hn).trans hv) h) hd
theorem pe_glob {x : Str} {v : V} {u : Value} {pos : Pos} (hg : Gl X x) (hm : X.mg x = some u) (r : zca v u) (hd : (x == ("__debug__" : Str)) = false := by decide) : PE X (.Name x pos) (tC v) :=
  fun _ _ _ H _ I h => ld_glob I hg hm ⟨v, H, I, r, h⟩ hd
theorem pe_bltn {x : Str} {v : V} {u : Value} {pos : Pos} (hg : Gl X x) (hm : X.mg x = none) (hv : bootBuiltins x = some u) (r : zca v u) (hn : x ≠ "__name__" := by decide) (hd : (x == ("__debug__" : Str)) = false := by decide) : PE X (.Name x pos) (tC v) :=
  fun _ _ _ H _ I h => ld_blt I hg hm hv ⟨v, H, I, r, h⟩ hn hd
variable {a b : Expr} {ta tb : TE} {pos : Pos}
def PC (X : Cx) (op : CmpOp) (a b : Expr) (t : TE) : Prop :=
  ∀ (pins : List (Addr × Obj)) (s : Shared) (σ : St) (H : Hp) (Q : VK), Inv X pins σ H s -> t σ H Q ->
    wpAny (model X.prog X.w) X.A (eval a X.env) (fun v s₁ => wpAny (model X.prog X.w) X.A (eval b X.env) (fun u s₂ => wpAny (model X.prog X.w) X.A (compareOp op v u) (EP X pins σ Q) X.xe s₂) X.xe s₁) X.xe s
theorem nobehind (b : Expr) {op : CmpOp} (h : op ≠ .In) (h2 : op ≠ .NotIn) : behindInMarks op b = false := by
  have e1 : (op == CmpOp.In) = false := by cases op <;> first | rfl | exact absurd rfl h
  have e2 : (op == CmpOp.NotIn) = false := by cases op <;> first | rfl | exact absurd rfl h2
  cases b <;> simp [behindInMarks, e1, e2]
def tB (t : TE) : TT := fun σ H Q => t σ H fun x H1 => ∃ c, x = .bl c /\ Q c H1
theorem pt_cmp {op : CmpOp} {t : TE} (h : PC X op a b t) (h1 : behindInMarks op b = false := by first | exact nobehind _ (by decide) (by decide) | rfl) : PT X (.Compare a [op] [b] pos) (tB t) := by
  intro pins s σ H Q I hw
  refine wpAny_isTrue_Compare1 (thn (h pins s σ H _ I hw) fun v s1 h1 => thn h1 fun u s2 h2 => thn h2 fun c s3 ⟨x, H1, I1, r1, q1⟩ => ?_) h1
  obtain ⟨d, rfl, q⟩ := q1
  cases r1
  exact wpAny_truthy_bool ⟨H1, I1, q⟩
theorem pt_val {e : Expr} {t : TE} (h : PE X e t) (he : ∀ whole, isTrue e X.env whole = (do let v ← whole; standAt e.pos; holding [v] (truthy v)) := by intro _; rfl) : PT X e (tB t) := by
  intro pins s σ H Q I hw
  refine isTrue_plain (thn (h pins s σ H _ I hw) fun v s1 ⟨x, H1, I1, r1, q1⟩ => ?_) (he _)
  obtain ⟨d, rfl, q⟩ := q1
  cases r1
  exact wpAny_truthy_bool ⟨H1, I1, q⟩
variable {tA tB' : TT} {zcY : List Expr}
def tAnd (t u : TT) : TT := fun σ H Q => t σ H fun c H1 => if c = true then u σ H1 Q else Q false H1
def tOr (t u : TT) : TT := fun σ H Q => t σ H fun c H1 => if c = true then Q true H1 else u σ H1 Q
def tNot (t : TT) : TT := fun σ H Q => t σ H fun c H1 => Q (!c) H1
theorem pw_and1 (ha : PT X a tA) : PW X (.BoolOp .And [a] pos) tA := by
  intro wh pins s σ H Q I h
  refine isTrue_and (thn (ha pins s σ H Q I h) fun c s1 e => ?_)
  cases c with
  | true => exact isTrue_and_nil e
  | false => exact e
theorem pw_or1 (ha : PT X a tA) : PW X (.BoolOp .Or [a] pos) tA := by
  intro wh pins s σ H Q I h
  refine isTrue_or (thn (ha pins s σ H Q I h) fun c s1 e => ?_)
  cases c with
  | false => exact isTrue_or_nil e
  | true => exact e
theorem pw_and (ha : PT X a tA) (hb : PW X (.BoolOp .And (b :: zcY) pos) tB') : PW X (.BoolOp .And (a :: b :: zcY) pos) (tAnd tA tB') := by
  intro wh pins s σ H Q I h
  refine isTrue_and (thn (ha pins s σ H _ I h) fun c s1 ⟨H1, I1, q1⟩ => ?_)
  cases c with
  | true => exact hb wh pins s1 σ H1 Q I1 q1
  | false => exact ⟨H1, I1, q1⟩
theorem pw_or (ha : PT X a tA) (hb : PW X (.BoolOp .Or (b :: zcY) pos) tB') : PW X (.BoolOp .Or (a :: b :: zcY) pos) (tOr tA tB') := by
  intro wh pins s σ H Q I h
  refine isTrue_or (thn (ha pins s σ H _ I h) fun c s1 ⟨H1, I1, q1⟩ => ?_)
  cases c with
  | true => exact ⟨H1, I1, q1⟩
  | false => exact hb wh pins s1 σ H1 Q I1 q1
theorem pt_not (ha : PT X a tA) : PT X (.UnaryOp .Not a pos) (tNot tA) := by
  intro pins s σ H Q I h
  exact isTrue_not (ha pins s σ H (fun c H1 => Q (!c) H1) I h)
def tAndV (ta tb : TE) : TE := fun σ H Q => ta σ H fun x H1 => ∃ c, x = .bl c /\ if c = true then tb σ H1 Q else Q (.bl false) H1
def tNotV (ta : TE) : TE := fun σ H Q => ta σ H fun x H1 => ∃ c, x = .bl c /\ Q (.bl (!c)) H1
theorem pe_one {op} {t : TE} (h : PE X a t) : PE X (.BoolOp op [a] pos) t := fun pins s σ H Q I hw => BoolOp_one (h pins s σ H Q I hw)
theorem pe_and (ha : PE X a ta) (hb : PE X (.BoolOp .And (b :: zcY) pos) tb) : PE X (.BoolOp .And (a :: b :: zcY) pos) (tAndV ta tb) := by
  intro pins s σ H Q I h
  refine BoolOp_and (thn (ha pins s σ H _ I h) fun v s1 ⟨x, H1, I1, r1, q1⟩ => ?_)
  obtain ⟨c, rfl, q1⟩ := q1
  cases r1
  refine wpAny_truthy_bool ?_
  cases c with
  | true => exact hb pins s1 σ H1 Q I1 q1
  | false => exact ⟨.bl false, H1, I1, rfl, q1⟩
theorem pe_not (ha : PE X a ta) : PE X (.UnaryOp .Not a pos) (tNotV ta) := by
  intro pins s σ H Q I h
  refine UnaryOp_ (thn (ha pins s σ H _ I h) fun v s1 ⟨x, H1, I1, r1, q1⟩ => ?_)
  obtain ⟨c, rfl, q1⟩ := q1
  cases r1
  exact not_of (wpAny_truthy_bool ⟨.bl (!c), H1, I1, rfl, q1⟩)
end
end L2
namespace L2
open PySem PySem.Spec PyProof.Rows
def SqL (K : PySem.W.Frag) (H : Hp) (a : Addr) (xs : List V) : Prop :=
  Rd H a (.lst xs) \/
    ∃ (o : Obj) (its : Array Value) (n : Nat), K.lookup a = some o /\ o.cls = .type "list" /\ o.dict = none /\ o.data = .seq its n /\ its.size <= sizeLine /\ zb3 xs its.toList
def SqT (K : PySem.W.Frag) (H : Hp) (a : Addr) (xs : List V) : Prop :=
  Rd H a (.tup xs) \/
    ∃ (o : Obj) (its : Array Value) (n : Nat), K.lookup a = some o /\ o.cls = .type "tuple" /\ o.data = .seq its n /\ its.size <= sizeLine /\ zb3 xs its.toList
def absV : Value -> Option V
  | .none => some .non
  | .bool b => some (.bl b)
  | .int i _ => some (.int i)
  | .str x _ => some (.str x)
  | .bytes b _ => some (.byt b)
  | .float b _ => some (.flt b)
  | .ref a => some (.ref a)
  | .type n => some (.ty n)
  | _ => none
theorem zca.abs {x : V} {u : Value} (r : zca x u) : absV u = some x := by
  cases x with
  | non => cases r; rfl
  | bl _ => cases r; rfl
  | int _ => obtain ⟨t, rfl⟩ := r; rfl
  | str _ => obtain ⟨t, rfl⟩ := r; rfl
  | byt _ => obtain ⟨t, rfl⟩ := r; rfl
  | flt _ => obtain ⟨t, rfl⟩ := r; rfl
  | ref _ => cases r; rfl
  | ty _ => cases r; rfl
theorem zca.inj {x y : V} {u : Value} (r : zca x u) (q : zca y u) : x = y := Option.some.inj (r.abs.symm.trans q.abs)
theorem zb3.inj : ∀ {xs ys : List V} {us : List Value}, zb3 xs us -> zb3 ys us -> xs = ys
  | _, _, _, .nil, .nil => rfl
  | _, _, _, .cons r t, .cons r' t' => by rw [r.inj r', zb3.inj t t']
section
variable {X : Cx} {pins : List (Addr × Obj)} {σ : St} {H : Hp} {s : Shared} {a : Addr} {xs ys : List V}
theorem Inv.list (I : Inv X pins σ H s) (h : SqL X.K H a xs) : ∃ its : List Value, zb3 xs its /\ PlainL s.heap a its.toArray /\ xs.length <= sizeLine := by
  rcases h with h | ⟨o, its, n, hk, hc, hd, hs, hz, r⟩
  · obtain ⟨z, its, n, r, e⟩ := h.ok I.hok
    exact ⟨its, r, ⟨_, n, e, rfl, rfl, rfl⟩, z⟩
  · refine ⟨its.toList, r, ⟨o, n, I.kIn a o hk, hc, hd, by simpa using hs⟩, ?_⟩
    have e := r.length
    simp only [Array.length_toList] at e
    omega
theorem Inv.tuple (I : Inv X pins σ H s) (h : SqT X.K H a xs) : ∃ its : List Value, zb3 xs its /\ IsTup s.heap a its.toArray /\ xs.length <= sizeLine := by
  rcases h with h | ⟨o, its, n, hk, hc, hs, hz, r⟩
  · obtain ⟨z, its, r, p⟩ := h.ok I.hok
    exact ⟨its, r, p, z⟩
  · refine ⟨its.toList, r, ⟨o, I.kIn a o hk, hc, n, by simpa using hs⟩, ?_⟩
    have e := r.length
    simp only [Array.length_toList] at e
    omega
theorem Inv.list_inj (I : Inv X pins σ H s) (h : SqL X.K H a xs) (h' : SqL X.K H a ys) : xs = ys := by
  obtain ⟨its, r, ⟨o, n, e, _, _, d⟩, _⟩ := I.list h
  obtain ⟨its', r', ⟨o', n', e', _, _, d'⟩, _⟩ := I.list h'
  rw [e] at e'; cases e'
  rw [d] at d'
  injection d' with d1 _
  have : its = its' := by simpa using congrArg Array.toList d1
  subst this
  exact r.inj r'
theorem Inv.tuple_inj (I : Inv X pins σ H s) (h : SqT X.K H a xs) (h' : SqT X.K H a ys) : xs = ys := by
  obtain ⟨its, r, ⟨o, e, _, n, d⟩, _⟩ := I.tuple h
  obtain ⟨its', r', ⟨o', e', _, n', d'⟩, _⟩ := I.tuple h'
  rw [e] at e'; cases e'
  rw [d] at d'
  injection d' with d1 _
  have : its = its' := by simpa using congrArg Array.toList d1
  subst this
  exact r.inj r'
end
abbrev Cx.wish (X : Cx) (E : Value -> Shared -> Prop) : Cx := { X with xe := E }
abbrev Cx.nox (X : Cx) : Cx := X.wish fun _ _ => False
theorem Cx.Ok.wish {X : Cx} (ok : X.Ok) (E : Value -> Shared -> Prop) : (X.wish E).Ok :=
  ⟨ok.mod, ok.kind, ok.glob, ok.blt, ok.above, ok.inj, ok.has, ok.cab, ok.hd, ok.frames, ok.stk, ok.exf, ok.bs, ok.bsz, ok.noex, ok.exfs, ok.funs, ok.frf⟩
theorem Cx.Ok.unwish {X : Cx} {E : Value -> Shared -> Prop} (ok : (X.wish E).Ok) : X.Ok :=
  ⟨ok.mod, ok.kind, ok.glob, ok.blt, ok.above, ok.inj, ok.has, ok.cab, ok.hd, ok.frames, ok.stk, ok.exf, ok.bs, ok.bsz, ok.noex, ok.exfs, ok.funs, ok.frf⟩
section
variable {X : Cx} {pins : List (Addr × Obj)} {σ : St} {H : Hp} {s : Shared} {E : Value -> Shared -> Prop}
theorem Inv.wish (I : Inv X pins σ H s) (E : Value -> Shared -> Prop) : Inv (X.wish E) pins σ H s := ⟨I.ok.wish E, I.os, I.bare, I.base, I.loc, I.cell, I.free, I.freeC, I.pin, I.hok, I.len⟩
theorem Inv.unwish (I : Inv (X.wish E) pins σ H s) : Inv X pins σ H s := ⟨I.ok.unwish, I.os, I.bare, I.base, I.loc, I.cell, I.free, I.freeC, I.pin, I.hok, I.len⟩
theorem SP.unwish {D : Ends} {f : Flow} {s' : Shared} (h : SP (X.wish E) pins D f s') : SP X pins D f s' := by
  cases f with
  | next => obtain ⟨σ', H', I, q⟩ := h; exact ⟨σ', H', I.unwish, q⟩
  | brk => obtain ⟨σ', H', I, q⟩ := h; exact ⟨σ', H', I.unwish, q⟩
  | cont => obtain ⟨σ', H', I, q⟩ := h; exact ⟨σ', H', I.unwish, q⟩
  | ret u => obtain ⟨v, σ', H', I, r, q⟩ := h; exact ⟨v, σ', H', I.unwish, r, q⟩
theorem PSs.nox {st : List Stmt} {t : TS} (h : PSs X.nox st t) : PSs X st t := fun pins s σ H D I hw =>
  wpAny_mono (h pins s σ H D (I.wish _) hw) (fun _ _ q => q.unwish) fun _ _ z => False.elim z
end
section
variable {X : Cx} {st : Stmt} {zcY : List Stmt} {t u : TS} {e : Expr} {te : TE} {pos : Pos}
def tNext : TS := fun D σ H => D.nx σ H
def tSeq (t u : TS) : TS := fun D σ H => t { D with nx := u D } σ H
theorem pss_nil : PSs X [] tNext := fun _ _ σ H _ I h => wpAny_execs_nil ⟨σ, H, I, h⟩
theorem pss_cons (h1 : PS X st t) (h2 : PSs X zcY u) : PSs X (st :: zcY) (tSeq t u) := by
  intro pins s σ H D I h
  refine wpAny_execs_cons (thn (h1 pins s σ H { D with nx := u D } I h) fun f s1 q => ?_)
  cases f with
  | next =>
    obtain ⟨σ', H', I', q⟩ := q
    exact h2 pins s1 σ' H' D I' q
  | ret v => exact q
  | brk => exact q
  | cont => exact q
theorem pss_one (h1 : PS X st t) : PSs X [st] t := by
  intro pins s σ H D I h
  refine wpAny_execs_cons (thn (h1 pins s σ H D I h) fun f s1 q => ?_)
  cases f with
  | next => exact wpAny_execs_nil q
  | ret v => exact q
  | brk => exact q
  | cont => exact q
theorem Inv.quiet {pins : List (Addr × Obj)} {σ : St} {H : Hp} {s : Shared} (I : Inv X pins σ H s) : interactive X.env = false := by simp [interactive, I.ok.kind]
def tDrop (te : TE) : TS := fun D σ H => te σ H fun _ H1 => D.nx σ H1
theorem ps_expr (he : PE X e te) (hs : swapsWith e none pos.line X.env = pure false := by rfl) : PS X (.Expr e pos) (tDrop te) := by
  intro pins s σ H D I h
  exact wpAny_Expr_any (thn (he pins s σ H _ I h) fun v s1 ⟨x, H1, I1, r1, q1⟩ => ⟨σ, H1, I1, q1⟩) I.quiet hs
def tRet (te : TE) : TS := fun D σ H => te σ H D.rt
theorem ps_ret (he : PE X e te) : PS X (.Return (some e) pos) (tRet te) := by
  intro pins s σ H D I h
  exact wpAny_Return_some (thn (he pins s σ H _ I h) fun v s1 ⟨x, H1, I1, r1, q1⟩ => ⟨x, σ, H1, I1, r1, q1⟩)
def tIfS (c : TT) (t u : TS) : TS := fun D σ H => c σ H fun b H1 => if b = true then t D σ H1 else u D σ H1
theorem ps_if {c : Expr} {a b : List Stmt} {tc : TT} (hc : PT X c tc) (ha : PSs X a t) (hb : PSs X b u) : PS X (.If c a b pos) (tIfS tc t u) := by
  intro pins s σ H D I h
  refine wpAny_If (thn (hc pins s σ H _ I h) fun d s1 ⟨H1, I1, q1⟩ => ?_)
  cases d with
  | true => exact ha pins s1 σ H1 D I1 q1
  | false => exact hb pins s1 σ H1 D I1 q1
end
abbrev TG := V -> St -> Hp -> (St -> Hp -> Prop) -> Prop
abbrev TGs := List V -> St -> Hp -> (St -> Hp -> Prop) -> Prop
def PG (X : Cx) (target : Expr) (t : TG) : Prop :=
  ∀ (pins : List (Addr × Obj)) (s : Shared) (σ : St) (H : Hp) (v : V) (u : Value) (Q : St -> Hp -> Prop), Inv X pins σ H s -> zca v u -> t v σ H Q ->
    wpAny (model X.prog X.w) X.A (assign target X.env u) (fun _ s' => ∃ σ' H', Inv X pins σ' H' s' /\ Q σ' H') X.xe s
def PGs (X : Cx) (ts : List Expr) (t : TGs) : Prop :=
  ∀ (pins : List (Addr × Obj)) (s : Shared) (σ : St) (H : Hp) (vs : List V) (us : List Value) (Q : St -> Hp -> Prop), Inv X pins σ H s -> zb3 vs us -> t vs σ H Q ->
    wpAny (model X.prog X.w) X.A (assignInOrder ((assignEach ts X.env).map (·.2)) us) (fun _ s' => ∃ σ' H', Inv X pins σ' H' s' /\ Q σ' H') X.xe s
section
variable {X : Cx} {pos : Pos}
def gName (i : Nat) : TG := fun v σ H Q => Q (σ.set i (some v)) H
theorem pg_name {i : Nat} {x : Str} (hN : X.N.Nodup) (hi : X.N[i]? = some x) (hx : Loc X.env.scope x) (hf : X.fn x = true \/ X.env.scope.names.lookup x = some .local := by first | exact .inl rfl | exact .inr rfl | assumption) : PG X (.Name x pos) (gName i) := by
  intro pins s σ H v u Q I r h
  exact wpAny_assign_Name (store_ok I hN hi hx r (fun s' I' => ⟨_, H, I', h⟩) hf)
def gNil : TGs := fun vs σ H Q => vs = [] /\ Q σ H
def gCons (t : TG) (u : TGs) : TGs := fun vs σ H Q => ∃ v r, vs = v :: r /\ t v σ H fun σ' H' => u r σ' H' Q
theorem pgs_nil : PGs X [] gNil := by
  intro pins s σ H vs us Q I r h
  obtain ⟨e, h⟩ := h
  subst e
  cases r
  exact assignInOrder_nil ⟨σ, H, I, h⟩
theorem pgs_cons {e : Expr} {es : List Expr} {t : TG} {u : TGs} (h1 : PG X e t) (h2 : PGs X es u)
    (hs : (assignEach (e :: es) X.env).map (·.2) = assign e X.env :: (assignEach es X.env).map (·.2) := by rfl) : PGs X (e :: es) (gCons t u) := by
  intro pins s σ H vs us Q I r h
  obtain ⟨v, vr, e1, h⟩ := h
  subst e1
  cases r with
  | cons r rr =>
    rw [hs]
    refine assignInOrder_cons (thn (h1 pins s σ H _ _ _ I r h) fun _ s1 ⟨σ1, H1, I1, q1⟩ => ?_)
    exact h2 pins s1 σ1 H1 _ _ Q I1 rr q1
def gTup (K : PySem.W.Frag) (n : Nat) (t : TGs) : TG := fun v σ H Q => ∃ a xs, v = .ref a /\ SqT K H a xs /\ xs.length = n /\ t xs σ H Q
theorem pg_tup {es : List Expr} {k : Nat} {t : TGs} {n : Nat} (hc : X.calm = true) (h : PGs X es t)
    (hn : (assignEach es X.env).length = n := by rfl) (hst : (assignEach es X.env).findIdx? (·.1) = none := by rfl) : PG X (.Tuple es k pos) (gTup X.K n t) := by
  intro pins s σ H v u Q I r hw
  obtain ⟨a, xs, e1, hq, hl, hw⟩ := hw
  subst e1
  cases r
  obtain ⟨its, rv, ht, hz⟩ := I.tuple hq
  refine assign_Tuple_tuple (I.ok.hd hc) ht (by simp [hn, ← hl, rv.length]) hst fun h' hx => ?_
  have I1 : Inv X pins σ H { s with heap := h' } := I.kept (t' := s.toks) fun b o e => hx b o (Nat.ne_of_lt (Heap.lt_size e)) e
  exact h pins _ σ H xs _ Q I1 (by simpa using rv) hw
def tAsg (te : TE) (g : TG) : TS := fun D σ H => te σ H fun x H1 => g x σ H1 D.nx
theorem ps_set {i : Nat} {x : Str} {e : Expr} {te : TE} {pos' : Pos} (hN : X.N.Nodup) (hi : X.N[i]? = some x) (hx : Loc X.env.scope x) (he : PE X e te) (hs : swapsWith e (some (.Name x pos')) pos.line X.env = pure false := by rfl) (hf : X.fn x = true \/ X.env.scope.names.lookup x = some .local := by first | exact .inl rfl | exact .inr rfl | assumption) :
    PS X (.Assign [.Name x pos'] e pos) (tAsg te (gName i)) := by
  intro pins s σ H D I h
  refine wpAny_Assign_Name (thn (he pins s σ H _ I h) fun v s1 ⟨y, H1, I1, r1, q1⟩ => ?_) hs
  exact store_ok I1 hN hi hx r1 (fun s2 I2 => ⟨_, H1, I2, q1⟩) hf
end
section
variable {X : Cx} {pos : Pos}
end
structure It where
  go : Nat -> Hp -> Prop
  yld : Nat -> Hp -> V -> Hp -> Prop
  stop : Nat -> Hp -> Prop
def FpOk (X : Cx) (pins : List (Addr × Obj)) (H : Hp) (b : Addr) : Prop :=
  H b = none /\ b ≠ X.env.locals /\ b ∉ X.fs /\ (b ∈ X.ex \/ X.s₀.heap.objs.size <= b) /\ (∀ x c, X.env.cells.lookup x = some c -> c ≠ b) /\ ∀ p ∈ X.pn ++ pins, p.1 ≠ b
theorem Inv.fpOk {X : Cx} {pins : List (Addr × Obj)} {σ : St} {H H' : Hp} {s : Shared} {b : Addr} (I : Inv X pins σ H s) (hb : s.heap.objs.size <= b) (hn : H' b = none) : FpOk X pins H' b := by
  refine ⟨hn, Nat.ne_of_gt (Nat.lt_of_lt_of_le I.lt hb), I.nofs hb, .inr (Nat.le_trans I.sz hb), fun x c e z => ?_, fun p hp z => ?_⟩
  · obtain ⟨v, q⟩ := I.cell x c e
    exact absurd (Nat.lt_of_lt_of_le q.lt (by rw [z]; exact hb)) (Nat.lt_irrefl _)
  · exact absurd (Nat.lt_of_lt_of_le (Heap.lt_size (I.pin p hp).1) (by rw [z]; exact hb)) (Nat.lt_irrefl _)
structure Turn (P : Program) (w : World) (K : PySem.W.Frag) (tg : Expr) (J : It) (fp : List Addr) (it : Addr) (tn : Nat -> Heap -> Prop) : Prop where
  mem : it ∈ fp
  obj : ∀ i h, tn i h -> ∀ b ∈ fp, ∃ o, h.get? b = some o /\ ∀ v, o.data ≠ .cell v
  keep : ∀ i h h', tn i h -> (∀ b ∈ fp, ∀ o, h.get? b = some o -> h'.get? b = some o) -> tn i h'
  item : ∀ (X : Cx), X.prog = P -> X.w = w -> X.K = K -> X.calm = true -> ∀ (i : Nat) (pins : List (Addr × Obj)) (s : Shared) (σ : St) (H : Hp) (E : Value -> Shared -> Prop), Inv X pins σ H s -> (∀ b ∈ fp, FpOk X pins H b) -> tn i s.heap -> J.go i H ->
    wpAny (model P w) X.A (pyNext (.ref it)) (fun r s1 => ∃ u, r = some u /\
      wpAny (model P w) X.A (letOwnedTupleGo tg (.ref it) u) (fun _ s2 => ∃ x H', Inv X pins σ H' s2 /\ zca x u /\ J.yld i H x H' /\ tn (i + 1) s2.heap /\ ∀ b ∈ fp, H' b = none) E s1) E s
  done : ∀ (X : Cx), X.prog = P -> X.w = w -> X.K = K -> X.calm = true -> ∀ (i : Nat) (pins : List (Addr × Obj)) (s : Shared) (σ : St) (H : Hp) (E : Value -> Shared -> Prop), Inv X pins σ H s -> (∀ b ∈ fp, FpOk X pins H b) -> tn i s.heap -> J.stop i H ->
    wpAny (model P w) X.A (pyNext (.ref it)) (fun r s1 => r = none /\ Inv X pins σ H s1) E s
  self : ∀ (A : Around) (i : Nat) (s : Shared) (Q : Value -> Shared -> Prop) (E : Value -> Shared -> Prop), tn i s.heap -> Q (.ref it) s -> wpAny (model P w) A (pyIter (.ref it)) Q E s
abbrev TI := St -> Hp -> (It -> Hp -> Prop) -> Prop
def PIE (X : Cx) (pins : List (Addr × Obj)) (σ : St) (tg : Expr) (R : It -> Hp -> Prop) (itv : Value) (s2 : Shared) : Prop :=
  ∃ (it : Addr) (fp : List Addr) (tn : Nat -> Heap -> Prop) (J : It) (H' : Hp), itv = .ref it /\ Inv X pins σ H' s2 /\ Turn X.prog X.w X.K tg J fp it tn /\ tn 0 s2.heap /\ (∀ b ∈ fp, FpOk X pins H' b) /\ R J H'
def PI (X : Cx) (tg iter : Expr) (wi : TI) : Prop :=
  ∀ (pins : List (Addr × Obj)) (s : Shared) (σ : St) (H : Hp) (R : It -> Hp -> Prop), Inv X pins σ H s -> wi σ H R ->
    wpAny (model X.prog X.w) X.A (eval iter X.env) (fun v s1 => wpAny (model X.prog X.w) X.A (pyIter v) (PIE X pins σ tg R) X.xe s1) X.xe s
theorem go_of {M : Model} {A : Around} {E : Value -> Shared -> Prop} {s : Shared} {tg : Expr} {it : Addr} {u : Value} {o : Obj} {n : String} {vs : Array Value} {Q : Unit -> Shared -> Prop} (ho : s.heap.get? it = some o) (hc : o.cls = .type n) (hd : o.data = .fields vs)
    (hn : ["enumerate", "zip", "dict_itemiterator", "dict_reverseitemiterator", "odict_iterator", "itertools.zip_longest", "itertools.pairwise"].contains n = false) (hQ : Q () s) : wpAny M A (letOwnedTupleGo tg (.ref it) u) Q E s := by
  unfold letOwnedTupleGo
  cases tg <;> first
    | exact wpAny_pure hQ
    | (cases u <;> first
        | exact wpAny_pure hQ
        | (refine wpAny_bind (wpAny_load ho ?_)
           rw [hc, hd]
           show wpAny M A (if (["enumerate", "zip", "dict_itemiterator", "dict_reverseitemiterator", "odict_iterator", "itertools.zip_longest", "itertools.pairwise"].contains n && vs[0]? == some (rawInt _)) = true then _ else _) Q E s
           rw [if_neg (by intro h; rw [hn, Bool.false_and] at h; cases h)]
           exact wpAny_pure hQ))
def Itl (K : PySem.W.Frag) (a : Addr) : It :=
  ⟨fun i H => ∃ xs x, SqL K H a xs /\ xs[i]? = some x, fun i H x H' => H' = H /\ ∀ xs, SqL K H a xs -> xs[i]? = some x, fun i H => ∃ xs, SqL K H a xs /\ xs.length <= i⟩
def Itt (K : PySem.W.Frag) (a : Addr) : It :=
  ⟨fun i H => ∃ xs x, SqT K H a xs /\ xs[i]? = some x, fun i H x H' => H' = H /\ ∀ xs, SqT K H a xs -> xs[i]? = some x, fun i H => ∃ xs, SqT K H a xs /\ xs.length <= i⟩
def Itr (lo : Int) (n : Nat) : It := ⟨fun i _ => i < n, fun i H x H' => H' = H /\ x = .int (lo + i), fun i _ => n <= i⟩
theorem turn_list {P : Program} {w : World} {K : PySem.W.Frag} {tg : Expr} (a it : Addr) : Turn P w K tg (Itl K a) [it] it (fun i h => h.IsListIter it a i) where
  mem := by simp
  obj := fun i h st b hb => by
    have e : b = it := by simpa using hb
    subst e
    obtain ⟨o, e, c, d⟩ := st
    exact ⟨o, e, fun v z => by rw [d] at z; cases z⟩
  keep := fun i h h' st k => st.at fun o e => k it (by simp) o e
  item := by
    intro X hP hw hK hc i pins s σ H E I hf st hg
    subst hP hw hK
    obtain ⟨xs, x, hq, hx⟩ := hg
    obtain ⟨its, rv, p, hz⟩ := I.list hq
    obtain ⟨u, hu, ru⟩ := rv.get hx
    obtain ⟨f0, f1, f2, f3, f4, f5⟩ := hf it (by simp)
    refine wpAny_pyNext_list_item st p.isList (x := u) (by simpa using hu) fun h' st' sb => ?_
    have I1 : Inv X pins σ H { s with heap := h' } := I.turned (t' := s.toks) (fun b o hb e => (sb.2 b hb).trans e) f0 f1 f3 f4 f5
    obtain ⟨o, e, c, d⟩ := id st'
    exact ⟨u, rfl, go_of (s := { s with heap := h' }) e c d (by decide) ⟨x, H, I1, ru, ⟨rfl, fun ys hy => by rw [I.list_inj hy hq]; exact hx⟩, st', fun b hb => (hf b hb).1⟩⟩
  done := by
    intro X hP hw hK hc i pins s σ H E I hf st hg
    subst hP hw hK
    obtain ⟨xs, hq, hx⟩ := hg
    obtain ⟨its, rv, p, hz⟩ := I.list hq
    obtain ⟨f0, f1, f2, f3, f4, f5⟩ := hf it (by simp)
    have hl := rv.length
    exact wpAny_pyNext_list_end (I.ok.hd hc) st p.isList (by simp; omega) fun h' eb => ⟨rfl, I.turned (t' := s.toks) (fun b o hb e => eb b o hb e) f0 f1 f3 f4 f5⟩
  self := fun _ _ _ _ _ st h => wpAny_pyIter_listiter st h
theorem turn_tuple {P : Program} {w : World} {K : PySem.W.Frag} {tg : Expr} (a it : Addr) : Turn P w K tg (Itt K a) [it] it (fun i h => h.IsTupleIter it a i) where
  mem := by simp
  obj := fun i h st b hb => by
    have e : b = it := by simpa using hb
    subst e
    obtain ⟨o, e, c, d⟩ := st
    exact ⟨o, e, fun v z => by rw [d] at z; cases z⟩
  keep := fun i h h' st k => st.at fun o e => k it (by simp) o e
  item := by
    intro X hP hw hK hc i pins s σ H E I hf st hg
    subst hP hw hK
    obtain ⟨xs, x, hq, hx⟩ := hg
    obtain ⟨its, rv, p, hz⟩ := I.tuple hq
    obtain ⟨u, hu, ru⟩ := rv.get hx
    obtain ⟨f0, f1, f2, f3, f4, f5⟩ := hf it (by simp)
    refine wpAny_pyNext_tuple_item st (show s.heap.IsTuple a its.toArray from p) (x := u) (by simpa using hu) fun h' st' sb => ?_
    have I1 : Inv X pins σ H { s with heap := h' } := I.turned (t' := s.toks) (fun b o hb e => (sb.2 b hb).trans e) f0 f1 f3 f4 f5
    obtain ⟨o, e, c, d⟩ := id st'
    exact ⟨u, rfl, go_of (s := { s with heap := h' }) e c d (by decide) ⟨x, H, I1, ru, ⟨rfl, fun ys hy => by rw [I.tuple_inj hy hq]; exact hx⟩, st', fun b hb => (hf b hb).1⟩⟩
  done := by
    intro X hP hw hK hc i pins s σ H E I hf st hg
    subst hP hw hK
    obtain ⟨xs, hq, hx⟩ := hg
    obtain ⟨its, rv, p, hz⟩ := I.tuple hq
    obtain ⟨f0, f1, f2, f3, f4, f5⟩ := hf it (by simp)
    have hl := rv.length
    exact wpAny_pyNext_tuple_end (I.ok.hd hc) st (show s.heap.IsTuple a its.toArray from p) (by simp; omega) fun h' eb => ⟨rfl, I.turned (t' := s.toks) (fun b o hb e => eb b o hb e) f0 f1 f3 f4 f5⟩
  self := fun _ _ _ _ _ st h => wpAny_pyIter_tupleiter st h
theorem turn_range {P : Program} {w : World} {K : PySem.W.Frag} {tg : Expr} (it : Addr) (lo : Int) (n : Nat) : Turn P w K tg (Itr lo n) [it] it (fun i h => IsRangeIter h it (lo + (i : Nat) * 1) ((n : Int) - (i : Nat)) 1) where
  mem := by simp
  obj := fun i h st b hb => by
    have e : b = it := by simpa using hb
    subst e
    exact ⟨_, st, fun v z => by
      have z' : Data.fields _ = Data.cell v := z
      cases z'⟩
  keep := fun i h h' st k => k it (by simp) _ st
  item := by
    intro X hP hw hK hc i pins s σ H E I hf st hg
    subst hP hw hK
    obtain ⟨f0, f1, f2, f3, f4, f5⟩ := hf it (by simp)
    have W := Walks.range (prog := X.prog) (w := X.w) (I.ok.hd hc) it lo 1 n
    refine W.item i s _ _ hg st fun v h' tk hv st' kk => ?_
    obtain ⟨t, rfl⟩ := hv
    have I1 : Inv X pins σ H { s with heap := h', toks := tk } := I.turned (fun b o hb e => kk b o (by simpa using hb) e) f0 f1 f3 f4 f5
    refine ⟨_, rfl, go_of (s := { s with heap := h', toks := tk }) (n := "range_iterator") st' rfl rfl (by decide) ⟨.int (lo + i), H, I1, ⟨t, ?_⟩, ⟨rfl, rfl⟩, st', fun b hb => (hf b hb).1⟩⟩
    rw [Int.mul_one]
  done := by
    intro X hP hw hK hc i pins s σ H E I hf st hg
    subst hP hw hK
    obtain ⟨f0, f1, f2, f3, f4, f5⟩ := hf it (by simp)
    exact wpAny_pyNext_range_end (I.ok.hd hc) st (by have : n <= i := hg; omega) fun h' eb => ⟨rfl, I.turned (t' := s.toks) (fun b o hb e => eb b o hb e) f0 f1 f3 f4 f5⟩
  self := fun _ _ _ _ _ st h => wpAny_pyIter_rangeiter st h
end L2
namespace L2
open PySem PySem.Spec PyProof.Rows
section
variable {X : Cx} {tg : Expr}
theorem range_it {pins : List (Addr × Obj)} {σ : St} {H : Hp} {s : Shared} {R : It -> Hp -> Prop} {E : Value -> Shared -> Prop} {lo hi : Int} {t u v : Tok} {tk : Nat} (I : Inv X pins σ H s) (h1 : -(2 ^ 62) <= lo) (h2 : lo < 2 ^ 62) (h3 : -(2 ^ 62) <= hi) (h4 : hi < 2 ^ 62)
    (q : R (Itr lo (hi - lo).toNat) H) : wpAny (model X.prog X.w) X.A (pyIter (.ref s.heap.objs.size)) (PIE X pins σ tg R) E { s with heap := s.heap.push { cls := .type "range", data := .fields #[.int lo t, .int hi u, .int 1 v] }, toks := tk } := by
  refine wpAny_pyIter_range (IsRange.new ..) (small_one h1 h2 h3 h4) ?_
  have I1 : Inv X pins σ H { s with heap := s.heap.push { cls := .type "range", data := .fields #[.int lo t, .int hi u, .int 1 v] }, toks := tk } := I.kept fun b o e => Heap.get?_push_of_some _ e
  refine ⟨(s.heap.push { cls := .type "range", data := .fields #[.int lo t, .int hi u, .int 1 v] }).objs.size, [(s.heap.push { cls := .type "range", data := .fields #[.int lo t, .int hi u, .int 1 v] }).objs.size], _, _, H, rfl,
    I1.kept (t' := tk) fun b o e => Heap.get?_push_of_some _ e, turn_range _ lo (hi - lo).toNat, ?_, fun b hb => ?_, q⟩
  · have e1 : lo + ((0 : Nat) : Int) * 1 = lo := by simp
    have e2 : (((hi - lo).toNat : Nat) : Int) - ((0 : Nat) : Int) = Builtin.Range.rangeSize lo hi 1 := by rw [rangeSize_one]; split <;> omega
    show IsRangeIter _ _ (lo + ((0 : Nat) : Int) * 1) ((((hi - lo).toNat : Nat) : Int) - ((0 : Nat) : Int)) 1
    rw [e1, e2]
    exact Heap.get?_push_size _ rfl
  · have e : b = (s.heap.push { cls := .type "range", data := .fields #[.int lo t, .int hi u, .int 1 v] }).objs.size := by simpa using hb
    subst e
    exact I1.fpOk (Nat.le_refl _) (I1.hok.fresh (Nat.le_refl _))
def iRng1 (ta : TA) : TI := fun σ H R => ta σ H fun vs H1 => ∃ j : Int, vs = [.int j] /\ -(2 ^ 62) <= j /\ j < 2 ^ 62 /\ R (Itr 0 j.toNat) H1
def iRng2 (ta : TA) : TI := fun σ H R => ta σ H fun vs H1 => ∃ i j : Int, vs = [.int i, .int j] /\ (-(2 ^ 62) <= i /\ i < 2 ^ 62 /\ -(2 ^ 62) <= j /\ j < 2 ^ 62) /\ R (Itr i (j - i).toNat) H1
theorem pi_range1 {a : Expr} {ta : TA} {p pos : Pos} (hg : Gl X "range") (hm : X.mg "range" = none) (ha : PA X [a] ta) (hs : starEach [a] X.env = [(false, eval a X.env)] := by rfl) : PI X tg (.Call (.Name "range" p) [a] [] pos) (iRng1 ta) := by
  intro pins s σ H R I h
  refine Call_ (ld_blt I hg hm boot_range (PyProof.Rows.callWith_type1 (thn (ha pos pins s σ H _ I h) fun us s1 ⟨vs, H1, I1, r1, q1⟩ => ?_) hs rfl))
  obtain ⟨j, e, q1, q2, q⟩ := q1
  subst e
  cases r1 with
  | cons r rr =>
    cases rr
    obtain ⟨t, rfl⟩ := r
    exact call_range_1 (range_it I1 (by omega) (by omega) q1 q2 (by simpa using q))
theorem pi_range2 {a b : Expr} {ta : TA} {p pos : Pos} (hg : Gl X "range") (hm : X.mg "range" = none) (ha : PA X [a, b] ta) (hs : starEach [a, b] X.env = [(false, eval a X.env), (false, eval b X.env)] := by rfl) (hs2 : starEach [b] X.env = [(false, eval b X.env)] := by rfl) :
    PI X tg (.Call (.Name "range" p) [a, b] [] pos) (iRng2 ta) := by
  intro pins s σ H R I h
  refine Call_ (ld_blt I hg hm boot_range (PyProof.Rows.callWith_type1 (thn (ha pos pins s σ H _ I h) fun us s1 ⟨vs, H1, I1, r1, q1⟩ => ?_) (by rw [hs, hs2]) (by rw [hs2]; rfl)))
  obtain ⟨i, j, e, ⟨q1, q2, q3, q4⟩, q⟩ := q1
  subst e
  cases r1 with
  | cons r rr =>
    cases rr with
    | cons r' rr =>
      cases rr
      obtain ⟨t, rfl⟩ := r
      obtain ⟨t', rfl⟩ := r'
      exact call_range_2 (range_it I1 q1 q2 q3 q4 q)
def tFor (wi : TI) (g : TG) (tb : TS) : TS := fun D σ H => wi σ H fun J H1 => ∃ W : Nat -> Nat -> St -> Hp -> Prop, (∃ m, W 0 m σ H1) /\ ∀ i m σ H, W i m σ H ->
  (J.stop i H /\ D.nx σ H) \/ (J.go i H /\ ∃ N : St -> Hp -> Prop, (∀ σ' H', N σ' H' -> ∃ m', m' < m /\ W (i + 1) m' σ' H') /\ ∀ x H', J.yld i H x H' -> g x σ H' fun σ2 H2 => tb { D with nx := N, ct := N, bk := D.nx } σ2 H2)
def pinsAt (fp : List Addr) (h : Heap) : List (Addr × Obj) := fp.filterMap fun b => (h.get? b).map fun o => (b, o)
theorem mem_pinsAt {fp : List Addr} {h : Heap} {b : Addr} {o : Obj} (hb : b ∈ fp) (e : h.get? b = some o) : (b, o) ∈ pinsAt fp h := List.mem_filterMap.mpr ⟨b, hb, by rw [e]; rfl⟩
theorem of_pinsAt {fp : List Addr} {h : Heap} {p : Addr × Obj} (hp : p ∈ pinsAt fp h) : p.1 ∈ fp /\ h.get? p.1 = some p.2 := by
  obtain ⟨b, hb, e⟩ := List.mem_filterMap.mp hp
  cases q : h.get? b with
  | none => rw [q] at e; cases e
  | some o =>
    rw [q] at e
    have e' : (b, o) = p := Option.some.inj e
    subst e'
    exact ⟨hb, q⟩
theorem Inv.pinned {pins : List (Addr × Obj)} {σ : St} {H : Hp} {s : Shared} {fp : List Addr} (I : Inv X pins σ H s) (hf : ∀ b ∈ fp, FpOk X pins H b) (ho : ∀ b ∈ fp, ∃ o, s.heap.get? b = some o /\ ∀ v, o.data ≠ .cell v) : Inv X (pins ++ pinsAt fp s.heap) σ H s :=
  I.pins_of fun p hp => (List.mem_append.mp hp).elim (fun z => I.pin p (List.mem_append_right _ z)) fun z => by
    obtain ⟨hb, e⟩ := of_pinsAt z
    obtain ⟨f0, f1, f2, _⟩ := hf p.1 hb
    obtain ⟨o, e', d⟩ := ho p.1 hb
    rw [e] at e'; cases e'
    exact ⟨e, f0, f1, f2, d⟩
theorem Inv.unpinned {pins pl : List (Addr × Obj)} {σ : St} {H : Hp} {s : Shared} (I : Inv X (pins ++ pl) σ H s) : Inv X pins σ H s := I.pins_of fun p hp => I.pin p (List.mem_append_right _ (List.mem_append_left _ hp))
theorem ps_for {iter : Expr} {body : List Stmt} {wi : TI} {g : TG} {tb : TS} {pos : Pos} (hp : PassesOwn (model X.prog X.w) X.A X.env X.xe) (hc : X.calm = true) (hi : PI X tg iter wi) (hg : PG X tg g) (hb : PSs X body tb)
    (hs : ∀ x, foldedSetIterable iter X.env x = pure x := by intro _; rfl) : PS X (.For tg iter body [] pos) (tFor wi g tb) := by
  intro pins s σ H D I h
  refine wpAny_For (thn (hi pins s σ H _ I h) fun v s1 h1 => thn h1 fun itv s2 h2 => ?_) hs
  obtain ⟨it, fp, tn, J, H2, e, I2, T, st2, f2, W, ⟨m0, w0⟩, turn⟩ := h2
  subst e
  have stat : ∀ {H' : Hp}, (∀ b ∈ fp, H' b = none) -> ∀ b ∈ fp, FpOk X pins H' b := fun hn b hb => ⟨hn b hb, (f2 b hb).2⟩
  refine codeAny_forLoop_any (fun n s' => ∃ i σ' H', Inv X pins σ' H' s' /\ tn i s'.heap /\ (∀ b ∈ fp, H' b = none) /\ W i n σ' H') ?_ m0 ⟨0, σ, H2, I2, st2, fun b hb => (f2 b hb).1, w0⟩
  rintro n s3 ⟨i, σ3, H3, I3, st3, fr3, w3⟩
  rcases turn i n σ3 H3 w3 with ⟨stop, qn⟩ | ⟨go, N, hN, step⟩
  · refine wpAny_passesOwn hp (thn (T.done X rfl rfl rfl hc i pins s3 σ3 H3 X.xe I3 (stat fr3) st3 stop) fun r s4 ⟨hr, I4⟩ => ?_)
    subst hr
    exact wpAny_execs_nil ⟨σ3, H3, I4, qn⟩
  · refine wpAny_passesOwn hp (thn (T.item X rfl rfl rfl hc i pins s3 σ3 H3 X.xe I3 (stat fr3) st3 go) fun r s4 ⟨u, hr, h4⟩ => ?_)
    subst hr
    refine wpAny_passesOwn hp (thn h4 fun _ s5 ⟨x, H5, I5, r5, y5, st5, fr5⟩ => ?_)
    have I5' := I5.pinned (stat fr5) (T.obj _ _ st5)
    refine wpAny_passesOwn hp (thn (hg _ s5 σ3 H5 x u _ I5' r5 (step x H5 y5)) fun _ s6 ⟨σ6, H6, I6, q6⟩ => ?_)
    refine wpAny_passesOwn hp (thn (hb _ s6 σ6 H6 _ I6 q6) fun f s7 q7 => ?_)
    have again : ∀ {σ7 : St} {H7 : Hp}, Inv X (pins ++ pinsAt fp s5.heap) σ7 H7 s7 -> N σ7 H7 -> ∃ m, m < n /\ ∃ i σ' H', Inv X pins σ' H' s7 /\ tn i s7.heap /\ (∀ b ∈ fp, H' b = none) /\ W i m σ' H' := fun {σ7 H7} I7 n7 => by
      obtain ⟨m', hm, w7⟩ := hN σ7 H7 n7
      refine ⟨m', hm, i + 1, σ7, H7, I7.unpinned, T.keep _ _ _ st5 fun b hb o e => (I7.pin (b, o) (List.mem_append_right _ (List.mem_append_right _ (mem_pinsAt hb e)))).1, fun b hb => ?_, w7⟩
      obtain ⟨o, e, d⟩ := T.obj _ _ st5 b hb
      exact (I7.pin (b, o) (List.mem_append_right _ (List.mem_append_right _ (mem_pinsAt hb e)))).2.1
    cases f with
    | next => obtain ⟨σ7, H7, I7, n7⟩ := q7; exact again I7 n7
    | cont => obtain ⟨σ7, H7, I7, n7⟩ := q7; exact again I7 n7
    | brk => obtain ⟨σ7, H7, I7, q7⟩ := q7; exact ⟨σ7, H7, I7.unpinned, q7⟩
    | ret v => obtain ⟨x7, σ7, H7, I7, r7, q7⟩ := q7; exact ⟨x7, σ7, H7, I7.unpinned, r7, q7⟩
end
end L2
namespace L2
open PySem PySem.Spec PyProof.Rows
abbrev R2 := V -> V -> Hp -> VK -> Prop
def OpR (X : Cx) (f : Value -> Value -> Sem Value) (r : R2) : Prop :=
  ∀ (pins : List (Addr × Obj)) (s : Shared) (σ : St) (H : Hp) (x y : V) (v u : Value) (Q : VK), Inv X pins σ H s -> zca x v -> zca y u -> r x y H Q ->
    wpAny (model X.prog X.w) X.A (f v u) (EP X pins σ Q) X.xe s
def CallR (X : Cx) (f : Value) (r : List V -> Hp -> VK -> Prop) : Prop :=
  ∀ (pins : List (Addr × Obj)) (s : Shared) (σ : St) (H : Hp) (xs : List V) (us : List Value) (Q : VK), Inv X pins σ H s -> zb3 xs us -> r xs H Q ->
    wpAny (model X.prog X.w) X.A (call f us) (EP X pins σ Q) X.xe s
def TruR (X : Cx) (r : V -> Hp -> (Bool -> Hp -> Prop) -> Prop) : Prop :=
  ∀ (pins : List (Addr × Obj)) (s : Shared) (σ : St) (H : Hp) (x : V) (v : Value) (Q : Bool -> Hp -> Prop), Inv X pins σ H s -> zca x v -> r x H Q ->
    wpAny (model X.prog X.w) X.A (truthy v) (TP X pins σ Q) X.xe s
def tOp (r : R2) (ta tb : TE) : TE := fun σ H Q => ta σ H fun x H1 => tb σ H1 fun y H2 => r x y H2 Q
def rI (C : Int -> Int -> Prop) (g : Int -> Int -> V) : R2 := fun x y H Q => ∃ i j, x = .int i /\ y = .int j /\ C i j /\ Q (g i j) H
def rI0 (g : Int -> Int -> V) : R2 := fun x y H Q => ∃ i j, x = .int i /\ y = .int j /\ Q (g i j) H
section
variable {X : Cx} {a b c : Expr} {ta tb tc : TE} {pos : Pos}
theorem binT (ha : PE X a ta) (hb : PE X b tb) {pins : List (Addr × Obj)} {s : Shared} {σ : St} {H : Hp} {R : V -> V -> Hp -> Prop} (I : Inv X pins σ H s)
    (h : ta σ H fun x H1 => tb σ H1 fun y H2 => R x y H2) {Q : Value -> Shared -> Prop} {f : Value -> Value -> Sem Value}
    (hf : ∀ v u s2 x y H2, Inv X pins σ H2 s2 -> zca x v -> zca y u -> R x y H2 -> wpAny (model X.prog X.w) X.A (f v u) Q X.xe s2) :
    wpAny (model X.prog X.w) X.A (eval a X.env) (fun v s₁ => wpAny (model X.prog X.w) X.A (eval b X.env) (fun u s₂ => wpAny (model X.prog X.w) X.A (f v u) Q X.xe s₂) X.xe s₁) X.xe s := by
  refine thn (ha pins s σ H _ I h) fun v s1 ⟨x, H1, I1, r1, q1⟩ => ?_
  refine thn (hb pins s1 σ H1 _ I1 q1) fun u s2 ⟨y, H2, I2, r2, q2⟩ => ?_
  exact hf v u s2 x y H2 I2 r1 r2 q2
theorem pe_op {op : Operator} {r : R2} (ho : OpR X (binaryOp op) r) (ha : PE X a ta) (hb : PE X b tb) : PE X (.BinOp a op b pos) (tOp r ta tb) := by
  intro pins s σ H Q I h
  exact wpAny_BinOp (binT ha hb I h fun v u s2 x y H2 I2 rx ry q => ho pins s2 σ H2 x y v u Q I2 rx ry q)
theorem opI {f : Value -> Value -> Sem Value} {C : Int -> Int -> Prop} {g : Int -> Int -> Int}
    (rule : ∀ (i j : Int) (t u : Tok) (s : Shared) (Q : Value -> Shared -> Prop) (E : Value -> Shared -> Prop), C i j -> Q (.int (g i j) s.toks) { s with toks := s.toks + 1 } -> wpAny (model X.prog X.w) X.A (f (.int i t) (.int j u)) Q E s) :
    OpR X f (rI C fun i j => .int (g i j)) := by
  intro pins s σ H x y v u Q I rx ry h
  obtain ⟨i, j, rfl, rfl, hc, q⟩ := h
  obtain ⟨t, rfl⟩ := rx
  obtain ⟨t', rfl⟩ := ry
  exact rule i j t t' s _ _ hc ⟨.int (g i j), H, I.tok _, ⟨_, rfl⟩, q⟩
theorem opI0 {f : Value -> Value -> Sem Value} {g : Int -> Int -> Int}
    (rule : ∀ (i j : Int) (t u : Tok) (s : Shared) (Q : Value -> Shared -> Prop) (E : Value -> Shared -> Prop), Q (.int (g i j) s.toks) { s with toks := s.toks + 1 } -> wpAny (model X.prog X.w) X.A (f (.int i t) (.int j u)) Q E s) :
    OpR X f (rI0 fun i j => .int (g i j)) := by
  intro pins s σ H x y v u Q I rx ry h
  obtain ⟨i, j, rfl, rfl, q⟩ := h
  obtain ⟨t, rfl⟩ := rx
  obtain ⟨t', rfl⟩ := ry
  exact rule i j t t' s _ _ ⟨.int (g i j), H, I.tok _, ⟨_, rfl⟩, q⟩
theorem opB0 {f : Value -> Value -> Sem Value} {g : Int -> Int -> Bool}
    (rule : ∀ (i j : Int) (t u : Tok) (s : Shared) (Q : Value -> Shared -> Prop) (E : Value -> Shared -> Prop), Q (.bool (g i j)) s -> wpAny (model X.prog X.w) X.A (f (.int i t) (.int j u)) Q E s) :
    OpR X f (rI0 fun i j => .bl (g i j)) := by
  intro pins s σ H x y v u Q I rx ry h
  obtain ⟨i, j, rfl, rfl, q⟩ := h
  obtain ⟨t, rfl⟩ := rx
  obtain ⟨t', rfl⟩ := ry
  exact rule i j t t' s _ _ ⟨.bl (g i j), H, I, rfl, q⟩
def CDiv (i j : Int) : Prop := 0 < j /\ j < 1073741824
def CPow (i j : Int) : Prop := 0 <= j /\ j <= 1000000 /\ i.natAbs < 2 ^ 64
def CMul (i j : Int) : Prop := (-(2 ^ 64) < i /\ i < 2 ^ 64) \/ (-(2 ^ 64) < j /\ j < 2 ^ 64)
theorem CMul.ok {i j : Int} (h : CMul i j) : IntMulOk i j := by
  rcases h with ⟨h1, h2⟩ | ⟨h1, h2⟩
  · exact .of_left (intBits_le_64 h1 h2)
  · exact .of_right (intBits_le_64 h1 h2)
theorem op_add : OpR X (binaryOp .Add) (rI0 fun i j => .int (i + j)) := opI0 fun _ _ _ _ _ _ _ q => add_int q
theorem op_sub : OpR X (binaryOp .Sub) (rI0 fun i j => .int (i - j)) := opI0 fun _ _ _ _ _ _ _ q => sub_int q
theorem op_mul : OpR X (binaryOp .Mult) (rI CMul fun i j => .int (i * j)) := opI fun _ _ _ _ _ _ _ hc q => mul_int q hc.ok
theorem op_fdiv : OpR X (binaryOp .FloorDiv) (rI CDiv fun i j => .int (i / j)) := opI fun i j _ _ _ _ _ hc q => by
  have h1 : (0 : Int) < j := hc.1
  have h2 : j < 1073741824 := hc.2
  exact floordiv_int (by omega) (by rw [Int.fdiv_eq_ediv_of_nonneg i (by omega)]; exact q) (.inl (PyProof.noPylong_small (by omega)))
theorem op_mod : OpR X (binaryOp .Mod) (rI (fun _ j => 0 < j) fun i j => .int (i % j)) := opI fun i j _ _ _ _ _ hc q => by
  have h1 : (0 : Int) < j := hc
  exact mod_int' (by omega) (by rw [Int.fmod_eq_emod_of_nonneg i (by omega)]; exact q)
theorem op_pow : OpR X (binaryOp .Pow) (rI CPow fun i j => .int (i ^ j.toNat)) := opI fun _ _ _ _ _ _ _ hc q => pow_int_small hc.1 hc.2.1 hc.2.2 q
end
def scal : V -> V -> Bool
  | .non, .non => true | .non, .int _ => true | .int _, .non => true | .non, .bl _ => true | .bl _, .non => true | .non, .str _ => true | .str _, .non => true
  | .int _, .int _ => true | .bl _, .bl _ => true | .str _, .str _ => true | .byt _, .byt _ => true
  | .int _, .str _ => true | .str _, .int _ => true | .bl _, .str _ => true | .str _, .bl _ => true
  | _, _ => false
def rEq : R2 := fun x y H Q => scal x y = true /\ Q (.bl (decide (x = y))) H
def rNe : R2 := fun x y H Q => scal x y = true /\ Q (.bl (!decide (x = y))) H
theorem dec_int {i j : Int} : decide (V.int i = V.int j) = (i == j) := by
  rw [Bool.eq_iff_iff]
  simp
theorem dec_bl {i j : Bool} : decide (V.bl i = V.bl j) = (i == j) := by
  rw [Bool.eq_iff_iff]
  simp
theorem dec_str {i j : Str} : decide (V.str i = V.str j) = (i == j) := by
  rw [Bool.eq_iff_iff]
  simp
theorem dec_byt {i j : Array UInt8} : decide (V.byt i = V.byt j) = (i.toList == j.toList) := by
  rw [Bool.eq_iff_iff]
  cases i
  cases j
  simp
section
variable {X : Cx} {a b c : Expr} {ta tb tc : TE} {pos : Pos}
theorem za9 {pins : List (Addr × Obj)} {σ : St} {H : Hp} {s : Shared} {Q : VK} {k k' : Bool} (I : Inv X pins σ H s) (q : Q (.bl k) H) (e : k = k') : EP X pins σ Q (.bool k') s := by
  subst e
  exact ⟨.bl k, H, I, rfl, q⟩
theorem op_eq : OpR X (compareOp .Eq) rEq := by
  intro pins s σ H x y v u Q I rx ry h
  obtain ⟨hs, q⟩ := h
  cases x with
  | non =>
    cases rx
    cases y with
    | non => cases ry; exact PySem.EqNone.eq_none_none (za9 I q (by simp))
    | bl j => cases ry; exact PySem.EqNone.eq_none_bool (za9 I q (by simp))
    | int j => obtain ⟨t', rfl⟩ := ry; exact PySem.EqNone.eq_none_int (za9 I q (by simp))
    | str j => obtain ⟨t', rfl⟩ := ry; exact PySem.EqNone.eq_none_str (za9 I q (by simp))
    | _ => exact absurd (show false = true from hs) Bool.false_ne_true
  | bl i =>
    cases rx
    cases y with
    | non => cases ry; exact PySem.EqNone.eq_bool_none (za9 I q (by simp))
    | bl j => cases ry; exact eq_bool (za9 I q dec_bl)
    | str j => obtain ⟨t', rfl⟩ := ry; exact PySem.EqMixed.eq_bool_str (za9 I q (by simp))
    | _ => exact absurd (show false = true from hs) Bool.false_ne_true
  | int i =>
    obtain ⟨t, rfl⟩ := rx
    cases y with
    | non => cases ry; exact PySem.EqNone.eq_int_none (za9 I q (by simp))
    | int j => obtain ⟨t', rfl⟩ := ry; exact eq_int (za9 I q dec_int)
    | str j => obtain ⟨t', rfl⟩ := ry; exact PySem.EqMixed.eq_int_str (za9 I q (by simp))
    | _ => exact absurd (show false = true from hs) Bool.false_ne_true
  | str i =>
    obtain ⟨t, rfl⟩ := rx
    cases y with
    | non => cases ry; exact PySem.EqNone.eq_str_none (za9 I q (by simp))
    | bl j => cases ry; exact PySem.EqMixed.eq_str_bool (za9 I q (by simp))
    | int j => obtain ⟨t', rfl⟩ := ry; exact PySem.EqMixed.eq_str_int (za9 I q (by simp))
    | str j => obtain ⟨t', rfl⟩ := ry; exact eq_str (za9 I q dec_str)
    | _ => exact absurd (show false = true from hs) Bool.false_ne_true
  | byt i =>
    obtain ⟨t, rfl⟩ := rx
    cases y with
    | byt j => obtain ⟨t', rfl⟩ := ry; exact PySem.W.eq_bytes (za9 I q dec_byt)
    | _ => exact absurd (show false = true from hs) Bool.false_ne_true
  | _ => cases y <;> exact absurd (show false = true from hs) Bool.false_ne_true
theorem op_ne : OpR X (compareOp .NotEq) rNe := by
  intro pins s σ H x y v u Q I rx ry h
  obtain ⟨hs, q⟩ := h
  cases x with
  | non =>
    cases rx
    cases y with
    | non => cases ry; exact PySem.EqNone.ne_none_none (za9 I q (by simp))
    | bl j => cases ry; exact PySem.EqNone.ne_none_bool (za9 I q (by simp))
    | int j => obtain ⟨t', rfl⟩ := ry; exact PySem.EqNone.ne_none_int (za9 I q (by simp))
    | str j => obtain ⟨t', rfl⟩ := ry; exact PySem.EqNone.ne_none_str (za9 I q (by simp))
    | _ => exact absurd (show false = true from hs) Bool.false_ne_true
  | bl i =>
    cases rx
    cases y with
    | non => cases ry; exact PySem.EqNone.ne_bool_none (za9 I q (by simp))
    | bl j => cases ry; exact ne_bool (za9 I q (congrArg not dec_bl))
    | str j => obtain ⟨t', rfl⟩ := ry; exact PySem.EqMixed.ne_bool_str (za9 I q (by simp))
    | _ => exact absurd (show false = true from hs) Bool.false_ne_true
  | int i =>
    obtain ⟨t, rfl⟩ := rx
    cases y with
    | non => cases ry; exact PySem.EqNone.ne_int_none (za9 I q (by simp))
    | int j => obtain ⟨t', rfl⟩ := ry; exact ne_int (za9 I q (congrArg not dec_int))
    | str j => obtain ⟨t', rfl⟩ := ry; exact PySem.EqMixed.ne_int_str (za9 I q (by simp))
    | _ => exact absurd (show false = true from hs) Bool.false_ne_true
  | str i =>
    obtain ⟨t, rfl⟩ := rx
    cases y with
    | non => cases ry; exact PySem.EqNone.ne_str_none (za9 I q (by simp))
    | bl j => cases ry; exact PySem.EqMixed.ne_str_bool (za9 I q (by simp))
    | int j => obtain ⟨t', rfl⟩ := ry; exact PySem.EqMixed.ne_str_int (za9 I q (by simp))
    | str j => obtain ⟨t', rfl⟩ := ry; exact ne_str (za9 I q (congrArg not dec_str))
    | _ => exact absurd (show false = true from hs) Bool.false_ne_true
  | byt i =>
    obtain ⟨t, rfl⟩ := rx
    cases y with
    | byt j => obtain ⟨t', rfl⟩ := ry; exact PySem.W.ne_bytes (za9 I q (congrArg not dec_byt))
    | _ => exact absurd (show false = true from hs) Bool.false_ne_true
  | _ => cases y <;> exact absurd (show false = true from hs) Bool.false_ne_true
theorem op_lt : OpR X (compareOp .Lt) (rI0 fun i j => .bl (decide (i < j))) := opB0 fun _ _ _ _ _ _ _ q => lt_int q
theorem op_le : OpR X (compareOp .LtE) (rI0 fun i j => .bl (decide (i <= j))) := opB0 fun _ _ _ _ _ _ _ q => le_int q
theorem op_gt : OpR X (compareOp .Gt) (rI0 fun i j => .bl (decide (j < i))) := opB0 fun _ _ _ _ _ _ _ q => gt_int q
theorem op_lt_str : OpR X (compareOp .Lt) (fun x y H Q => ∃ i j, x = .str i /\ y = .str j /\ Q (.bl (decide (i.cps.toList < j.cps.toList))) H) := by
  intro pins s σ H x y v u Q I rx ry h
  obtain ⟨i, j, rfl, rfl, q⟩ := h
  obtain ⟨t, rfl⟩ := rx
  obtain ⟨t', rfl⟩ := ry
  exact lt_str (za9 I q rfl)
theorem op_notN : OpR X (compareOp .IsNot) (fun x y H Q => y = .non /\ Q (.bl (!decide (x = .non))) H) := by
  intro pins s σ H x y v u Q I rx ry h
  obtain ⟨rfl, q⟩ := h
  cases ry
  refine isnot_none_gen (za9 I q ?_)
  cases x <;> first
    | (cases rx; rfl)
    | (obtain ⟨t, rfl⟩ := rx; rfl)
theorem OpR.or {f : Value -> Value -> Sem Value} {r r' : R2} (h : OpR X f r) (h' : OpR X f r') : OpR X f (fun x y H Q => r x y H Q \/ r' x y H Q) := by
  intro pins s σ H x y v u Q I rx ry q
  rcases q with q | q
  · exact h pins s σ H x y v u Q I rx ry q
  · exact h' pins s σ H x y v u Q I rx ry q
theorem zbg (b : Expr) {op : CmpOp} (h : op ≠ .In := by decide) (h2 : op ≠ .NotIn := by decide) : behindInMarks op b = false := by
  have e1 : (op == CmpOp.In) = false := by cases op <;> first | rfl | exact absurd rfl h
  have e2 : (op == CmpOp.NotIn) = false := by cases op <;> first | rfl | exact absurd rfl h2
  cases b <;> simp [behindInMarks, e1, e2]
theorem pe_cmpR {op : CmpOp} {r : R2} (ho : OpR X (compareOp op) r) (ha : PE X a ta) (hb : PE X b tb) (hm : behindInMarks op b = false) : PE X (.Compare a [op] [b] pos) (tOp r ta tb) := by
  intro pins s σ H Q I h
  exact wpAny_Compare1 (binT ha hb I h fun v u s2 x y H2 I2 rx ry q => ho pins s2 σ H2 x y v u Q I2 rx ry q) hm
def tTest (t : TE) : TT := fun σ H Q => t σ H fun x H' => ∃ k, x = .bl k /\ Q k H'
theorem pt_cmpR {op : CmpOp} {r : R2} (ho : OpR X (compareOp op) r) (ha : PE X a ta) (hb : PE X b tb) (hm : behindInMarks op b = false) : PT X (.Compare a [op] [b] pos) (tTest (tOp r ta tb)) := by
  intro pins s σ H Q I h
  refine wpAny_isTrue_Compare1 (thn (ha pins s σ H _ I h) fun v s1 ⟨x, H1, I1, r1, q1⟩ => thn (hb pins s1 σ H1 _ I1 q1) fun u s2 ⟨y, H2, I2, r2, q2⟩ =>
    thn (ho pins s2 σ H2 x y v u _ I2 r1 r2 q2) fun c s3 ⟨z, H3, I3, r3, k, e, q3⟩ => ?_) hm
  subst e
  cases r3
  exact wpAny_truthy_bool ⟨H3, I3, q3⟩
def tChain (r r' : R2) (ta tb tc : TE) : TE := fun σ H Q => ta σ H fun x H1 => tb σ H1 fun y H2 => r x y H2 fun z H3 => ∃ k, z = .bl k /\
  (if k = true then tc σ H3 fun w' H4 => r' y w' H4 Q else Q (.bl false) H3)
theorem pe_chain {op op' : CmpOp} {r r' : R2} (ho : OpR X (compareOp op) r) (ho' : OpR X (compareOp op') r') (ha : PE X a ta) (hb : PE X b tb) (hc : PE X c tc)
    (hm : lastMarks [op, op'] [b, c] = false := by with_unfolding_all rfl) : PE X (.Compare a [op, op'] [b, c] pos) (tChain r r' ta tb tc) := by
  intro pins s σ H Q I h
  refine Compare_chain (thn (ha pins s σ H _ I h) fun v s1 ⟨x, H1, I1, r1, q1⟩ => chain_link (thn (hb pins s1 σ H1 _ I1 q1) fun u s2 ⟨y, H2, I2, r2, q2⟩ =>
    thn (ho pins s2 σ H2 x y v u _ I2 r1 r2 q2) fun d s3 ⟨z, H3, I3, r3, k, e, q3⟩ => ?_)) hm
  subst e
  cases r3
  refine wpAny_truthy_bool ?_
  cases k with
  | false => exact ite_ff ⟨.bl false, H3, I3, rfl, q3⟩
  | true => exact ite_tt (chain_last (thn (hc pins s3 σ H3 _ I3 q3) fun w' s4 ⟨z', H4, I4, r4, q4⟩ => ho' pins s4 σ H4 y z' u w' Q I4 r2 r4 q4))
theorem pt_chain {op op' : CmpOp} {r r' : R2} (ho : OpR X (compareOp op) r) (ho' : OpR X (compareOp op') r') (ha : PE X a ta) (hb : PE X b tb) (hc : PE X c tc)
    (hm : lastMarks [op, op'] [b, c] = false := by with_unfolding_all rfl) : PT X (.Compare a [op, op'] [b, c] pos) (tTest (tChain r r' ta tb tc)) := by
  intro pins s σ H Q I h
  refine isTrue_chain (thn (ha pins s σ H _ I h) fun v s1 ⟨x, H1, I1, r1, q1⟩ => test_link (thn (hb pins s1 σ H1 _ I1 q1) fun u s2 ⟨y, H2, I2, r2, q2⟩ =>
    thn (ho pins s2 σ H2 x y v u _ I2 r1 r2 q2) fun d s3 ⟨z, H3, I3, r3, k, e, q3⟩ => ?_)) hm
  subst e
  cases r3
  refine wpAny_truthy_bool ?_
  cases k with
  | false =>
    obtain ⟨k', e', q'⟩ := q3
    cases e'
    exact ite_ff ⟨H3, I3, q'⟩
  | true =>
    refine ite_tt (test_last (thn (hc pins s3 σ H3 _ I3 q3) fun w' s4 ⟨z', H4, I4, r4, q4⟩ => thn (ho' pins s4 σ H4 y z' u w' _ I4 r2 r4 q4) fun d' s5 ⟨z2, H5, I5, r5, k2, e2, q5⟩ => ?_))
    subst e2
    cases r5
    exact wpAny_truthy_bool ⟨H5, I5, q5⟩
def TruV (K : PySem.W.Frag) (x : V) (H : Hp) (k : Bool) : Prop :=
  match x with
  | .non => k = false
  | .bl b => k = b
  | .int i => k = (i != 0)
  | .str y => y.length <= sizeLine /\ k = ((y.length : Int) != 0)
  | .byt y => y.size <= sizeLine /\ k = ((y.size : Int) != 0)
  | .ref p => (∃ xs, SqL K H p xs /\ k = !xs.isEmpty) \/ (∃ xs, SqT K H p xs /\ k = !xs.isEmpty) \/ ∃ kvs, H p = some (.dK kvs) /\ k = !kvs.isEmpty
  | _ => False
theorem isEmpty_kv {κ : Type} {kvs : List (κ × V)} {vs : List (κ × Value)} (r : KV kvs vs) : (!vs.isEmpty) = !kvs.isEmpty := by
  cases r <;> rfl
theorem isEmpty_of {xs : List V} {its : List Value} (r : zb3 xs its) : (!its.toArray.isEmpty) = !xs.isEmpty := by
  cases r <;> simp
theorem line63 : (sizeLine : Nat) < 2 ^ 63 := by rw [sizeLine_eq]; decide
theorem tru_ok : TruR X (fun x H Q => ∃ k, TruV X.K x H k /\ Q k H) := by
  intro pins s σ H x v Q I rx h
  obtain ⟨k, e, q⟩ := h
  have hl := line63
  have hs : sizeLine = 16777216 := sizeLine_eq
  cases x with
  | non =>
    cases rx
    have e' : k = false := e
    subst e'
    exact truthy_none ⟨H, I, q⟩
  | bl b =>
    cases rx
    have e' : k = b := e
    subst e'
    exact wpAny_truthy_bool ⟨H, I, q⟩
  | int i =>
    obtain ⟨t, rfl⟩ := rx
    have e' : k = (i != 0) := e
    subst e'
    exact PySem.P.truthy_int ⟨H, I, q⟩
  | str y =>
    obtain ⟨t, rfl⟩ := rx
    obtain ⟨hy, e'⟩ : y.length <= sizeLine /\ k = ((y.length : Int) != 0) := e
    subst e'
    exact PySem.P.truthy_str (by omega) ⟨H, I.tok _, q⟩
  | byt y =>
    obtain ⟨t, rfl⟩ := rx
    obtain ⟨hy, e'⟩ : y.size <= sizeLine /\ k = ((y.size : Int) != 0) := e
    subst e'
    exact PySem.W.truthy_bytes (by omega) ⟨H, I.tok _, q⟩
  | ref p =>
    cases rx
    have e' : (∃ xs, SqL X.K H p xs /\ k = !xs.isEmpty) \/ (∃ xs, SqT X.K H p xs /\ k = !xs.isEmpty) \/ ∃ kvs, H p = some (.dK kvs) /\ k = !kvs.isEmpty := e
    rcases e' with ⟨xs, hx, e'⟩ | ⟨xs, hx, e'⟩ | ⟨kvs, hx, e'⟩
    · subst e'
      obtain ⟨its, r, pl, hz⟩ := I.list hx
      have hlen := r.length
      exact wpAny_truthy_list pl.isList (by simp only [List.size_toArray]; omega) ⟨H, I.tok _, by rw [isEmpty_of r]; exact q⟩
    · subst e'
      obtain ⟨its, r, pl, hz⟩ := I.tuple hx
      have hlen := r.length
      exact truthy_tuple pl (by simp only [List.size_toArray]; omega) ⟨H, I.tok _, by rw [isEmpty_of r]; exact q⟩
    · subst e'
      obtain ⟨hz, hS, vs, r, m⟩ : kvs.length <= sizeLine /\ (p == sysModules) = false /\ ∃ vs, KV kvs vs /\ s.heap.DictOf (zaX X.prog X.w) p vs := I.hok p _ hx
      have hlen : kvs.length = vs.length := Paired.length r
      exact wpAny_truthy_dict hS m (by omega) ⟨H, I.tok _, by rw [isEmpty_kv r]; exact q⟩
  | _ => exact (show False from e).elim
theorem op_add_str : OpR X (binaryOp .Add) (fun x y H Q => ∃ i j, x = .str i /\ y = .str j /\ i.length + j.length <= sizeLine /\ Q (.str (i ++ j)) H) := by
  intro pins s σ H x y v u Q I rx ry h
  obtain ⟨i, j, rfl, rfl, hz, q⟩ := h
  obtain ⟨t, rfl⟩ := rx
  obtain ⟨t', rfl⟩ := ry
  exact add_str (fun t' tk => ⟨.str (i ++ j), H, I.tok _, ⟨_, rfl⟩, q⟩) hz
theorem vals1 {x : V} {us : List Value} (r : zb3 [x] us) : ∃ u, us = [u] /\ zca x u := by
  cases r with
  | cons r1 r2 => cases r2; exact ⟨_, rfl, r1⟩
theorem vals2 {x y : V} {us : List Value} (r : zb3 [x, y] us) : ∃ u w', us = [u, w'] /\ zca x u /\ zca y w' := by
  cases r with
  | cons r1 r2 =>
    cases r2 with
    | cons r3 r4 => cases r4; exact ⟨_, _, rfl, r1, r3⟩
theorem call_abs : CallR X (.builtin "abs") (fun xs H Q => ∃ i, xs = [.int i] /\ Q (.int (if i < 0 then -i else i)) H) := by
  intro pins s σ H xs us Q I r h
  obtain ⟨i, rfl, q⟩ := h
  obtain ⟨u, rfl, t, rfl⟩ := vals1 r
  exact call_abs_int fun u tk => ⟨.int (if i < 0 then -i else i), H, I.tok _, ⟨_, rfl⟩, q⟩
theorem call_max2 (hc : X.calm = true) : CallR X (.builtin "max") (fun xs H Q => ∃ i j, xs = [.int i, .int j] /\ Q (.int (if j > i then j else i)) H) := by
  intro pins s σ H xs us Q I r h
  obtain ⟨i, j, rfl, q⟩ := h
  obtain ⟨u, w', rfl, ⟨t, rfl⟩, ⟨t', rfl⟩⟩ := vals2 r
  refine max_two_ints (I.ok.hd hc) fun h' tk k => ⟨_, H, I.kept k, ?_, q⟩
  by_cases hj : j > i
  · rw [if_pos hj, if_pos hj]; exact ⟨_, rfl⟩
  · rw [if_neg hj, if_neg hj]; exact ⟨_, rfl⟩
theorem call_min2 (hc : X.calm = true) : CallR X (.builtin "min") (fun xs H Q => ∃ i j, xs = [.int i, .int j] /\ Q (.int (if j < i then j else i)) H) := by
  intro pins s σ H xs us Q I r h
  obtain ⟨i, j, rfl, q⟩ := h
  obtain ⟨u, w', rfl, ⟨t, rfl⟩, ⟨t', rfl⟩⟩ := vals2 r
  refine min_two_ints (I.ok.hd hc) fun h' tk k => ⟨_, H, I.kept k, ?_, q⟩
  by_cases hj : j < i
  · rw [if_pos hj, if_pos hj]; exact ⟨_, rfl⟩
  · rw [if_neg hj, if_neg hj]; exact ⟨_, rfl⟩
theorem call_int1 : CallR X (.type "int") (fun xs H Q => (∃ i, xs = [.int i] /\ Q (.int i) H) \/ ∃ k, xs = [.bl k] /\ Q (.int (if k then 1 else 0)) H) := by
  intro pins s σ H xs us Q I r h
  rcases h with ⟨i, rfl, q⟩ | ⟨k, rfl, q⟩
  · obtain ⟨u, rfl, t, rfl⟩ := vals1 r
    exact call_int_int ⟨.int i, H, I, ⟨_, rfl⟩, q⟩
  · obtain ⟨u, rfl, r1⟩ := vals1 r
    cases r1
    exact call_int_bool ⟨.int (if k then 1 else 0), H, I.tok _, ⟨_, rfl⟩, q⟩
def LenV (K : PySem.W.Frag) (x : V) (H : Hp) (n : Nat) : Prop :=
  match x with
  | .str y => y.length <= sizeLine /\ n = y.length
  | .byt y => y.size <= sizeLine /\ n = y.size
  | .ref p => (∃ xs, SqL K H p xs /\ n = xs.length) \/ ∃ xs, SqT K H p xs /\ n = xs.length
  | _ => False
theorem call_len : CallR X (.builtin "len") (fun xs H Q => ∃ x n, xs = [x] /\ LenV X.K x H n /\ Q (.int n) H) := by
  intro pins s σ H xs us Q I r h
  obtain ⟨x, n, rfl, e, q⟩ := h
  obtain ⟨u, rfl, rx⟩ := vals1 r
  have hl := line63
  have hs : sizeLine = 16777216 := sizeLine_eq
  cases x with
  | str y =>
    obtain ⟨t, rfl⟩ := rx
    obtain ⟨hy, e'⟩ : y.length <= sizeLine /\ n = y.length := e
    subst e'
    exact len_str (by omega) ⟨.int _, H, I.tok _, ⟨_, rfl⟩, q⟩
  | byt y =>
    obtain ⟨t, rfl⟩ := rx
    obtain ⟨hy, e'⟩ : y.size <= sizeLine /\ n = y.size := e
    subst e'
    exact PySem.W.len_bytes (by omega) ⟨.int _, H, I.tok _, ⟨_, rfl⟩, q⟩
  | ref p =>
    cases rx
    have e' : (∃ xs, SqL X.K H p xs /\ n = xs.length) \/ ∃ xs, SqT X.K H p xs /\ n = xs.length := e
    rcases e' with ⟨xs, hx, e'⟩ | ⟨xs, hx, e'⟩
    · subst e'
      obtain ⟨its, r', pl, hz⟩ := I.list hx
      have hlen := r'.length
      exact Calls.call_len_list pl.isList (by simp only [List.size_toArray]; omega) ⟨.int xs.length, H, I.tok _, ⟨_, by simp only [List.size_toArray]; rw [hlen]⟩, q⟩
    · subst e'
      obtain ⟨its, r', pl, hz⟩ := I.tuple hx
      have hlen := r'.length
      exact len_tuple pl (by simp only [List.size_toArray]; omega) ⟨.int xs.length, H, I.tok _, ⟨_, by simp only [List.size_toArray]; rw [hlen]⟩, q⟩
  | _ => exact (show False from e).elim
end
end L2
namespace L2
open PySem PySem.Spec PyProof.Rows
structure ObjM (h : Heap) (x dx C : Addr) (mA : Str -> Option Value) : Prop where
  obj : h.get? x = some (PySem.W.instObj C dx)
  ns : h.Ns1 dx mA
  ne : dx ≠ x
theorem lookIn_ns {h : Heap} {dx : Addr} {mA : Str -> Option Value} (n : h.Ns1 dx mA) : ∃ od, h.get? dx = some od /\ ∀ name, PySem.W.lookIn name od = some (mA name) := by
  obtain ⟨o, es, ep, ho, hd, hk, _, hm⟩ := n
  refine ⟨o, ho, fun name => ?_⟩
  have e := hm name
  unfold nsFind findBy at e
  rw [← Array.find?_toList] at e
  unfold PySem.W.lookIn
  rw [hd]
  dsimp only
  split
  · rename_i y q
    rw [q] at e
    exact congrArg some e
  · rename_i q
    rw [q] at e
    have a : es.toList.any (·.refKey) = false := by
      rw [List.any_eq_false]
      intro y hy
      obtain ⟨z, t, hkey⟩ := hk y (Array.mem_toList_iff.mp hy)
      simp [DictEntry.refKey, hkey]
    have a' : ¬ es.toList.any (·.refKey) = true := by rw [a]; exact Bool.false_ne_true
    rw [if_neg a']
    exact congrArg some e
theorem ObjM.look {h : Heap} {x dx C : Addr} {mA : Str -> Option Value} (I : ObjM h x dx C mA) : ∃ od, PySem.W.InstAt h x (PySem.W.instObj C dx) C (some od) /\ ∀ name, PySem.W.lookIn name od = some (mA name) :=
  let ⟨od, ho, hl⟩ := lookIn_ns I.ns
  ⟨od, ⟨I.obj, rfl, rfl, ho⟩, hl⟩
section
variable {prog : Program} {w : World} {A : Around} {E : Value -> Shared -> Prop} {s : Shared} {K : PySem.W.Frag} {x dx C f : Addr} {mA : Str -> Option Value} {name : Str} {v : Value}
theorem get_map {expr : Bool} {Q : Value -> Shared -> Prop} (X : K.In s.heap) (I : ObjM s.heap x dx C mA) (hg : PySem.W.plainGet K C name = true) (hh : PySem.W.hasDictIn K C = true)
    (ha : PySem.W.findIn K (.ref C) name = some none) (hv : mA name = some v) (hv' : PySem.W.handedIn v = true) (h : Q v { s with toks := s.toks + 1 }) :
    wpAny (model prog w) A (getAttr (.ref x) name expr) Q E s := by
  obtain ⟨od, J, hl⟩ := I.look
  exact PySem.W.get_value X J (PySem.W.plainGet_of hg).1 (PySem.W.findObj_own hh ha rfl (by rw [hl, hv])) hv' h
theorem get_meth {pl : Sem Bool} {Q : Value × List Value -> Shared -> Prop} (X : K.In s.heap) (I : ObjM s.heap x dx C mA) (hg : PySem.W.plainGet K C name = true)
    (hf : PySem.W.findIn K (.ref C) name = some (some (.ref f))) (ht : PySem.W.isFn K (.ref f) = true) (hv : mA name = none) (h : Q (.ref f, [.ref x]) s) :
    wpAny (model prog w) A (getMethod (.ref x) name pl) Q E s := by
  obtain ⟨od, J, hl⟩ := I.look
  exact PySem.W.method_fn X J (PySem.W.plainGet_of hg).1 (PySem.W.plainGet_of hg).2 hf (beq_iff_eq.mp ht) (by show (PySem.W.lookIn name od).map (·.isSome) = some false; rw [hl, hv]; rfl) h
theorem set_map {ns : List Str} {Q : Unit -> Shared -> Prop} (X : K.In s.heap) (I : ObjM s.heap x dx C mA)
    (hs : PySem.W.findIn K (.ref C) "__setattr__" = some (some (.builtin "object.__setattr__"))) (hp : PySem.W.plainOver K C = true) (ht : PySem.W.takerIn K C name = some none) (hh : PySem.W.hasDictIn K C = true)
    (hw : PySem.Within mA ns) (hsz : ns.length <= sizeLine)
    (h : ∀ h', ObjM h' x dx C (fun y => if y = name then some v else mA y) -> Heap.SameBut dx s.heap h' -> Q () { s with heap := h', toks := s.toks + 2 }) :
    wpAny (model prog w) A (setAttr (.ref x) name v) Q E s := by
  obtain ⟨od, J, hl⟩ := I.look
  refine PySem.W.set_plain X J hs (PySem.W.osa_open (s := { s with toks := s.toks + 1 }) (r := none) X J hp ht fun b => ?_)
  obtain ⟨cd, hc, hd'⟩ := PySem.W.any_some hh
  have hx : s.heap.get? x = some ⟨.ref C, some dx, .plain, #[]⟩ := I.obj
  refine wpAny_bind (wpAny_pure (wpAny_bind (wpAny_bind (wpAny_loadPart hx (wpAny_bind (PySem.W.Looks.here (s := { s with toks := s.toks + 1 }) (PySem.W.looks_clsIn X hc) ?_))))))
  rw [hd']
  refine wpAny_pure (a := some dx) (wpAny_bind (wpAny_pure (wpAny_bind ?_)))
  refine wpAny_nsSet1 (s := { s with toks := s.toks + 1 }) I.ns fun h' hn2 hs2 => ?_
  obtain ⟨oD, esD, epD, hoD, hdD, hcD⟩ := hn2.count (PySem.Within.cons name v hw)
  refine wpAny_bind (wpAny_lookBehind hoD (by rw [hdD]; exact pastItsLine_dict (Nat.le_trans hcD (by rw [List.length_cons]; omega))) ?_)
  exact wpAny_pure (h _ ⟨(hs2.2 _ (Ne.symm I.ne)).trans I.obj, hn2, I.ne⟩ hs2)
theorem make_map {R : Result -> Shared -> Prop} {vs : List Value} {kw : List (Str × Value)} (X : K.In s.heap) (hm : PySem.W.makesIn K C = true)
    (hi : PySem.W.findIn K (.ref C) "__init__" = some (some (.ref f))) (hf : PySem.W.typeIn K (.ref f) = some (.type "function"))
    (h : codeAny (model prog w) (A.under (.builtin "type.__call__" ⟨.ref C :: vs, kw⟩)) (.call (.ref f) ⟨.ref (s.heap.objs.size + 1) :: vs, kw⟩) (PySem.W.InitBack (s.heap.objs.size + 1) R)
      { s with heap := (s.heap.push PySem.W.emptyDict).push (PySem.W.instObj C s.heap.objs.size) }) :
    codeAny (model prog w) A (.call (.ref C) ⟨vs, kw⟩) R s := by
  obtain ⟨hh, g, d, t, os⟩ := s
  exact PySem.W.make_core (PySem.W.makes_of X hm) (PySem.W.looks_findIn X hi) (fun self => PySem.W.bind_fn X self hf) (.inl rfl) h
end
def putF (f : Str) (v : V) : List (Str × V) -> List (Str × V)
  | [] => [(f, v)]
  | (g, x) :: r => if g = f then (g, v) :: r else (g, x) :: putF f v r
theorem lookup_putF (f g : Str) (v : V) : ∀ fs : List (Str × V), (putF f v fs).lookup g = if g = f then some v else fs.lookup g
  | [] => by
    show List.lookup g [(f, v)] = _
    by_cases h : g = f
    · have hb : (g == f) = true := beq_iff_eq.mpr h
      simp only [List.lookup, hb, if_pos h]
    · have hb : (g == f) = false := beq_eq_false_iff_ne.mpr h
      simp only [List.lookup, hb, if_neg h]
  | (k, x) :: r => by
    have ih := lookup_putF f g v r
    rw [show putF f v ((k, x) :: r) = (if k = f then (k, v) :: r else (k, x) :: putF f v r) from rfl]
    by_cases hk : k = f
    · rw [if_pos hk]
      by_cases h : g = k
      · have hb : (g == k) = true := beq_iff_eq.mpr h
        simp only [List.lookup, hb, if_pos (h.trans hk)]
      · have hb : (g == k) = false := beq_eq_false_iff_ne.mpr h
        simp only [List.lookup, hb, if_neg (fun e : g = f => h (e.trans hk.symm))]
    · rw [if_neg hk]
      by_cases h : g = k
      · have hb : (g == k) = true := beq_iff_eq.mpr h
        simp only [List.lookup, hb, if_neg (fun e : g = f => hk (h.symm.trans e))]
      · have hb : (g == k) = false := beq_eq_false_iff_ne.mpr h
        simp only [List.lookup, hb]
        exact ih
theorem keys_putF (f : Str) (v : V) : ∀ fs : List (Str × V), f ∈ (putF f v fs).map (·.1) /\ ∀ g, g ∈ fs.map (·.1) -> g ∈ (putF f v fs).map (·.1)
  | [] => ⟨by simp [putF], fun g h => by simp at h⟩
  | (k, x) :: r => by
    obtain ⟨i1, i2⟩ := keys_putF f v r
    rw [show putF f v ((k, x) :: r) = (if k = f then (k, v) :: r else (k, x) :: putF f v r) from rfl]
    by_cases hk : k = f
    · rw [if_pos hk]
      subst hk
      exact ⟨by simp, fun g h => by simpa using h⟩
    · rw [if_neg hk]
      refine ⟨?_, fun g h => ?_⟩
      · rw [List.map_cons]
        exact List.mem_cons_of_mem _ i1
      · rw [List.map_cons] at h ⊢
        rcases List.mem_cons.mp h with e | e
        · exact List.mem_cons.mpr (.inl e)
        · exact List.mem_cons_of_mem _ (i2 g e)
theorem length_putF (f : Str) (v : V) : ∀ fs : List (Str × V), (putF f v fs).length <= fs.length + 1
  | [] => by simp [putF]
  | (k, x) :: r => by
    have ih := length_putF f v r
    rw [show putF f v ((k, x) :: r) = (if k = f then (k, v) :: r else (k, x) :: putF f v r) from rfl]
    by_cases hk : k = f
    · rw [if_pos hk, List.length_cons, List.length_cons]; omega
    · rw [if_neg hk, List.length_cons, List.length_cons]; omega
theorem RelO.some_of {v : V} {o : Option Value} (r : RelO (some v) o) : ∃ u, o = some u /\ zca v u := by
  cases o with
  | none => exact (show False from r).elim
  | some u => exact ⟨u, rfl, r⟩
theorem RelO.none_of {o : Option Value} (r : RelO none o) : o = none := by
  cases o with
  | none => rfl
  | some u => exact (show False from r).elim
theorem handed_of {v : V} {u : Value} (r : zca v u) : PySem.W.handedIn u = true := by
  cases v with
  | non => cases (show u = Value.none from r); rfl
  | bl b => cases (show u = Value.bool b from r); rfl
  | int i => obtain ⟨t, e⟩ := (show ∃ t, u = Value.int i t from r); cases e; rfl
  | str x => obtain ⟨t, e⟩ := (show ∃ t, u = Value.str x t from r); cases e; rfl
  | byt b => obtain ⟨t, e⟩ := (show ∃ t, u = Value.bytes b t from r); cases e; rfl
  | flt b => obtain ⟨t, e⟩ := (show ∃ t, u = Value.float b t from r); cases e; rfl
  | ref a => cases (show u = Value.ref a from r); rfl
  | ty n => cases (show u = Value.type n from r); rfl
section
variable {P : Program} {w : World} {H H' : Hp} {h h' : Heap} {a C dx : Addr} {fs fs' : List (Str × V)}
theorem ins_get (hok : HOk P w H h) (e : H a = some (.ins C dx fs)) : ∃ mA, ObjM h a dx C mA /\ (∀ f, RelO (fs.lookup f) (mA f)) /\ PySem.Within mA (fs.map (·.1)) /\ fs.length <= 1000 /\ H dx = some (.own a) := by
  obtain ⟨d, z, ne, ob, mA, n, r, q⟩ := (show zcF P w H h a (.ins C dx fs) from hok a _ e)
  exact ⟨mA, ⟨ob, n, ne⟩, r, q, z, d⟩
end
structure Cls (K : PySem.W.Frag) (C : Addr) : Prop where
  pg : PySem.W.plainGet K C Str.empty = true
  hd : PySem.W.hasDictIn K C = true
  po : PySem.W.plainOver K C = true
  sa : PySem.W.findIn K (.ref C) "__setattr__" = some (some (.builtin "object.__setattr__"))
theorem Cls.get {K : PySem.W.Frag} {C : Addr} (c : Cls K C) (f : Str) : PySem.W.plainGet K C f = true := c.pg
def NoAttr (K : PySem.W.Frag) (C : Addr) (f : Str) : Prop := PySem.W.findIn K (.ref C) f = some none
theorem NoAttr.taker {K : PySem.W.Frag} {C : Addr} {f : Str} (n : NoAttr K C f) : PySem.W.takerIn K C f = some none := by
  unfold PySem.W.takerIn
  rw [show PySem.W.findIn K (.ref C) f = some none from n]
  rfl
structure Con (K : PySem.W.Frag) (C : Addr) (f : Str) (v : V) (u : Value) : Prop where
  at_ : PySem.W.findIn K (.ref C) f = some (some u)
  rel : zca v u
  get : PySem.W.specialIn K u "__get__" = some none
  cp : PySem.W.copiedNames.contains f = false
structure Meth (K : PySem.W.Frag) (C : Addr) (m : Str) (f : Addr) : Prop where
  at_ : PySem.W.findIn K (.ref C) m = some (some (.ref f))
  fn : PySem.W.isFn K (.ref f) = true
  kp : PySem.W.keepIn K (.ref f) = true
section
variable {X : Cx} {pins : List (Addr × Obj)} {σ : St} {H : Hp} {s : Shared} {a C dx : Addr} {fs : List (Str × V)} {f : Str} {v : V} {A : Around} {E : Value -> Shared -> Prop}
theorem getattr_ok {b : Bool} {Q : Value -> Shared -> Prop} (I : Inv X pins σ H s) (e : H a = some (.ins C dx fs)) (c : Cls X.K C) (n : NoAttr X.K C f) (l : fs.lookup f = some v)
    (h : ∀ u s', Inv X pins σ H s' -> zca v u -> Q u s') : wpAny (model X.prog X.w) A (getAttr (.ref a) f b) Q E s := by
  obtain ⟨mA, O, r, _, _, _⟩ := ins_get I.hok e
  obtain ⟨u, hu, ru⟩ := RelO.some_of (v := v) (o := mA f) (by rw [← l]; exact r f)
  exact get_map I.kIn O (c.get f) c.hd n hu (handed_of ru) (h u _ (I.tok _) ru)
theorem getmeth_ok {m : Str} {g : Addr} {pl : Sem Bool} {Q : Value × List Value -> Shared -> Prop} (I : Inv X pins σ H s) (e : H a = some (.ins C dx fs)) (c : Cls X.K C) (k : Meth X.K C m g) (l : fs.lookup m = none)
    (h : Q (.ref g, [.ref a]) s) : wpAny (model X.prog X.w) A (getMethod (.ref a) m pl) Q E s := by
  obtain ⟨mA, O, r, _, _, _⟩ := ins_get I.hok e
  have hn : mA m = none := RelO.none_of (by rw [← l]; exact r m)
  exact get_meth I.kIn O (c.get m) k.at_ k.fn hn h
theorem setattr_ok {y : V} {u : Value} {Q : Unit -> Shared -> Prop} (I : Inv X pins σ H s) (e : H a = some (.ins C dx fs)) (c : Cls X.K C) (n : NoAttr X.K C f) (hl : fs.length < 1000) (ry : zca y u)
    (h : ∀ s', Inv X pins σ (upd H a (.ins C dx (putF f y fs))) s' -> Q () s') : wpAny (model X.prog X.w) A (setAttr (.ref a) f u) Q E s := by
  obtain ⟨mA, O, r, wi, _, ho⟩ := ins_get I.hok e
  have hz : (fs.map (·.1)).length <= sizeLine := by rw [List.length_map, sizeLine_eq]; omega
  refine set_map I.kIn O c.sa c.po n.taker c.hd wi hz fun h' O' sb => h _ ?_
  have hd : ∃ o, h'.get? dx = some o := let ⟨o, _, _, e', _⟩ := O'.ns; ⟨o, e'⟩
  refine I.write (x := a) (e := dx) (by rw [e]; exact True.intro) (.inr ho) (fun b q hb z => (sb.2 b hb).trans z) hd ?_
  refine ⟨by rw [zaB O.ne]; exact ho, ?_, O.ne, O'.obj, _, O'.ns, fun g => ?_, fun g hg => ?_⟩
  · have := length_putF f y fs; omega
  · show RelO ((putF f y fs).lookup g) (if g = f then some u else mA g)
    rw [lookup_putF]
    by_cases q : g = f
    · rw [if_pos q, if_pos q]; exact ry
    · rw [if_neg q, if_neg q]; exact r g
  · by_cases q : g = f
    · rw [q]; exact (keys_putF f y fs).1
    · refine (keys_putF f y fs).2 g (wi g fun z => hg ?_)
      show (if g = f then some u else mA g) = none
      rw [if_neg q]; exact z
theorem Inv.made (I : Inv X pins σ H s) : Inv X pins σ (upd (upd H s.heap.objs.size (.own (s.heap.objs.size + 1))) (s.heap.objs.size + 1) (.ins C s.heap.objs.size []))
    { s with heap := (s.heap.push PySem.W.emptyDict).push (PySem.W.instObj C s.heap.objs.size) } := by
  have e1 : (s.heap.push PySem.W.emptyDict).get? s.heap.objs.size = some PySem.W.emptyDict := Heap.get?_push_size s.heap rfl
  have e2 : ((s.heap.push PySem.W.emptyDict).push (PySem.W.instObj C s.heap.objs.size)).get? (s.heap.objs.size + 1) = some (PySem.W.instObj C s.heap.objs.size) := by
    have := Heap.get?_push_size (s.heap.push PySem.W.emptyDict) (o := PySem.W.instObj C s.heap.objs.size) rfl
    rwa [Heap.size_push] at this
  have e3 : (s.heap.push PySem.W.emptyDict).Ns s.heap.objs.size (fun _ => none) := ⟨PySem.W.emptyDict, #[], _, e1, rfl, (fun e he => absurd he (by simp)), fun _ => rfl⟩
  have I1 := I.laid (a := s.heap.objs.size) (o := .own (s.heap.objs.size + 1)) (h' := s.heap.push PySem.W.emptyDict) (t' := s.toks) (fun b u q => Heap.get?_push_of_some _ q) (Nat.le_refl _) ⟨_, e1⟩
  refine I1.laid (a := s.heap.objs.size + 1) (o := .ins C s.heap.objs.size []) (t' := s.toks) (fun b u q => Heap.get?_push_of_some _ q) (Nat.le_of_eq (Heap.size_push _ _)) ?_
  have ne : s.heap.objs.size ≠ s.heap.objs.size + 1 := Nat.ne_of_lt (Nat.lt_succ_self _)
  refine ⟨by rw [zaB ne, zaH], Nat.zero_le _, ne, e2, fun _ => none, (Heap.Ns1.of_empty e3).at fun o q => Heap.get?_push_of_some _ q, fun _ => True.intro, fun y hy => absurd rfl hy⟩
theorem attr_of {prog : Program} {w : World} {env : Env} {e : Expr} {f : Str} {pos : Pos} {s : Shared} {Q : Value -> Shared -> Prop} (hb : attributeBase e f env (eval e env) = eval e env)
    (h : wpAny (model prog w) A (eval e env) (fun o s₁ => wpAny (model prog w) A (getAttr o f true) Q E s₁) E s) : wpAny (model prog w) A (eval (.Attribute e f pos) env) Q E s :=
  Attribute_any_ h (by rw [arm_eval_Attribute, hb])
end
def tFld (K : PySem.W.Frag) (ta : TE) (f : Str) : TE := fun σ H Q => ta σ H fun x H1 => ∃ a C dx fs v, x = .ref a /\ H1 a = some (.ins C dx fs) /\ Cls K C /\ NoAttr K C f /\ fs.lookup f = some v /\ Q v H1
def sFld (K : PySem.W.Frag) (ta tv : TE) (f : Str) : TS := fun D σ H => tv σ H fun y H1 => ta σ H1 fun x H2 => ∃ a C dx fs, x = .ref a /\ H2 a = some (.ins C dx fs) /\ Cls K C /\ NoAttr K C f /\ fs.length < 1000 /\
  D.nx σ (upd H2 a (.ins C dx (putF f y fs)))
section
variable {X : Cx} {o e value : Expr} {f : Str} {pos pos' tpos : Pos} {ta tv : TE}
theorem pe_fld (he : PE X e ta) (hb : attributeBase e f X.env (eval e X.env) = eval e X.env) : PE X (.Attribute e f pos) (tFld X.K ta f) := by
  intro pins s σ H Q I h
  refine attr_of hb (thn (he pins s σ H _ I h) fun u s1 ⟨x, H1, I1, rx, a, C, dx, fs, v, ex, ea, c, n, l, q⟩ => ?_)
  subst ex
  obtain rfl : u = Value.ref a := rx
  exact getattr_ok I1 ea c n l fun u' s2 I2 ru => ⟨v, H1, I2, ru, q⟩
theorem ps_fld (ha : PE X o ta) (hv : PE X value tv) (hs : swapsWith value (some (.Attribute o f pos')) pos.line X.env = pure false) : PS X (.Assign [.Attribute o f pos'] value pos) (sFld X.K ta tv f) := by
  intro pins s σ H D I h
  refine plainObj_wpAny_Assign_Attribute (thn (hv pins s σ H _ I h) fun u s1 ⟨y, H1, I1, ry, q⟩ => thn (ha pins s1 σ H1 _ I1 q) fun ov s2 ⟨x, H2, I2, rx, a, C, dx, fs, ex, ea, c, n, l, q2⟩ => ?_) hs
  subst ex
  obtain rfl : ov = Value.ref a := rx
  exact setattr_ok I2 ea c n l ry fun s3 I3 => ⟨σ, _, I3, q2⟩
theorem methcall_of {pl : Sem Bool} {m : Str} {apos : Pos} {args : List Expr} {pins : List (Addr × Obj)} {s : Shared} {σ : St} {H : Hp} {Q : Value -> Shared -> Prop} {te : TE} (he : PE X e te) (I : Inv X pins σ H s)
    (h : te σ H fun x H1 => ∃ a C dx fs g, x = .ref a /\ H1 a = some (.ins C dx fs) /\ Cls X.K C /\ Meth X.K C m g /\ fs.lookup m = none /\
      ∀ s1, Inv X pins σ H1 s1 -> wpAny (model X.prog X.w) X.A (callWith pos (.ref g) [.ref a] (backTo pos (starEach args X.env)) (backToKw pos (keywordEach [] X.env))) Q X.xe s1)
    (ht : eval (.Call (.Attribute e m apos) args [] pos) X.env = (do
      let ov ← eval e X.env
      standAt apos.atName
      let (f, first) ← holding [ov] (getMethod ov m pl)
      callWith pos f first (backTo pos (starEach args X.env)) (backToKw pos (keywordEach [] X.env)))) :
    wpAny (model X.prog X.w) X.A (eval (.Call (.Attribute e m apos) args [] pos) X.env) Q X.xe s := by
  refine PySem.W.methodCall_KW (pl := pl) (thn (he pins s σ H _ I h) fun u s1 ⟨x, H1, I1, rx, a, C, dx, fs, g, ex, ea, c, k, l, q⟩ => ?_) ht
  subst ex
  obtain rfl : u = Value.ref a := rx
  exact getmeth_ok I1 ea c k l (q s1 I1)
end
section
variable {X : Cx} {pins : List (Addr × Obj)} {σ : St} {H : Hp} {s : Shared} {A : Around} {E : Value -> Shared -> Prop} {Q : Value -> Shared -> Prop} {c : Value} {b : Bool}
inductive TyOf (K : PySem.W.Frag) (H : Hp) : V -> Value -> Prop where
  | non : TyOf K H .non (.type "NoneType")
  | bl (x : Bool) : TyOf K H (.bl x) (.type "bool")
  | int (i : Int) : TyOf K H (.int i) (.type "int")
  | str (x : Str) : TyOf K H (.str x) (.type "str")
  | flt (x : UInt64) : TyOf K H (.flt x) (.type "float")
  | lst {a : Addr} {xs : List V} (e : H a = some (.lst xs)) : TyOf K H (.ref a) (.type "list")
  | frz {a : Addr} {o : Obj} {xs : List V} (e : H a = some (.frz o (.lst xs))) : TyOf K H (.ref a) (.type "list")
  | tup {a : Addr} {xs : List V} (e : H a = some (.tup xs)) : TyOf K H (.ref a) (.type "tuple")
  | dK {a : Addr} {kvs : List (Key × V)} (e : H a = some (.dK kvs)) : TyOf K H (.ref a) (.type "dict")
  | dT {a : Addr} {kvs : List (List Key × V)} (e : H a = some (.dT kvs)) : TyOf K H (.ref a) (.type "dict")
  | ins {a C dx : Addr} {fs : List (Str × V)} (e : H a = some (.ins C dx fs)) (cl : Cls K C) (ha : PySem.W.findIn K (.ref C) "__class__" = some (some (.builtin "object.__class__")))
      (hn : PySem.W.specialIn K (.builtin "object.__class__") "__get__" = some (some (.builtin "getset_descriptor.__get__"))) (htk : PySem.W.takesIn K (.builtin "object.__class__") = some true)
      (hm : PySem.W.mroIn K C (.type "object") = some true) : TyOf K H (.ref a) (.ref C)
theorem isinst_ok {x : V} {u t : Value} (I : Inv X pins σ H s) (rx : zca x u) (ty : TyOf X.K H x t) (e : PySem.W.kitOne X.K t c = some b) (h : ∀ tk, Q (.bool b) { s with toks := tk }) :
    wpAny (model X.prog X.w) A (call (.builtin "isinstance") [u, c]) Q E s := by
  cases ty with
  | non => cases (show u = Value.none from rx); exact PySem.W.kia_one PySem.W.kitx_none I.kIn True.intro e (fun z => nomatch z) h
  | bl y => cases (show u = Value.bool y from rx); exact PySem.W.kia_one PySem.W.kitx_bool I.kIn True.intro e (fun z => nomatch z) h
  | int i => obtain ⟨t, q⟩ := (show ∃ t, u = Value.int i t from rx); cases q; exact PySem.W.kia_one PySem.W.kitx_int I.kIn True.intro e (fun z => nomatch z) h
  | str y => obtain ⟨t, q⟩ := (show ∃ t, u = Value.str y t from rx); cases q; exact PySem.W.kia_one PySem.W.kitx_str I.kIn True.intro e (fun z => nomatch z) h
  | flt y => obtain ⟨t, q⟩ := (show ∃ t, u = Value.float y t from rx); cases q; exact PySem.W.kia_one PySem.W.kitx_float I.kIn True.intro e (fun z => nomatch z) h
  | @lst a xs ea =>
    cases (show u = Value.ref a from rx)
    obtain ⟨_, _, n, _, h1⟩ := (show zcF X.prog X.w H s.heap a (.lst xs) from I.hok a _ ea)
    exact PySem.W.kia_one PySem.W.kitx_list I.kIn ⟨_, h1, rfl⟩ e (fun z => nomatch z) h
  | @frz a ob xs ea =>
    cases (show u = Value.ref a from rx)
    obtain ⟨_, _, _, n, _, h1⟩ := (show zcF X.prog X.w H s.heap a (.frz ob (.lst xs)) from I.hok a _ ea)
    exact PySem.W.kia_one PySem.W.kitx_list I.kIn ⟨_, h1, rfl⟩ e (fun z => nomatch z) h
  | @tup a xs ea =>
    cases (show u = Value.ref a from rx)
    obtain ⟨_, _, _, p⟩ := (show zcF X.prog X.w H s.heap a (.tup xs) from I.hok a _ ea)
    obtain ⟨o, h1, h2, _⟩ := p
    exact PySem.W.kia_one PySem.W.kitx_tuple I.kIn ⟨o, h1, h2⟩ e (fun z => nomatch z) h
  | @dK a kvs ea =>
    cases (show u = Value.ref a from rx)
    obtain ⟨_, _, vs, _, p⟩ := (show zcF X.prog X.w H s.heap a (.dK kvs) from I.hok a _ ea)
    obtain ⟨o, es, ep, h1, h2, _⟩ := p
    exact PySem.W.kia_one PySem.W.kitx_dict I.kIn ⟨o, h1, h2.1⟩ e (fun z => nomatch z) h
  | @dT a kvs ea =>
    cases (show u = Value.ref a from rx)
    obtain ⟨_, _, xs, _, o, es, ep, h1, h2, _⟩ := (show zcF X.prog X.w H s.heap a (.dT kvs) from I.hok a _ ea)
    exact PySem.W.kia_one PySem.W.kitx_dict I.kIn ⟨o, h1, h2.1⟩ e (fun z => nomatch z) h
  | @ins a C dx fs ea cl ha hn htk hm =>
    cases (show u = Value.ref a from rx)
    obtain ⟨mA, O, _⟩ := ins_get I.hok ea
    obtain ⟨od, J, _⟩ := O.look
    exact PySem.W.kia_one (PySem.W.kitx_own (cl.get _) cl.hd ha hn htk hm) I.kIn J e (fun z => nomatch z) h
end
end L2
namespace L2
open PySem PySem.Spec PyProof.Rows
structure Room (k : Nat) (A : Around) : Prop where
  hd : A.handled = none
  dp : A.depth + 3 * k + 5 < recursionLimit
  un : A.units + 16 * k + 200 < cLine
theorem Room.mono {j k : Nat} {A : Around} (r : Room k A) (h : j <= k) : Room j A := ⟨r.hd, by have := r.dp; omega, by have := r.un; omega⟩
theorem Room.deeper {k : Nat} {A : Around} (r : Room (k + 1) A) (env : Env) : Room k (A.deeper env) :=
  ⟨r.hd, by have := r.dp; show A.depth + 1 + 3 * k + 5 < _; omega, by have := r.un; show A.units + 3 + 16 * k + 200 < _; omega⟩
theorem make_depth {A : Around} {C : Addr} {us : List Value} {kw : List (Str × Value)} : (A.under (.builtin "type.__call__" ⟨.ref C :: us, kw⟩)).depth = A.depth + 1 := by
  first | rfl | simp [Around.under, Code.weight, Code.isCreation, Code.isGuard, Code.isCaller, Code.frames, Code.isFrame, guardIds]
theorem make_units {A : Around} {C : Addr} {us : List Value} {kw : List (Str × Value)} : (A.under (.builtin "type.__call__" ⟨.ref C :: us, kw⟩)).units = A.units + 1 := by
  first | rfl | simp [Around.under, Code.cUnits, Code.frames, Code.isFrame]
theorem Room.make {k : Nat} {A : Around} (r : Room (k + 1) A) (C : Addr) (us : List Value) (kw : List (Str × Value)) : Room k (A.under (.builtin "type.__call__" ⟨.ref C :: us, kw⟩)) :=
  ⟨r.hd, by have := r.dp; rw [make_depth]; omega, by have := r.un; rw [make_units]; omega⟩
theorem Room.depth {k : Nat} {A : Around} (r : Room k A) : A.depth < recursionLimit := by have := r.dp; omega
def tNil : TA := fun _ H Q => Q [] H
def tCons (ta : TE) (tr : TA) : TA := fun σ H Q => ta σ H fun x H1 => tr σ H1 fun xs H2 => Q (x :: xs) H2
section
variable {X : Cx} {e : Expr} {es : List Expr} {te : TE} {t : TA} {pos : Pos}
theorem pa_nil : PA X [] tNil := fun _ _ _ _ H Q I h => Calls.spliced_nil ⟨[], H, I, .nil, h⟩
theorem pa_cons (ha : PE X e te) (hr : PA X es t) (hs : starEach (e :: es) X.env = (false, eval e X.env) :: starEach es X.env := by rfl) : PA X (e :: es) (tCons te t) := by
  intro pos pins s σ H Q I h
  rw [hs]
  show wpAny _ _ (spliced ((false, eval e X.env) :: backTo pos (starEach es X.env))) _ _ s
  refine Calls.spliced_cons (thn (ha pins s σ H _ I h) fun u s1 ⟨x, H1, I1, r1, q1⟩ => ?_)
  exact thn (hr pos pins s1 σ H1 _ I1 q1) fun us s2 ⟨xs, H2, I2, r2, q2⟩ => ⟨x :: xs, H2, I2, .cons r1 r2, q2⟩
def tTup (t : TA) : TE := fun σ H Q => t σ H fun xs H1 => xs.length <= sizeLine /\ ∀ p, H1 p = none -> Q (.ref p) (upd H1 p (.tup xs))
def tLst (t : TA) : TE := fun σ H Q => t σ H fun xs H1 => xs.length <= sizeLine /\ ∀ p, H1 p = none -> Q (.ref p) (upd H1 p (.lst xs))
theorem pe_tup {x1} (h : PA X es t) : PE X (.Tuple es x1 pos) (tTup t) := by
  intro pins s σ H Q I hq
  refine wpAny_Tuple_spliced (thn (h pos pins s σ H _ I hq) fun us s1 ⟨xs, H1, I1, r, z, q⟩ => ⟨by rw [← r.length]; exact z, ?_⟩)
  have hf : H1 s1.heap.objs.size = none := I1.hok.fresh (Nat.le_refl _)
  refine ⟨.ref s1.heap.objs.size, upd H1 s1.heap.objs.size (.tup xs), I1.laid (t' := s1.toks) (fun b u e => Heap.get?_push_of_some _ e) (Nat.le_refl _) ?_, rfl, q _ hf⟩
  exact ⟨z, us, r, ⟨_, Heap.get?_push_size _ rfl, rfl, _, rfl⟩⟩
theorem pe_lst (h : PA X es t) : PE X (.List es pos) (tLst t) := by
  intro pins s σ H Q I hq
  refine wpAny_List_spliced (thn (h pos pins s σ H _ I hq) fun us s1 ⟨xs, H1, I1, r, z, q⟩ => ⟨by rw [← r.length]; exact z, ?_⟩)
  have hf : H1 s1.heap.objs.size = none := I1.hok.fresh (Nat.le_refl _)
  refine ⟨.ref s1.heap.objs.size, upd H1 s1.heap.objs.size (.lst xs), I1.laid (t' := s1.toks) (fun b u e => Heap.get?_push_of_some _ e) (Nat.le_refl _) ?_, rfl, q _ hf⟩
  exact ⟨z, us, 0, r, Heap.get?_push_size _ rfl⟩
end
abbrev Sp := List V -> Hp -> VK -> XK -> Prop
abbrev CXT := List Env -> Hp -> Shared -> XK -> Value -> Shared -> Prop
structure Env0 (P : Program) (w : World) (K : PySem.W.Frag) (mg : Str -> Option Value) (base : Heap) (A : Around) (outer : List Env) (s : Shared) (H : Hp) : Prop where
  frames : A.frames = some outer
  mod : Mod K mg base
  bs : ∀ b o, base.get? b = some o -> s.heap.get? b = some o /\ H b = none
  bsz : base.objs.size <= s.heap.objs.size
  funs : s.heap.FunFrames base outer
  frf : ∀ b ∈ frs outer, H b = none
  hok : HOk P w H s.heap
  bare : AllBare s.gens
def CE (outer : List Env) (P : Program) (w : World) (H : Hp) (s : Shared) (Q : VK) (u : Value) (s' : Shared) : Prop :=
  ∃ v H', s'.os = s.os /\ AllBare s'.gens /\ Un (frs outer) [] H H' s.heap s'.heap /\ HOk P w H' s'.heap /\ zca v u /\ Q v H'
def CR (CX : CXT) (outer : List Env) (P : Program) (w : World) (H : Hp) (s : Shared) (Q : VK) (E : XK) (r : Result) (s' : Shared) : Prop :=
  match r with
  | .ok (.ret u) => CE outer P w H s Q u s'
  | .ok _ => False
  | .error e => CX outer H s E e s'
structure FnOk (P : Program) (w : World) (K : PySem.W.Frag) (mg : Str -> Option Value) (base : Heap) (CX : CXT) (k : Nat) (f : Addr) (fd : FuncData) (ps : List Str) (sp : Sp) : Prop where
  len : ∀ vs H Q E, sp vs H Q E -> vs.length = ps.length
  run : ∀ (A : Around) (outer : List Env) (s : Shared) (H : Hp) (args : Args) (us : List Value) (vs : List V) (Q : VK) (E : XK), Room k A -> Env0 P w K mg base A outer s H -> BindsTo s fd args (ps.zip us) -> zb3 vs us -> sp vs H Q E ->
    codeAny (model P w) A (.call (.ref f) args) (CR CX outer P w H s Q E) s
theorem FnOk.imp {P : Program} {w : World} {K : PySem.W.Frag} {mg : Str -> Option Value} {base : Heap} {CX : CXT} {k : Nat} {f : Addr} {fd : FuncData} {ps : List Str} {sp sp' : Sp} (F : FnOk P w K mg base CX k f fd ps sp)
    (h : ∀ vs H Q E, sp' vs H Q E -> sp vs H Q E) : FnOk P w K mg base CX k f fd ps sp' :=
  ⟨fun vs H Q E q => F.len vs H Q E (h _ _ _ _ q), fun A outer s H args us vs Q E hr he hb hv hs => F.run A outer s H args us vs Q E hr he hb hv (h _ _ _ _ hs)⟩
theorem Env0.make {P : Program} {w : World} {K : PySem.W.Frag} {mg : Str -> Option Value} {base : Heap} {A : Around} {outer : List Env} {s : Shared} {H : Hp} (e : Env0 P w K mg base A outer s H) (C : Addr) (us : List Value) (kw : List (Str × Value)) :
    Env0 P w K mg base (A.under (.builtin "type.__call__" ⟨.ref C :: us, kw⟩)) outer s H := ⟨by first | exact e.frames | (simpa [Around.under, Code.envs, Code.isFrame, pushEnvs] using e.frames), e.mod, e.bs, e.bsz, e.funs, e.frf, e.hok, e.bare⟩
section
variable {X : Cx} {pins : List (Addr × Obj)} {σ : St} {H : Hp} {s s' : Shared}
theorem Inv.env0 (I : Inv X pins σ H s) : Env0 X.prog X.w X.K X.mg X.base X.A X.stack s H :=
  ⟨I.ok.frames, I.ok.mod, I.bs, Nat.le_trans I.ok.bsz I.sz, I.stack, I.stkFree, I.hok, I.bare⟩
theorem Inv.after {Q : VK} {u : Value} (I : Inv X pins σ H s) (h : CE X.stack X.prog X.w H s Q u s') : EP X pins σ Q u s' := by
  obtain ⟨v, H', os, bare, un, hok, r, q⟩ := h
  obtain ⟨hh, g, d, t, os'⟩ := s'
  obtain rfl : os' = s.os := os
  exact ⟨v, H', I.call (h' := hh) (g' := g) (d' := d) (t' := t) (ch := []) un hok bare (fun b z => absurd z (by simp)), r, q⟩
end
def tCall (sp : Sp) (dvs : List V) (E : XK) (t : TA) : TE := fun σ H Q => t σ H fun vs H1 => sp (vs ++ dvs) H1 Q E
def tMeth (C : Addr) (m : Str) (sp : Sp) (dvs : List V) (E : XK) (ta : TE) (t : TA) : TE := fun σ H Q => ta σ H fun x H1 => ∃ a dx fs, x = .ref a /\ H1 a = some (.ins C dx fs) /\ fs.lookup m = none /\
  t σ H1 fun vs H2 => sp (x :: (vs ++ dvs)) H2 Q E
def tMake (C : Addr) (sp : Sp) (dvs : List V) (E : XK) (t : TA) : TE := fun σ H Q => t σ H fun vs H1 => ∀ x dx, H1 x = none -> H1 dx = none -> dx ≠ x ->
  sp (.ref x :: (vs ++ dvs)) (upd (upd H1 dx (.own x)) x (.ins C dx [])) (fun v H2 => v = .non /\ Q (.ref x) H2) E
def Binds (K : PySem.W.Frag) (fd : FuncData) (ps : List Str) (ds : List Value) : Prop :=
  ∀ (s : Shared) (us : List Value), K.In s.heap -> (us ++ ds).length = ps.length -> BindsTo s fd ⟨us, []⟩ (ps.zip (us ++ ds))
theorem Binds.all {K : PySem.W.Frag} {fd : FuncData} {ps : List Str} (h : ∀ us : List Value, us.length = ps.length -> bindArgs fd ⟨us, []⟩ = pure (ps.zip us)) : Binds K fd ps [] := fun s us _ hl => by
  rw [List.append_nil] at hl ⊢
  exact .of_eq (h us hl)
def Passes (CX : CXT) (X : Cx) (E : XK) : Prop := ∀ (pins : List (Addr × Obj)) (σ : St) (H : Hp) (s : Shared) (e : Value) (s' : Shared), Inv X pins σ H s -> CX X.stack H s E e s' -> X.xe e s'
section
variable {X : Cx} {CX : CXT} {k : Nat} {f C : Addr} {fd : FuncData} {ps : List Str} {sp : Sp} {dvs : List V} {ds : List Value} {E : XK} {x m : Str} {p pos apos : Pos} {e o : Expr} {es : List Expr} {ta : TE} {t : TA}
theorem run_fn {pins : List (Addr × Obj)} {σ : St} {H : Hp} {s : Shared} {Q : VK} {us : List Value} {vs : List V} (F : FnOk X.prog X.w X.K X.mg X.base CX k f fd ps sp) (hr : Room k X.A) (hb : Binds X.K fd ps ds) (hd : zb3 dvs ds) (hx : Passes CX X E)
    (I : Inv X pins σ H s) (r : zb3 vs us) (h : sp (vs ++ dvs) H Q E) : wpAny (model X.prog X.w) X.A (call (.ref f) us) (EP X pins σ Q) X.xe s := by
  have r2 : zb3 (vs ++ dvs) (us ++ ds) := r.append hd
  have hl : (us ++ ds).length = ps.length := by rw [← r2.length]; exact F.len _ _ _ _ h
  refine wpAny_call (codeAny_mono (F.run X.A X.stack s H ⟨us, []⟩ (us ++ ds) (vs ++ dvs) Q E hr I.env0 (hb s us I.kIn hl) r2 h) fun r s' hq => ?_)
  cases r with
  | error e => exact hx pins σ H s e s' I hq
  | ok fl =>
    cases fl with
    | ret u => exact I.after hq
    | next => exact False.elim hq
    | brk => exact False.elim hq
    | cont => exact False.elim hq
theorem pe_call (F : FnOk X.prog X.w X.K X.mg X.base CX k f fd ps sp) (hr : Room k X.A) (hg : Gl X x) (hm : X.mg x = some (.ref f)) (hk : PySem.W.keepIn X.K (.ref f) = true) (hb : Binds X.K fd ps ds) (hd : zb3 dvs ds) (hx : Passes CX X E)
    (ha : PA X (e :: es) t) (hdb : (x == ("__debug__" : Str)) = false := by decide) (he : starEach (e :: es) X.env = (false, eval e X.env) :: starEach es X.env := by rfl) (hpl : (backTo pos (starEach es X.env)).any (·.1) = false := by rfl) :
    PE X (.Call (.Name x p) (e :: es) [] pos) (tCall sp dvs E t) := by
  intro pins s σ H Q I h
  refine wpAny_Call_Name_kw (ld_glob I hg hm ?_ hdb)
  refine PySem.W.callWith_K (h₀ := X.base) I.ok.mod.kin hk (thn (ha pos pins s σ H _ I h) fun us s1 ⟨vs, H1, I1, r, q⟩ => ⟨I1.kIn, ?_⟩) he hpl
  exact run_fn F hr hb hd hx I1 r q
theorem pe_meth {pl : Sem Bool} (he : PE X o ta) (c : Cls X.K C) (hm : Meth X.K C m f) (F : FnOk X.prog X.w X.K X.mg X.base CX k f fd ps sp) (hr : Room k X.A) (hb : Binds X.K fd ps ds) (hd : zb3 dvs ds) (hx : Passes CX X E) (ha : PA X (e :: es) t)
    (hst : starEach (e :: es) X.env = (false, eval e X.env) :: starEach es X.env := by rfl) (hpl : (backTo pos (starEach es X.env)).any (·.1) = false := by rfl)
    (ht : eval (.Call (.Attribute o m apos) (e :: es) [] pos) X.env = (do
      let ov ← eval o X.env
      standAt apos.atName
      let (f, first) ← holding [ov] (getMethod ov m pl)
      callWith pos f first (backTo pos (starEach (e :: es) X.env)) (backToKw pos (keywordEach [] X.env))) := by rfl) :
    PE X (.Call (.Attribute o m apos) (e :: es) [] pos) (tMeth C m sp dvs E ta t) := by
  intro pins s σ H Q I h
  refine PySem.W.methodCall_KW (pl := pl) (thn (he pins s σ H _ I h) fun u s1 ⟨x, H1, I1, rx, a, dx, fs, ex, ea, l, q⟩ => ?_) ht
  subst ex
  obtain rfl : u = Value.ref a := rx
  refine getmeth_ok I1 ea c hm l ?_
  refine PySem.W.callWith_K (first := [.ref a]) (h₀ := X.base) I.ok.mod.kin hm.kp (thn (ha pos pins s1 σ H1 _ I1 q) fun us s2 ⟨vs, H2, I2, r, q2⟩ => ⟨I2.kIn, ?_⟩) hst hpl
  exact run_fn (us := .ref a :: us) (vs := .ref a :: vs) F hr hb hd hx I2 (.cons rfl r) q2
theorem pe_meth0 {pl : Sem Bool} (he : PE X o ta) (c : Cls X.K C) (hm : Meth X.K C m f) (F : FnOk X.prog X.w X.K X.mg X.base CX k f fd ps sp) (hr : Room k X.A) (hb : Binds X.K fd ps ds) (hd : zb3 dvs ds) (hx : Passes CX X E)
    (ht : eval (.Call (.Attribute o m apos) [] [] pos) X.env = (do
      let ov ← eval o X.env
      standAt apos.atName
      let (f, first) ← holding [ov] (getMethod ov m pl)
      callWith pos f first (backTo pos (starEach [] X.env)) (backToKw pos (keywordEach [] X.env))) := by rfl) :
    PE X (.Call (.Attribute o m apos) [] [] pos) (tMeth C m sp dvs E ta tNil) := by
  intro pins s σ H Q I h
  refine PySem.W.methodCall_KW (pl := pl) (thn (he pins s σ H _ I h) fun u s1 ⟨x, H1, I1, rx, a, dx, fs, ex, ea, l, q⟩ => ?_) ht
  subst ex
  obtain rfl : u = Value.ref a := rx
  refine getmeth_ok I1 ea c hm l ?_
  exact PySem.W.callWith_K0 (first := [.ref a]) I1.kIn hm.kp (run_fn (us := [.ref a]) (vs := [.ref a]) F hr hb hd hx I1 (.cons rfl .nil) q)
structure Mk (K : PySem.W.Frag) (C f : Addr) : Prop where
  makes : PySem.W.makesIn K C = true
  init : PySem.W.findIn K (.ref C) "__init__" = some (some (.ref f))
  fn : PySem.W.isFn K (.ref f) = true
  kp : PySem.W.keepIn K (.ref C) = true
theorem run_make {pins : List (Addr × Obj)} {σ : St} {H : Hp} {s : Shared} {Q : VK} {us : List Value} {vs : List V} (M : Mk X.K C f) (F : FnOk X.prog X.w X.K X.mg X.base CX k f fd ps sp) (hr : Room (k + 1) X.A) (hb : Binds X.K fd ps ds) (hd : zb3 dvs ds)
    (hx : Passes CX X E) (I : Inv X pins σ H s) (r : zb3 vs us)
    (h : ∀ x dx, H x = none -> H dx = none -> dx ≠ x -> sp (.ref x :: (vs ++ dvs)) (upd (upd H dx (.own x)) x (.ins C dx [])) (fun v H2 => v = .non /\ Q (.ref x) H2) E) :
    wpAny (model X.prog X.w) X.A (call (.ref C) us) (EP X pins σ Q) X.xe s := by
  have hq := h (s.heap.objs.size + 1) s.heap.objs.size (I.hok.fresh (Nat.le_succ _)) (I.hok.fresh (Nat.le_refl _)) (Nat.ne_of_lt (Nat.lt_succ_self _))
  have I2 := Inv.made (C := C) I
  have r2 : zb3 (V.ref (s.heap.objs.size + 1) :: (vs ++ dvs)) (Value.ref (s.heap.objs.size + 1) :: (us ++ ds)) := .cons rfl (r.append hd)
  have hl : (Value.ref (s.heap.objs.size + 1) :: us ++ ds).length = ps.length := by
    have e := r2.length
    rw [F.len _ _ _ _ hq] at e
    exact e.symm
  refine wpAny_call (make_map (f := f) I.kIn M.makes M.init (beq_iff_eq.mp M.fn) (codeAny_mono (F.run _ X.stack _ _ ⟨Value.ref (s.heap.objs.size + 1) :: us, []⟩ (Value.ref (s.heap.objs.size + 1) :: (us ++ ds)) _ _ E (hr.make C us [])
    (I2.env0.make C us []) (hb _ (Value.ref (s.heap.objs.size + 1) :: us) I2.kIn hl) r2 hq) fun r s' hq' => ?_))
  cases r with
  | error e => exact hx pins σ _ _ e s' I2 hq'
  | ok fl =>
    cases fl with
    | ret u =>
      obtain ⟨v, H', I3, rv, ev, q3⟩ := I2.after hq'
      subst ev
      exact ⟨rv, ⟨V.ref (s.heap.objs.size + 1), H', I3, rfl, q3⟩⟩
    | next => exact False.elim hq'
    | brk => exact False.elim hq'
    | cont => exact False.elim hq'
theorem pe_make (M : Mk X.K C f) (F : FnOk X.prog X.w X.K X.mg X.base CX k f fd ps sp) (hr : Room (k + 1) X.A) (hg : Gl X x) (hm : X.mg x = some (.ref C)) (hb : Binds X.K fd ps ds) (hd : zb3 dvs ds) (hx : Passes CX X E)
    (ha : PA X (e :: es) t) (hdb : (x == ("__debug__" : Str)) = false := by decide) (he : starEach (e :: es) X.env = (false, eval e X.env) :: starEach es X.env := by rfl) (hpl : (backTo pos (starEach es X.env)).any (·.1) = false := by rfl) :
    PE X (.Call (.Name x p) (e :: es) [] pos) (tMake C sp dvs E t) := by
  intro pins s σ H Q I h
  refine wpAny_Call_Name_kw (ld_glob I hg hm ?_ hdb)
  refine PySem.W.callWith_K (h₀ := X.base) I.ok.mod.kin M.kp (thn (ha pos pins s σ H _ I h) fun us s1 ⟨vs, H1, I1, r, q⟩ => ⟨I1.kIn, ?_⟩) he hpl
  exact run_make M F hr hb hd hx I1 r q
end
section
variable {X : Cx} {CX : CXT} {k : Nat} {f C : Addr} {fd : FuncData} {ps ks : List Str} {sp : Sp} {E : XK} {x m : Str} {p pos apos kpos : Pos} {e o : Expr} {es : List Expr} {kws : List Keyword} {te ta : TE} {t tk : TA} {nm : Option Str}
structure KBinds (K : PySem.W.Frag) (fd : FuncData) (ps ks : List Str) (g : List Value -> List Value -> List Value) (gV : List V -> List V -> List V) : Prop where
  to : ∀ (s : Shared) (us ws : List Value), K.In s.heap -> (g us ws).length = ps.length -> BindsTo s fd ⟨us, ks.zip ws⟩ (ps.zip (g us ws))
  rel : ∀ {vs : List V} {us : List Value} {zs : List V} {ws : List Value}, zb3 vs us -> zb3 zs ws -> zb3 (gV vs zs) (g us ws)
variable {g : List Value -> List Value -> List Value} {gV : List V -> List V -> List V}
end
structure FnScope (N P : List Str) (sc : Scope) : Prop where
  kind : sc.kind = .function
  co : sc.isCoroutine = false
  gen : sc.isGenerator = false
  nd : N.Nodup
  pre : N.take P.length = P
  par : ∀ x ∈ P, sc.names.lookup x = some .local \/ sc.names.lookup x = some .cell
  nofree : ∀ y ∈ sc.names, y.2 ≠ .free
theorem bindL_out {kindOf : Str -> Option NameKind} {x : Str} : ∀ {binds : List (Str × Value)} {m : Str -> Option Value}, (∀ v, (x, v) ∉ binds) -> bindL kindOf binds m x = m x
  | [], _, _ => rfl
  | (n, v) :: r, m, h => by
    unfold bindL
    rw [bindL_out fun w hw => h w (List.mem_cons_of_mem _ hw)]
    split
    · have : x ≠ n := by rintro rfl; exact h v List.mem_cons_self
      simp [this]
    · rfl
theorem bindC_out {kindOf : Str -> Option NameKind} {x : Str} : ∀ {binds : List (Str × Value)} {m : Str -> Option Value}, (∀ v, (x, v) ∉ binds) -> bindC kindOf binds m x = m x
  | [], _, _ => rfl
  | (n, v) :: r, m, h => by
    unfold bindC
    rw [bindC_out fun w hw => h w (List.mem_cons_of_mem _ hw)]
    split
    · rfl
    · have : x ≠ n := by rintro rfl; exact h v List.mem_cons_self
      simp [this]
theorem bindL_get {kindOf : Str -> Option NameKind} {x : Str} {v : Value} : ∀ {P : List Str} {vs : List Value} {i : Nat} {m : Str -> Option Value}, P.Nodup -> P[i]? = some x -> vs[i]? = some v -> kindOf x = some .local ->
    bindL kindOf (P.zip vs) m x = some v
  | [], _, _, _, _, h, _, _ => by simp at h
  | _ :: _, [], _, _, _, _, h, _ => by simp at h
  | p :: P, w :: vs, 0, m, nd, h1, h2, hk => by
    simp at h1 h2; subst h1; subst h2
    show bindL kindOf ((p, w) :: P.zip vs) m p = _
    unfold bindL
    rw [bindL_out fun v hv => (List.nodup_cons.mp nd).1 (List.of_mem_zip hv).1, if_pos hk]
    simp
  | p :: P, w :: vs, i + 1, m, nd, h1, h2, hk => by
    show bindL kindOf ((p, w) :: P.zip vs) m x = _
    unfold bindL
    exact bindL_get (i := i) (List.nodup_cons.mp nd).2 (by simpa using h1) (by simpa using h2) hk
theorem bindC_get {kindOf : Str -> Option NameKind} {x : Str} {v : Value} : ∀ {P : List Str} {vs : List Value} {i : Nat} {m : Str -> Option Value}, P.Nodup -> P[i]? = some x -> vs[i]? = some v -> kindOf x ≠ some .local ->
    bindC kindOf (P.zip vs) m x = some v
  | [], _, _, _, _, h, _, _ => by simp at h
  | _ :: _, [], _, _, _, _, h, _ => by simp at h
  | p :: P, w :: vs, 0, m, nd, h1, h2, hk => by
    simp at h1 h2; subst h1; subst h2
    show bindC kindOf ((p, w) :: P.zip vs) m p = _
    unfold bindC
    rw [bindC_out fun v hv => (List.nodup_cons.mp nd).1 (List.of_mem_zip hv).1, if_neg hk]
    simp
  | p :: P, w :: vs, i + 1, m, nd, h1, h2, hk => by
    show bindC kindOf ((p, w) :: P.zip vs) m x = _
    unfold bindC
    exact bindC_get (i := i) (List.nodup_cons.mp nd).2 (by simpa using h1) (by simpa using h2) hk
def start (N : List Str) (vs : List V) : St := vs.map some ++ List.replicate (N.length - vs.length) none
def cxOf (CX : CXT) (P : Program) (w : World) (K : PySem.W.Frag) (mg : Str -> Option Value) (base : Heap) (N : List Str) (qual : Str) (scope : Scope) (f : Addr) (cd : Value) (A : Around) (outer : List Env) (s : Shared) (H : Hp) (E : XK) : Cx where
  prog := P
  w := w
  K := K
  mg := mg
  base := base
  A := A.deeper (envOfC qual scope s.heap.objs.size f cd)
  N := N
  s₀ := s
  H₀ := H
  env := envOfC qual scope s.heap.objs.size f cd
  outer := outer
  stack := envOfC qual scope s.heap.objs.size f cd :: outer
  ex := []
  calm := true
  fn := fun _ => true
  pn := []
  xe := fun e s' => wpAny (model P w) (A.deeper (envOfC qual scope s.heap.objs.size f cd)) (leaving (envOfC qual scope s.heap.objs.size f cd) e) (fun _ s'' => CX outer H s E e s'') (fun e' s'' => CX outer H s E e' s'') s'
theorem cell_has {sc : Scope} {n : Nat} {x : Str} (h : sc.names.lookup x = some .cell) : ∃ c, (cellsFrom n sc.names []).lookup x = some c := by
  have q := PySem.W.cellsFrom_some sc.names n [] (.inl h)
  exact Option.isSome_iff_exists.mp q
theorem inv_start {CX : CXT} {P : Program} {w : World} {K : PySem.W.Frag} {mg : Str -> Option Value} {base : Heap} {N ps : List Str} {qual : Str} {scope : Scope} {f : Addr} {cd : Value} {A : Around} {outer : List Env} {s s1 : Shared} {H : Hp} {E : XK} {us : List Value} {vs : List V}
    (S : FnScope N ps scope) (hd : A.handled = none) (e0 : Env0 P w K mg base A outer s H) (hl : vs.length = ps.length) (r : zb3 vs us)
    (x : InCallC s s.heap.objs.size (bindL (envOfC qual scope s.heap.objs.size f cd).kindOf (ps.zip us) fun _ => none) (cellsFrom (s.heap.objs.size + 1) scope.names []) (bindC (envOfC qual scope s.heap.objs.size f cd).kindOf (ps.zip us) fun _ => none) s1) :
    Inv (cxOf CX P w K mg base N qual scope f cd A outer s H E) [] (start N vs) H s1 := by
  have hpl : ps.length <= N.length := by have := congrArg List.length S.pre; rw [List.length_take] at this; omega
  obtain ⟨h1, tk, rfl, hk⟩ := x.done
  have noA : ∀ b : Addr, b ∉ (cxOf CX P w K mg base N qual scope f cd A outer s H E).ex := fun b z => absurd (show b ∈ ([] : List Addr) from z) (by simp)
  refine ⟨⟨e0.mod, S.kind, rfl, rfl, Nat.le_refl _, fun y z c h1 h2 => ?_, fun y hy => ?_, fun y c _ h => ?_, fun _ => hd, Around.frames_deeper e0.frames, .inr ⟨rfl, rfl⟩, fun b z => absurd z (noA b), e0.bs, e0.bsz, fun b _ _ => noA b, fun b z => absurd z (noA b), e0.funs, e0.frf⟩,
    rfl, e0.bare, Un.kept hk, ⟨_, x.toInCall.ns, fun i y v h1 h2 h3 => ?_⟩, fun y c h => ⟨_, x.cell y c h⟩, e0.hok.fresh (Nat.le_refl _), fun y c h => ?_, fun p hp => absurd (show p ∈ ([] : List (Addr × Obj)) from hp) (by simp), e0.hok.kept hk, ?_⟩
  · exact name_of_addr x.apart (PySem.mem_of_lookup h1) (PySem.mem_of_lookup h2)
  · have hy : scope.names.lookup y = some .cell \/ scope.names.lookup y = some .free := hy
    rcases hy with hy | hy
    · exact cell_has hy
    · exact absurd rfl (S.nofree _ (PySem.mem_of_lookup hy))
  · exact Nat.le_of_lt (x.above y c (PySem.mem_of_lookup h))
  · have hi : i < vs.length := by
      unfold start at h2
      by_cases hi : i < vs.length
      · exact hi
      · rw [List.getElem?_append_right (by simpa using hi)] at h2
        rw [List.getElem?_replicate] at h2
        split at h2 <;> cases h2
    have ha : vs[i]? = some v := by
      unfold start at h2
      rw [List.getElem?_append_left (by simpa using hi), List.getElem?_map] at h2
      cases e : vs[i]? with
      | none => rw [e] at h2; cases h2
      | some a => rw [e] at h2; cases h2; rfl
    obtain ⟨u, hu, rv⟩ := r.get ha
    have hp : ps[i]? = some y := by
      rw [← S.pre, List.getElem?_take_of_lt (by omega)]; exact h1
    have ndP : ps.Nodup := by rw [← S.pre]; exact S.nd.sublist (List.take_sublist _ _)
    refine ⟨u, rv, ?_⟩
    rcases S.par y (List.mem_of_getElem? hp) with k | k
    · exact .inl ⟨k, bindL_get ndP hp hu k⟩
    · obtain ⟨c, e⟩ := cell_has (n := s.heap.objs.size + 1) k
      refine .inr ⟨.inl k, c, e, ?_⟩
      have q := x.cell y c e
      rw [bindC_get ndP hp hu (by show scope.names.lookup y ≠ _; rw [k]; decide)] at q
      exact q
  · exact e0.hok.fresh (Nat.le_of_lt (x.above y c (PySem.mem_of_lookup h)))
  · unfold start
    show _ = N.length
    rw [List.length_append, List.length_map, List.length_replicate]
    omega
theorem fn_of {CX : CXT} {P : Program} {w : World} {K : PySem.W.Frag} {mg : Str -> Option Value} {base : Heap} {k : Nat} {f : Addr} {name qual : Str} {params : Arguments} {body : List Stmt} {scope : Scope} {dV kV doc pm cdv ct oc : Value} {an od : Option Addr}
    {osl : Array (Option Value)} {N ps : List Str} {sp : Sp} (lk : K.lookup f = some ⟨oc, od, .func (PySem.W.fnOf name qual params body scope dV kV doc pm an cdv ct), osl⟩) (hcd : PySem.W.codeIn K cdv qual = true) (S : FnScope N ps scope)
    (len : ∀ vs H Q E, sp vs H Q E -> vs.length = ps.length)
    (hbody : ∀ (A : Around) (outer : List Env) (s : Shared) (H : Hp) (vs : List V) (Q : VK) (E : XK), Room k (A.deeper (envOfC qual scope s.heap.objs.size f cdv)) -> sp vs H Q E ->
      ∃ t, PSs (cxOf CX P w K mg base N qual scope f cdv A outer s H E) body t /\ t { nx := fun _ H' => Q .non H', rt := Q } (start N vs) H) :
    FnOk P w K mg base CX (k + 1) f (PySem.W.fnOf name qual params body scope dV kV doc pm an cdv ct) ps sp := by
  refine ⟨len, fun A outer s H args us vs Q E hr e0 hb r hsp => ?_⟩
  have hl := len _ _ _ _ hsp
  have KX : K.In s.heap := e0.mod.kin.keeps fun b o e => (e0.bs b o e).1
  have lim : s.heap.NoLimit := e0.mod.nolimit.keeps fun b o e => (e0.bs b o e).1
  have hkind : ∀ y ∈ ps.zip us, scope.names.lookup y.1 = some .local \/ (scope.names.lookup y.1 = some .cell /\ ((cellsFrom (s.heap.objs.size + 1) scope.names []).lookup y.1).isSome = true) := fun ⟨n, v⟩ hy => by
    rcases S.par n (List.of_mem_zip hy).1 with q | q
    · exact .inl q
    · exact .inr ⟨q, PySem.W.cellsFrom_some _ _ _ (.inl q)⟩
  refine codeAny_call_function hr.depth (KX _ _ lk) rfl S.co S.gen rfl (PySem.W.codeRec_of KX hcd) (hb _ _ _ _ ?_)
  refine wpAny_newFunctionEnv_cells S.kind hkind fun env he s1 x => ?_
  subst he
  refine ⟨lim.keeps x.toInCall.keep, codeAny_func ?_⟩
  obtain ⟨t, ht, hq⟩ := hbody A outer s H vs Q E (hr.deeper _) hsp
  have I : Inv (cxOf CX P w K mg base N qual scope f cdv A outer s H E) [] (start N vs) H s1 := inv_start S hr.hd e0 hl r x
  refine wpAny_mono (ht [] s1 (start N vs) H _ I hq) (fun fl s' hs => ?_) fun e s' hs => hs
  have fin : ∀ {σ' : St} {H' : Hp} {v : V} {u : Value}, Inv (cxOf CX P w K mg base N qual scope f cdv A outer s H E) [] σ' H' s' -> zca v u -> Q v H' -> CE outer P w H s Q u s' :=
    fun {σ' H' v u} J rv q => ⟨v, H', J.os, J.bare, J.base, J.hok, rv, q⟩
  cases fl with
  | ret u =>
    obtain ⟨v, σ', H', J, rv, q⟩ := hs
    exact fin J rv q
  | next =>
    obtain ⟨σ', H', J, q⟩ := hs
    exact fin (v := V.non) (u := Value.none) J rfl q
  | brk =>
    obtain ⟨_, _, _, q⟩ := hs
    exact False.elim q
  | cont =>
    obtain ⟨_, _, _, q⟩ := hs
    exact False.elim q
end L2
namespace L2
open PySem PySem.Spec PyProof.Rows
section
variable {X : Cx} {x : Str} {p pos : Pos} {e : Expr} {es : List Expr} {t : TA} {id T : String} {r : List V -> Hp -> VK -> Prop}
def tCB (r : List V -> Hp -> VK -> Prop) (t : TA) : TE := fun σ H Q => t σ H fun vs H1 => r vs H1 Q
theorem pe_callB (hc : CallR X (.builtin id) r) (hg : Gl X x) (hm : X.mg x = none) (hv : bootBuiltins x = some (.builtin id)) (ha : PA X (e :: es) t) (hn : x ≠ "__name__" := by decide) (hdb : (x == ("__debug__" : Str)) = false := by decide)
    (he : starEach (e :: es) X.env = (false, eval e X.env) :: starEach es X.env := by rfl) (hpl : (backTo pos (starEach es X.env)).any (·.1) = false := by rfl) : PE X (.Call (.Name x p) (e :: es) [] pos) (tCB r t) := by
  intro pins s σ H Q I h
  refine wpAny_Call_Name_kw (ld_blt I hg hm hv ?_ hn hdb)
  exact PyProof.Rows.callWith_builtin1 (thn (ha pos pins s σ H _ I h) fun us s1 ⟨vs, H1, I1, r1, q1⟩ => hc pins s1 σ H1 vs us Q I1 r1 q1) he hpl
theorem pe_callTy (hc : CallR X (.type T) r) (hg : Gl X x) (hm : X.mg x = none) (hv : bootBuiltins x = some (.type T)) (ha : PA X (e :: es) t) (hn : x ≠ "__name__" := by decide) (hdb : (x == ("__debug__" : Str)) = false := by decide)
    (he : starEach (e :: es) X.env = (false, eval e X.env) :: starEach es X.env := by rfl) (hpl : (backTo pos (starEach es X.env)).any (·.1) = false := by rfl) : PE X (.Call (.Name x p) (e :: es) [] pos) (tCB r t) := by
  intro pins s σ H Q I h
  refine wpAny_Call_Name_kw (ld_blt I hg hm hv ?_ hn hdb)
  exact PyProof.Rows.callWith_type1 (thn (ha pos pins s σ H _ I h) fun us s1 ⟨vs, H1, I1, r1, q1⟩ => hc pins s1 σ H1 vs us Q I1 r1 q1) he hpl
end
end L2
end
section
namespace HT
open PySem PyProof.Rows
section
open PySem.SeqAt
open PySem.AutoSeq1 (wpAny_loadPart')
open PySem.MeetsSeq PySem.MeetsSeq2 PySem.MeetsSeq3
end
section
variable {prog : Program} {w : World} {A : Around} {E : Value -> Shared -> Prop} {s : Shared}
def sIx (n d : Nat) : Option Int -> Nat
  | none => d
  | some v => if v < 0 then (v + (n : Int)).toNat else min v.toNat n
theorem sIx_le (n d : Nat) (hd : d <= n) (o : Option Int) : sIx n d o <= n := by
  cases o with
  | none => exact hd
  | some v =>
    show (if v < 0 then (v + (n : Int)).toNat else min v.toNat n) <= n
    by_cases hv : v < 0
    · rw [if_pos hv]; omega
    · rw [if_neg hv]; exact Nat.min_le_right _ _
theorem clip_eq (v : Int) (n d : Nat) : (if v < 0 then max (v + (n : Int)) 0 else min v (n : Int)) = ((sIx n d (some v) : Nat) : Int) := by
  show (if v < 0 then max (v + (n : Int)) 0 else min v (n : Int)) = (((if v < 0 then (v + (n : Int)).toNat else min v.toNat n) : Nat) : Int)
  by_cases hv : v < 0
  · simp only [if_pos hv]; omega
  · simp only [if_neg hv]; omega
theorem adjust_gen (lo hi : Option Int) (n : Nat) : Builtin.Slice.sliceAdjust lo hi 1 (n : Int) = (((sIx n 0 lo : Nat) : Int), ((sIx n n hi : Nat) : Int)) := by
  have h1 : ¬ ((1 : Int) < 0) := by omega
  unfold Builtin.Slice.sliceAdjust
  simp only [h1, if_false]
  refine Prod.ext ?_ ?_
  · cases lo with
    | none => rfl
    | some v => exact clip_eq v n 0
  · cases hi with
    | none => rfl
    | some v => exact clip_eq v n n
theorem places_gen (i j : Nat) : Builtin.Slice.slicePlaces (i : Int) (j : Int) 1 = j - i := by
  unfold Builtin.Slice.slicePlaces
  have h1 : (1 : Int) > 0 := by omega
  simp only [h1, if_true, Int.ediv_one]
  split <;> omega
theorem slicePart_ {v : Value} {o : Option Int} {Q : Option Int -> Shared -> Prop} (p : IsPart v o) (h : Q o s) : wpAny (model prog w) A (Builtin.Slice.slicePartIndex v) Q E s := by
  cases p with
  | none => exact slicePart_none h
  | int i t => exact slicePart_int h
theorem sliceApplied_gen {sl : Addr} {vl vu : Value} {lo hi : Option Int} {n : Nat} {Q : Int × Int × Nat -> Shared -> Prop} (hs : s.heap.IsSliceOf sl vl vu .none) (pl : IsPart vl lo) (pu : IsPart vu hi)
    (h : Q (((sIx n 0 lo : Nat) : Int), 1, sIx n n hi - sIx n 0 lo) s) : wpAny (model prog w) A (Builtin.Slice.sliceApplied (.ref sl) (pure (n : Int))) Q E s := by
  obtain ⟨os, hos, hcs, hds⟩ := id hs
  unfold Builtin.Slice.sliceApplied Builtin.Slice.sliceFields
  refine wpAny_bind (wpAny_bind (wpAny_field hos hds (x := vl) rfl (wpAny_bind (wpAny_field hos hds (x := vu) rfl (wpAny_bind (wpAny_field hos hds (x := .none) rfl (wpAny_pure ?_)))))))
  refine wpAny_bind (slicePart_none ?_)
  show wpAny _ _ (if ((1 : Int) == 0) = true then _ else _) _ _ s
  rw [if_neg (by decide)]
  refine wpAny_bind (slicePart_ pl (wpAny_bind (slicePart_ pu (wpAny_bind (wpAny_pure ?_)))))
  show wpAny _ _ (match Builtin.Slice.sliceAdjust lo hi 1 (n : Int) with | (lo, hi) => pure (lo, (1 : Int), Builtin.Slice.slicePlaces lo hi 1)) _ _ s
  rw [adjust_gen lo hi n]
  show wpAny _ _ (pure (((sIx n 0 lo : Nat) : Int), (1 : Int), Builtin.Slice.slicePlaces ((sIx n 0 lo : Nat) : Int) ((sIx n n hi : Nat) : Int) 1)) _ _ s
  rw [places_gen]
  exact wpAny_pure h
theorem pick_gen (xs : Array Value) (i k : Nat) : ((List.range k).filterMap fun (m : Nat) => xs[((i : Int) + (m : Int) * 1).toNat]?).toArray = ((xs.toList.drop i).take k).toArray := by
  have e : (fun (m : Nat) => xs[((i : Int) + (m : Int) * 1).toNat]?) = fun m => xs[i + m]? := by
    funext m
    have : ((i : Int) + (m : Int) * 1).toNat = i + m := by omega
    rw [this]
  rw [e]
  have := pick_run xs i k
  rw [List.filterMap_map] at this
  have e2 : ((fun x => xs[x]?) ∘ fun x => i + x) = fun m => xs[i + m]? := rfl
  rw [e2] at this
  rw [this]
theorem getItem_tuple_cut {t sl : Addr} {items : Array Value} {vl vu : Value} {lo hi : Option Int} {Q : Value -> Shared -> Prop} (ht : IsTup s.heap t items) (hs : s.heap.IsSliceOf sl vl vu .none) (pl : IsPart vl lo) (pu : IsPart vu hi)
    (hw : ¬ (sIx items.size 0 lo = 0 /\ sIx items.size items.size hi = items.size))
    (h : Q (.ref s.heap.objs.size) { s with heap := s.heap.push { cls := .type "tuple", data := .seq ((items.toList.drop (sIx items.size 0 lo)).take (sIx items.size items.size hi - sIx items.size 0 lo)).toArray } })
    (hsz : items.size <= sizeLine) : wpAny (model prog w) A (getItem (.ref t) (.ref sl)) Q E s := by
  have htake : sizeOk (.seq ((items.toList.drop (sIx items.size 0 lo)).take (sIx items.size items.size hi - sIx items.size 0 lo)).toArray) := by
    show ((items.toList.drop (sIx items.size 0 lo)).take (sIx items.size items.size hi - sIx items.size 0 lo)).toArray.size <= sizeLine
    rw [List.size_toArray, List.length_take, List.length_drop, Array.length_toList]
    omega
  have hj : sIx items.size items.size hi <= items.size := sIx_le _ _ (Nat.le_refl _) hi
  obtain ⟨os, hos, hcs, hds⟩ := id hs
  have hTs : s.TypeIs (.ref sl) "slice" := ⟨os, hos, hcs⟩
  unfold getItem
  try with_reducible refine wpAny_holding ?_
  first | refine wpAny_bind (wpAny_pure ?_) | skip
  refine wpAny_bind (wpAny_sequenceKey ht.typeIs (by decide) ?_)
  refine wpAny_bind (wpAny_callSpecial?_slot (name := Str.ofString "__getitem__") ht.typeIs PyProof.Rows.slot_tuple_getitem
    (wpAny_call_entry PyProof.Rows.slot_tuple_getitem ht.typeIs entry_tuple_getitem ?_ (args_tuple_getitem _ _)))
  show wpAny _ _ (Builtin.Tuple.tupleItemsOf (.ref t) >>= _) _ _ s
  refine wpAny_bind (tupleItemsOf_ ht ?_)
  refine wpAny_bind (wpAny_typeOf hTs ?_)
  rw [if_pos (by decide)]
  refine wpAny_bind (sliceApplied_gen hs pl pu ?_)
  have hno : ¬ ((((sIx items.size 0 lo : Nat) : Int) == 0 && (1 : Int) == 1 && (sIx items.size items.size hi - sIx items.size 0 lo) == items.size) = true) := by
    intro q
    rw [Bool.and_eq_true, Bool.and_eq_true] at q
    have q1 : ((sIx items.size 0 lo : Nat) : Int) = 0 := eq_of_beq q.1.1
    have q2 : sIx items.size items.size hi - sIx items.size 0 lo = items.size := eq_of_beq q.2
    exact hw ⟨by omega, by omega⟩
  show wpAny _ _ (if (((sIx items.size 0 lo : Nat) : Int) == 0 && (1 : Int) == 1 && (sIx items.size items.size hi - sIx items.size 0 lo) == items.size) = true then _ else _) _ _ s
  rw [if_neg hno, pick_gen]
  first
    | exact wpAny_bind (m := Builtin.Tuple.tupleExact _) (wpAny_newObj_type (wpAny_pure ⟨_, rfl, wpAny_pure h⟩) htake)
    | exact wpAny_bind (m := Builtin.Tuple.tupleExact _) (wpAny_newObj_type (wpAny_bind (wpAny_pure (wpAny_pure ⟨_, rfl, wpAny_pure h⟩))) htake)
    | exact wpAny_bind (wpAny_bind (m := Builtin.Tuple.tupleExact _) (wpAny_newObj_type (wpAny_pure (wpAny_pure ⟨_, rfl, wpAny_pure h⟩)) htake))
    | exact wpAny_bind (wpAny_bind (m := Builtin.Tuple.tupleExact _) (wpAny_newObj_type (wpAny_pure ⟨_, rfl, wpAny_pure h⟩) htake))
end
end HT
namespace L2
open PySem PySem.Spec PyProof.Rows
abbrev TO := St -> Hp -> (Option Int -> Hp -> Prop) -> Prop
def PO (X : Cx) (e : Option Expr) (t : TO) : Prop :=
  ∀ (pins : List (Addr × Obj)) (s : Shared) (σ : St) (H : Hp) (Q : Option Int -> Hp -> Prop), Inv X pins σ H s -> t σ H Q ->
    wpAny (model X.prog X.w) X.A (evalPart e X.env) (fun u s' => ∃ o H', Inv X pins σ H' s' /\ IsPart u o /\ Q o H') X.xe s
def tNoPart : TO := fun _ H Q => Q none H
def tPart (t : TE) : TO := fun σ H Q => t σ H fun x H1 => ∃ i, x = .int i /\ Q (some i) H1
section
variable {X : Cx} {e : Expr} {te : TE} {lo hi : Option Expr} {tl th : TO} {pos p2 : Pos}
theorem po_none : PO X none tNoPart := by
  intro pins s σ H Q I h
  rw [evalPart_none]
  exact wpAny_pure ⟨none, H, I, .none, h⟩
theorem po_some (h : PE X e te) : PO X (some e) (tPart te) := by
  intro pins s σ H Q I hw
  rw [evalPart_some]
  refine thn (h pins s σ H _ I hw) fun u s1 ⟨x, H1, I1, r1, q1⟩ => ?_
  obtain ⟨i, rfl, q⟩ := q1
  obtain ⟨t, rfl⟩ := r1
  exact ⟨some i, H1, I1, .int i t, q⟩
def SlR (X : Cx) (r : V -> Option Int -> Option Int -> Hp -> VK -> Prop) : Prop :=
  ∀ (pins : List (Addr × Obj)) (s : Shared) (σ : St) (H : Hp) (x : V) (v vl vu : Value) (lo hi : Option Int) (sl : Addr) (Q : VK), Inv X pins σ H s -> zca x v -> s.heap.IsSliceOf sl vl vu .none -> IsPart vl lo -> IsPart vu hi -> r x lo hi H Q ->
    ∃ T id, typeLookup (.type T) "__getitem__" = pure (some (.builtin id)) /\ s.TypeIs v T /\ wpAny (model X.prog X.w) X.A (getItem v (.ref sl)) (EP X pins σ Q) X.xe s
theorem SlR.or {r r' : V -> Option Int -> Option Int -> Hp -> VK -> Prop} (h : SlR X r) (h' : SlR X r') : SlR X (fun x lo hi H Q => r x lo hi H Q \/ r' x lo hi H Q) := by
  intro pins s σ H x v vl vu lo hi sl Q I rx hs pl pu q
  rcases q with q | q
  · exact h pins s σ H x v vl vu lo hi sl Q I rx hs pl pu q
  · exact h' pins s σ H x v vl vu lo hi sl Q I rx hs pl pu q
def tSl (r : V -> Option Int -> Option Int -> Hp -> VK -> Prop) (te : TE) (tl th : TO) : TE := fun σ H Q => te σ H fun x H1 => tl σ H1 fun l H2 => th σ H2 fun u H3 => r x l u H3 Q
theorem pe_slice {r : V -> Option Int -> Option Int -> Hp -> VK -> Prop} (hr : SlR X r) (he : PE X e te) (hl : PO X lo tl) (hu : PO X hi th) : PE X (.Subscript e (.Slice lo hi none p2) pos) (tSl r te tl th) := by
  intro pins s σ H Q I h
  refine Subscript_ (thn (he pins s σ H _ I h) fun v s1 ⟨x, H1, I1, r1, q1⟩ => ?_)
  refine wpAny_Slice (thn (hl pins s1 σ H1 _ I1 q1) fun vl s2 ⟨l, H2, I2, pl, q2⟩ => thn (hu pins s2 σ H2 _ I2 q2) fun vu s3 ⟨u, H3, I3, pu, q3⟩ => ?_)
  rw [evalPart_none]
  refine wpAny_pure ?_
  have I4 : Inv X pins σ H3 { s3 with heap := s3.heap.push { cls := .type "slice", data := .fields #[vl, vu, .none] } } := I3.kept (t' := s3.toks) fun b ob q => Heap.get?_push_of_some _ q
  obtain ⟨T, id, hT, ht, hg⟩ := hr pins { s3 with heap := s3.heap.push { cls := .type "slice", data := .fields #[vl, vu, .none] } } σ H3 x v vl vu l u s3.heap.objs.size Q I4 r1 (Heap.IsSliceOf.new ..) pl pu q3
  show wpAny (model X.prog X.w) X.A (subscriptTail e (.Slice lo hi none p2) v (.ref s3.heap.objs.size)) (EP X pins σ Q) X.xe { s3 with heap := s3.heap.push { cls := .type "slice", data := .fields #[vl, vu, .none] } }
  exact tail_any (ops := [.ref s3.heap.objs.size, v]) ht hT hg (by with_unfolding_all rfl)
def cutV (xs : List V) (lo hi : Option Int) : List V := (xs.drop (HT.sIx xs.length 0 lo)).take (HT.sIx xs.length xs.length hi - HT.sIx xs.length 0 lo)
theorem cutV_length (xs : List V) (lo hi : Option Int) : (cutV xs lo hi).length <= xs.length := by
  unfold cutV
  rw [List.length_take, List.length_drop]
  omega
def rSlT (K : PySem.W.Frag) : V -> Option Int -> Option Int -> Hp -> VK -> Prop := fun x lo hi H Q => ∃ a xs, x = .ref a /\ SqT K H a xs /\
  ¬ (HT.sIx xs.length 0 lo = 0 /\ HT.sIx xs.length xs.length hi = xs.length) /\ ∀ p, H p = none -> Q (.ref p) (upd H p (.tup (cutV xs lo hi)))
theorem sl_tup : SlR X (rSlT X.K) := by
  intro pins s σ H x v vl vu lo hi sl Q I rx hs pl pu h
  obtain ⟨a, xs, rfl, hx, hw, q⟩ := h
  cases rx
  obtain ⟨its, r, ht, hz⟩ := I.tuple hx
  have hlen : its.toArray.size = xs.length := by rw [List.size_toArray]; exact r.length.symm
  refine ⟨"tuple", _, PyProof.Rows.slot_tuple_getitem.lookup, ht.typeIs, ?_⟩
  refine HT.getItem_tuple_cut ht hs pl pu (by rw [hlen]; exact hw) ?_ (by rw [hlen]; exact hz)
  rw [hlen]
  refine ⟨.ref s.heap.objs.size, _, I.laid (t' := s.toks) (o := .tup (cutV xs lo hi)) (fun b ob q => Heap.get?_push_of_some _ q) (Nat.le_refl _) ?_, rfl, q _ (I.hok.fresh (Nat.le_refl _))⟩
  exact ⟨Nat.le_trans (cutV_length xs lo hi) hz, _, (r.drop (HT.sIx xs.length 0 lo)).take (HT.sIx xs.length xs.length hi - HT.sIx xs.length 0 lo), IsTup.new _ _⟩
end
end L2
namespace L2
open PySem PySem.Spec PyProof.Rows
def ixN (n : Nat) (i : Int) : Option Nat := if 0 <= i then (if i < n then some i.toNat else none) else if -(n : Int) <= i then some (i + n).toNat else none
def atI {α : Type} (xs : List α) (i : Int) : Option α := (ixN xs.length i).bind fun j => xs[j]?
theorem ixN_seq {n : Nat} {i : Int} {j : Nat} (h : ixN n i = some j) : seqIndex? i n = some j /\ j < n /\ -(n : Int) <= i /\ i < n := by
  unfold ixN at h
  by_cases h0 : 0 <= i
  · rw [if_pos h0] at h
    by_cases h1 : i < n
    · rw [if_pos h1] at h
      have e : i.toNat = j := Option.some.inj h
      exact ⟨by rw [seqIndex_of h0 h1, e], by omega, by omega, h1⟩
    · rw [if_neg h1] at h; cases h
  · rw [if_neg h0] at h
    by_cases h1 : -(n : Int) <= i
    · rw [if_pos h1] at h
      have e : (i + n).toNat = j := Option.some.inj h
      exact ⟨by rw [seqIndex_neg (by omega) h1, e], by omega, h1, by omega⟩
    · rw [if_neg h1] at h; cases h
theorem atI_get {α : Type} {xs : List α} {i : Int} {v : α} (h : atI xs i = some v) : ∃ j, seqIndex? i xs.length = some j /\ xs[j]? = some v /\ j < xs.length /\ -(xs.length : Int) <= i /\ i < xs.length := by
  unfold atI at h
  cases e : ixN xs.length i with
  | none => rw [e] at h; cases h
  | some j =>
    rw [e] at h
    obtain ⟨h1, h2, h3, h4⟩ := ixN_seq e
    exact ⟨j, h1, h, h2, h3, h4⟩
theorem atI_nat {α : Type} {xs : List α} {j : Nat} {v : α} (h : xs[j]? = some v) : atI xs (j : Int) = some v := by
  have hj : j < xs.length := (List.getElem?_eq_some_iff.mp h).1
  have e : ixN xs.length (j : Int) = some j := by
    unfold ixN
    rw [if_pos (by omega), if_pos (by omega)]; simp
  unfold atI; rw [e]; exact h
def PlainIx (b : Expr) : Prop := ∀ o i, subscripted b false o i = operate [o, i] (getItem o i)
def IxR (X : Cx) (r : R2) : Prop :=
  ∀ (value slice : Expr) (pins : List (Addr × Obj)) (s : Shared) (σ : St) (H : Hp) (x y : V) (v u : Value) (Q : VK), Inv X pins σ H s -> zca x v -> zca y u -> r x y H Q ->
    subscripted slice false v u = operate [v, u] (getItem v u) -> wpAny (model X.prog X.w) X.A (subscriptTail value slice v u) (EP X pins σ Q) X.xe s
def MtR (X : Cx) (id : String) (r : V -> List V -> Hp -> VK -> Prop) : Prop :=
  ∀ (pins : List (Addr × Obj)) (s : Shared) (σ : St) (H : Hp) (x : V) (xs : List V) (v : Value) (us : List Value) (Q : VK), Inv X pins σ H s -> zca x v -> zb3 xs us -> r x xs H Q ->
    wpAny (model X.prog X.w) X.A (call (.builtin id) (v :: us)) (EP X pins σ Q) X.xe s
section
variable {X : Cx} {a b : Expr} {ta tb : TE} {pos : Pos}
theorem IxR.or {r r' : R2} (h : IxR X r) (h' : IxR X r') : IxR X (fun x y H Q => r x y H Q \/ r' x y H Q) := by
  intro value slice pins s σ H x y v u Q I rx ry q hs
  rcases q with q | q
  · exact h value slice pins s σ H x y v u Q I rx ry q hs
  · exact h' value slice pins s σ H x y v u Q I rx ry q hs
theorem pe_ix {r : R2} (hr : IxR X r) (ha : PE X a ta) (hb : PE X b tb) (hs : PlainIx b) : PE X (.Subscript a b pos) (tOp r ta tb) := by
  intro pins s σ H Q I h
  exact Subscript_ (binT ha hb I h fun v u s2 x y H2 I2 rx ry q => hr a b pins s2 σ H2 x y v u Q I2 rx ry q (hs _ _))
def rIxL (K : PySem.W.Frag) : R2 := fun x y H Q => ∃ p xs i v, x = .ref p /\ y = .int i /\ SqL K H p xs /\ atI xs i = some v /\ Q v H
def rIxT (K : PySem.W.Frag) : R2 := fun x y H Q => ∃ p xs i v, x = .ref p /\ y = .int i /\ SqT K H p xs /\ atI xs i = some v /\ Q v H
def rIxS : R2 := fun x y H Q => ∃ z i c, x = .str z /\ y = .int i /\ z.length <= sizeLine /\ atI z.cps.toList i = some c /\ Q (.str ⟨#[c]⟩) H
theorem ix_list : IxR X (rIxL X.K) := by
  intro value slice pins s σ H x y v u Q I rx ry h hs
  obtain ⟨p, xs, i, z, rfl, rfl, hq, he, q⟩ := h
  cases rx
  obtain ⟨t, rfl⟩ := ry
  obtain ⟨its, r, pl, hz⟩ := I.list hq
  obtain ⟨j, h1, h2, h3, h4, h5⟩ := atI_get he
  obtain ⟨w, ew, rw'⟩ := r.get h2
  have hl := r.length
  have hn := line63
  have fin : EP X pins σ Q w s := ⟨z, H, I, rw', q⟩
  by_cases h0 : 0 <= i
  · have hj : i.toNat = j := by
      rw [seqIndex_of h0 h5] at h1
      exact Option.some.inj h1
    exact item_listR pl.isList h0 (by omega) (by rw [hj]; simpa using ew) fin hs
  · have hj : (i + (its.toArray.size : Int)).toNat = j := by
      rw [seqIndex_neg (by omega) h4] at h1
      rw [List.size_toArray, ← hl]
      exact Option.some.inj h1
    exact subscriptTail_builtinR (x := w) pl.isList.typeIs slot_list_getitem.lookup
      (wpAny_getItem_list_neg (Q := fun r s' => r = w /\ EP X pins σ Q r s') pl.isList (by omega) (by rw [List.size_toArray] <;> omega) (by omega) (by rw [hj]; simpa using ew) ⟨rfl, fin⟩) hs
theorem ix_tup : IxR X (rIxT X.K) := by
  intro value slice pins s σ H x y v u Q I rx ry h hs
  obtain ⟨p, xs, i, z, rfl, rfl, hq, he, q⟩ := h
  cases rx
  obtain ⟨t, rfl⟩ := ry
  obtain ⟨its, r, pl, hz⟩ := I.tuple hq
  obtain ⟨j, h1, h2, h3, h4, h5⟩ := atI_get he
  obtain ⟨w, ew, rw'⟩ := r.get h2
  have hl := r.length
  have hn := line63
  have fin : EP X pins σ Q w s := ⟨z, H, I, rw', q⟩
  exact subscriptTail_builtinR (x := w) pl.typeIs slot_tuple_getitem.lookup
    (getItem_tuple (j := j) (Q := fun r s' => r = w /\ EP X pins σ Q r s') pl (by omega) (by omega) (by rw [List.size_toArray, ← hl]; exact h1) (by simpa using ew) ⟨rfl, fin⟩) hs
theorem ix_str : IxR X rIxS := by
  intro value slice pins s σ H x y v u Q I rx ry h hs
  obtain ⟨z, i, c, rfl, rfl, hz, he, q⟩ := h
  obtain ⟨t, rfl⟩ := rx
  obtain ⟨t', rfl⟩ := ry
  obtain ⟨j, h1, h2, h3, h4, h5⟩ := atI_get he
  have hl : z.cps.toList.length = z.length := by simp [Str.length]
  rw [hl] at h1 h4 h5
  have hn := line63
  exact tail_any (typeIs_str s z t) slot_str_getitem.lookup (getItem_str (c := c) (by
    have e1 : decide (i < -(2 ^ 63 : Int)) = false := decide_eq_false (by omega)
    have e2 : decide (i ≥ 2 ^ 63) = false := decide_eq_false (by omega)
    rw [e1, e2, Bool.or_false]) (by rw [h1]; simpa using h2) ⟨.str ⟨#[c]⟩, H, I.tok _, ⟨_, rfl⟩, q⟩) hs
def rIx (K : PySem.W.Frag) : R2 := fun x y H Q => rIxL K x y H Q \/ rIxT K x y H Q \/ rIxS x y H Q
theorem ix_seq : IxR X (rIx X.K) := ix_list.or (ix_tup.or ix_str)
theorem slice_bounds (lo hi : Option Int) (n : Nat) : (sliceBounds lo hi none n).1 = ((HT.sIx n 0 lo : Nat) : Int) /\ (sliceBounds lo hi none n).2.1 = ((HT.sIx n n hi : Nat) : Int) /\ (sliceBounds lo hi none n).2.2 = 1 := by
  refine ⟨?_, ?_, rfl⟩
  · cases lo with
    | none => simp [sliceBounds, HT.sIx]
    | some i =>
      simp only [sliceBounds, HT.sIx, Option.getD_none, show (1 : Int) > 0 by decide, if_true]
      by_cases h : i < 0
      · simp only [h, if_true] <;> omega
      · simp only [h, if_false] <;> omega
  · cases hi with
    | none => simp [sliceBounds, HT.sIx]
    | some i =>
      simp only [sliceBounds, HT.sIx, Option.getD_none, show (1 : Int) > 0 by decide, if_true]
      by_cases h : i < 0
      · simp only [h, if_true] <;> omega
      · simp only [h, if_false] <;> omega
theorem slicePick_cut (its : List Value) (lo hi : Option Int) : slicePick its.toArray lo hi none = ((its.drop (HT.sIx its.length 0 lo)).take (HT.sIx its.length its.length hi - HT.sIx its.length 0 lo)).toArray := by
  obtain ⟨h1, h2, h3⟩ := slice_bounds lo hi its.toArray.size
  unfold slicePick
  rw [h1, h2, h3]
  simp only [sliceRange_one, pick_run, List.size_toArray] <;> rfl
def rSlL (K : PySem.W.Frag) : V -> Option Int -> Option Int -> Hp -> VK -> Prop := fun x lo hi H Q => ∃ a xs, x = .ref a /\ SqL K H a xs /\ ∀ p, H p = none -> Q (.ref p) (upd H p (.lst (cutV xs lo hi)))
theorem sl_list : SlR X (rSlL X.K) := by
  intro pins s σ H x v vl vu lo hi sl Q I rx hs pl pu h
  obtain ⟨a, xs, rfl, hx, q⟩ := h
  cases rx
  obtain ⟨its, r, ht, hz⟩ := I.list hx
  have hlen := r.length
  refine ⟨"list", _, slot_list_getitem.lookup, ht.isList.typeIs, ?_⟩
  refine wpAny_getItem_list_slice ht.isList hs pl pu .none (by simp) ?_ (by rw [List.size_toArray] <;> omega)
  rw [slicePick_cut, ← hlen]
  refine ⟨.ref s.heap.objs.size, _, I.laid (t' := s.toks) (o := .lst (cutV xs lo hi)) (fun b ob q => Heap.get?_push_of_some _ q) (Nat.le_refl _) ?_, rfl, q _ (I.hok.fresh (Nat.le_refl _))⟩
  exact ⟨Nat.le_trans (cutV_length xs lo hi) hz, _, 0, (r.drop (HT.sIx xs.length 0 lo)).take (HT.sIx xs.length xs.length hi - HT.sIx xs.length 0 lo), Heap.get?_push_size _ rfl⟩
theorem call_tuple_of : CallR X (.type "tuple") (fun xs H Q => ∃ p ys, xs = [.ref p] /\ ((SqL X.K H p ys /\ ∀ l, H l = none -> Q (.ref l) (upd H l (.tup ys))) \/ (SqT X.K H p ys /\ Q (.ref p) H))) := by
  intro pins s σ H xs us Q I r h
  obtain ⟨p, ys, rfl, h⟩ := h
  obtain ⟨u, rfl, rx⟩ := vals1 r
  cases rx
  rcases h with ⟨hq, q⟩ | ⟨hq, q⟩
  · obtain ⟨its, r', pl, hz⟩ := I.list hq
    have hlen := r'.length
    refine call_tuple_list pl.isList (fun h' kp => ?_) (by simp only [List.size_toArray] <;> omega)
    have I1 : Inv X pins σ H { s with heap := h' } := I.kept (t' := s.toks) kp
    have I2 : Inv X pins σ (upd H h'.objs.size (.tup ys)) { s with heap := h'.push { cls := .type "tuple", data := .seq its.toArray } } :=
      I1.laid (t' := s.toks) (fun b o e => Heap.get?_push_of_some _ e) (Nat.le_refl _) (show zcF X.prog X.w _ _ _ (.tup ys) from ⟨hz, its, r', IsTup.new _ _⟩)
    exact ⟨.ref h'.objs.size, _, I2, rfl, q _ (I1.hok.fresh (Nat.le_refl _))⟩
  · obtain ⟨its, r', pl, hz⟩ := I.tuple hq
    exact call_tuple_same pl ⟨.ref p, H, I, rfl, q⟩
def tyV (K : PySem.W.Frag) (T : String) (x : V) (H : Hp) : Prop := match x with
  | .str _ => T = "str"
  | .int _ => T = "int"
  | .ref p => (T = "list" /\ ∃ xs, SqL K H p xs) \/ (T = "tuple" /\ ∃ o, K.lookup p = some o /\ o.cls = .type "tuple" /\ o.dict = none) \/
      (T = "dict" /\ ((∃ kvs, H p = some (.dK kvs)) \/ ∃ kvs, H p = some (.dT kvs))) \/ (T = "set" /\ ∃ S n, H p = some (.set S n))
  | _ => False
theorem tyV_is {pins : List (Addr × Obj)} {σ : St} {H : Hp} {s : Shared} {T : String} {x : V} {v : Value} (I : Inv X pins σ H s) (r : zca x v) (ty : tyV X.K T x H) :
    s.TypeIs v T /\ ∀ a, v = .ref a -> ∃ ob, s.heap.get? a = some ob /\ ob.dict = none := by
  cases x with
  | str z =>
    obtain ⟨t, rfl⟩ := r
    cases (show T = "str" from ty)
    exact ⟨typeIs_str s z t, fun _ e => nomatch e⟩
  | int i =>
    obtain ⟨t, rfl⟩ := r
    cases (show T = "int" from ty)
    exact ⟨typeIs_int s i t, fun _ e => nomatch e⟩
  | ref p =>
    cases r
    rcases ty with ⟨rfl, xs, hq⟩ | ⟨rfl, o, hk, hc, hd⟩ | ⟨rfl, hk⟩ | ⟨rfl, S, n, hk⟩
    · obtain ⟨its, _, pl, _⟩ := I.list hq
      refine ⟨pl.isList.typeIs, fun a e => ?_⟩
      cases e
      obtain ⟨o, n, e, c, hd, _⟩ := pl
      exact ⟨o, e, hd⟩
    · refine ⟨⟨o, I.kIn p o hk, hc⟩, fun a e => ?_⟩
      cases e
      exact ⟨o, I.kIn _ o hk, hd⟩
    · have z : ∃ o, s.heap.get? p = some o /\ o.ExactDict := by
        rcases hk with ⟨kvs, hk⟩ | ⟨kvs, hk⟩
        · obtain ⟨_, _, _, _, o, _, _, e, ex, _⟩ := I.hok p _ hk
          exact ⟨o, e, ex⟩
        · obtain ⟨_, _, _, _, o, _, _, e, ex, _⟩ := I.hok p _ hk
          exact ⟨o, e, ex⟩
      obtain ⟨o, e, ex⟩ := z
      refine ⟨⟨o, e, ex.1⟩, fun a e2 => ?_⟩
      cases e2
      exact ⟨o, e, ex.2.1⟩
    · obtain ⟨o, _, _, _, e, ex, _⟩ := I.hok p _ hk
      refine ⟨⟨o, e, ex.1⟩, fun a e2 => ?_⟩
      cases e2
      exact ⟨o, e, ex.2.1⟩
  | _ => exact False.elim ty
def tBM (K : PySem.W.Frag) (T : String) (r : V -> List V -> Hp -> VK -> Prop) (to : TE) (t : TA) : TE := fun σ H Q => to σ H fun x H1 => tyV K T x H1 /\ t σ H1 fun xs H2 => r x xs H2 Q
variable {o e : Expr} {es : List Expr} {to : TE} {t : TA} {name : Str} {apos cpos : Pos} {T id : String} {r : V -> List V -> Hp -> VK -> Prop}
theorem pe_bm (pa : PlainAttrs T) (slot : Slot T name id) (hty : typeOf (.builtin id) = pure (.type "method_descriptor")) (hm : MtR X id r) (ho : PE X o to) (ha : PA X (e :: es) t)
    (hbase : attributeBase o name X.env (eval o X.env) = eval o X.env := by rfl)
    (hfew : ((backTo cpos (starEach (e :: es) X.env)).all (fun x => !x.1) && (backToKw cpos (keywordEach [] X.env)).all (fun x => x.1.isSome)
      && decide ((e :: es).length + ([] : List Keyword).length + (if ([] : List Keyword).isEmpty then 0 else 1) < 30)) = true := by rfl)
    (hline : (apos.endLine == cpos.line) = true := by rfl) (hs : starEach (e :: es) X.env = (false, eval e X.env) :: starEach es X.env := by rfl) (hplain : (backTo cpos (starEach es X.env)).any (·.1) = false := by rfl) :
    PE X (.Call (.Attribute o name apos) (e :: es) [] cpos) (tBM X.K T r to t) := by
  intro pins s σ H Q I h
  refine wpAny_Call_method_late hbase hfew hline rfl (thn (ho pins s σ H _ I h) fun v s1 ⟨x, H1, I1, r1, ty, q1⟩ => ?_)
  obtain ⟨h1, h2⟩ := tyV_is I1 r1 ty
  refine ⟨T, id, pa, slot, hty, h1, h2, ?_⟩
  have hA := ha cpos pins s1 σ H1 _ I1 q1
  rw [hs] at hA ⊢
  refine Calls.callWith_builtin (by show (false || (backTo cpos (starEach es X.env)).any (·.1)) = false; rw [hplain] <;> rfl) (Calls.evalArgs_plain ?_)
  exact thn hA fun us s2 ⟨vs, H2, I2, r2, q2⟩ => hm pins s2 σ H2 x vs v us Q I2 r1 r2 q2
end
end L2
namespace L2
open PySem PySem.Spec PyProof.Rows
def MtM (X : Cx) (id : String) (r : V -> List V -> Hp -> VK -> Prop) : Prop :=
  ∀ (pins : List (Addr × Obj)) (s : Shared) (σ : St) (H : Hp) (x : V) (xs : List V) (v : Value) (us : List Value) (Q : VK), Inv X pins σ H s -> zca x v -> zb3 xs us -> r x xs H Q ->
    wpAny (model X.prog X.w) X.A (call (.builtin id) (v :: us)) (EP X pins σ Q) X.xe s
theorem zb3.one : ∀ {x : V} {us : List Value}, zb3 [x] us -> ∃ u, us = [u] /\ zca x u
  | _, _, .cons r .nil => ⟨_, rfl, r⟩
theorem zb3.rep {xs : List V} {us : List Value} (h : zb3 xs us) : ∀ k : Nat, zb3 (List.replicate k xs).flatten (List.replicate k us).flatten
  | 0 => .nil
  | k + 1 => by
    rw [List.replicate_succ, List.replicate_succ, List.flatten_cons, List.flatten_cons]
    exact zb3.append h (zb3.rep h k)
theorem foldl_rep (its : List Value) : ∀ (k : Nat) (acc : List Value),
    List.foldl (fun x1 x2 => x1 ++ x2) acc.toArray (List.replicate k its.toArray) = (acc ++ (List.replicate k its).flatten).toArray
  | 0, acc => by simp
  | k + 1, acc => by
    have e : acc.toArray ++ its.toArray = (acc ++ its).toArray := by simp
    have e2 : (acc ++ its) ++ (List.replicate k its).flatten = acc ++ (List.replicate (k + 1) its).flatten := by
      rw [List.replicate_succ, List.flatten_cons, List.append_assoc]
    rw [← e2, ← foldl_rep its k (acc ++ its), ← e, List.replicate_succ, List.foldl_cons]
section
variable {X : Cx} {pins : List (Addr × Obj)} {σ : St} {H : Hp} {s : Shared} {l b : Addr} {xs ys zs : List V}
theorem Inv.lset {its its' : List Value} {n : Nat} {f : Array Value -> Array Value} {t' : Nat} (I : Inv X pins σ H s) (hH : H l = some (.lst xs))
    (e : s.heap.get? l = some { cls := .type "list", data := .seq its.toArray n }) (hf : f its.toArray = its'.toArray) (hv : zb3 ys its') (hz : ys.length <= sizeLine) :
    Inv X pins σ (upd H l (.lst ys)) { s with heap := s.heap.update l (Obj.mapSeq f), toks := t' } := by
  have q := PySem.IsL.update e f
  rw [hf] at q
  refine I.write (x := l) (e := l) (by rw [hH]; exact trivial) (.inl rfl) (fun b' u hb hu => (Heap.get?_update_other s.heap (Obj.mapSeq f) (Ne.symm hb)).trans hu) ⟨_, q⟩ ?_
  exact ⟨hz, its', _, hv, q⟩
theorem Inv.lnew {its : List Value} {t' : Nat} (I : Inv X pins σ H s) (hv : zb3 ys its) (hz : ys.length <= sizeLine) :
    Inv X pins σ (upd H s.heap.objs.size (.lst ys)) { s with heap := s.heap.push { cls := .type "list", data := .seq its.toArray }, toks := t' } :=
  I.laid (fun _ _ q => Heap.get?_push_of_some _ q) (Nat.le_refl _) ⟨hz, its, 0, hv, Heap.get?_push_size _ rfl⟩
theorem Inv.fresh (I : Inv X pins σ H s) : H s.heap.objs.size = none := I.hok.fresh (Nat.le_refl _)
theorem Inv.lstM (I : Inv X pins σ H s) (hH : H l = some (.lst xs)) : xs.length <= sizeLine /\ ∃ (its : List Value) (n : Nat), zb3 xs its /\ xs.length = its.length /\ s.heap.get? l = some { cls := .type "list", data := .seq its.toArray n } := by
  obtain ⟨z, its, n, r, e⟩ := I.hok l _ hH
  exact ⟨z, its, n, r, r.length, e⟩
theorem notLongL {n : Nat} (h : n <= sizeLine) : Builtin.List.listTooLong n = false := by
  unfold Builtin.List.listTooLong
  exact decide_eq_false (by omega)
end
section
variable {X : Cx}
def rAppend : V -> List V -> Hp -> VK -> Prop := fun x vs H Q => ∃ l xs y, x = .ref l /\ vs = [y] /\ H l = some (.lst xs) /\ xs.length < sizeLine /\ Q .non (upd H l (.lst (xs ++ [y])))
theorem mt_append : MtM X "list.append" rAppend := by
  intro pins s σ H x vs v us Q I rx rv h
  obtain ⟨l, xs, y, rfl, rfl, hH, hz, q⟩ := h
  cases rx
  obtain ⟨u, rfl, ru⟩ := rv.one
  obtain ⟨z, its, n, r, hl, e⟩ := I.lstM hH
  refine call_meets F.slot_list_append ⟨_, e, rfl⟩ F.entry_list_append (F.args_list_append_2 _ _) (PySem.list_append l its.toArray n u (by rw [List.size_toArray]; omega)) ⟨e, ?_⟩
  refine ⟨.non, _, I.lset (its' := its ++ [u]) hH e (by simp) (r.append (.cons ru .nil)) ?_, rfl, q⟩
  rw [List.length_append, List.length_singleton]
  omega
def rExtend : V -> List V -> Hp -> VK -> Prop := fun x vs H Q => ∃ l b xs zs, x = .ref l /\ vs = [.ref b] /\ H l = some (.lst xs) /\ H b = some (.lst zs) /\ xs.length + zs.length <= sizeLine /\ Q .non (upd H l (.lst (xs ++ zs)))
theorem mt_extend : MtM X "list.extend" rExtend := by
  intro pins s σ H x vs v us Q I rx rv h
  obtain ⟨l, b, xs, zs, rfl, rfl, hH, hB, hz, q⟩ := h
  cases rx
  obtain ⟨u, rfl, ru⟩ := rv.one
  cases ru
  obtain ⟨z, its, n, r, hl, e⟩ := I.lstM hH
  obtain ⟨z2, its2, n2, r2, hl2, e2⟩ := I.lstM hB
  have hsz : its.toArray.size + its2.toArray.size <= sizeLine := by rw [List.size_toArray, List.size_toArray]; omega
  have hlong : ¬ (!its.toArray.isEmpty && Builtin.List.listTooLong (its.toArray.size + its2.toArray.size)) = true := by
    rw [notLongL hsz, Bool.and_false]
    exact Bool.false_ne_true
  refine call_meets F.slot_list_extend ⟨_, e, rfl⟩ F.entry_list_extend (F.args_list_extend_2 _ _)
    (AutoSeq1.list_extend_list_list_0 l its.toArray n b its2.toArray n2 hlong (by rw [List.size_toArray]; omega) (by omega)) ⟨e, e2, ?_⟩
  refine ⟨.non, _, I.lset (its' := its ++ its2) hH e (by simp) (r.append r2) ?_, rfl, q⟩
  rw [List.length_append]
  omega
def rCat : R2 := fun x y H Q => ∃ l b xs zs, x = .ref l /\ y = .ref b /\ H l = some (.lst xs) /\ H b = some (.lst zs) /\ xs.length + zs.length <= sizeLine /\ ∀ p, H p = none -> Q (.ref p) (upd H p (.lst (xs ++ zs)))
theorem op_cat : OpR X (binaryOp .Add) rCat := by
  intro pins s σ H x y v u Q I rx ry h
  obtain ⟨l, b, xs, zs, rfl, rfl, hH, hB, hz, q⟩ := h
  cases rx
  cases ry
  obtain ⟨z, its, n, r, hl, e⟩ := I.lstM hH
  obtain ⟨z2, its2, n2, r2, hl2, e2⟩ := I.lstM hB
  refine PySem.P.add_list e e2 ?_ (by rw [List.size_toArray, List.size_toArray]; omega)
  have ea : its.toArray ++ its2.toArray = (its ++ its2).toArray := by simp
  rw [ea]
  exact ⟨.ref _, _, I.lnew (t' := s.toks) (r.append r2) (by rw [List.length_append]; omega), rfl, q _ I.fresh⟩
def rRep : R2 := fun x y H Q => ∃ l k xs, x = .ref l /\ y = .int k /\ H l = some (.lst xs) /\ -(2 ^ 63) <= k /\ k < 2 ^ 63 /\ xs.length * k.toNat <= sizeLine /\
  ∀ p, H p = none -> Q (.ref p) (upd H p (.lst (List.replicate k.toNat xs).flatten))
theorem len_rep {α : Type} (xs : List α) (k : Nat) : (List.replicate k xs).flatten.length = k * xs.length := by
  induction k with
  | zero => simp
  | succ k ih => rw [List.replicate_succ, List.flatten_cons, List.length_append, ih, Nat.succ_mul, Nat.add_comm]
theorem op_rep : OpR X (binaryOp .Mult) rRep := by
  intro pins s σ H x y v u Q I rx ry h
  obtain ⟨l, k, xs, rfl, rfl, hH, h1, h2, hz, q⟩ := h
  cases rx
  obtain ⟨t, rfl⟩ := ry
  obtain ⟨z, its, n, r, hl, e⟩ := I.lstM hH
  have hlen : its.toArray.size * k.toNat <= sizeLine := by rw [List.size_toArray, ← hl]; exact hz
  have hcap : ¬ its.toArray.size * k.toNat > (2 ^ 63 - 1) / 8 := by
    have : (sizeLine : Nat) <= (2 ^ 63 - 1) / 8 := by decide
    omega
  have hfit : ¬ (!Builtin.List.listFitsIndex k) = true := by
    rw [fitsIndex_both h1 h2]
    exact Bool.false_ne_true
  have hlong : ¬ Builtin.List.listTooLong (its.toArray.size * k.toNat) = true := by
    rw [notLongL hlen]
    exact Bool.false_ne_true
  have hnew : List.foldl (fun x1 x2 => x1 ++ x2) #[] (List.replicate (if its.toArray.isEmpty = true then 0 else k.toNat) its.toArray) = (List.replicate k.toNat its).flatten.toArray := by
    have f0 : ∀ m : Nat, List.foldl (fun x1 x2 => x1 ++ x2) #[] (List.replicate m its.toArray) = (List.replicate m its).flatten.toArray := fun m => by
      have := foldl_rep its m []
      rw [List.nil_append] at this
      exact this
    rw [f0]
    cases its with
    | nil => simp
    | cons a r' => rw [if_neg (by simp)]
  refine wpAny_binaryOp_repeat_ref (T := "list") (U := "int") (by decide) ⟨_, e, rfl⟩ (fun s' => typeIs_int s' k t) noFill_list_mul F.fills_int_mul F.slot_int_rmul repeat_list F.slot_int_index.lookup
    (call_meets F.slot_int_rmul (typeIs_int s k t) F.entry_int_rmul (F.args_int_rmul_2 _ _) (int___rmul___int_list k t l its.toArray n)
      ⟨e, rfl, ⟨_, e, rfl⟩, call_meets F.slot_list_mul ⟨_, e, rfl⟩ F.entry_list_mul (F.args_list_mul_2 _ _) (AutoListH.list___mul___list_int_3 l its.toArray n k t hfit hcap hlong) ⟨e, ?_⟩⟩)
  rw [hnew]
  exact ⟨.ref _, _, I.lnew (t' := s.toks) (r.rep k.toNat) (by rw [len_rep, Nat.mul_comm]; exact hz), rfl, q _ I.fresh⟩
end
section
variable {prog : Program} {w : World} {A : Around} {E : Value -> Shared -> Prop} {s : Shared}
end
section
variable {X : Cx}
end
end L2
end
section
namespace L2
open PySem PySem.Spec PyProof.Rows
section
variable {κ : Type} [DecidableEq κ]
def valV (kvs : List (κ × V)) (k : κ) : Option V := (kvs.find? fun kv => decide (kv.1 = k)).map (·.2)
def putK (kvs : List (κ × V)) (k : κ) (v : V) : List (κ × V) :=
  if (kvs.any fun kv => decide (kv.1 = k)) = true then kvs.map (fun kv => if kv.1 = k then (kv.1, v) else kv) else kvs ++ [(k, v)]
theorem valV_pos {p : κ × V} {r : List (κ × V)} {k : κ} (e : p.1 = k) : valV (p :: r) k = some p.2 := by simp [valV, List.find?_cons, e]
theorem valV_neg {p : κ × V} {r : List (κ × V)} {k : κ} (e : ¬ p.1 = k) : valV (p :: r) k = valV r k := by simp [valV, List.find?_cons, e]
theorem valV_any (k : κ) : ∀ kvs : List (κ × V), (kvs.any fun kv => decide (kv.1 = k)) = (valV kvs k).isSome
  | [] => rfl
  | p :: r => by
    rw [List.any_cons]
    by_cases e : p.1 = k
    · simp only [valV_pos e, decide_eq_true e, Bool.true_or, Option.isSome_some]
    · rw [valV_neg e, decide_eq_false e, Bool.false_or]; exact valV_any k r
theorem length_putK (kvs : List (κ × V)) (k : κ) (v : V) : (putK kvs k v).length <= kvs.length + 1 := by
  unfold putK
  split
  · rw [List.length_map]; omega
  · rw [List.length_append, List.length_cons, List.length_nil]; omega
theorem RelO.isSome_eq {o : Option V} {u : Option Value} (r : RelO o u) : o.isSome = u.isSome := by
  cases o with
  | none => cases u with
    | none => rfl
    | some _ => exact (show False from r).elim
  | some _ => cases u with
    | none => exact (show False from r).elim
    | some _ => rfl
theorem RelO.getD {o : Option V} {u : Option Value} {d : V} {d' : Value} (r : RelO o u) (rd : zca d d') : zca (o.getD d) (u.getD d') := by
  cases o with
  | none => cases u with
    | none => exact rd
    | some _ => exact (show False from r).elim
  | some _ => cases u with
    | none => exact (show False from r).elim
    | some _ => exact r
theorem KV.val {kvs : List (κ × V)} {vs : List (κ × Value)} (r : KV kvs vs) (k : κ) : RelO (valV kvs k) (valueAt vs k) := by
  unfold KV at r
  induction r with
  | nil => exact True.intro
  | @cons p q ps qs h t ih =>
    obtain ⟨h1, h2⟩ := h
    by_cases e : p.1 = k
    · have e' : q.1 = k := h1.symm.trans e
      have b : valueAt (q :: qs) k = some q.2 := by simp [valueAt, List.find?_cons, e']
      rw [valV_pos e, b]; exact h2
    · have e' : ¬ q.1 = k := fun z => e (h1.trans z)
      have b : valueAt (q :: qs) k = valueAt qs k := by simp [valueAt, List.find?_cons, e']
      rw [valV_neg e, b]; exact ih
theorem KV.any {kvs : List (κ × V)} {vs : List (κ × Value)} (r : KV kvs vs) (k : κ) : (kvs.any fun kv => decide (kv.1 = k)) = vs.any fun kv => decide (kv.1 = k) := by
  unfold KV at r
  induction r with
  | nil => rfl
  | cons h t ih => rw [List.any_cons, List.any_cons, ih, h.1]
theorem KV.repl {kvs : List (κ × V)} {vs : List (κ × Value)} (r : KV kvs vs) (k : κ) {y : V} {u : Value} (ry : zca y u) :
    KV (kvs.map fun kv => if kv.1 = k then (kv.1, y) else kv) (vs.map fun kv => if kv.1 = k then (kv.1, u) else kv) := by
  unfold KV at r ⊢
  induction r with
  | nil => exact .nil
  | @cons p q ps qs h t ih =>
    rw [List.map_cons, List.map_cons]
    refine .cons ?_ ih
    obtain ⟨h1, h2⟩ := h
    by_cases e : p.1 = k
    · rw [if_pos e, if_pos (h1.symm.trans e)]; exact ⟨h1, ry⟩
    · rw [if_neg e, if_neg (fun z => e (h1.trans z))]; exact ⟨h1, h2⟩
theorem KV.put {kvs : List (κ × V)} {vs : List (κ × Value)} (r : KV kvs vs) (k : κ) {y : V} {u : Value} (ry : zca y u) : KV (putK kvs k y) (stored vs k u) := by
  unfold putK stored
  rw [r.any k]
  by_cases e : (vs.any fun kv => decide (kv.1 = k)) = true
  · rw [if_pos e, if_pos e]; exact r.repl k ry
  · rw [if_neg e, if_neg e]; exact Paired.snoc r ⟨rfl, ry⟩
theorem KV.length {kvs : List (κ × V)} {vs : List (κ × Value)} (r : KV kvs vs) : kvs.length = vs.length := Paired.length r
end
theorem kV_is {P : Program} {w : World} {k : Key} {u : Value} (r : zca (kV k) u) : (zaX P w).is k u = true := by
  cases k with
  | inl i => obtain ⟨t, e⟩ := (show ∃ t, u = Value.int i t from r); subst e; exact mixKind_int P w i t
  | inr x => obtain ⟨t, e⟩ := (show ∃ t, u = Value.str x t from r); subst e; exact mixKind_str P w x t
theorem items_are {P : Program} {w : World} : ∀ {ks : List Key} {us : List Value}, zb3 (ks.map kV) us -> ItemsAre (zaX P w) ks us
  | [], _, r => by rw [List.map_nil] at r; cases r; exact .nil
  | k :: ks, _, r => by
    rw [List.map_cons] at r
    cases r with
    | cons h t => exact .cons (kV_is h) (items_are t)
abbrev KT (H : Hp) : List (List Key × V) -> List (List Key × Addr × Value) -> Prop := Paired fun p q => p.1 = q.1 /\ H q.2.1 = some (.tup (p.1.map kV)) /\ zca p.2 q.2.2
theorem KT.val {H : Hp} {kvs : List (List Key × V)} {xs : List (List Key × Addr × Value)} (r : KT H kvs xs) (k : List Key) : RelO (valV kvs k) ((atKey xs k).map (·.2)) := by
  induction r with
  | nil => exact True.intro
  | @cons p q ps qs h t ih =>
    obtain ⟨h1, _, h2⟩ := h
    by_cases e : p.1 = k
    · have e' : q.1 = k := h1.symm.trans e
      have b : atKey (q :: qs) k = some q.2 := by simp [atKey, List.find?_cons, e']
      rw [valV_pos e, b]; exact h2
    · have e' : ¬ q.1 = k := fun z => e (h1.trans z)
      have b : atKey (q :: qs) k = atKey qs k := by simp [atKey, List.find?_cons, e']
      rw [valV_neg e, b]; exact ih
theorem KT.repl {H : Hp} {kvs : List (List Key × V)} {xs : List (List Key × Addr × Value)} (r : KT H kvs xs) (k : List Key) {y : V} {u : Value} (ry : zca y u) :
    KT H (kvs.map fun kv => if kv.1 = k then (kv.1, y) else kv) (xs.map (putAt k u)) := by
  induction r with
  | nil => exact .nil
  | @cons p q ps qs h t ih =>
    rw [List.map_cons, List.map_cons]
    refine .cons ?_ ih
    obtain ⟨h1, h2, h3⟩ := h
    unfold putAt
    by_cases e : p.1 = k
    · rw [if_pos e, if_pos (h1.symm.trans e)]; exact ⟨h1, h2, ry⟩
    · rw [if_neg e, if_neg (fun z => e (h1.trans z))]; exact ⟨h1, h2, h3⟩
theorem KT.put {H : Hp} {kvs : List (List Key × V)} {xs : List (List Key × Addr × Value)} (r : KT H kvs xs) (k : List Key) {b : Addr} {y : V} {u : Value} (hb : H b = some (.tup (k.map kV))) (ry : zca y u) :
    KT H (putK kvs k y) (storedH xs k b u) := by
  have e : (kvs.any fun kv => decide (kv.1 = k)) = (atKey xs k).isSome := by
    rw [valV_any, (r.val k).isSome_eq, Option.isSome_map]
  unfold putK storedH
  rw [e]
  by_cases q : (atKey xs k).isSome = true
  · rw [if_pos q, if_pos q]; exact r.repl k ry
  · rw [if_neg q, if_neg q]; exact Paired.snoc r ⟨rfl, hb, ry⟩
theorem KT.keeps {H H' : Hp} {kvs : List (List Key × V)} {xs : List (List Key × Addr × Value)} (r : KT H kvs xs) (ht : ∀ b ys, H b = some (.tup ys) -> H' b = some (.tup ys)) : KT H' kvs xs :=
  Paired.mapP r fun _ _ z => ⟨z.1, ht _ _ z.2.1, z.2.2⟩
section
variable {P : Program} {w : World} {H : Hp} {h : Heap} {a : Addr}
theorem rd_of {u : HO} (ok : HOk P w H h) (e : Rd H a u) : zcF P w H h a u := e.ok ok
theorem dk_rd {kvs : List (Key × V)} (ok : HOk P w H h) (e : Rd H a (.dK kvs)) : kvs.length <= sizeLine /\ (a == sysModules) = false /\ ∃ vs, KV kvs vs /\ h.DictOf (zaX P w) a vs :=
  show zcF P w H h a (.dK kvs) from rd_of ok e
theorem dk_of {kvs : List (Key × V)} (ok : HOk P w H h) (e : H a = some (.dK kvs)) : kvs.length <= sizeLine /\ (a == sysModules) = false /\ ∃ vs, KV kvs vs /\ h.DictOf (zaX P w) a vs := dk_rd ok (.inl e)
theorem key_of {ks : List Key} (ok : HOk P w H h) (e : H a = some (.tup (ks.map kV))) : (tupleKind (zaX P w)).is h ks a := by
  obtain ⟨_, its, r, o, h1, h2, n, h3⟩ := (show zcF P w H h a (.tup (ks.map kV)) from ok a _ e)
  exact ⟨o, its.toArray, n, h1, h2, h3, by simpa using items_are r⟩
theorem dt_rd {kvs : List (List Key × V)} (ok : HOk P w H h) (e : Rd H a (.dT kvs)) : kvs.length <= sizeLine /\ (a == sysModules) = false /\
    ∃ xs, KT H kvs xs /\ h.DictOfH (tupleKind (zaX P w)) a xs := by
  obtain ⟨z, y, xs, r, o, es, ep, h1, h2, h3, h4, h5⟩ := (show zcF P w H h a (.dT kvs) from rd_of ok e)
  refine ⟨z, y, xs, r, o, es, ep, h1, h2, h3, h4, fun x hx => ?_, h5⟩
  have all : ∀ {l : List (List Key × V)} {m : List (List Key × Addr × Value)}, KT H l m -> ∀ x ∈ m, (tupleKind (zaX P w)).is h x.1 x.2.1 := by
    intro l m q
    induction q with
    | nil => intro x hx; exact nomatch hx
    | @cons p q ps qs hq t ih =>
      intro x hx
      rcases List.mem_cons.mp hx with e | hx
      · subst e
        exact key_of ok (by rw [← hq.1]; exact hq.2.1)
      · exact ih x hx
  exact all r x hx
theorem dt_of {kvs : List (List Key × V)} (ok : HOk P w H h) (e : H a = some (.dT kvs)) : kvs.length <= sizeLine /\ (a == sysModules) = false /\
    ∃ xs, KT H kvs xs /\ h.DictOfH (tupleKind (zaX P w)) a xs := dt_rd ok (.inl e)
end
def DGet (H : Hp) (a : Addr) (y : V) (r : Option V) : Prop :=
  (∃ kvs k, Rd H a (.dK kvs) /\ y = kV k /\ r = valV kvs k) \/ ∃ kvs k b, Rd H a (.dT kvs) /\ y = .ref b /\ H b = some (.tup (k.map kV)) /\ r = valV kvs k
def DPut (H : Hp) (a : Addr) (y v : V) (H' : Hp) : Prop :=
  (∃ kvs k, H a = some (.dK kvs) /\ y = kV k /\ kvs.length < sizeLine /\ H' = upd H a (.dK (putK kvs k v))) \/
  ∃ kvs k b, H a = some (.dT kvs) /\ y = .ref b /\ H b = some (.tup (k.map kV)) /\ kvs.length < sizeLine /\ H' = upd H a (.dT (putK kvs k v))
theorem DGet.k {H : Hp} {a : Addr} {kvs : List (Key × V)} {k : Key} (e : H a = some (.dK kvs)) : DGet H a (kV k) (valV kvs k) := .inl ⟨kvs, k, .inl e, rfl, rfl⟩
theorem DGet.t {H : Hp} {a b : Addr} {kvs : List (List Key × V)} {k : List Key} (e : H a = some (.dT kvs)) (eb : H b = some (.tup (k.map kV))) : DGet H a (.ref b) (valV kvs k) := .inr ⟨kvs, k, b, .inl e, rfl, eb, rfl⟩
theorem DPut.k {H : Hp} {a : Addr} {kvs : List (Key × V)} {k : Key} {v : V} (e : H a = some (.dK kvs)) (hl : kvs.length < sizeLine) : DPut H a (kV k) v (upd H a (.dK (putK kvs k v))) := .inl ⟨kvs, k, e, rfl, hl, rfl⟩
section
variable {X : Cx} {pins : List (Addr × Obj)} {σ : St} {H : Hp} {s : Shared} {a : Addr} {y v : V} {u r : Value} {o : Option V} {A : Around} {E : Value -> Shared -> Prop}
theorem Inv.big (I : Inv X pins σ H s) : sysModules < s.heap.objs.size := by
  have h : mainGlobals < s.heap.objs.size := (I.mod.glob.keeps I.bk).lt
  exact Nat.lt_trans (by decide) h
theorem d_getItem {Q : Value -> Shared -> Prop} (hu : A.units + 1 < cLine) (I : Inv X pins σ H s) (g : DGet H a y (some v)) (ry : zca y u) (h : ∀ w' s', Inv X pins σ H s' -> zca v w' -> Q w' s') :
    wpAny (model X.prog X.w) A (getItem (.ref a) u) Q E s := by
  rcases g with ⟨kvs, k, e, ey, l⟩ | ⟨kvs, k, b, e, ey, eb, l⟩
  · subst ey
    obtain ⟨z, hd, vs, rel, dd⟩ := dk_rd I.hok e
    obtain ⟨w', hw, rw'⟩ := RelO.some_of (v := v) (o := valueAt vs k) (by rw [l]; exact rel.val k)
    exact wpAny_getItem_of (kV_is ry) dd.mapOf hw (h w' _ (I.tok _) rw')
  · subst ey
    cases (show u = Value.ref b from ry)
    obtain ⟨z, hd, xs, rel, dd⟩ := dt_rd I.hok e
    obtain ⟨w', hw, rw'⟩ := RelO.some_of (v := v) (o := (atKey xs k).map (·.2)) (by rw [l]; exact rel.val k)
    obtain ⟨p, hp, hp2⟩ := Option.map_eq_some_iff.mp hw
    refine wpAny_getItem_heap (tupleKind_room_in1 hu) (key_of I.hok eb) dd hp ?_
    rw [hp2]
    exact h w' _ (I.tok _) rw'
theorem d_write {h' : Heap} {t' : Nat} {ob : HO} (I : Inv X pins σ H s) (mu : Mut (H a)) (hs : Heap.SameBut a s.heap h') (he : ∃ q, h'.get? a = some q) (new : zcF X.prog X.w (upd H a ob) h' a ob) :
    Inv X pins σ (upd H a ob) { s with heap := h', toks := t' } :=
  I.write (x := a) (e := a) mu (.inl rfl) (fun b q hb z => (hs.2 b hb).trans z) he new
theorem dk_new {P : Program} {w : World} {H' : Hp} {h' : Heap} {kvs : List (Key × V)} {vs : List (Key × Value)} (z : kvs.length <= sizeLine) (hd : (a == sysModules) = false) (rel : KV kvs vs) (dd : h'.DictOf (zaX P w) a vs) :
    zcF P w H' h' a (.dK kvs) := ⟨z, hd, vs, rel, dd⟩
theorem d_setItem {H' : Hp} {Q : Unit -> Shared -> Prop} (hu : A.units + 1 < cLine) (I : Inv X pins σ H s) (g : DPut H a y v H') (ry : zca y u) (rv : zca v r) (h : ∀ s', Inv X pins σ H' s' -> Q () s') :
    wpAny (model X.prog X.w) A (setItem (.ref a) u r) Q E s := by
  rcases g with ⟨kvs, k, e, ey, l, eH⟩ | ⟨kvs, k, b, e, ey, eb, l, eH⟩
  · subst ey eH
    obtain ⟨z, hd, vs, rel, dd⟩ := dk_of I.hok e
    have hz : vs.length <= sizeLine := by rw [← rel.length]; exact z
    have hl : (putK kvs k v).length <= sizeLine := by have := length_putK kvs k v; omega
    refine wpAny_setItem_pairs (hsz := hz) (kV_is ry) dd fun h' dd' hs => h _ ?_
    have he : ∃ q, h'.get? a = some q := let ⟨q, _, _, hq, _⟩ := dd'; ⟨q, hq⟩
    exact d_write I (by rw [e]; exact True.intro) hs he (dk_new hl hd (rel.put k rv) dd')
  · subst ey eH
    cases (show u = Value.ref b from ry)
    obtain ⟨z, hd, xs, rel, dd⟩ := dt_of I.hok e
    have hz : xs.length <= sizeLine := by rw [← Paired.length rel]; exact z
    have hl : (putK kvs k v).length <= sizeLine := by have := length_putK kvs k v; omega
    refine wpAny_setItem_heap (hsz := hz) (tupleKind_room_in1 hu) (key_of I.hok eb) dd fun h' dd' hs => h _ ?_
    obtain ⟨q, es, ep, hq, h2, h3, h4, _, h5⟩ := dd'
    refine d_write I (by rw [e]; exact True.intro) hs ⟨q, hq⟩ ⟨hl, hd, _, (rel.put k eb rv).keeps fun c ys ec => ?_, q, es, ep, hq, h2, h3, h4, h5⟩
    rw [zaB (ne_of ec e (fun z => nomatch z))]
    exact ec
end
section
variable {X : Cx} {pins : List (Addr × Obj)} {σ : St} {H : Hp} {s : Shared} {a : Addr} {kvs : List (Key × V)} {k : Key} {u : Value} {A : Around} {E : Value -> Shared -> Prop}
end
def NoSl (i : Expr) : Prop := ∀ ov iv, subscripted i false ov iv = operate [ov, iv] (getItem ov iv)
theorem subD_of {prog : Program} {w : World} {A : Around} {E : Value -> Shared -> Prop} {s : Shared} {env : Env} {value slice : Expr} {pos : Pos} {T id : String} {Q : Value -> Shared -> Prop}
    (hl : typeLookup (.type T) "__getitem__" = pure (some (.builtin id))) (hs : NoSl slice)
    (h : wpAny (model prog w) A (eval value env) (fun o s₁ => wpAny (model prog w) A (eval slice env) (fun i s₂ => s₂.TypeIs o T /\ wpAny (model prog w) A (getItem o i) Q E s₂) E s₁) E s) :
    wpAny (model prog w) A (eval (.Subscript value slice pos) env) Q E s := by
  refine Subscript_ (wpAny_mono h (fun o s₁ h₁ => wpAny_mono h₁ (fun i s₂ h₂ => ?_) fun _ _ x => x) fun _ _ x => x)
  obtain ⟨hT, h₂⟩ := h₂
  unfold subscriptTail
  refine wpAny_bind ?_
  rw [getitemInPython_of_ne hT.not_modules]
  refine wpAny_bind (wpAny_specialOf hT hl ?_)
  have fin : wpAny (model prog w) A (subscripted slice false o i) (fun r s₃ => wpAny (model prog w) A (letTemporaryGo value o r >>= fun _ => pure r) Q E s₃) E s₂ := by
    rw [hs o i]
    exact wpAny_operating (wpAny_mono h₂ (fun r s₃ h₃ => wpAny_bind (wpAny_letTemporaryGo (wpAny_pure h₃))) fun _ _ x => x)
  first
    | exact wpAny_pure (wpAny_bind fin)
    | exact wpAny_bind (wpAny_pure (wpAny_bind fin))
    | exact wpAny_bind fin
theorem dict_typeIs {X : Cx} {pins : List (Addr × Obj)} {σ : St} {H : Hp} {s : Shared} {a : Addr} {y : V} {o : Option V} (I : Inv X pins σ H s) (g : DGet H a y o) : s.TypeIs (.ref a) "dict" := by
  rcases g with ⟨kvs, k, e, _, _⟩ | ⟨kvs, k, b, e, _, _, _⟩
  · obtain ⟨_, _, vs, _, dd⟩ := dk_rd I.hok e
    exact dd.typeIs
  · obtain ⟨_, _, xs, _, dd⟩ := dt_rd I.hok e
    exact dd.typeIs
def tDGet (td ty : TE) : TE := fun σ H Q => td σ H fun x H1 => ty σ H1 fun y H2 => ∃ a v, x = .ref a /\ DGet H2 a y (some v) /\ Q v H2
def sDPut (td ty tv : TE) : TS := fun D σ H => tv σ H fun v H1 => td σ H1 fun x H2 => ty σ H2 fun y H3 => ∃ a H4, x = .ref a /\ DPut H3 a y v H4 /\ D.nx σ H4
section
variable {X : Cx} {o i e value : Expr} {pos pos' tpos : Pos} {td ty tv : TE}
theorem pe_dget (hu : X.A.units + 1 < cLine) (ho : PE X o td) (hi : PE X i ty) (hs : NoSl i) : PE X (.Subscript o i pos) (tDGet td ty) := by
  intro pins s σ H Q I h
  refine subD_of PySem.F.slot_dict_getitem.lookup hs (thn (ho pins s σ H _ I h) fun u s1 ⟨x, H1, I1, rx, q1⟩ => thn (hi pins s1 σ H1 _ I1 q1) fun iv s2 ⟨y, H2, I2, ry, a, v, ex, g, q2⟩ => ?_)
  subst ex
  obtain rfl : u = Value.ref a := rx
  exact ⟨dict_typeIs I2 g, d_getItem hu I2 g ry fun w' s3 I3 rw' => ⟨v, H2, I3, rw', q2⟩⟩
theorem ps_dput (hu : X.A.units + 1 < cLine) (ho : PE X o td) (hi : PE X i ty) (hv : PE X value tv) (hs : swapsWith value (some (.Subscript o i pos')) pos.line X.env = pure false) :
    PS X (.Assign [.Subscript o i pos'] value pos) (sDPut td ty tv) := by
  intro pins s σ H D I h
  refine wpAny_Assign_Subscript (thn (hv pins s σ H _ I h) fun r s1 ⟨v, H1, I1, rv, q1⟩ => thn (ho pins s1 σ H1 _ I1 q1) fun u s2 ⟨x, H2, I2, rx, q2⟩ => thn (hi pins s2 σ H2 _ I2 q2) fun iv s3 ⟨y, H3, I3, ry, a, H4, ex, g, q3⟩ => ?_) hs
  subst ex
  obtain rfl : u = Value.ref a := rx
  exact d_setItem hu I3 g ry rv fun s4 I4 => ⟨σ, H4, I4, q3⟩
end
theorem dk_empty {P : Program} {w : World} {H : Hp} (h : Heap) (hb : sysModules < h.objs.size) : zcF P w H (h.push { cls := .type "dict", data := .dict #[] }) h.objs.size (.dK []) :=
  ⟨Nat.zero_le _, beq_eq_false_iff_ne.mpr (Ne.symm (Nat.ne_of_lt hb)), [], .nil, Heap.DictOf.new h⟩
def tDNewK : TE := fun _ H Q => ∀ p, H p = none -> Q (.ref p) (upd H p (.dK []))
section
variable {X : Cx} {pos : Pos}
theorem pe_dnewK : PE X (.Dict [] [] pos) tDNewK := fun pins s σ H Q I h =>
  wpAny_Dict_empty ⟨.ref s.heap.objs.size, _, I.laid (a := s.heap.objs.size) (o := .dK []) (t' := s.toks) (fun _ _ q => Heap.get?_push_of_some _ q) (Nat.le_refl _) (dk_empty s.heap I.big), rfl, h _ (I.hok.fresh (Nat.le_refl _))⟩
end
structure M1 (X : Cx) (o : Expr) (m : Str) (apos : Pos) (e : Expr) (cpos : Pos) : Prop where
  base : attributeBase o m X.env (eval o X.env) = eval o X.env
  few : ((backTo cpos (starEach [e] X.env)).all (fun x => !x.1) && (backToKw cpos (keywordEach [] X.env)).all (fun x => x.1.isSome)
    && decide (([e] : List Expr).length + ([] : List Keyword).length + (if ([] : List Keyword).isEmpty then 0 else 1) < 30)) = true
  line : (apos.endLine == cpos.line) = true
  trees : backTo cpos (starEach [e] X.env) = [(false, eval e X.env)]
structure M2 (X : Cx) (o : Expr) (m : Str) (apos : Pos) (e f : Expr) (cpos : Pos) : Prop where
  base : attributeBase o m X.env (eval o X.env) = eval o X.env
  few : ((backTo cpos (starEach [e, f] X.env)).all (fun x => !x.1) && (backToKw cpos (keywordEach [] X.env)).all (fun x => x.1.isSome)
    && decide (([e, f] : List Expr).length + ([] : List Keyword).length + (if ([] : List Keyword).isEmpty then 0 else 1) < 30)) = true
  line : (apos.endLine == cpos.line) = true
  trees : backTo cpos (starEach [e, f] X.env) = [(false, eval e X.env), (false, eval f X.env)]
def IsD (H : Hp) (a : Addr) : Prop := (∃ kvs, Rd H a (.dK kvs)) \/ ∃ kvs, Rd H a (.dT kvs)
theorem isD_at {X : Cx} {pins : List (Addr × Obj)} {σ : St} {H : Hp} {s : Shared} {a : Addr} (I : Inv X pins σ H s) (d : IsD H a) :
    s.TypeIs (.ref a) "dict" /\ (∀ b, Value.ref a = .ref b -> ∃ ob, s.heap.get? b = some ob /\ ob.dict = none) /\ (a == sysModules) = false := by
  rcases d with ⟨kvs, e⟩ | ⟨kvs, e⟩
  · obtain ⟨_, hd, vs, _, dd⟩ := dk_rd I.hok e
    refine ⟨dd.typeIs, fun b q => ?_, hd⟩
    cases q
    obtain ⟨ob, _, _, h1, h2, _⟩ := dd
    exact ⟨ob, h1, h2.2.1⟩
  · obtain ⟨_, hd, xs, _, dd⟩ := dt_rd I.hok e
    refine ⟨dd.typeIs, fun b q => ?_, hd⟩
    cases q
    obtain ⟨ob, _, _, h1, h2, _⟩ := dd
    exact ⟨ob, h1, h2.2.1⟩
section
variable {X : Cx} {pins : List (Addr × Obj)} {σ : St} {H : Hp} {s : Shared} {a : Addr} {y d : V} {u r : Value} {o : Option V} {A : Around} {E : Value -> Shared -> Prop}
theorem d_get1 {Q : Value -> Shared -> Prop} (hu : A.units + 1 < cLine) (I : Inv X pins σ H s) (g : DGet H a y o) (ry : zca y u) (h : ∀ w' s', Inv X pins σ H s' -> zca (o.getD .non) w' -> Q w' s') :
    wpAny (model X.prog X.w) A (call (.builtin "dict.get") [.ref a, u]) Q E s := by
  rcases g with ⟨kvs, k, e, ey, l⟩ | ⟨kvs, k, b, e, ey, eb, l⟩
  · subst ey
    obtain ⟨z, hd, vs, rel, dd⟩ := dk_rd I.hok e
    refine call_meetsIn PySem.F.slot_dict_get dd.typeIs PySem.F.entry_dict_get (PySem.F.args_dict_get_2 _ _) (meets_dict_get (zaX X.prog X.w) a (kV_is ry) hd) ⟨_, dd.mapOf, h _ _ (I.tok _) ?_⟩
    rw [l]
    exact (rel.val k).getD rfl
  · subst ey
    cases (show u = Value.ref b from ry)
    obtain ⟨z, hd, xs, rel, dd⟩ := dt_rd I.hok e
    refine call_meetsIn PySem.F.slot_dict_get dd.typeIs PySem.F.entry_dict_get (PySem.F.args_dict_get_2 _ _) (meetsH_dict_get (tupleKind (zaX X.prog X.w)) a b hd) ⟨tupleKind_room_in1 hu, k, xs, key_of I.hok eb, dd, h _ _ (I.tok _) ?_⟩
    rw [l]
    exact (rel.val k).getD rfl
end
def tDGet1 (td ty : TE) : TE := fun σ H Q => td σ H fun x H1 => ∃ a, x = .ref a /\ IsD H1 a /\ ty σ H1 fun y H2 => ∃ o, DGet H2 a y o /\ Q (o.getD .non) H2
section
variable {X : Cx} {o e f : Expr} {apos cpos : Pos} {td ty tx : TE}
theorem pe_dget1 (hu : X.A.units + 1 < cLine) (ho : PE X o td) (he : PE X e ty) (m : M1 X o "get" apos e cpos) : PE X (.Call (.Attribute o "get" apos) [e] [] cpos) (tDGet1 td ty) := by
  intro pins s σ H Q I h
  refine wpAny_Call_method m.base m.few m.line PySem.F.plainAttrs_dict PySem.F.slot_dict_get PySem.F.type_dict_get (thn (ho pins s σ H _ I h) fun u s1 ⟨x, H1, I1, rx, a, ex, d, q1⟩ => ?_)
  subst ex
  obtain rfl : u = Value.ref a := rx
  obtain ⟨t1, t2, _⟩ := isD_at I1 d
  refine ⟨t1, t2, ?_⟩
  rw [m.trees]
  refine Calls.callWith_builtin rfl (Calls.evalArgs_plain (Calls.spliced_cons (thn (he pins s1 σ H1 _ I1 q1) fun iv s2 ⟨y, H2, I2, ry, ov, g, q2⟩ => Calls.spliced_nil ?_)))
  exact d_get1 hu I2 g ry fun w' s3 I3 rw' => ⟨_, H2, I3, rw', q2⟩
end
section
variable {X : Cx} {pins : List (Addr × Obj)} {σ : St} {H : Hp} {s : Shared} {a : Addr} {kvs : List (Key × V)} {A : Around} {E : Value -> Shared -> Prop}
end
section
variable {X : Cx} {pins : List (Addr × Obj)} {σ : St} {H : Hp} {s : Shared} {a : Addr} {y : V} {u : Value} {A : Around} {E : Value -> Shared -> Prop}
end
end L2
end
section
namespace Att
open PySem PySem.W PySem.Calls PyProof.Rows
theorem ints_of_wellAll {P : Params} {h : Heap} : ∀ (ns : List Int) (vs : List Value), WellAll P h vs (ns.map WData.int) -> IntsAre vs ns := by
  intro ns
  induction ns with
  | nil =>
    intro vs w
    rw [List.map_nil] at w
    cases w
    exact .nil
  | cons n ns ih =>
    intro vs w
    rw [List.map_cons] at w
    cases w with
    | cons a b =>
      cases a
      exact .cons _ _ (ih _ b)
theorem script_of {l : OpenLaw} {n : Nat} (hn : l.most = some n) {P : Params} {h : Heap} {args : List WData} {vals : List Value}
    (hpre : l.row.toRowW.claim.pre args = true) (hwl : WellAll P h vals args) :
    ∃ a vs ns, vals = [Value.ref a] /\ args = [WData.list (ns.map WData.int)] /\ h.get? a = some { cls := .type "list", data := .seq vs.toArray } /\ IntsAre vs ns /\ ns.length <= n := by
  have hsh : WShape.hasAll [] args [.list .int] = true := (pre_splitW hpre).1
  have hc : l.pre.holds [] { args := args } = true := (pre_splitW hpre).2
  obtain ⟨d, r, rfl, h1, h2⟩ := hasAllW_cons hsh
  obtain rfl := hasAllW_nil h2
  obtain ⟨xs, rfl, h3⟩ := hasW_list h1
  obtain ⟨ns, rfl⟩ := items_int h3
  have hlen : ns.length <= n := by
    unfold OpenLaw.pre at hc
    have h4 : (WTm.not (.lt (.lit (.int (n : Int))) (.len (.arg 0)))).holds [] { args := [.list (ns.map .int)] } = true := by
      have h4 := (holds_andW hc).1
      rw [hn] at h4
      exact h4
    have h5 := condW_of h4 (w_not (w_lt w_lit (w_len_list (w_arg rfl))))
    rw [List.length_map] at h5
    refine Nat.le_of_not_lt fun q => ?_
    have q' : (n : Int) < ((ns.length : Nat) : Int) := by omega
    first
      | (rw [decide_eq_true q'] at h5; exact absurd h5 (by decide))
      | (simp at h5; omega)
  cases hwl with
  | cons w1 w2 =>
    cases w2
    cases w1 with
    | list ho hall => exact ⟨_, _, ns, rfl, rfl, ho, ints_of_wellAll ns _ hall, hlen⟩
theorem post_true (l : OpenLaw) (args : List WData) : l.row.toRowW.claim.post args (.bool true) args = true :=
  postW_of (r := l.row.toRowW) (X := (true == true))
    (show WShape.has [] (.bool true) .bool = true by first | rfl | decide | simp [WShape.has, WShape.arms, WShape.armsAll])
    (show (WTm.eq .res (.lit (.bool true))).value [] { args := args, res := some (.bool true), after := args } = some (.bool (true == true)) from w_eq_bool (w_res rfl) w_lit) rfl
theorem attach {l : OpenLaw} {n : Nat} {q : Program} {loose : List Str} {XP : (Str -> Option Value) -> Heap -> Prop} {YP : World -> Heap -> Prop} {d : DefRec} {x : Str}
    (hn : l.most = some n) (hdf : d.params.defaults = [])
    (hbind : ∀ pm cd doc v : Value, bindArgs (docDef d.name d.params d.body d.scope pm cd doc) ⟨[v], []⟩ = pure [(x, v)])
    (hx : d.scope.names.lookup x = some .local \/ d.scope.names.lookup x = some .cell)
    (hk : d.scope.kind = .function) (hco : d.scope.isCoroutine = false) (hgen : d.scope.isGenerator = false)
    (body : ∀ (w : World) (s₀ s₁ s : Shared) (mg mb : Str -> Option Value) (fa : Addr) (o : Obj) (pm cd doc : Value) (a : Addr) (vs : List Value) (ns : List Int),
      Ground q loose [] XP w s₀ mg mb s₁.heap -> YP w s₁.heap ->
      s₁.heap.get? fa = some o -> o.data = .func (docDef d.name d.params d.body d.scope pm cd doc) -> s₁.heap.CodeRec cd d.name -> mg d.name = some (.ref fa) ->
      s₁.heap.get? a = some { cls := .type "list", data := .seq vs.toArray } -> IntsAre vs ns -> ns.length <= n ->
      s.gens = #[] -> s.os = s₁.os ->
      Fr s₁.heap s₁.heap.objs.size s.heap (bindL (envOfC d.name d.scope s₁.heap.objs.size fa cd).kindOf [(x, .ref a)] fun _ => none) ->
      Cl s₁.heap.objs.size (cellsFrom (s₁.heap.objs.size + 1) d.scope.names []) s.heap (bindC (envOfC d.name d.scope s₁.heap.objs.size fa cd).kindOf [(x, .ref a)] fun _ => none) ->
      wpAny (model l.prog w) (callerA.deeper (envOfC d.name d.scope s₁.heap.objs.size fa cd)) (execs d.body (envOfC d.name d.scope s₁.heap.objs.size fa cd))
        (fun f s' => f = .ret (.bool true) /\ OldK s₁.heap s'.heap /\ s'.os = s₁.os /\ AllBare s'.gens) (fun _ _ => False) s) :
    WalkO q loose XP YP l.row.toRowW d [] (fun f vs => PySem.call f vs) := by
  intro w s₀ s₁ mg mb G Y fa o pm cd doc dV kV ho hd hcd hD hmg hg args vals as hpre hlay hrd hwl hlo
  obtain rfl : dV = .none := Dflts.none hD hdf
  obtain rfl : kV = .none := Dflts.noKw hD
  obtain ⟨a, vs, ns, rfl, rfl, hobj, hints, hlen⟩ := script_of hn hpre hwl
  refine enter_call ?_
  refine call_cells_ret (o := o) (by rw [depth_caller]; decide) ho (fd_plain hd) G.T.nolimit hcd (hbind pm cd doc (.ref a)) (fun y hy => ?_) (fun h₁ tk F X => ?_) hco hgen hk
  · obtain rfl : y = (x, Value.ref a) := List.mem_singleton.mp hy
    rcases hx with e | e
    · exact .inl e
    · exact .inr ⟨e, cellsFrom_some _ _ _ (.inl e)⟩
  · refine wpAny_mono (body w s₀ s₁ { s₁ with heap := h₁, toks := tk } mg mb fa o pm cd doc a vs ns G Y ho (fd_plain hd) hcd hmg hobj hints hlen hg rfl F X) (fun f s' hq => ?_) (fun _ _ hq => hq)
    obtain ⟨rfl, h2, h3, h4⟩ := hq
    exact ⟨.inl ⟨.bool true, .bool true, [], rfl, fun _ => rfl, .bool true, post_true l _, fun _ => ⟨List.Pairwise.nil, fun _ hm => (nomatch hm)⟩⟩, h2, h3, h4⟩
theorem attach_call {l : OpenLaw} {n : Nat} {q : Program} {loose : List Str} {XP : (Str -> Option Value) -> Heap -> Prop} {YP : World -> Heap -> Prop} {d : DefRec}
    (hn : l.most = some n) (hdf : d.params.defaults = [])
    (call : ∀ (w : World) (s₀ s₁ : Shared) (mg mb : Str -> Option Value) (fa : Addr) (o : Obj) (pm cd doc : Value) (a : Addr) (vs : List Value) (ns : List Int),
      Ground q loose [] XP w s₀ mg mb s₁.heap -> YP w s₁.heap ->
      s₁.heap.get? fa = some o -> o.data = .func (docDef d.name d.params d.body d.scope pm cd doc) -> s₁.heap.CodeRec cd d.name -> mg d.name = some (.ref fa) ->
      s₁.heap.get? a = some { cls := .type "list", data := .seq vs.toArray } -> IntsAre vs ns -> ns.length <= n -> s₁.gens = #[] ->
      codeAny (model l.prog w) callerA (.call (.ref fa) ⟨[.ref a], []⟩) (fun r s' => r = .ok (.ret (.bool true)) /\ OldK s₁.heap s'.heap /\ s'.os = s₁.os /\ AllBare s'.gens) s₁) :
    WalkO q loose XP YP l.row.toRowW d [] (fun f vs => PySem.call f vs) := by
  intro w s₀ s₁ mg mb G Y fa o pm cd doc dV kV ho hd hcd hD hmg hg args vals as hpre hlay hrd hwl hlo
  obtain rfl : dV = .none := Dflts.none hD hdf
  obtain rfl : kV = .none := Dflts.noKw hD
  obtain ⟨a, vs, ns, rfl, rfl, hobj, hints, hlen⟩ := script_of hn hpre hwl
  refine enter_call (codeAny_mono (call w s₀ s₁ mg mb fa o pm cd doc a vs ns G Y ho (fd_plain hd) hcd hmg hobj hints hlen hg) fun r s' hq => ?_)
  obtain ⟨rfl, h2, h3, h4⟩ := hq
  exact ⟨.inl ⟨.bool true, .bool true, [], rfl, fun _ => rfl, .bool true, post_true l _, fun _ => ⟨List.Pairwise.nil, fun _ hm => (nomatch hm)⟩⟩, h2, h3, h4⟩
section
variable {prog : Program} {w : World} {A : Around} {E : Value -> Shared -> Prop} {s : Shared} {K : Frag}
def ledger (h : Heap) (L d : Addr) : List (Addr × Obj) := (List.range h.objs.size).filterMap fun a => if a = L \/ a = d then none else (h.get? a).map fun o => (a, o)
end
end Att
namespace L2
open PySem PySem.Spec PyProof.Rows
theorem vals_ints : ∀ {vs : List Value} {ns : List Int}, IntsAre vs ns -> zb3 (ns.map V.int) vs
  | _, _, .nil => .nil
  | _, _, .cons n t h => .cons ⟨t, rfl⟩ (vals_ints h)
def Only (H : Hp) : Prop := ∀ b, H b = none \/ ∃ o xs, H b = some (.frz o (.lst xs))
theorem law_call {P : Program} {w : World} {K : PySem.W.Frag} {mg mb : Str -> Option Value} {CX : CXT} {k : Nat} {fa a : Addr} {fd : FuncData} {x : Str} {sp : Sp} {s₁ : Shared} {vs : List Value} {ns : List Int}
    (KX : K.In s₁.heap) (hns : s₁.heap.Ns mainGlobals mg) (hb : s₁.heap.Ns builtinsNs mb) (hbb : ∀ x : Str, x ≠ "__name__" -> mb x = bootBuiltins x) (hlim : s₁.heap.NoLimit) (hg : s₁.gens = #[])
    (ha : s₁.heap.get? a = some { cls := .type "list", data := .seq vs.toArray }) (hi : IntsAre vs ns) (hl : ns.length <= sizeLine) (hr : Room k callerA)
    (F : ∀ base : Heap, K.In base -> base.Ns mainGlobals mg -> FnOk P w K mg base CX k fa fd [x] sp) (hbind : ∀ (s : Shared) (u : Value), BindsTo s fd ⟨[u], []⟩ [(x, u)])
    (hsp : ∀ H : Hp, Only H -> SqL K H a (ns.map V.int) -> sp [.ref a] H (fun v _ => v = .bl true) fun _ _ _ => False)
    (hCX : ∀ H e s', CX [] H s₁ (fun _ _ _ => False) e s' -> False) :
    codeAny (model P w) callerA (.call (.ref fa) ⟨[.ref a], []⟩) (fun r s' => r = .ok (.ret (.bool true)) /\ OldK s₁.heap s'.heap /\ s'.os = s₁.os /\ AllBare s'.gens) s₁ := by
  have rv := vals_ints hi
  have lenV := hi.length
  have core : ∀ H : Hp, Only H -> SqL K H a (ns.map V.int) -> HOk P w H s₁.heap -> (∀ b, H b ≠ none -> b = a) -> (H a ≠ none -> K.lookup a = none) ->
      codeAny (model P w) callerA (.call (.ref fa) ⟨[.ref a], []⟩) (fun r s' => r = .ok (.ret (.bool true)) /\ OldK s₁.heap s'.heap /\ s'.os = s₁.os /\ AllBare s'.gens) s₁ := by
    intro H hO hS hok hA hK
    have base_of : ∀ {b : Addr} {o : Obj}, s₁.heap.get? b = some o -> H b = none -> (hidT s₁.heap H).get? b = some o := fun e n => hidT_get e n
    have noA : ∀ {b : Addr} {o : Obj} {es : Array DictEntry} {ep : Nat}, s₁.heap.get? b = some o -> o.data = .dict es ep -> H b = none := fun {b o es ep} e d => by
      cases q : H b with
      | none => rfl
      | some u =>
        have e' : b = a := hA b (by rw [q]; simp)
        subst e'
        rw [ha] at e; cases e
        have d' : Data.seq vs.toArray _ = Data.dict es ep := d
        cases d'
    have nsK : ∀ {b : Addr} {m : Str -> Option Value}, s₁.heap.Ns b m -> (hidT s₁.heap H).Ns b m := fun {b m} ⟨o, es, ep, e, d, r⟩ => ⟨o, es, ep, base_of e (noA e d), d, r⟩
    have hKb : K.In (hidT s₁.heap H) := fun b o e => base_of (KX b o e) (by
      cases q : H b with
      | none => rfl
      | some u =>
        have e' : b = a := hA b (by rw [q]; simp)
        subst e'
        rw [hK (by rw [q]; simp)] at e; cases e)
    have hM : Mod K mg (hidT s₁.heap H) := ⟨hKb, nsK hns, ⟨mb, nsK hb, hbb⟩, let ⟨mc, h1, h2⟩ := hlim; ⟨mc, nsK h1, h2⟩⟩
    have e0 : Env0 P w K mg (hidT s₁.heap H) callerA [] s₁ H := ⟨rfl, hM, fun b o e => of_hidT e, Nat.le_of_eq (hidT_size _ _), trivial, fun b hb => absurd (show b ∈ ([] : List Addr) from hb) (by simp), hok, .of_eq hg⟩
    refine codeAny_mono ((F _ hKb (nsK hns)).run callerA [] s₁ H ⟨[.ref a], []⟩ [.ref a] [.ref a] _ _ hr e0 (hbind s₁ (.ref a)) (.cons rfl .nil) (hsp H hO hS)) fun r s' h => ?_
    cases r with
    | error e => exact (hCX H e s' h).elim
    | ok fl =>
      cases fl with
      | next => exact False.elim h
      | brk => exact False.elim h
      | cont => exact False.elim h
      | ret u =>
        obtain ⟨v, H', os, bare, un, hok', r', q⟩ := h
        have q' : v = .bl true := q
        subst q'
        obtain rfl : u = Value.bool true := r'
        refine ⟨rfl, OldK.of_keep fun b o e => ?_, os, bare⟩
        cases q : H b with
        | none => exact un.keep b o e q (by intro z; exact absurd (show b ∈ ([] : List Addr) from z) (by simp)) (by simp)
        | some u =>
          rcases hO b with z | ⟨ob, xs, z⟩
          · rw [q] at z; cases z
          · have z2 := un.frzs b ob _ z
            obtain ⟨e1, _⟩ := hok b _ z
            obtain ⟨e2, _⟩ := hok' b _ z2
            rw [e] at e1; cases e1
            exact e2
  cases hk : K.lookup a with
  | some o =>
    have e := KX a o hk
    rw [ha] at e
    cases e
    refine core (fun _ => none) (fun _ => .inl rfl) (.inr ⟨_, vs.toArray, _, hk, rfl, rfl, rfl, by rw [List.size_toArray, lenV]; exact hl, by simpa using rv⟩) (fun b u z => by have z' : (none : Option HO) = some u := z; cases z') (fun b z => absurd rfl z) fun z => absurd rfl z
  | none =>
    refine core (fun b => if b = a then some (.frz { cls := .type "list", data := .seq vs.toArray } (.lst (ns.map V.int))) else none) (fun b => ?_) (.inl (.inr ⟨{ cls := .type "list", data := .seq vs.toArray }, if_pos rfl⟩)) (fun b u z => ?_) (fun b z => ?_) fun _ => hk
    · by_cases hb : b = a
      · exact .inr ⟨_, _, if_pos hb⟩
      · exact .inl (if_neg hb)
    · by_cases hb : b = a
      · have z' := (if_pos hb).symm.trans z
        cases z'
        subst hb
        exact ⟨ha, by rw [List.length_map]; exact hl, vs, _, rv, ha⟩
      · have z' := (if_neg hb).symm.trans z
        cases z'
    · by_cases hb : b = a
      · exact hb
      · exact absurd (if_neg hb) z
end L2
namespace L2
open PySem PySem.Spec PyProof.Rows
abbrev KOf {K : PySem.W.Frag} {h : Heap} (_ : K.In h) : PySem.W.Frag := K
theorem walk_of {l : PySem.W.OpenLaw} {n k : Nat} {q : Program} {loose : List Str} {XP : (Str -> Option Value) -> Heap -> Prop} {YP : World -> Heap -> Prop} {d : DefRec} {K : Params -> PySem.W.Frag} {CX : World -> CXT} {sp : World -> Sp} {x : Str}
    (hn : l.most = some n) (hn2 : n <= sizeLine) (hdf : d.params.defaults = []) (hr : Room k callerA)
    (hY : ∀ (w : World) (h : Heap), YP w h -> (K w.params).In h)
    (F : ∀ (w : World) (mg : Str -> Option Value) (fa : Addr) (h : Heap), (K w.params).In h -> h.Ns mainGlobals mg -> mg d.name = some (.ref fa) ->
      ∃ fd : FuncData, (∀ (s : Shared) (u : Value), BindsTo s fd ⟨[u], []⟩ [(x, u)]) /\
        ∀ base : Heap, (K w.params).In base -> base.Ns mainGlobals mg -> FnOk l.prog w (K w.params) mg base (CX w) k fa fd [x] (sp w))
    (hsp : ∀ (w : World) (H : Hp) (a : Addr) (ns : List Int), ns.length <= n -> Only H -> SqL (K w.params) H a (ns.map V.int) -> sp w [.ref a] H (fun v _ => v = .bl true) fun _ _ _ => False)
    (hCX : ∀ (w : World) (H : Hp) (s : Shared) (e : Value) (s' : Shared), CX w [] H s (fun _ _ _ => False) e s' -> False) :
    PySem.W.WalkO q loose XP YP l.row.toRowW d [] (fun f vs => PySem.call f vs) := by
  refine Att.attach_call hn hdf fun w s₀ s₁ mg mb fa o pm cd doc a vs ns G Y ho hd hcd hmg hobj hints hlen hg => ?_
  have KX := hY w _ Y
  obtain ⟨fd, hb, hF⟩ := F w mg fa _ KX G.T.g hmg
  exact law_call KX G.T.g G.T.b G.T.builtins G.T.nolimit hg hobj hints (Nat.le_trans hlen hn2) hr hF hb (fun H hO hS => hsp w H a ns hlen hO hS) fun H e s' => hCX w H s₁ e s'
end L2
namespace L2
open PySem PySem.Spec PyProof.Rows
def inClass (s : Stmt) (j : Nat) : Stmt := match s with
  | .ClassDef _ _ _ body _ _ _ _ _ _ _ => body.getD j (.Pass ⟨0, 0, 0, 0⟩)
  | _ => .Pass ⟨0, 0, 0, 0⟩
def zcy (s : Stmt) : Arguments := match s with
  | .FunctionDef _ a _ _ _ _ _ _ _ _ => a
  | _ => { posonlyargs := [], args := [], vararg := none, kwonlyargs := [], kw_defaults := [], kwarg := none, defaults := [] }
def zbe (s : Stmt) : List Stmt := match s with
  | .FunctionDef _ _ b _ _ _ _ _ _ _ => b
  | _ => []
def zai (s : Stmt) : Scope := match s with
  | .FunctionDef _ _ _ _ _ _ sc _ _ _ => sc
  | _ => { kind := .function, names := [], isGenerator := false, isCoroutine := false }
abbrev CX0 : CXT := fun _ _ _ _ _ _ => False
abbrev E0 : XK := fun _ _ _ => False
theorem pass0 {X : Cx} : Passes CX0 X E0 := fun _ _ _ _ _ _ _ h => h.elim
structure Fun (K : PySem.W.Frag) (x qual : Str) (st : Stmt) (f : Addr) (fd : FuncData) : Prop where
  ex : ∃ (oc : Value) (od : Option Addr) (kV doc pm : Value) (an : Option Addr) (cdv ct : Value) (osl : Array (Option Value)),
    fd = PySem.W.fnOf x qual (zcy st) (zbe st) (zai st) .none kV doc pm an cdv ct /\ K.lookup f = some ⟨oc, od, .func fd, osl⟩ /\ PySem.W.codeIn K cdv qual = true
  kp : PySem.W.keepIn K (.ref f) = true
section
variable {P : Program} {w : World} {K : PySem.W.Frag} {mg : Str -> Option Value} {base : Heap}
theorem Fun.ok {x qual : Str} {st : Stmt} {f : Addr} {fd : FuncData} {N ps : List Str} {k : Nat} {sp : Sp} (F : Fun K x qual st f fd) (S : FnScope N ps (zai st)) (len : ∀ vs H Q E, sp vs H Q E -> vs.length = ps.length)
    (hbody : ∀ (cdv : Value) (A : Around) (outer : List Env) (s : Shared) (H : Hp) (vs : List V) (Q : VK) (E : XK), Room k (A.deeper (envOfC qual (zai st) s.heap.objs.size f cdv)) -> sp vs H Q E ->
      ∃ t, PSs (cxOf CX0 P w K mg base N qual (zai st) f cdv A outer s H E).nox (zbe st) t /\ t { nx := fun _ H' => Q .non H', rt := Q } (start N vs) H) : FnOk P w K mg base CX0 (k + 1) f fd ps sp := by
  obtain ⟨oc, od, kV, doc, pm, an, cdv, ct, osl, rfl, lk, hcd⟩ := F.ex
  refine fn_of lk hcd S len fun A outer s H vs Q E hr hsp => ?_
  obtain ⟨t, h, q⟩ := hbody cdv A outer s H vs Q E hr hsp
  exact ⟨t, h.nox, q⟩
theorem Fun.binds {x qual : Str} {st : Stmt} {f : Addr} {fd : FuncData} {ps : List Str} (F : Fun K x qual st f fd)
    (h : ∀ (kV doc pm : Value) (an : Option Addr) (cdv ct : Value) (us : List Value), us.length = ps.length -> bindArgs (PySem.W.fnOf x qual (zcy st) (zbe st) (zai st) .none kV doc pm an cdv ct) ⟨us, []⟩ = pure (ps.zip us)) : Binds K fd ps [] := by
  obtain ⟨oc, od, kV, doc, pm, an, cdv, ct, osl, rfl, lk, hcd⟩ := F.ex
  exact .all (h kV doc pm an cdv ct)
theorem fun_mk {x qual : Str} {st : Stmt} {f : Addr} {oc : Value} {od an : Option Addr} {osl : Array (Option Value)} {kV doc pm cdv ct : Value} (l : K.lookup f = some ⟨oc, od, .func (PySem.W.fnOf x qual (zcy st) (zbe st) (zai st) .none kV doc pm an cdv ct), osl⟩)
    (c : PySem.W.codeIn K cdv qual = true) (k : PySem.W.keepIn K (.ref f) = true) : Fun K x qual st f (PySem.W.fnOf x qual (zcy st) (zbe st) (zai st) .none kV doc pm an cdv ct) := ⟨⟨oc, od, kV, doc, pm, an, cdv, ct, osl, rfl, l, c⟩, k⟩
end
section
variable {X : Cx}
end
theorem iteF {A B : Prop} (h : B) : if false = true then A else B := by
  rw [if_neg Bool.false_ne_true]
  exact h
theorem iteT {A B : Prop} (h : A) : if true = true then A else B := by
  rw [if_pos rfl]
  exact h
def zb9 (H H' : Hp) : Prop := ∀ b o, H b = some o -> H' b = some o
theorem zb9.refl (H : Hp) : zb9 H H := fun _ _ h => h
theorem zb9.trans {H H1 H2 : Hp} (a : zb9 H H1) (b : zb9 H1 H2) : zb9 H H2 := fun c o h => b c o (a c o h)
theorem zb9.free {H H' : Hp} (e : zb9 H H') {l : Addr} (h : H' l = Option.none) : H l = Option.none := by
  cases q : H l with
  | none => rfl
  | some o =>
    rw [e l o q] at h
    cases h
theorem zb9.seq {K : PySem.W.Frag} {H H' : Hp} {a : Addr} {xs : List V} (e : zb9 H H') (h : SqL K H a xs) : SqL K H' a xs := by
  rcases h with (h | ⟨o, h⟩) | h
  · exact .inl (.inl (e _ _ h))
  · exact .inl (.inr ⟨o, e _ _ h⟩)
  · exact .inr h
section
variable {κ : Type} [DecidableEq κ]
end
end L2
end
section
namespace L2
open PySem PySem.Spec PyProof.Rows
theorem codeAny_compLoop_gen {prog : Program} {w : World} {A : Around} {R : Result -> Shared -> Prop} {s : Shared} {elt target iter : Expr} {ifs : List Expr} {scope : Scope} {pos : Pos} {it acc : Value} {env : Env} (I : Nat -> Shared -> Prop)
    (turn : ∀ n s, I n s -> wpAny (model prog w) A (pyNext it) (fun r s₁ => match r with
      | none => R (.ok .next) s₁
      | some v => wpAny (model prog w) A (letOwnedTupleGo target it v) (fun _ s₁' => wpAny (model prog w) A (assign target env v) (fun _ s₂ =>
          wpAny (model prog w) A (forIn ifs true fun c r => if r = true then do let ok ← isTrue c env (eval c env); pure (ForInStep.yield ok) else pure (ForInStep.yield r)) (fun ok s₃ =>
            if ok = true then wpAny (model prog w) A (eval elt env) (fun x s₄ =>
              wpAny (model prog w) A (call (.builtin "list.append") [acc, x]) (fun _ s₅ => ∃ m, m < n /\ I m s₅) (fun _ _ => False) s₄) (fun _ _ => False) s₃
            else ∃ m, m < n /\ I m s₃) (fun _ _ => False) s₂) (fun _ _ => False) s₁') (fun _ _ => False) s₁) (fun _ _ => False) s)
    (n : Nat) (h : I n s) :
    codeAny (model prog w) A (.compLoop (.ListComp elt [⟨target, iter, ifs, 0⟩] scope pos) 0 it acc env) R s := by
  refine codeAny_loop rfl I (fun n s hI => ?_) n h
  show wpAny _ A ((compTurn (.ListComp elt [⟨target, iter, ifs, 0⟩] scope pos) 0 it acc env).onRaise (fun x => do noteFrame x env; theTreesLotGoes x)) _ _ s
  refine wpAny_noted ?_
  rw [compTurn_list]
  refine wpAny_bind (wpAny_standAt (wpAny_bind (wpAny_mono (turn n s hI) (fun r s₁ h₁ => ?_) fun _ _ h' => h'.elim)))
  cases r with
  | none => exact wpAny_pure h₁
  | some v =>
    refine wpAny_bind (wpAny_mono h₁ (fun _ s₁' h₁' => ?_) fun _ _ h' => h'.elim)
    refine wpAny_bind (wpAny_mono h₁' (fun _ s₂ h₂ => wpAny_bind (wpAny_mono h₂ (fun ok s₃ h₃ => ?_) fun _ _ h' => h'.elim)) fun _ _ h' => h'.elim)
    cases ok with
    | false => exact wpAny_pure ⟨rfl, h₃⟩
    | true =>
      exact wpAny_bind (wpAny_bind (wpAny_mono h₃ (fun x s₄ h₄ => wpAny_bind (wpAny_mono h₄ (fun _ s₅ h₅ => wpAny_pure (wpAny_pure ⟨rfl, h₅⟩)) fun _ _ h' => h'.elim)) fun _ _ h' => h'.elim))
def zc2 (X : Cx) (N' : List Str) (scope : Scope) (cl : List (Str × Addr)) (C : Addr) (s₀ : Shared) (H₀ : Hp) (fp : List Addr) : Cx :=
  { X with N := N', s₀ := s₀, H₀ := H₀, env := compEnvC scope cl C X.env, outer := X.stack, stack := X.stack, ex := fp, fn := fun _ => false, pn := [], xe := fun _ _ => False }
def closL (env : Env) : List (Str × NameKind) -> List (Str × Addr) -> List (Str × Addr)
  | [], acc => acc
  | (n, k) :: r, acc => closL env r (if k == .free then (match env.cells.lookup n with | some c => (n, c) :: acc | none => acc) else acc)
theorem closureFor_eq {env : Env} {scope : Scope} (h : ∀ y ∈ scope.names, y.2 = .free -> ∃ c, env.cells.lookup y.1 = some c) : closureFor scope env = pure (closL env scope.names []) := by
  have all : ∀ (l : List (Str × NameKind)) (acc : List (Str × Addr)), (∀ y ∈ l, y.2 = .free -> ∃ c, env.cells.lookup y.1 = some c) ->
      (forIn l acc fun x r => match x with
        | (name, kind) => if kind == .free then do let c ← cellOf env name; pure (ForInStep.yield ((name, c) :: r)) else pure (ForInStep.yield r) : Sem (List (Str × Addr))) = pure (closL env l acc) := by
    intro l
    induction l with
    | nil => intro acc _; rfl
    | cons y r ih =>
      intro acc hl
      obtain ⟨n, k⟩ := y
      rw [List.forIn_cons]
      have hr : ∀ y ∈ r, y.2 = .free -> ∃ c, env.cells.lookup y.1 = some c := fun y hy => hl y (List.mem_cons_of_mem _ hy)
      unfold closL
      cases hk : (k == NameKind.free) with
      | false =>
        simp only [hk, Bool.false_eq_true, if_false, pure_bind]
        exact ih acc hr
      | true =>
        obtain ⟨c, hc⟩ := hl (n, k) List.mem_cons_self (by simpa using hk)
        have hc' : env.cells.lookup n = some c := hc
        simp only [hk, if_true, cellOf, hc', pure_bind]
        exact ih _ hr
  have e := all scope.names [] h
  exact Eq.trans (bind_pure _) e
theorem closL_sub {env : Env} : ∀ (l : List (Str × NameKind)) (acc : List (Str × Addr)), (∀ x c, acc.lookup x = some c -> env.cells.lookup x = some c) -> ∀ x c, (closL env l acc).lookup x = some c -> env.cells.lookup x = some c
  | [], _, h => h
  | (n, k) :: r, acc, h => by
    unfold closL
    refine closL_sub r _ ?_
    split
    · split
      · rename_i c hc
        intro x d hx
        rw [List.lookup_cons] at hx
        cases e : x == n with
        | true =>
          rw [e] at hx
          have e' : x = n := by simpa using e
          have e2 : c = d := Option.some.inj hx
          rw [e', ← e2]; exact hc
        | false => rw [e] at hx; exact h x d hx
      · exact h
    · exact h
theorem closL_keep {env : Env} : ∀ (l : List (Str × NameKind)) (acc : List (Str × Addr)) (x : Str), (acc.lookup x).isSome = true -> ((closL env l acc).lookup x).isSome = true
  | [], _, _, h => h
  | (n, k) :: r, acc, x, h => by
    unfold closL
    refine closL_keep r _ x ?_
    split
    · split
      · rw [List.lookup_cons]
        split
        · rfl
        · exact h
      · exact h
    · exact h
theorem closL_has {env : Env} : ∀ (l : List (Str × NameKind)) (acc : List (Str × Addr)) (x : Str) (c : Addr), (x, NameKind.free) ∈ l -> env.cells.lookup x = some c -> ((closL env l acc).lookup x).isSome = true
  | [], _, _, _, h, _ => nomatch h
  | (n, k) :: r, acc, x, c, h, hc => by
    unfold closL
    rcases List.mem_cons.mp h with e | h
    · injection e with e1 e2
      subst e1; subst e2
      refine closL_keep r _ _ ?_
      rw [if_pos (by rfl), hc]
      simp
    · exact closL_has r _ x c h hc
theorem zcB {env : Env} : ∀ (names : List (Str × NameKind)) (x : Str) (k' : NameKind),
    (names.map fun (n, k) => if (k == NameKind.free && env.scope.kind == .function && env.kindOf n == some .cell) then (n, NameKind.cell) else (n, k)).lookup x = some k' ->
    names.lookup x = some k' \/ (k' = .cell /\ names.lookup x = some .free)
  | [], _, _, h => by simp at h
  | (n, k) :: r, x, k', h => by
    have ih := @zcB env r x k'
    have h' : List.lookup x ((if (k == NameKind.free && env.scope.kind == .function && env.kindOf n == some .cell) = true then (n, NameKind.cell) else (n, k)) :: (r.map fun (n, k) => if (k == NameKind.free && env.scope.kind == .function && env.kindOf n == some .cell) then (n, NameKind.cell) else (n, k))) = some k' := h
    cases hx : x == n with
    | true =>
      by_cases hc : (k == NameKind.free && env.scope.kind == .function && env.kindOf n == some .cell) = true
      · rw [if_pos hc] at h'
        simp only [List.lookup_cons, hx] at h' ⊢
        have hk : k = .free := by
          simp only [Bool.and_eq_true, beq_iff_eq] at hc
          exact hc.1.1
        right
        exact ⟨(Option.some.inj h').symm, by rw [hk]⟩
      · rw [if_neg hc] at h'
        simp only [List.lookup_cons, hx] at h' ⊢
        exact .inl h'
    | false =>
      have h2 : List.lookup x (r.map fun (n, k) => if (k == NameKind.free && env.scope.kind == .function && env.kindOf n == some .cell) then (n, NameKind.cell) else (n, k)) = some k' := by
        by_cases hc : (k == NameKind.free && env.scope.kind == .function && env.kindOf n == some .cell) = true
        · rw [if_pos hc] at h'
          simpa only [List.lookup_cons, hx] using h'
        · rw [if_neg hc] at h'
          simpa only [List.lookup_cons, hx] using h'
      simp only [List.lookup_cons, hx]
      exact ih h2
structure CompScope (X : Cx) (scope : Scope) : Prop where
  kind : scope.kind = .function
  nocell : ∀ y ∈ scope.names, y.2 ≠ .cell
  names : ∀ y ∈ scope.names, y.2 = .local -> scope.names.lookup y.1 = some .local
  free : ∀ y ∈ scope.names, y.2 = .free -> X.env.kindOf y.1 = some .cell \/ X.env.kindOf y.1 = some .free
def fvSt (fv : List (Option Nat)) (σ : St) : St := fv.map fun o => o.bind fun j => (σ[j]?).join
section
variable {X : Cx} {pins : List (Addr × Obj)} {σ : St} {H : Hp} {s : Shared}
theorem comp_closure (I : Inv X pins σ H s) {scope : Scope} (S : CompScope X scope) : closureFor scope X.env = pure (closL X.env scope.names []) :=
  closureFor_eq fun y hy hf => I.ok.has y.1 (S.free y hy hf)
theorem comp_ok (I : Inv X pins σ H s) {N' : List Str} {scope : Scope} (S : CompScope X scope) {fp : List Addr} (hf : ∀ b ∈ fp, FpOk X pins H b) (hlt : ∀ b ∈ fp, b < s.heap.objs.size) {C : Addr} (hC : s.heap.objs.size <= C) :
    (zc2 X N' scope (closL X.env scope.names []) C s H fp).Ok := by
  have sub := closL_sub (env := X.env) scope.names [] (fun x c h => by simp at h)
  refine ⟨I.ok.mod, S.kind, I.ok.glob, I.ok.blt, hC, fun x y c h1 h2 => I.ok.inj x y c (sub x c h1) (sub y c h2), fun x hx => ?_, fun x c h _ => by simp [zc2] at h, I.ok.hd, I.ok.frames, .inl rfl, fun b hb => ⟨?_, fun x c e => ?_⟩, I.bs, Nat.le_trans I.ok.bsz I.sz,
    fun b o e hb => ?_, fun b hb => ?_, I.stack, I.stkFree⟩
  · have hx' : ((relabel scope X.env).names.lookup x = some .cell \/ (relabel scope X.env).names.lookup x = some .free) := hx
    have hfr : scope.names.lookup x = some .free := by
      rcases hx' with h | h
      · rcases zcB _ _ _ h with h | ⟨_, h⟩
        · exact absurd rfl (S.nocell _ (PySem.mem_of_lookup h))
        · exact h
      · rcases zcB _ _ _ h with h | ⟨h, _⟩
        · exact h
        · cases h
    have hm := PySem.mem_of_lookup hfr
    obtain ⟨c, hc⟩ := I.ok.has x (S.free _ hm rfl)
    exact Option.isSome_iff_exists.mp (closL_has _ _ x c hm hc)
  · exact Nat.ne_of_lt (Nat.lt_of_lt_of_le (hlt b hb) hC)
  · exact (hf b hb).2.2.2.2.1 x c (sub x c e)
  · rcases (hf b hb).2.2.2.1 with z | z
    · exact I.ok.noex b o e z
    · exact absurd (Nat.lt_of_lt_of_le (Heap.lt_size e) I.ok.bsz) (Nat.not_lt.mpr z)
  · intro z
    rcases List.mem_cons.mp (I.stkSub b z) with e | e
    · exact (hf b hb).2.1 e
    · exact (hf b hb).2.2.1 e
theorem comp_start (I : Inv X pins σ H s) {N' : List Str} {scope : Scope} (S : CompScope X scope) {fp : List Addr} (hf : ∀ b ∈ fp, FpOk X pins H b) (hlt : ∀ b ∈ fp, b < s.heap.objs.size) {C : Addr} (hC : C = s.heap.objs.size) {fv : List (Option Nat)} (hlen : fv.length = N'.length)
    (hfv : ∀ (i j : Nat) x, N'[i]? = some x -> fv[i]? = some (some j) -> X.N[j]? = some x /\ (X.env.kindOf x = some .cell \/ X.env.kindOf x = some .free) /\ scope.names.lookup x = some .free) {h' : Heap} {t' : Nat} {m : Str -> Option Value} (hn : h'.Ns C m) (hk : ∀ b o, s.heap.get? b = some o -> h'.get? b = some o) :
    Inv (zc2 X N' scope (closL X.env scope.names []) C s H fp) [] (fvSt fv σ) H { s with heap := h', toks := t' } := by
  have ok := comp_ok (N' := N') I S hf hlt (C := C) (Nat.le_of_eq hC.symm)
  have sub := closL_sub (env := X.env) scope.names [] (fun x c h => by simp at h)
  refine ⟨ok, rfl, I.bare, Un.kept hk, ⟨m, hn, fun i x v e1 e2 e3 => ?_⟩, fun x c e => ?_, ?_, fun x c e => I.freeC x c (sub x c e), fun p hp => ?_, I.hok.kept hk, ?_⟩
  · have e1' : N'[i]? = some x := e1
    have e2' : (fvSt fv σ)[i]? = some (some v) := e2
    unfold fvSt at e2'
    rw [List.getElem?_map] at e2'
    cases q : fv[i]? with
    | none => rw [q] at e2'; cases e2'
    | some o =>
      rw [q] at e2'
      cases o with
      | none => cases e2'
      | some j =>
        have e2'' : (σ[j]?).join = some v := by simpa using e2'
        obtain ⟨hN, hkk, hfree⟩ := hfv i j x e1' q
        have hσ : σ[j]? = some (some v) := by
          cases z : σ[j]? with
          | none => rw [z] at e2''; cases e2''
          | some w => rw [z] at e2''; cases w with
            | none => cases e2''
            | some w' => simp at e2''; rw [e2'']
        obtain ⟨m0, hn0, hl⟩ := I.loc
        obtain ⟨u, r, l⟩ := hl j x v hN hσ (.inr hkk)
        refine ⟨u, r, .inr ⟨?_, ?_⟩⟩
        · rcases e3 with z | z | z
          · have z' : (relabel scope X.env).names.lookup x = some .local := z
            rcases zcB _ _ _ z' with y | ⟨y, _⟩
            · rw [hfree] at y; cases y
            · cases y
          · exact .inl z
          · exact .inr z
        · rcases l with ⟨k, _⟩ | ⟨_, c, hc, hcell⟩
          · rcases hkk with y | y
            · rw [k] at y; cases y
            · rw [k] at y; cases y
          · obtain ⟨c', hc'⟩ := Option.isSome_iff_exists.mp (closL_has scope.names [] x c (PySem.mem_of_lookup hfree) hc)
            have e := sub x c' hc'
            rw [hc] at e
            cases e
            obtain ⟨oc, ho, hd⟩ := hcell
            exact ⟨c, hc', oc, hk _ _ ho, hd⟩
  · obtain ⟨v, oc, ho, hd⟩ := I.cell x c (sub x c e)
    exact ⟨v, oc, hk _ _ ho, hd⟩
  · exact I.hok.fresh (Nat.le_of_eq hC.symm)
  · exact absurd (show p ∈ ([] : List (Addr × Obj)) from hp) (by simp)
  · show (fvSt fv σ).length = N'.length
    unfold fvSt
    rw [List.length_map, hlen]
theorem comp_end (I : Inv X pins σ H s) {N' : List Str} {scope : Scope} {cl : List (Str × Addr)} {fp : List Addr} (hf : ∀ b ∈ fp, FpOk X pins H b) {C : Addr} (hC : s.heap.objs.size <= C) {σ' : St} {H' : Hp} {s' : Shared} {pl : List (Addr × Obj)}
    (J : Inv (zc2 X N' scope cl C s H fp) pl σ' H' s') {h' : Heap} (hs : Heap.SameBut C s'.heap h') : Inv X pins σ H' { s' with heap := h' } := by
  have hCn : H' C = none := J.free
  refine I.call' (ch := fp) (s' := { s' with heap := h' }) J.os ?_ ?_ J.bare fun b hb => ⟨(hf b hb).2.2.2.1, (hf b hb).2.1, (hf b hb).2.2.2.2.1, (hf b hb).2.2.2.2.2⟩
  · have U : Un (frs X.stack) fp H H' s.heap s'.heap := J.base
    have neC : ∀ b o, s.heap.get? b = some o -> b ≠ C := fun b o e => Nat.ne_of_lt (Nat.lt_of_lt_of_le (Heap.lt_size e) hC)
    refine ⟨fun b o e n h1 h2 => ?_, fun b o e n h1 h2 => ?_, U.free, fun b o e h2 => ?_, U.tups, U.frzs, U.tbls⟩
    · exact (hs.2 b (neC b o e)).trans (U.keep b o e n h1 h2)
    · obtain ⟨sl, q⟩ := U.slot b o e n h1 h2
      exact ⟨sl, (hs.2 b (neC b o e)).trans q⟩
    · obtain ⟨o', q⟩ := U.there b o e h2
      exact ⟨o', (hs.2 b (neC b o e)).trans q⟩
  · intro b u e
    refine (J.hok b u e).stay (fun c v hc q => (hs.2 c ?_).trans q) (fun _ q => q) fun _ _ q => q
    rintro rfl
    rcases hc with z | z
    · rw [← z, hCn] at e; cases e
    · rw [hCn] at z; cases z
end
end L2
end
section
namespace L2
open PySem PySem.Spec PyProof.Rows
def PTs (X : Cx) (es : List Expr) (t : TT) : Prop :=
  ∀ (pins : List (Addr × Obj)) (s : Shared) (σ : St) (H : Hp) (Q : Bool -> Hp -> Prop), Inv X pins σ H s -> t σ H Q ->
    wpAny (model X.prog X.w) X.A (forIn es true fun c r => if r = true then do let ok ← isTrue c X.env (eval c X.env); pure (ForInStep.yield ok) else pure (ForInStep.yield r)) (TP X pins σ Q) X.xe s
def tTrue : TT := fun _ H Q => Q true H
theorem pts_nil {X : Cx} : PTs X [] tTrue := fun _ _ _ H _ I h => wpAny_tests_nil ⟨H, I, h⟩
theorem pts_one {X : Cx} {c : Expr} {t : TT} (hc : PT X c t) : PTs X [c] t := fun pins s σ H Q I h => wpAny_tests_one (hc pins s σ H Q I h)
def LcW (J : It) (g : TG) (tc : TT) (te : TE) (acc : Addr) (Q : V -> Hp -> Prop) (σ0 : St) (H1 : Hp) : Prop :=
  ∃ W : Nat -> Nat -> List V -> St -> Hp -> Prop, (∃ m, W 0 m [] σ0 (upd H1 acc (.lst []))) /\ ∀ i m ys σ' H', W i m ys σ' H' -> H' acc = some (.lst ys) /\
    ((J.stop i H' /\ Q (.ref acc) H') \/ (J.go i H' /\ ∀ x H2, J.yld i H' x H2 -> g x σ' H2 fun σ2 H3 => tc σ2 H3 fun b H4 =>
      if b = true then te σ2 H4 fun v H5 => H5 acc = some (.lst ys) /\ ys.length < sizeLine /\ ∃ m', m' < m /\ W (i + 1) m' (ys ++ [v]) σ2 (upd H5 acc (.lst (ys ++ [v])))
      else ∃ m', m' < m /\ W (i + 1) m' ys σ2 H4))
def tLC (wi : TI) (g : TG) (tc : TT) (te : TE) (fv : List (Option Nat)) : TE := fun σ H Q => wi σ H fun J H1 => ∀ acc, H1 acc = none -> LcW J g tc te acc Q (fvSt fv σ) H1
def PB (X : Cx) (N' : List Str) (scope : Scope) (tg : Expr) (ifs : List Expr) (elt : Expr) (g : TG) (tc : TT) (te : TE) : Prop :=
  ∀ (cl : List (Str × Addr)) (C : Addr) (s₀ : Shared) (H₀ : Hp) (fp : List Addr), PG (zc2 X N' scope cl C s₀ H₀ fp) tg g /\ PTs (zc2 X N' scope cl C s₀ H₀ fp) ifs tc /\ PE (zc2 X N' scope cl C s₀ H₀ fp) elt te
structure FvOk (X : Cx) (N' : List Str) (scope : Scope) (fv : List (Option Nat)) : Prop where
  len : fv.length = N'.length
  at' : ∀ (i j : Nat) x, N'[i]? = some x -> fv[i]? = some (some j) -> X.N[j]? = some x /\ (X.env.kindOf x = some .cell \/ X.env.kindOf x = some .free) /\ scope.names.lookup x = some .free
section
variable {X : Cx} {elt tg iter : Expr} {ifs : List Expr} {scope : Scope} {pos : Pos} {N' : List Str} {fv : List (Option Nat)} {g : TG} {tc : TT} {te : TE}
theorem comp_run {pins : List (Addr × Obj)} {σ : St} {H1 : Hp} {s2 : Shared} {it : Addr} {fp : List Addr} {tn : Nat -> Heap -> Prop} {J : It} {Q : VK} {RR : Value -> Addr -> Result -> Shared -> Prop} (hc : X.calm = true) (S : CompScope X scope) (F : FvOk X N' scope fv) (hb : PB X N' scope tg ifs elt g tc te)
    (I2 : Inv X pins σ H1 s2) (T : Turn X.prog X.w X.K tg J fp it tn) (st2 : tn 0 s2.heap) (f2 : ∀ b ∈ fp, FpOk X pins H1 b) (q : ∀ acc, H1 acc = none -> LcW J g tc te acc Q (fvSt fv σ) H1)
    (hRR : ∀ (a C : Addr) (H' : Hp) (s' : Shared) (m : Str -> Option Value), s'.heap.Ns C m -> (∀ h', Heap.SameBut C s'.heap h' -> Inv X pins σ H' { s' with heap := h' }) -> FpOk X pins H' C -> Q (.ref a) H' -> RR (.ref a) C (.ok .next) s') :
    wpAny (model X.prog X.w) X.A (newList []) (fun acc s₃ => wpAny (model X.prog X.w) X.A (newFunctionEnv scope X.env.globals (closL X.env scope.names []) [] X.env.qual none .none (some X.env)) (fun cenv s₄ =>
      codeAny (model X.prog X.w) X.A (.compStart (.ListComp elt [⟨tg, iter, ifs, 0⟩] scope pos) 0 (.ref it) acc { cenv with scope := relabel scope X.env }) (RR acc cenv.locals) s₄) X.xe s₃) X.xe s2 := by
  refine wpAny_newObj_type ?_
  have hacc : H1 s2.heap.objs.size = none := I2.fresh
  have I3 : Inv X pins σ (upd H1 s2.heap.objs.size (.lst [])) { s2 with heap := s2.heap.push { cls := .type "list", data := .seq ([] : List Value).toArray } } := I2.lnew (t' := s2.toks) .nil (Nat.zero_le _)
  generalize hs3 : ({ s2 with heap := s2.heap.push { cls := .type "list", data := .seq ([] : List Value).toArray } } : Shared) = s3 at I3 ⊢
  have up : ∀ b o, s2.heap.get? b = some o -> s3.heap.get? b = some o := fun b o e => by rw [← hs3]; exact Heap.get?_push_of_some _ e
  have lt2 : ∀ b ∈ fp, b < s2.heap.objs.size := fun b hb => by
    obtain ⟨o, e, _⟩ := T.obj 0 _ st2 b hb
    exact Heap.lt_size e
  have sz3 : s2.heap.objs.size < s3.heap.objs.size := by rw [← hs3]; show _ < (s2.heap.push _).objs.size; rw [Heap.size_push]; exact Nat.lt_succ_self _
  have lt3 : ∀ b ∈ fp, b < s3.heap.objs.size := fun b hb => Nat.lt_trans (lt2 b hb) sz3
  have f3 : ∀ b ∈ fp, FpOk X pins (upd H1 s2.heap.objs.size (.lst [])) b := fun b hb => ⟨by rw [zaB (Nat.ne_of_lt (lt2 b hb))]; exact (f2 b hb).1, (f2 b hb).2⟩
  have st3 : tn 0 s3.heap := T.keep _ _ _ st2 fun b _ o e => up b o e
  refine wpAny_newFunctionEnv S.nocell (by intro y hy; simp at hy) (fun h4 hn4 sb4 => ?_) S.kind
  have k4 : ∀ b o, s3.heap.get? b = some o -> h4.get? b = some o := fun b o e => (sb4.2 b (Nat.ne_of_lt (Heap.lt_size e))).trans (Heap.get?_push_of_some _ e)
  have st4 : tn 0 h4 := T.keep _ _ _ st3 fun b _ o e => k4 b o e
  have I4 := comp_start I3 S f3 lt3 (C := s3.heap.objs.size) rfl F.len F.at' hn4 k4 (t' := s3.toks + ([] : List (Str × Value)).length)
  generalize hX : zc2 X N' scope (closL X.env scope.names []) s3.heap.objs.size s3 (upd H1 s2.heap.objs.size (.lst [])) fp = X' at I4
  obtain ⟨bg, bt, be⟩ := hb (closL X.env scope.names []) s3.heap.objs.size s3 (upd H1 s2.heap.objs.size (.lst [])) fp
  rw [hX] at bg bt be
  have hprog : X'.prog = X.prog := by rw [← hX]; rfl
  have hw : X'.w = X.w := by rw [← hX]; rfl
  have hK : X'.K = X.K := by rw [← hX]; rfl
  have hA : X'.A = X.A := by rw [← hX]; rfl
  have hcalm : X'.calm = true := by rw [← hX]; exact hc
  have hxe : X'.xe = fun _ _ => False := by rw [← hX]; rfl
  have henv : X'.env = compEnvC scope (closL X.env scope.names []) s3.heap.objs.size X.env := by rw [← hX]; rfl
  have stat : ∀ {H' : Hp}, (∀ b ∈ fp, H' b = none) -> ∀ b ∈ fp, FpOk X' [] H' b := fun {H'} hn b hb => by
    have f := f3 b hb
    have ok := I4.ok
    refine ⟨hn b hb, (ok.exf b (by rw [← hX]; exact hb)).1, ok.exfs b (by rw [← hX]; exact hb), .inl (by rw [← hX]; exact hb), fun x c e => (ok.exf b (by rw [← hX]; exact hb)).2 x c e, fun p hp => ?_⟩
    rw [← hX] at hp
    exact absurd (show p ∈ ([] : List (Addr × Obj)) from hp) (by simp)
  obtain ⟨W, ⟨m0, w0⟩, turn⟩ := q s2.heap.objs.size hacc
  have loop : ∀ s5 : Shared, s5 = { s3 with heap := h4, toks := s3.toks + ([] : List (Str × Value)).length } ->
      codeAny (model X.prog X.w) X.A (.compLoop (.ListComp elt [⟨tg, iter, ifs, 0⟩] scope pos) 0 (.ref it) (.ref s2.heap.objs.size) (compEnvC scope (closL X.env scope.names []) s3.heap.objs.size X.env))
        (RR (.ref s2.heap.objs.size) s3.heap.objs.size) s5 := by
    intro s5 hs5
    refine codeAny_compLoop_gen (fun n s' => ∃ i ys σ' H', Inv X' [] σ' H' s' /\ tn i s'.heap /\ (∀ b ∈ fp, H' b = none) /\ W i n ys σ' H') ?_ m0 ⟨0, [], fvSt fv σ, _, hs5 ▸ I4, hs5 ▸ st4, fun b hb => (f3 b hb).1, w0⟩
    rintro n s6 ⟨i, ys, σ6, H6, I6, st6, fr6, w6⟩
    obtain ⟨ha6, turn6⟩ := turn i n ys σ6 H6 w6
    rw [← henv]
    rcases turn6 with ⟨stop, qn⟩ | ⟨go, step⟩
    · have d := T.done X' hprog hw hK hcalm i [] s6 σ6 H6 (fun _ _ => False) I6 (stat fr6) st6 stop
      rw [hA] at d
      refine thn d fun r s7 ⟨hr, I7⟩ => ?_
      subst hr
      obtain ⟨m7, hn7, _⟩ := I7.loc
      have hl : X'.env.locals = s3.heap.objs.size := by rw [henv]; rfl
      refine hRR _ _ H6 s7 m7 (hl ▸ hn7) (fun h' hs' => ?_) ?_ qn
      · rw [← hX] at I7
        exact comp_end I3 f3 (Nat.le_refl _) I7 hs'
      · exact I3.fpOk (Nat.le_refl _) (by have := I7.free; rw [hl] at this; exact this)
    · have d := T.item X' hprog hw hK hcalm i [] s6 σ6 H6 (fun _ _ => False) I6 (stat fr6) st6 go
      rw [hA] at d
      refine thn d fun r s7 ⟨u, hr, h7⟩ => ?_
      subst hr
      refine thn h7 fun _ s8 ⟨x, H8, I8, r8, y8, st8, fr8⟩ => ?_
      have I8' := I8.pinned (stat fr8) (T.obj _ _ st8)
      have dg := bg _ s8 σ6 H8 x u _ I8' r8 (step x H8 y8)
      rw [hprog, hw, hA, hxe] at dg
      refine thn dg fun _ s9 ⟨σ9, H9, I9, q9⟩ => ?_
      have dt := bt _ s9 σ9 H9 _ I9 q9
      rw [hprog, hw, hA, hxe] at dt
      refine thn dt fun b s10 ⟨H10, I10, q10⟩ => ?_
      have again : ∀ {σ7 : St} {H7 : Hp} {s7 : Shared} {ys' : List V}, Inv X' ([] ++ pinsAt fp s8.heap) σ7 H7 s7 -> (∃ m', m' < n /\ W (i + 1) m' ys' σ7 H7) -> ∃ m, m < n /\ ∃ i ys σ' H', Inv X' [] σ' H' s7 /\ tn i s7.heap /\ (∀ b ∈ fp, H' b = none) /\ W i m ys σ' H' := fun {σ7 H7 s7 ys'} I7 n7 => by
        obtain ⟨m', hm, w7⟩ := n7
        refine ⟨m', hm, i + 1, ys', σ7, H7, I7.unpinned, T.keep _ _ _ st8 fun b hb o e => (I7.pin (b, o) (List.mem_append_right _ (List.mem_append_right _ (mem_pinsAt hb e)))).1, fun b hb => ?_, w7⟩
        obtain ⟨o, e, _⟩ := T.obj _ _ st8 b hb
        exact (I7.pin (b, o) (List.mem_append_right _ (List.mem_append_right _ (mem_pinsAt hb e)))).2.1
      cases b with
      | false =>
        rw [if_neg Bool.false_ne_true] at q10 ⊢
        exact again I10 q10
      | true =>
        rw [if_pos rfl] at q10 ⊢
        have de := be _ s10 σ9 H10 _ I10 q10
        rw [hprog, hw, hA, hxe] at de
        refine thn de fun v s11 ⟨y, H11, I11, r11, ha11, hz11, n11⟩ => ?_
        have da := mt_append _ s11 σ9 H11 (.ref s2.heap.objs.size) [y] (.ref s2.heap.objs.size) [v] (fun _ H' => H' = upd H11 s2.heap.objs.size (.lst (ys ++ [y]))) I11 rfl (.cons r11 .nil) ⟨_, ys, y, rfl, rfl, ha11, hz11, rfl⟩
        rw [hprog, hw, hA, hxe] at da
        refine thn da fun _ s12 ⟨_, H12, I12, _, e12⟩ => ?_
        subst e12
        exact again I12 n11
  exact codeAny_compStart_list (loop _ rfl) (T.self _ 0 _ _ _ st4 (loop _ rfl))
theorem pe_lc {wi : TI} (hc : X.calm = true) (S : CompScope X scope) (F : FvOk X N' scope fv) (hi : PI X tg iter wi) (hb : PB X N' scope tg ifs elt g tc te) (hs : ∀ x, foldedSetIterable iter X.env x = pure x := by intro _; rfl) :
    PE X (.ListComp elt [⟨tg, iter, ifs, 0⟩] scope pos) (tLC wi g tc te fv) := by
  intro pins s σ H Q I h
  rw [eval_ListComp]
  refine wpAny_comprehension_free (use := none) rfl hs (comp_closure I S) S.kind S.names (thn (hi pins s σ H _ I h) fun x s1 h1 => thn h1 fun itv s2 h2 => ?_)
  obtain ⟨it, fp, tn, J, H1, e, I2, T, st2, f2, q⟩ := h2
  subst e
  refine comp_run (RR := fun acc C => compPost (model X.prog X.w) X.A X.xe none (EP X pins σ Q) acc C) hc S F hb I2 T st2 f2 q ?_
  intro a C H' s' m hn hI hCL hq
  exact ⟨m, hn, fun h' hs' => ⟨.ref a, H', hI h' hs', rfl, hq⟩⟩
theorem ps_lc {wi : TI} {i : Nat} {y : Str} {py spos : Pos} (hN : X.N.Nodup) (hy : X.N[i]? = some y) (hyl : X.env.scope.names.lookup y = some .local) (hc : X.calm = true) (S : CompScope X scope) (F : FvOk X N' scope fv) (hi : PI X tg iter wi) (hb : PB X N' scope tg ifs elt g tc te)
    (hsw : swapsWith (.ListComp elt [⟨tg, iter, ifs, 0⟩] scope pos) (some (.Name y py)) spos.line X.env = pure true)
    (hs : ∀ x, foldedSetIterable iter X.env x = pure x := by intro _; rfl) :
    PS X (.Assign [.Name y py] (.ListComp elt [⟨tg, iter, ifs, 0⟩] scope pos) spos) (tAsg (tLC wi g tc te fv) (gName i)) := by
  intro pins s σ H D I h
  rw [exec_Assign_Name_used _ _ _ _ hsw]
  refine wpAny_bind (wpAny_standAt (wpAny_bind ?_))
  show wpAny _ _ (do let _ ← comprehension (.ListComp elt [⟨tg, iter, ifs, 0⟩] scope pos) scope X.env _ (newList []) false (eval iter X.env) (some (assign (.Name y py) X.env))) _ _ s
  refine wpAny_bind (wpAny_mono (wpAny_comprehension_free (use := some (assign (.Name y py) X.env)) (Q := fun _ s' => SP X pins D .next s') rfl hs (comp_closure I S) S.kind S.names
    (thn (hi pins s σ H _ I h) fun x s1 h1 => thn h1 fun itv s2 h2 => ?_)) (fun _ s' hq => wpAny_pure (wpAny_pure hq)) fun _ _ e => e)
  obtain ⟨it, fp, tn, J, H1, e, I2, T, st2, f2, q⟩ := h2
  subst e
  refine comp_run (RR := fun acc C => compPost (model X.prog X.w) X.A X.xe (some (assign (.Name y py) X.env)) (fun _ s' => SP X pins D .next s') acc C) hc S F hb I2 T st2 f2 q ?_
  intro a C H' s' m hn hI hCL hq
  show wpAny _ _ (assign (.Name y py) X.env (.ref a)) _ _ _
  have I' : Inv X pins σ H' s' := hI s'.heap (Heap.SameBut.refl _ _)
  refine wpAny_assign_Name ?_
  refine store_ok2 (v := .ref a) I' hN hy (.inl hyl) rfl (fun s'' I'' hch => ?_) (.inr hyl)
  obtain ⟨ad, hsb, had⟩ := hch
  obtain ⟨f0, f1, f2', f3, f4, f5⟩ := hCL
  have hne : C ≠ ad := by
    rcases had with z | z
    · rw [z]; exact f1
    · exact fun e => f4 y ad z e.symm
  refine ⟨m, hn.sameBut hsb hne, fun h' hs' => ?_⟩
  exact ⟨_, H', I''.turned (t' := s''.toks) (fun b o hb e => (hs'.2 b hb).trans e) f0 f1 f3 f4 f5, hq⟩
end
end L2
end
section
namespace L2
open PySem PySem.Spec PyProof.Rows
def Its (x : Str) : It := ⟨fun i _ => i < x.cps.size, fun i H v H' => H' = H /\ ∃ c, x.cps[i]? = some c /\ v = .str ⟨#[c]⟩, fun i _ => i = x.cps.size⟩
theorem go_name {M : Model} {A : Around} {E : Value -> Shared -> Prop} {s : Shared} {n : Str} {p : Pos} {it : Value} {u : Value} {Q : Unit -> Shared -> Prop} (hQ : Q () s) : wpAny M A (letOwnedTupleGo (.Name n p) it u) Q E s := wpAny_pure hQ
theorem turn_str {P : Program} {w : World} {K : PySem.W.Frag} {n : Str} {p : Pos} {ty : String} (it : Addr) (x : Str) (t : Tok)
    (W : ∀ A : Around, A.handled = none -> Walks P w A it [it] [it] x.cps.size (SignAt x) (fun i h => h.IsStrIter it ty x t i))
    (sf : ∀ (A : Around) (i : Nat) (s : Shared) (Q : Value -> Shared -> Prop) (E : Value -> Shared -> Prop), s.heap.IsStrIter it ty x t i -> Q (.ref it) s -> wpAny (model P w) A (pyIter (.ref it)) Q E s) : Turn P w K (.Name n p) (Its x) [it] it (fun i h => h.IsStrIter it ty x t i) where
  mem := by simp
  obj := fun i h st b hb => by
    have e : b = it := by simpa using hb
    subst e
    obtain ⟨o, e, c, d⟩ := st
    exact ⟨o, e, fun v z => by rw [d] at z; cases z⟩
  keep := fun i h h' st k => by
    obtain ⟨o, e, r⟩ := st
    exact ⟨o, k it (by simp) o e, r⟩
  item := by
    intro X hP hw hK hc i pins s σ H E I hf st hg
    subst hP hw hK
    obtain ⟨f0, f1, f2, f3, f4, f5⟩ := hf it (by simp)
    refine (W X.A (I.ok.hd hc)).item i s _ _ hg st fun v h' tk hv st' kk => ?_
    obtain ⟨c, u, hcc, rfl⟩ := hv
    have I1 : Inv X pins σ H { s with heap := h', toks := tk } := I.turned (fun b o hb e => kk b o (by simpa using hb) e) f0 f1 f3 f4 f5
    exact ⟨_, rfl, go_name ⟨.str ⟨#[c]⟩, H, I1, ⟨_, rfl⟩, ⟨rfl, c, hcc, rfl⟩, st', fun b hb => (hf b hb).1⟩⟩
  done := by
    intro X hP hw hK hc i pins s σ H E I hf st hg
    subst hP hw hK
    obtain ⟨f0, f1, f2, f3, f4, f5⟩ := hf it (by simp)
    have hi : i = x.cps.size := hg
    subst hi
    exact (W X.A (I.ok.hd hc)).done s _ _ st fun h' tk kk => ⟨rfl, I.turned (fun b o hb e => kk b o (by simpa using hb) e) f0 f1 f3 f4 f5⟩
  self := sf
def iStr (te : TE) : TI := fun σ H R => te σ H fun v H1 => ∃ x, v = .str x /\ R (Its x) H1
theorem pi_str {X : Cx} {e : Expr} {te : TE} {n : Str} {p : Pos} (he : PE X e te) : PI X (.Name n p) e (iStr te) := by
  intro pins s σ H R I h
  refine thn (he pins s σ H _ I h) fun v s1 ⟨y, H1, I1, r1, q1⟩ => ?_
  obtain ⟨x, e, q⟩ := q1
  subst e
  obtain ⟨t, rfl⟩ := r1
  have fin : ∀ (ty : String) (o : Obj), (s1.heap.push o).IsStrIter s1.heap.objs.size ty x t 0 -> Turn X.prog X.w X.K (.Name n p) (Its x) [s1.heap.objs.size] s1.heap.objs.size (fun i h => h.IsStrIter s1.heap.objs.size ty x t i) ->
      PIE X pins σ (.Name n p) R (.ref s1.heap.objs.size) { s1 with heap := s1.heap.push o } := fun ty o st T => by
    refine ⟨s1.heap.objs.size, [s1.heap.objs.size], _, _, H1, rfl, I1.kept (t' := s1.toks) fun b o e => Heap.get?_push_of_some _ e, T, st, fun b hb => ?_, q⟩
    have e : b = s1.heap.objs.size := by simpa using hb
    subst e
    exact I1.fpOk (Nat.le_refl _) (I1.hok.fresh (Nat.le_refl _))
  cases ha : x.cps.all (· < 128)
  · exact wpAny_pyIter_wide ha (fin _ _ ⟨_, Heap.get?_push_size _ rfl, rfl, rfl⟩ (turn_str _ x t (fun A' hA => Walks.strWide hA _ x t) fun _ _ _ _ _ st h => wpAny_pyIter_striter_wide st h))
  · exact wpAny_pyIter_ascii ha (fin _ _ ⟨_, Heap.get?_push_size _ rfl, rfl, rfl⟩ (turn_str _ x t (fun A' hA => Walks.strAscii hA _ x t) fun _ _ _ _ _ st h => wpAny_pyIter_striter_ascii st h))
def Ite (K : PySem.W.Frag) (a : Addr) : It :=
  ⟨fun i H => ∃ xs x, SqL K H a xs /\ xs[i]? = some x, fun i H v H' => ∃ T x, v = .ref T /\ H T = none /\ H' = upd H T (.tup [.int i, x]) /\ ∀ xs, SqL K H a xs -> xs[i]? = some x, fun i H => ∃ xs, SqL K H a xs /\ xs.length <= i⟩
theorem turn_enum {P : Program} {w : World} {K : PySem.W.Frag} {elts : List Expr} {k1 : Nat} {pos : Pos} (e it a : Addr) (hei : e ≠ it) :
    Turn P w K (.Tuple elts k1 pos) (Ite K a) [e, it] e (fun i h => (∃ old, IsEnum h e it i old) /\ h.IsListIter it a i) where
  mem := by simp
  obj := fun i h st b hb => by
    obtain ⟨⟨old, he⟩, o, ho, c, d⟩ := st
    rcases List.mem_cons.mp hb with z | z
    · subst z
      exact ⟨_, he, fun v z => by cases z⟩
    · have z' : b = it := by simpa using z
      subst z'
      exact ⟨o, ho, fun v z => by rw [d] at z; cases z⟩
  keep := fun i h h' st k => by
    obtain ⟨⟨old, he⟩, hi⟩ := st
    exact ⟨⟨old, k e (by simp) _ he⟩, hi.at fun o x => k it (by simp) o x⟩
  item := by
    intro X hP hw hK hc i pins s σ H E I hf st hg
    subst hP hw hK
    obtain ⟨xs, x, hq, hx⟩ := hg
    obtain ⟨its, rv, p, hz⟩ := I.list hq
    obtain ⟨u, hu, ru⟩ := rv.get hx
    obtain ⟨⟨old, he⟩, hit⟩ := st
    obtain ⟨e0, e1, e2, e3, e4, e5⟩ := hf e (by simp)
    obtain ⟨f0, f1, f2, f3, f4, f5⟩ := hf it (by simp)
    have helt : e < s.heap.objs.size := Heap.lt_size he
    have hilt : it < s.heap.objs.size := by obtain ⟨_, x, _⟩ := hit; exact Heap.lt_size x
    refine wpAny_pyNext_enum_item he hit p.isList (x := u) (by simpa using hu) hei fun h' ho hit' hT hsz hk => ?_
    refine ⟨_, rfl, wpAny_letOwnedTupleGo_enum ho fun h2 he2 hs2 => ?_⟩
    have hs2' : Heap.SameBut e h' h2 := hs2
    have kk : ∀ b o, b ≠ e -> b ≠ it -> s.heap.get? b = some o -> h2.get? b = some o := fun b o h1 h3 q => (hs2'.2 b h1).trans (hk b o h1 h3 q)
    have hT2 : h2.get? s.heap.objs.size = some { cls := .type "tuple", data := .seq #[.int i s.toks, u] } := (hs2'.2 _ (Nat.ne_of_gt helt)).trans hT
    have nH : H s.heap.objs.size = none := I.fresh
    have I1 : Inv X pins σ (upd H s.heap.objs.size (.tup [.int i, x])) { s with heap := h2, toks := s.toks + 1 } := by
      have ne : ∀ b o, H b = some o -> b ≠ e /\ b ≠ it := fun b o q => ⟨fun z => (by rw [z, e0] at q; cases q), fun z => (by rw [z, f0] at q; cases q)⟩
      refine I.step (g' := s.gens) (d' := s.drawn) (ch := [e, it]) (fun b hb => ?_) (fun b o _ _ hc q _ => kk b o (fun z => hc (by simp [z])) (fun z => hc (by simp [z])) q) (fun b o _ _ hc q _ => ⟨o.slots, kk b o (fun z => hc (by simp [z])) (fun z => hc (by simp [z])) q⟩) (fun b o _ q n => ?_)
        (fun b o hc q => ⟨o, kk b o (fun z => hc (by simp [z])) (fun z => hc (by simp [z])) q⟩) (fun b ys q => ?_) (fun b o y q => ?_) (fun b ps q => ⟨#[], ?_⟩) (fun m hm => ?_) (fun b v q => ?_) I.bare
      · rcases List.mem_cons.mp hb with z | z
        · subst z; exact ⟨e3, e1, e4, e5⟩
        · have z' : b = it := by simpa using z
          subst z'; exact ⟨f3, f1, f4, f5⟩
      · rw [zaB (Nat.ne_of_lt (Heap.lt_size q))]; exact n
      · rw [zaB (zat q nH)]; exact q
      · rw [zaB (zat q nH)]; exact q
      · rw [zaB (zat q nH), q]; simp
      · obtain ⟨o, es, ep, q, r⟩ := hm
        exact ⟨o, es, ep, kk _ o (Ne.symm e1) (Ne.symm f1) q, r⟩
      · by_cases hb : b = s.heap.objs.size
        · subst hb
          rw [zaH] at q
          cases q
          exact ⟨by show 2 <= sizeLine; decide, [.int i s.toks, u], .cons ⟨_, rfl⟩ (.cons ru .nil), ⟨_, hT2, rfl, _, rfl⟩⟩
        · rw [zaB hb] at q
          refine (I.hok b v q).stay (fun c v hc r => ?_) (fun c r => by rw [zaB (zat r nH)]; exact r) fun c ys r => by rw [zaB (zat r nH)]; exact r
          rcases hc with z | z
          · rw [z] at r ⊢; exact kk b v (ne b _ q).1 (ne b _ q).2 r
          · exact kk c v (ne c _ z).1 (ne c _ z).2 r
    refine ⟨.ref s.heap.objs.size, _, I1, rfl, ⟨_, x, rfl, nH, rfl, fun ys hy => by rw [I.list_inj hy hq]; exact hx⟩, ⟨⟨_, by simpa using he2⟩, hit'.at fun o y => (hs2'.2 it hei.symm).trans y⟩, fun b hb => ?_⟩
    rcases List.mem_cons.mp hb with z | z
    · subst z; rw [zaB (Nat.ne_of_lt helt)]; exact e0
    · have z' : b = it := by simpa using z
      subst z'; rw [zaB (Nat.ne_of_lt hilt)]; exact f0
  done := by
    intro X hP hw hK hc i pins s σ H E I hf st hg
    subst hP hw hK
    obtain ⟨xs, hq, hx⟩ := hg
    obtain ⟨its, rv, p, hz⟩ := I.list hq
    obtain ⟨⟨old, he⟩, hit⟩ := st
    obtain ⟨f0, f1, f2, f3, f4, f5⟩ := hf it (by simp)
    have hl := rv.length
    exact wpAny_pyNext_enum_end (I.ok.hd hc) he hit p.isList (by simp; omega) fun h' eb => ⟨rfl, I.turned (t' := s.toks) (fun b o hb e => eb b o hb e) f0 f1 f3 f4 f5⟩
  self := fun A i s Q E st h => by
    obtain ⟨⟨old, he⟩, _⟩ := st
    exact wpAny_pyIter_enum he h
def iEnum (K : PySem.W.Frag) (ta : TA) : TI := fun σ H R => ta σ H fun vs H1 => ∃ a, vs = [.ref a] /\ (∃ xs, SqL K H1 a xs) /\ R (Ite K a) H1
theorem pi_enum {X : Cx} {a : Expr} {ta : TA} {p pos : Pos} {elts : List Expr} {k1 : Nat} {tpos : Pos} (hg : Gl X "enumerate") (hm : X.mg "enumerate" = none) (ha : PA X [a] ta) (hs : starEach [a] X.env = [(false, eval a X.env)] := by rfl) :
    PI X (.Tuple elts k1 tpos) (.Call (.Name "enumerate" p) [a] [] pos) (iEnum X.K ta) := by
  intro pins s σ H R I h
  refine Call_ (ld_blt I hg hm PyProof.Rows.boot_enumerate (PyProof.Rows.callWith_type1 (thn (ha pos pins s σ H _ I h) fun us s1 ⟨vs, H1, I1, r1, q1⟩ => ?_) hs rfl))
  obtain ⟨l, e, ⟨xs, hq⟩, q⟩ := q1
  subst e
  obtain ⟨u, rfl, r2⟩ := vals1 r1
  cases r2
  obtain ⟨its, rv, pl, hz⟩ := I1.list hq
  refine call_enumerate_list pl.isList fun h' he hit hsz hk => ?_
  have I2 : Inv X pins σ H1 { s1 with heap := h' } := I1.kept (t' := s1.toks) hk
  refine wpAny_pyIter_enum he ?_
  refine ⟨s1.heap.objs.size + 1, [s1.heap.objs.size + 1, s1.heap.objs.size], _, _, H1, rfl, I2, turn_enum _ _ l (Nat.succ_ne_self _), ⟨⟨_, he⟩, hit⟩, fun b hb => ?_, q⟩
  rcases List.mem_cons.mp hb with z | z
  · subst z; exact I1.fpOk (Nat.le_succ _) (I1.hok.fresh (Nat.le_succ _))
  · have z' : b = s1.heap.objs.size := by simpa using z
    subst z'; exact I1.fpOk (Nat.le_refl _) (I1.hok.fresh (Nat.le_refl _))
end L2
end
section
namespace L2
open PySem PySem.Spec PyProof.Rows
inductive D where
  | non | bl (b : Bool) | int (i : Int) | str (x : Str) | tup (l : List D) | lst (l : List D) | scr (ns : List Int)
  | dk (l : List (Key × D)) | dt (l : List (List Key × D)) | ins (c : Str) (fs : List (Str × D)) | ty (n : String)
structure Cn where
  cls : Str -> Option Addr
  self : Option Addr := none
mutual
inductive Rep (Γ : Cn) (K : PySem.W.Frag) (G : Hp) : V -> D -> Prop where
  | non : Rep Γ K G .non .non
  | bl (b : Bool) : Rep Γ K G (.bl b) (.bl b)
  | int (i : Int) : Rep Γ K G (.int i) (.int i)
  | str (x : Str) : Rep Γ K G (.str x) (.str x)
  | ty (n : String) : Rep Γ K G (.ty n) (.ty n)
  | tup {a : Addr} {vs : List V} {ds : List D} : G a = some (.tup vs) -> Reps Γ K G vs ds -> Rep Γ K G (.ref a) (.tup ds)
  | lst {a : Addr} {vs : List V} {ds : List D} : G a = some (.lst vs) -> Reps Γ K G vs ds -> Rep Γ K G (.ref a) (.lst ds)
  | scr {a : Addr} {ns : List Int} : SqL K G a (ns.map V.int) -> Rep Γ K G (.ref a) (.scr ns)
  | dk {a : Addr} {us : List (Key × V)} {kvs : List (Key × D)} : G a = some (.dK us) -> us.map (·.1) = kvs.map (·.1) -> Reps Γ K G (us.map (·.2)) (kvs.map (·.2)) -> Rep Γ K G (.ref a) (.dk kvs)
  | dt {a : Addr} {us : List (List Key × V)} {kvs : List (List Key × D)} : G a = some (.dT us) -> us.map (·.1) = kvs.map (·.1) -> Reps Γ K G (us.map (·.2)) (kvs.map (·.2)) -> Rep Γ K G (.ref a) (.dt kvs)
  | ins {a C dx : Addr} {c : Str} {us : List (Str × V)} {fs : List (Str × D)} : G a = some (.ins C dx us) -> Γ.cls c = some C -> us.map (·.1) = fs.map (·.1) -> Reps Γ K G (us.map (·.2)) (fs.map (·.2)) -> Rep Γ K G (.ref a) (.ins c fs)
inductive Reps (Γ : Cn) (K : PySem.W.Frag) (G : Hp) : List V -> List D -> Prop where
  | nil : Reps Γ K G [] []
  | cons {v : V} {d : D} {vs : List V} {ds : List D} : Rep Γ K G v d -> Reps Γ K G vs ds -> Reps Γ K G (v :: vs) (d :: ds)
end
section
variable {Γ : Cn} {K : PySem.W.Frag} {G G' G1 H H' H1 H2 G2 : Hp}
mutual
theorem Rep.mono : ∀ {v : V} {d : D}, Rep Γ K G v d -> zb9 G G' -> Rep Γ K G' v d
  | _, _, .non, _ => .non
  | _, _, .bl b, _ => .bl b
  | _, _, .int i, _ => .int i
  | _, _, .str x, _ => .str x
  | _, _, .ty x, _ => .ty x
  | _, _, .tup h r, s => .tup (s _ _ h) (r.mono s)
  | _, _, .lst h r, s => .lst (s _ _ h) (r.mono s)
  | _, _, .scr h, s => .scr (s.seq h)
  | _, _, .dk h e r, s => .dk (s _ _ h) e (r.mono s)
  | _, _, .dt h e r, s => .dt (s _ _ h) e (r.mono s)
  | _, _, .ins h c e r, s => .ins (s _ _ h) c e (r.mono s)
theorem Reps.mono : ∀ {vs : List V} {ds : List D}, Reps Γ K G vs ds -> zb9 G G' -> Reps Γ K G' vs ds
  | _, _, .nil, _ => .nil
  | _, _, .cons h r, s => .cons (h.mono s) (r.mono s)
end
mutual
theorem Rep.re {Γ' : Cn} (hc : Γ'.cls = Γ.cls) : ∀ {v : V} {d : D}, Rep Γ K G v d -> Rep Γ' K G v d
  | _, _, .non => .non
  | _, _, .bl b => .bl b
  | _, _, .int i => .int i
  | _, _, .str x => .str x
  | _, _, .ty x => .ty x
  | _, _, .tup h r => .tup h (r.re hc)
  | _, _, .lst h r => .lst h (r.re hc)
  | _, _, .scr h => .scr h
  | _, _, .dk h e r => .dk h e (r.re hc)
  | _, _, .dt h e r => .dt h e (r.re hc)
  | _, _, .ins h c e r => .ins h (by rw [hc]; exact c) e (r.re hc)
theorem Reps.re {Γ' : Cn} (hc : Γ'.cls = Γ.cls) : ∀ {vs : List V} {ds : List D}, Reps Γ K G vs ds -> Reps Γ' K G vs ds
  | _, _, .nil => .nil
  | _, _, .cons h r => .cons (h.re hc) (r.re hc)
end
theorem Reps.length : ∀ {vs : List V} {ds : List D}, Reps Γ K G vs ds -> vs.length = ds.length
  | _, _, .nil => rfl
  | _, _, .cons _ r => by rw [List.length_cons, List.length_cons, r.length]
theorem Reps.get : ∀ {vs : List V} {ds : List D} {i : Nat} {d : D}, Reps Γ K G vs ds -> ds[i]? = some d -> ∃ v, vs[i]? = some v /\ Rep Γ K G v d
  | _, _, _, _, .nil, e => by simp at e
  | _, _, 0, _, .cons r _, e => by simp at e; subst e; exact ⟨_, rfl, r⟩
  | _, _, i + 1, d, .cons _ t, e => by
    obtain ⟨u, h1, h2⟩ := Reps.get (i := i) (d := d) t (by simpa using e)
    exact ⟨u, by simpa using h1, h2⟩
theorem Reps.append : ∀ {vs ws : List V} {ds es : List D}, Reps Γ K G vs ds -> Reps Γ K G ws es -> Reps Γ K G (vs ++ ws) (ds ++ es)
  | _, _, _, _, .nil, s => s
  | _, _, _, _, .cons r t, s => .cons r (t.append s)
theorem Reps.take : ∀ {vs : List V} {ds : List D} (n : Nat), Reps Γ K G vs ds -> Reps Γ K G (vs.take n) (ds.take n)
  | _, _, 0, _ => .nil
  | _, _, _ + 1, .nil => .nil
  | _, _, n + 1, .cons r t => .cons r (t.take n)
theorem Reps.drop : ∀ {vs : List V} {ds : List D} (n : Nat), Reps Γ K G vs ds -> Reps Γ K G (vs.drop n) (ds.drop n)
  | _, _, 0, r => r
  | _, _, _ + 1, .nil => .nil
  | _, _, n + 1, .cons _ t => t.drop n
theorem Reps.ints : ∀ (ns : List Int), Reps Γ K G (ns.map V.int) (ns.map D.int)
  | [] => .nil
  | n :: r => .cons (.int n) (Reps.ints r)
theorem Reps.rep {vs : List V} {ds : List D} (h : Reps Γ K G vs ds) : ∀ k : Nat, Reps Γ K G (List.replicate k vs).flatten (List.replicate k ds).flatten
  | 0 => .nil
  | k + 1 => by
    rw [List.replicate_succ, List.replicate_succ, List.flatten_cons, List.flatten_cons]
    exact h.append (Reps.rep h k)
structure Step (G H G' H' : Hp) : Prop where
  hh : zb9 H H'
  gg : zb9 G G'
  gh : zb9 G' H'
  out : ∀ a o, H a = some o -> G' a = G a
theorem Step.refl (gh : zb9 G H) : Step G H G H := ⟨.refl _, .refl _, gh, fun _ _ _ => rfl⟩
theorem Step.trans (a : Step G H G1 H1) (b : Step G1 H1 G2 H2) : Step G H G2 H2 :=
  ⟨a.hh.trans b.hh, a.gg.trans b.gg, b.gh, fun c o e => (b.out c o (a.hh c o e)).trans (a.out c o e)⟩
theorem Step.new {p : Addr} {o : HO} (gh : zb9 G H) (hp : H p = none) : Step G H (upd G p o) (upd H p o) := by
  have gp : G p = none := gh.free hp
  refine ⟨fun b u e => ?_, fun b u e => ?_, fun b u e => ?_, fun b u e => ?_⟩
  · rw [zaB (zat e hp)]; exact e
  · rw [zaB (zat e gp)]; exact e
  · by_cases hb : b = p
    · subst hb; rw [zaH] at e ⊢; exact e
    · rw [zaB hb] at e ⊢; exact gh b u e
  · rw [zaB (zat e hp)]
theorem Step.newOwn {p : Addr} {o : HO} (gh : zb9 G H) (hp : H p = none) : Step G H G (upd H p o) := by
  refine ⟨fun b u e => ?_, .refl _, fun b u e => ?_, fun _ _ _ => rfl⟩
  · rw [zaB (zat e hp)]; exact e
  · rw [zaB (zat (gh b u e) hp)]; exact gh b u e
end
inductive Slot where
  | sh (d : D)
  | own (ds : List D)
  | obj (c : Str) (fs : List (Str × D))
  | objd (c : Str) (fs : List (Str × D)) (n : Str) (kvs : List (Key × D))
  | odk (kvs : List (Key × D))
  | odt (kvs : List (List Key × D))
  | tlo (ds es : List D)
  | pin (a : Addr)
abbrev za2 := List (Option Slot)
def flatD : D -> Bool
  | .non => true
  | .bl _ => true
  | .int _ => true
  | .str _ => true
  | _ => false
inductive SR (Γ : Cn) (K : PySem.W.Frag) (H₀ G H : Hp) : Slot -> V -> List Addr -> Prop where
  | sh {d : D} {v : V} : Rep Γ K G v d -> SR Γ K H₀ G H (.sh d) v []
  | own {a : Addr} {vs : List V} {ds : List D} : H₀ a = none -> G a = none -> H a = some (.lst vs) -> Reps Γ K G vs ds -> SR Γ K H₀ G H (.own ds) (.ref a) [a]
  | obj {c : Str} {a C dx : Addr} {vs : List (Str × V)} {fs : List (Str × D)} : Γ.cls c = some C -> H₀ a = none -> G a = none -> H a = some (.ins C dx vs) -> vs.map (·.1) = fs.map (·.1) -> Reps Γ K G (vs.map (·.2)) (fs.map (·.2)) -> Γ.self = some a -> SR Γ K H₀ G H (.obj c fs) (.ref a) [a]
  | objd {c n : Str} {a C dx p : Addr} {vs : List (Str × V)} {fs : List (Str × D)} {us : List (Key × V)} {kvs : List (Key × D)} : Γ.cls c = some C -> H₀ a = none -> G a = none -> H a = some (.ins C dx (vs ++ [(n, .ref p)])) -> vs.map (·.1) = fs.map (·.1) -> Reps Γ K G (vs.map (·.2)) (fs.map (·.2)) ->
      H₀ p = none -> G p = none -> H p = some (.dK us) -> us.map (·.1) = kvs.map (·.1) -> Reps Γ K G (us.map (·.2)) (kvs.map (·.2)) -> Γ.self = some a -> SR Γ K H₀ G H (.objd c fs n kvs) (.ref a) [a, p]
  | odk {a : Addr} {us : List (Key × V)} {kvs : List (Key × D)} : H₀ a = none -> G a = none -> H a = some (.dK us) -> us.map (·.1) = kvs.map (·.1) -> Reps Γ K G (us.map (·.2)) (kvs.map (·.2)) -> SR Γ K H₀ G H (.odk kvs) (.ref a) [a]
  | odt {a : Addr} {us : List (List Key × V)} {kvs : List (List Key × D)} : H₀ a = none -> G a = none -> H a = some (.dT us) -> us.map (·.1) = kvs.map (·.1) -> Reps Γ K G (us.map (·.2)) (kvs.map (·.2)) -> SR Γ K H₀ G H (.odt kvs) (.ref a) [a]
  | tlo {t p : Addr} {vs ws : List V} {ds es : List D} : H₀ p = none -> G p = none -> H p = some (.lst ws) -> G t = some (.tup (vs ++ [.ref p])) -> Reps Γ K G vs ds -> Reps Γ K G ws es -> SR Γ K H₀ G H (.tlo ds es) (.ref t) [p]
  | pin (a : Addr) : SR Γ K H₀ G H (.pin a) (.ref a) []
section
variable {Γ : Cn} {K : PySem.W.Frag} {H₀ G G' H H' : Hp} {s : Slot} {v : V} {fp : List Addr}
theorem SR.fpt (r : SR Γ K H₀ G H s v fp) : ∀ b ∈ fp, H₀ b = none /\ G b = none /\ ∃ o, H b = some o := by
  cases r with
  | sh r => intro b hb; cases hb
  | own h1 h2 h3 _ => intro b hb; rw [List.mem_singleton.mp hb]; exact ⟨h1, h2, _, h3⟩
  | obj _ h1 h2 h3 _ _ _ => intro b hb; rw [List.mem_singleton.mp hb]; exact ⟨h1, h2, _, h3⟩
  | objd _ h1 h2 h3 _ _ q1 q2 q3 _ _ _ =>
    intro b hb
    rcases List.mem_cons.mp hb with rfl | hb
    · exact ⟨h1, h2, _, h3⟩
    · rw [List.mem_singleton.mp hb]; exact ⟨q1, q2, _, q3⟩
  | odk h1 h2 h3 _ _ => intro b hb; rw [List.mem_singleton.mp hb]; exact ⟨h1, h2, _, h3⟩
  | odt h1 h2 h3 _ _ => intro b hb; rw [List.mem_singleton.mp hb]; exact ⟨h1, h2, _, h3⟩
  | tlo h1 h2 h3 _ _ _ => intro b hb; rw [List.mem_singleton.mp hb]; exact ⟨h1, h2, _, h3⟩
  | pin a => intro b hb; cases hb
theorem SR.stay (r : SR Γ K H₀ G H s v fp) (gg : zb9 G G') (hg : ∀ b ∈ fp, G' b = none) (hh : ∀ b ∈ fp, H' b = H b) : SR Γ K H₀ G' H' s v fp := by
  cases r with
  | sh r => exact .sh (r.mono gg)
  | own h1 h2 h3 h4 => exact .own h1 (hg _ (List.mem_singleton.mpr rfl)) ((hh _ (List.mem_singleton.mpr rfl)).trans h3) (h4.mono gg)
  | obj c h1 h2 h3 h4 h5 hs => exact .obj c h1 (hg _ (List.mem_singleton.mpr rfl)) ((hh _ (List.mem_singleton.mpr rfl)).trans h3) h4 (h5.mono gg) hs
  | objd c h1 h2 h3 h4 h5 q1 q2 q3 q4 q5 hs =>
    exact .objd c h1 (hg _ List.mem_cons_self) ((hh _ List.mem_cons_self).trans h3) h4 (h5.mono gg) q1 (hg _ (List.mem_cons_of_mem _ List.mem_cons_self)) ((hh _ (List.mem_cons_of_mem _ List.mem_cons_self)).trans q3) q4 (q5.mono gg) hs
  | odk h1 h2 h3 h4 h5 => exact .odk h1 (hg _ (List.mem_singleton.mpr rfl)) ((hh _ (List.mem_singleton.mpr rfl)).trans h3) h4 (h5.mono gg)
  | odt h1 h2 h3 h4 h5 => exact .odt h1 (hg _ (List.mem_singleton.mpr rfl)) ((hh _ (List.mem_singleton.mpr rfl)).trans h3) h4 (h5.mono gg)
  | pin a => exact .pin a
  | tlo h1 h2 h3 h4 h5 h6 => exact .tlo h1 (hg _ (List.mem_singleton.mpr rfl)) ((hh _ (List.mem_singleton.mpr rfl)).trans h3) (gg _ _ h4) (h5.mono gg) (h6.mono gg)
theorem SR.stepS (r : SR Γ K H₀ G H s v fp) (t : Step G H G' H') : SR Γ K H₀ G' H' s v fp := r.stay t.gg (fun b hb => by
  obtain ⟨_, h2, o, h3⟩ := r.fpt b hb
  exact (t.out b o h3).trans h2) (fun b hb => by
  obtain ⟨_, _, o, h3⟩ := r.fpt b hb
  rw [h3]; exact t.hh b o h3)
end
theorem SR.uniq {Γ : Cn} {K : PySem.W.Frag} {H₀ G H : Hp} {s : Slot} {v : V} {fp fq : List Addr} (r : SR Γ K H₀ G H s v fp) (q : SR Γ K H₀ G H s v fq) : fp = fq := by
  cases r with
  | sh r => cases q; rfl
  | own h1 h2 h3 _ => cases q; rfl
  | obj _ h1 h2 h3 _ _ _ => cases q; rfl
  | objd _ h1 h2 h3 _ _ q1 q2 q3 _ _ _ =>
    cases q with
    | objd _ _ _ k3 _ _ _ _ _ _ _ _ =>
      rw [h3] at k3
      have z := (HO.ins.inj (Option.some.inj k3)).2.2
      have z2 := (List.append_inj' z rfl).2
      cases z2
      rfl
  | odk h1 h2 h3 _ _ => cases q; rfl
  | odt h1 h2 h3 _ _ => cases q; rfl
  | pin a => cases q; rfl
  | tlo _ _ _ h4 _ _ =>
    cases q with
    | tlo _ _ _ k4 _ _ =>
      rw [h4] at k4
      have z := HO.tup.inj (Option.some.inj k4)
      have z2 := (List.append_inj' z rfl).2
      cases z2
      rfl
structure EnvRel (Γ : Cn) (K : PySem.W.Frag) (H₀ G H : Hp) (ρ : za2) (σ : St) : Prop where
  len : ρ.length = σ.length
  sl : ∃ fps : Nat -> List Addr, (∀ (i : Nat) s, ρ[i]? = some (some s) -> ∃ v, σ[i]? = some (some v) /\ SR Γ K H₀ G H s v (fps i)) /\
    ∀ (i j : Nat) s t, i ≠ j -> ρ[i]? = some (some s) -> ρ[j]? = some (some t) -> ∀ b ∈ fps i, b ∉ fps j
structure At (Γ : Cn) (K : PySem.W.Frag) (G₀ H₀ G H : Hp) (ρ : za2) (σ : St) : Prop where
  st : Step G₀ H₀ G H
  env : EnvRel Γ K H₀ G H ρ σ
def NoOwn (ρ : za2) : Prop := ∀ (i : Nat) s, ρ[i]? = some (some s) -> ∃ d, s = .sh d
section
variable {Γ : Cn} {K : PySem.W.Frag} {G₀ H₀ G G' H H' : Hp} {ρ : za2} {σ : St}
theorem EnvRel.ofSh (len : ρ.length = σ.length) (no : NoOwn ρ) (sh : ∀ (i : Nat) d, ρ[i]? = some (some (.sh d)) -> ∃ v, σ[i]? = some (some v) /\ Rep Γ K G v d) : EnvRel Γ K H₀ G H ρ σ :=
  ⟨len, fun _ => [], fun i s e => by
    obtain ⟨d, rfl⟩ := no i s e
    obtain ⟨v, h1, h2⟩ := sh i d e
    exact ⟨v, h1, .sh h2⟩, fun _ _ _ _ _ _ _ b hb => by cases hb⟩
theorem EnvRel.sh (E : EnvRel Γ K H₀ G H ρ σ) (i : Nat) (d : D) (e : ρ[i]? = some (some (.sh d))) : ∃ v, σ[i]? = some (some v) /\ Rep Γ K G v d := by
  obtain ⟨fps, h, _⟩ := E.sl
  obtain ⟨v, h1, h2⟩ := h i _ e
  generalize fps i = fp at h2
  cases h2 with
  | sh r => exact ⟨v, h1, r⟩
theorem EnvRel.own (E : EnvRel Γ K H₀ G H ρ σ) (i : Nat) (ds : List D) (e : ρ[i]? = some (some (.own ds))) : ∃ a vs, σ[i]? = some (some (.ref a)) /\ H₀ a = none /\ G a = none /\ H a = some (.lst vs) /\ Reps Γ K G vs ds := by
  obtain ⟨fps, h, _⟩ := E.sl
  obtain ⟨v, h1, h2⟩ := h i _ e
  generalize fps i = fp at h2
  cases h2 with
  | own q1 q2 q3 q4 => exact ⟨_, _, h1, q1, q2, q3, q4⟩
theorem At.gh (A : At Γ K G₀ H₀ G H ρ σ) : zb9 G H := A.st.gh
theorem At.step (A : At Γ K G₀ H₀ G H ρ σ) (s : Step G H G' H') : At Γ K G₀ H₀ G' H' ρ σ := by
  obtain ⟨fps, h, ap⟩ := A.env.sl
  exact ⟨A.st.trans s, A.env.len, fps, fun i t e => by
    obtain ⟨v, h1, h2⟩ := h i t e
    exact ⟨v, h1, h2.stepS s⟩, ap⟩
theorem At.put (A : At Γ K G₀ H₀ G H ρ σ) {i : Nat} {s' : Slot} {v' : V} {fp fp' : List Addr}
    (hfp : fp = [] \/ ∃ s v, ρ[i]? = some (some s) /\ σ[i]? = some (some v) /\ SR Γ K H₀ G H s v fp)
    (hH : ∀ b o, H b = some o -> b ∉ fp -> H' b = some o) (hS : SR Γ K H₀ G' H' s' v' fp') (hn : ∀ b ∈ fp', b ∈ fp \/ H b = none)
    (gg : zb9 G G') (gh : zb9 G' H') (out : ∀ b o, H b = some o -> b ∉ fp -> G' b = G b) (out2 : ∀ b ∈ fp, H₀ b = none) : At Γ K G₀ H₀ G' H' (ρ.set i (some s')) (σ.set i (some v')) := by
  obtain ⟨fps, h, ap⟩ := A.env.sl
  have hl := A.env.len
  have old : ∀ b ∈ fp, ∀ j t, j ≠ i -> ρ[j]? = some (some t) -> b ∉ fps j := fun b hb j t hj e => by
    rcases hfp with rfl | ⟨s, v, h1, h2, h3⟩
    · cases hb
    · obtain ⟨v2, h4, h5⟩ := h i s h1
      rw [h2] at h4
      cases h4
      have efp : fp = fps i := h3.uniq h5
      subst efp
      exact ap i j s t (Ne.symm hj) h1 e b hb
  have slj : ∀ (j : Nat) t, j ≠ i -> ρ[j]? = some (some t) -> ∃ v, σ[j]? = some (some v) /\ SR Γ K H₀ G' H' t v (fps j) := fun j t hj e => by
    obtain ⟨v, h1, h2⟩ := h j t e
    refine ⟨v, h1, h2.stay gg (fun b hb => ?_) (fun b hb => ?_)⟩
    · obtain ⟨_, q2, o, q3⟩ := h2.fpt b hb
      exact (out b o q3 fun z => old b z j t hj e hb).trans q2
    · obtain ⟨_, _, o, q3⟩ := h2.fpt b hb
      rw [q3]; exact hH b o q3 fun z => old b z j t hj e hb
  have no2 : ∀ b o, H₀ b = some o -> b ∉ fp := fun b o e z => by rw [out2 b z] at e; cases e
  have hst : Step G₀ H₀ G' H' := ⟨fun b o e => hH b o (A.st.hh b o e) (no2 b o e), A.st.gg.trans gg, gh, fun b o e => (out b o (A.st.hh b o e) (no2 b o e)).trans (A.st.out b o e)⟩
  refine ⟨hst, by simp [hl], fun j => if j = i then fp' else fps j, fun j t e => ?_, fun j k t u hjk e1 e2 b hb => ?_⟩
  · by_cases hj : j = i
    · subst hj
      have hlt : j < ρ.length := by
        rcases Nat.lt_or_ge j ρ.length with q | q
        · exact q
        · rw [List.getElem?_eq_none (by simp; omega)] at e; cases e
      rw [List.getElem?_set_self hlt] at e
      cases e
      show ∃ v, _ /\ SR _ _ _ _ _ _ v (if j = j then fp' else fps j)
      rw [if_pos rfl]
      exact ⟨v', by rw [List.getElem?_set_self (by omega)], hS⟩
    · rw [List.getElem?_set_ne (Ne.symm hj)] at e ⊢
      show ∃ v, _ /\ SR _ _ _ _ _ _ v (if j = i then fp' else fps j)
      rw [if_neg hj]
      exact slj j t hj e
  · have cross : ∀ {k : Nat} {u : Slot}, k ≠ i -> ρ[k]? = some (some u) -> ∀ b ∈ fp', b ∉ fps k := fun {k u} hk e b hb hb2 => by
      rcases hn b hb with z | z
      · exact old b z k u hk e hb2
      · obtain ⟨v, _, q⟩ := h k u e
        obtain ⟨_, _, o, q3⟩ := q.fpt b hb2
        rw [z] at q3; cases q3
    replace hb : b ∈ (if j = i then fp' else fps j) := hb
    show b ∉ (if k = i then fp' else fps k)
    by_cases hj : j = i
    · subst hj
      have hk : k ≠ j := Ne.symm hjk
      rw [if_pos rfl] at hb
      rw [if_neg hk]
      rw [List.getElem?_set_ne hjk] at e2
      exact cross hk e2 b hb
    · rw [if_neg hj] at hb
      rw [List.getElem?_set_ne (Ne.symm hj)] at e1
      by_cases hk : k = i
      · subst hk
        rw [if_pos rfl]
        exact fun z => cross hj e1 b z hb
      · rw [if_neg hk]
        rw [List.getElem?_set_ne (Ne.symm hk)] at e2
        exact ap j k t u hjk e1 e2 b hb
theorem At.setSh (A : At Γ K G₀ H₀ G H ρ σ) {i : Nat} {v : V} {d : D} (r : Rep Γ K G v d) : At Γ K G₀ H₀ G H (ρ.set i (some (.sh d))) (σ.set i (some v)) :=
  A.put (fp := []) (fp' := []) (.inl rfl) (fun b o e _ => e) (.sh r) (fun b hb => by cases hb) (.refl _) A.gh (fun _ _ _ _ => rfl) (fun b hb => by cases hb)
theorem At.setOwn (A : At Γ K G₀ H₀ G H ρ σ) {i : Nat} {a : Addr} {vs : List V} {ds : List D} (ha : H a = none) (r : Reps Γ K G vs ds) : At Γ K G₀ H₀ G (upd H a (.lst vs)) (ρ.set i (some (.own ds))) (σ.set i (some (.ref a))) := by
  have h0 : H₀ a = none := A.st.hh.free ha
  have hg : G a = none := A.gh.free ha
  refine A.put (fp := []) (fp' := [a]) (.inl rfl) (fun b o e _ => by rw [zaB (zat e ha)]; exact e) (.own h0 hg zaH r) (fun b hb => .inr (by rw [List.mem_singleton.mp hb]; exact ha)) (.refl _) (fun b o e => ?_) (fun _ _ _ _ => rfl) (fun b hb => by cases hb)
  rw [zaB (zat e hg)]; exact A.gh b o e
theorem set_get_self {α : Type} {l : List α} {i : Nat} {x : α} (h : l[i]? = some x) : l.set i x = l := by
  apply List.ext_getElem?
  intro j
  by_cases hj : j = i
  · subst hj
    rw [List.getElem?_set_self (List.getElem?_eq_some_iff.mp h).1, h]
  · rw [List.getElem?_set_ne (Ne.symm hj)]
theorem At.ch (A : At Γ K G₀ H₀ G H ρ σ) {i : Nat} {s s' : Slot} {v : V} {fp fp' : List Addr} (hi : ρ[i]? = some (some s)) (hv : σ[i]? = some (some v)) (hs : SR Γ K H₀ G H s v fp)
    (hH : ∀ b o, H b = some o -> b ∉ fp -> H' b = some o) (hS : SR Γ K H₀ G' H' s' v fp') (hn : ∀ b ∈ fp', b ∈ fp \/ H b = none)
    (gg : zb9 G G') (gh : zb9 G' H') (out : ∀ b o, H b = some o -> b ∉ fp -> G' b = G b) : At Γ K G₀ H₀ G' H' (ρ.set i (some s')) σ := by
  have := A.put (i := i) (.inr ⟨s, v, hi, hv, hs⟩) hH hS hn gg gh out fun b hb => (hs.fpt b hb).1
  rwa [set_get_self hv] at this
theorem At.get (A : At Γ K G₀ H₀ G H ρ σ) {i : Nat} {s : Slot} (hi : ρ[i]? = some (some s)) : ∃ v fp, σ[i]? = some (some v) /\ SR Γ K H₀ G H s v fp := by
  obtain ⟨fps, h, _⟩ := A.env.sl
  obtain ⟨v, h1, h2⟩ := h i s hi
  exact ⟨v, _, h1, h2⟩
theorem At.chOwn (A : At Γ K G₀ H₀ G H ρ σ) {i : Nat} {a : Addr} {ds es : List D} {ws : List V} (hi : ρ[i]? = some (some (.own ds))) (ha : σ[i]? = some (some (.ref a))) (r : Reps Γ K G ws es) : At Γ K G₀ H₀ G (upd H a (.lst ws)) (ρ.set i (some (.own es))) σ := by
  obtain ⟨v, fp, h1, h2⟩ := A.get hi
  rw [ha] at h1
  cases h1
  cases h2 with
  | own q1 q2 q3 q4 =>
    refine A.ch hi ha (.own q1 q2 q3 q4) (fun b o e hb => ?_) (.own q1 q2 zaH r) (fun b hb => .inl hb) (.refl _) (fun b o e => ?_) (fun _ _ _ _ => rfl)
    · rw [zaB (fun z => hb (List.mem_singleton.mpr z))]; exact e
    · rw [zaB (zat e q2)]; exact A.gh b o e
theorem At.freeze (A : At Γ K G₀ H₀ G H ρ σ) {i : Nat} {ds : List D} (hi : ρ[i]? = some (some (.own ds))) : ∃ G', zb9 G G' /\ At Γ K G₀ H₀ G' H (ρ.set i (some (.sh (.lst ds)))) σ := by
  obtain ⟨v, fp, h1, h2⟩ := A.get hi
  cases h2 with
  | own q1 q2 q3 q4 =>
    rename_i a vs
    have sm : zb9 G (upd G a (.lst vs)) := fun b o e => by rw [zaB (zat e q2)]; exact e
    refine ⟨upd G a (.lst vs), sm, A.ch hi h1 (.own q1 q2 q3 q4) (fun b o e hb => e) (.sh (.lst zaH (q4.mono sm))) (fun b hb => by cases hb) sm (fun b o e => ?_) (fun b o e hb => ?_)⟩
    · by_cases hb : b = a
      · subst hb; rw [zaH] at e; cases e; exact q3
      · rw [zaB hb] at e; exact A.gh b o e
    · rw [zaB (fun z => hb (List.mem_singleton.mpr z))]
end
end L2
end
section
namespace L2
open PySem PySem.Spec PyProof.Rows
mutual
inductive NewL (H G : Hp) : V -> D -> Prop where
  | flat {v : V} {d : D} : flatD d = true -> NewL H G v d
  | tup {a : Addr} {vs : List V} {ds : List D} : G a = some (.tup vs) -> NewLs H G vs ds -> NewL H G (.ref a) (.tup ds)
  | lst {a : Addr} {vs : List V} {ds : List D} : G a = some (.lst vs) -> H a = none -> NewLs H G vs ds -> NewL H G (.ref a) (.lst ds)
inductive NewLs (H G : Hp) : List V -> List D -> Prop where
  | nil : NewLs H G [] []
  | cons {v : V} {d : D} {vs : List V} {ds : List D} : NewL H G v d -> NewLs H G vs ds -> NewLs H G (v :: vs) (d :: ds)
end
section
variable {H H' G G' : Hp}
mutual
theorem NewL.mono : ∀ {v : V} {d : D}, NewL H G v d -> zb9 G G' -> zb9 H' H -> NewL H' G' v d
  | _, _, .flat h, _, _ => .flat h
  | _, _, .tup h r, s, t => .tup (s _ _ h) (r.mono s t)
  | _, _, .lst h n r, s, t => .lst (s _ _ h) (t.free n) (r.mono s t)
theorem NewLs.mono : ∀ {vs : List V} {ds : List D}, NewLs H G vs ds -> zb9 G G' -> zb9 H' H -> NewLs H' G' vs ds
  | _, _, .nil, _, _ => .nil
  | _, _, .cons h r, s, t => .cons (h.mono s t) (r.mono s t)
end
end
inductive Fl where
  | nx | bk | ct | rt (d : D) | ow (ds : List D) | nw (d : D) | od (kvs : List (Key × D))
abbrev FE := za2 -> Option D
abbrev FT := za2 -> Option Bool
abbrev FA := za2 -> Option (List D)
abbrev FS := za2 -> Option (Fl × za2)
def TD (Γ : Cn) (K : PySem.W.Frag) (f : FE) : TE := fun σ H Q => ∃ G₀ H₀ G ρ d, At Γ K G₀ H₀ G H ρ σ /\ f ρ = some d /\ ∀ v G' H', Step G H G' H' -> Rep Γ K G' v d -> Q v H'
def TDt (Γ : Cn) (K : PySem.W.Frag) (f : FT) : TT := fun σ H Q => ∃ G₀ H₀ G ρ b, At Γ K G₀ H₀ G H ρ σ /\ f ρ = some b /\ ∀ G' H', Step G H G' H' -> Q b H'
def TDa (Γ : Cn) (K : PySem.W.Frag) (f : FA) : TA := fun σ H Q => ∃ G₀ H₀ G ρ ds, At Γ K G₀ H₀ G H ρ σ /\ f ρ = some ds /\ ∀ vs G' H', Step G H G' H' -> Reps Γ K G' vs ds -> Q vs H'
def Cont (Γ : Cn) (K : PySem.W.Frag) (E : Ends) (H₀ G' H' : Hp) (σ' : St) : Fl -> Prop
  | .nx => E.nx σ' H'
  | .bk => E.bk σ' H'
  | .ct => E.ct σ' H'
  | .rt d => ∀ v, Rep Γ K G' v d -> E.rt v H'
  | .ow ds => ∀ p vs, H₀ p = none -> G' p = none -> H' p = some (.lst vs) -> Reps Γ K G' vs ds -> E.rt (.ref p) H'
  | .nw d => ∀ v, Rep Γ K G' v d -> NewL H₀ G' v d -> E.rt v H'
  | .od kvs => ∀ p us, H₀ p = none -> G' p = none -> H' p = some (.dK us) -> us.map (·.1) = kvs.map (·.1) -> Reps Γ K G' (us.map (·.2)) (kvs.map (·.2)) -> E.rt (.ref p) H'
def TDs (Γ : Cn) (K : PySem.W.Frag) (g : FS) : TS := fun E σ H => ∃ G₀ H₀ G ρ fl ρ', At Γ K G₀ H₀ G H ρ σ /\ g ρ = some (fl, ρ') /\ ∀ σ' G' H', zb9 G G' -> At Γ K G₀ H₀ G' H' ρ' σ' -> Cont Γ K E H₀ G' H' σ' fl
def TDo (Γ : Cn) (K : PySem.W.Frag) (f : FA) : TE := fun σ H Q => ∃ G₀ H₀ G ρ ds, At Γ K G₀ H₀ G H ρ σ /\ f ρ = some ds /\ ∀ p vs G' H', Step G H G' H' -> H' p = none -> Reps Γ K G' vs ds -> Q (.ref p) (upd H' p (.lst vs))
structure DE (Γ : Cn) (X : Cx) (e : Expr) (f : FE) : Prop where
  out : PE X e (TD Γ X.K f)
structure DT (Γ : Cn) (X : Cx) (e : Expr) (f : FT) : Prop where
  out : PT X e (TDt Γ X.K f)
structure DW (Γ : Cn) (X : Cx) (e : Expr) (f : FT) : Prop where
  out : PW X e (TDt Γ X.K f)
structure DA (Γ : Cn) (X : Cx) (es : List Expr) (f : FA) : Prop where
  out : PA X es (TDa Γ X.K f)
structure DS (Γ : Cn) (X : Cx) (st : Stmt) (g : FS) : Prop where
  out : PS X st (TDs Γ X.K g)
structure DSs (Γ : Cn) (X : Cx) (st : List Stmt) (g : FS) : Prop where
  out : PSs X st (TDs Γ X.K g)
structure DO (Γ : Cn) (X : Cx) (e : Expr) (f : FA) : Prop where
  out : PE X e (TDo Γ X.K f)
section
variable {Γ : Cn} {X : Cx} {a b c e : Expr} {es : List Expr} {fa fb fc f : FE} {pos : Pos}
theorem PE.imp {t t' : TE} (h : PE X e t) (i : ∀ σ H Q, t' σ H Q -> t σ H Q) : PE X e t' := fun pins s σ H Q I q => h pins s σ H Q I (i _ _ _ q)
theorem PT.imp {t t' : TT} (h : PT X e t) (i : ∀ σ H Q, t' σ H Q -> t σ H Q) : PT X e t' := fun pins s σ H Q I q => h pins s σ H Q I (i _ _ _ q)
theorem PW.imp {t t' : TT} (h : PW X e t) (i : ∀ σ H Q, t' σ H Q -> t σ H Q) : PW X e t' := fun wh pins s σ H Q I q => h wh pins s σ H Q I (i _ _ _ q)
theorem PA.imp {t t' : TA} (h : PA X es t) (i : ∀ σ H Q, t' σ H Q -> t σ H Q) : PA X es t' := fun p pins s σ H Q I q => h p pins s σ H Q I (i _ _ _ q)
theorem PS.imp {st : Stmt} {t t' : TS} (h : PS X st t) (i : ∀ E σ H, t' E σ H -> t E σ H) : PS X st t' := fun pins s σ H E I q => h pins s σ H E I (i _ _ _ q)
theorem PSs.imp {st : List Stmt} {t t' : TS} (h : PSs X st t) (i : ∀ E σ H, t' E σ H -> t E σ H) : PSs X st t' := fun pins s σ H E I q => h pins s σ H E I (i _ _ _ q)
def vSh (i : Nat) : FE := fun ρ => match ρ[i]? with
  | some (some (.sh d)) => some d
  | _ => none
theorem vSh_some {i : Nat} {ρ : za2} {d : D} (h : vSh i ρ = some d) : ρ[i]? = some (some (.sh d)) := by
  unfold vSh at h
  split at h
  · rename_i e; cases h; exact e
  · cases h
theorem zac (i : Nat) {x : Str} (hN : X.N[i]? = some x := by rfl) (hv : Vis X.env.scope x := by first | exact Or.inl rfl | exact Or.inr (Or.inl rfl) | exact Or.inr (Or.inr rfl)) (hd : (x == ("__debug__" : Str)) = false := by decide)
    (hcd : (x == ("__classdict__" : Str)) = false := by decide) : DE Γ X (.Name x pos) (vSh i) := ⟨(pe_var hN hv hd hcd).imp fun σ H Q ⟨G₀, H₀, G, ρ, d, A, h, k⟩ => by
  obtain ⟨v, h1, h2⟩ := A.env.sh i d (vSh_some h)
  exact ⟨v, h1, k v G H (.refl A.gh) h2⟩⟩
def vC (d : D) : FE := fun _ => some d
theorem TD.const {d : D} {v : V} (r : ∀ G, Rep Γ X.K G v d) (h : PE X e (tC v)) : DE Γ X e (vC d) := ⟨h.imp fun σ H Q ⟨G₀, H₀, G, ρ, d', A, h, k⟩ => by
  cases h
  exact k v G H (.refl A.gh) (r G)⟩
theorem zad {i j} : DE Γ X (.Constant (.int i) j pos) (vC (.int i)) := TD.const (fun _ => .int i) pe_int
theorem zdl {i j} : DE Γ X (.Constant (.bool i) j pos) (vC (.bl i)) := TD.const (fun _ => .bl i) pe_bl
theorem de_non {j} : DE Γ X (.Constant .none j pos) (vC .non) := TD.const (fun _ => .non) pe_non
theorem zc1 {i j} : DE Γ X (.Constant (.str i) j pos) (vC (.str i)) := TD.const (fun _ => .str i) pe_str
theorem zb7 {x : Str} {i : Int} {t : Tok} (hg : Gl X x) (hm : X.mg x = some (.int i t)) (hd : (x == ("__debug__" : Str)) = false := by decide) : DE Γ X (.Name x pos) (vC (.int i)) := TD.const (fun _ => .int i) (pe_glob hg hm ⟨t, rfl⟩ hd)
def b2 (g : D -> D -> Option D) (fa fb : FE) : FE := fun ρ => (fa ρ).bind fun x => (fb ρ).bind fun y => g x y
def b1 (g : D -> Option D) (fa : FE) : FE := fun ρ => (fa ρ).bind g
def Does (Γ : Cn) (K : PySem.W.Frag) (g : D -> D -> Option D) (r : R2) : Prop :=
  ∀ {G H v u x y z}, zb9 G H -> Rep Γ K G v x -> Rep Γ K G u y -> g x y = some z -> ∀ Q : VK, (∀ w G' H', Step G H G' H' -> Rep Γ K G' w z -> Q w H') -> r v u H Q
theorem TD.two {g : D -> D -> Option D} {r : R2} (hr : Does Γ X.K g r) : ∀ σ H Q, TD Γ X.K (b2 g fa fb) σ H Q -> tOp r (TD Γ X.K fa) (TD Γ X.K fb) σ H Q := by
  rintro σ H Q ⟨G₀, H₀, G, ρ, d, A, h, k⟩
  unfold b2 at h
  cases ha : fa ρ with
  | none => rw [ha] at h; cases h
  | some x =>
    cases hb : fb ρ with
    | none => rw [ha] at h; simp only [Option.bind_some, hb, Option.bind_none] at h; cases h
    | some y =>
      simp only [ha, hb, Option.bind_some] at h
      refine ⟨G₀, H₀, G, ρ, x, A, ha, fun v G1 H1 s1 r1 => ⟨G₀, H₀, G1, ρ, y, A.step s1, hb, fun u G2 H2 s2 r2 => ?_⟩⟩
      exact hr s2.gh (r1.mono s2.gg) r2 h Q fun w G' H' s r => k w G' H' ((s1.trans s2).trans s) r
theorem de_op {op : Operator} {g : D -> D -> Option D} {r : R2} (ho : OpR X (binaryOp op) r) (hr : Does Γ X.K g r) (ha : DE Γ X a fa) (hb : DE Γ X b fb) : DE Γ X (.BinOp a op b pos) (b2 g fa fb) := ⟨(pe_op ho ha.1 hb.1).imp (TD.two hr)⟩
def zbo : D -> D -> Option D
  | .int i, .int j => some (.int (i + j))
  | .str x, .str y => if x.length + y.length <= sizeLine then some (.str (x ++ y)) else none
  | .lst x, .lst y => if x.length + y.length <= sizeLine then some (.lst (x ++ y)) else none
  | _, _ => none
def subD : D -> D -> Option D
  | .int i, .int j => some (.int (i - j))
  | _, _ => none
def repS (x : Str) (n : Nat) : Str := ⟨(List.replicate n x.cps.toList).flatten.toArray⟩
def mulD : D -> D -> Option D
  | .int i, .int j => if (-(2 ^ 64) < i /\ i < 2 ^ 64) \/ (-(2 ^ 64) < j /\ j < 2 ^ 64) then some (.int (i * j)) else none
  | .lst x, .int j => if -(2 ^ 63) <= j /\ j < 2 ^ 63 /\ x.length * j.toNat <= sizeLine then some (.lst (List.replicate j.toNat x).flatten) else none
  | .str x, .int j => if 0 <= j /\ j < 1000 /\ x.length < 1000 then some (.str (repS x j.toNat)) else none
  | _, _ => none
def fdivD : D -> D -> Option D
  | .int i, .int j => if 0 < j /\ j < 1073741824 then some (.int (i / j)) else none
  | _, _ => none
def zcj : D -> D -> Option D
  | .int i, .int j => if 0 < j then some (.int (i % j)) else none
  | _, _ => none
def powD : D -> D -> Option D
  | .int i, .int j => if 0 <= j /\ j <= 1000000 /\ i.natAbs < 2 ^ 64 then some (.int (i ^ j.toNat)) else none
  | _, _ => none
theorem Rep.int_inv {K : PySem.W.Frag} {G : Hp} {v : V} {i : Int} (r : Rep Γ K G v (.int i)) : v = .int i := by cases r; rfl
theorem Rep.str_inv {K : PySem.W.Frag} {G : Hp} {v : V} {i : Str} (r : Rep Γ K G v (.str i)) : v = .str i := by cases r; rfl
theorem Rep.bl_inv {K : PySem.W.Frag} {G : Hp} {v : V} {i : Bool} (r : Rep Γ K G v (.bl i)) : v = .bl i := by cases r; rfl
theorem Rep.lst_inv {K : PySem.W.Frag} {G : Hp} {v : V} {ds : List D} (r : Rep Γ K G v (.lst ds)) : ∃ a vs, v = .ref a /\ G a = some (.lst vs) /\ Reps Γ K G vs ds := by cases r; exact ⟨_, _, rfl, by assumption, by assumption⟩
theorem Rep.tup_inv {K : PySem.W.Frag} {G : Hp} {v : V} {ds : List D} (r : Rep Γ K G v (.tup ds)) : ∃ a vs, v = .ref a /\ G a = some (.tup vs) /\ Reps Γ K G vs ds := by cases r; exact ⟨_, _, rfl, by assumption, by assumption⟩
theorem Rep.scr_inv {K : PySem.W.Frag} {G : Hp} {v : V} {ns : List Int} (r : Rep Γ K G v (.scr ns)) : ∃ a, v = .ref a /\ SqL K G a (ns.map V.int) := by cases r; exact ⟨_, rfl, by assumption⟩
theorem new_lst {K : PySem.W.Frag} {G H : Hp} {vs : List V} {ds : List D} {Q : VK} (gh : zb9 G H) (r : Reps Γ K G vs ds) (k : ∀ w G' H', Step G H G' H' -> Rep Γ K G' w (.lst ds) -> Q w H') : ∀ p, H p = none -> Q (.ref p) (upd H p (.lst vs)) := fun p hp => by
  have s := Step.new (o := .lst vs) gh hp
  exact k _ _ _ s (.lst zaH (r.mono s.gg))
theorem new_tup {K : PySem.W.Frag} {G H : Hp} {vs : List V} {ds : List D} {Q : VK} (gh : zb9 G H) (r : Reps Γ K G vs ds) (k : ∀ w G' H', Step G H G' H' -> Rep Γ K G' w (.tup ds) -> Q w H') : ∀ p, H p = none -> Q (.ref p) (upd H p (.tup vs)) := fun p hp => by
  have s := Step.new (o := .tup vs) gh hp
  exact k _ _ _ s (.tup zaH (r.mono s.gg))
theorem does_add {K : PySem.W.Frag} : Does Γ K zbo (fun x y H Q => (rI0 (fun i j => V.int (i + j)) x y H Q \/ (∃ i j, x = .str i /\ y = .str j /\ i.length + j.length <= sizeLine /\ Q (.str (i ++ j)) H)) \/ rCat x y H Q) := by
  intro G H v u x y z gh r1 r2 h Q k
  unfold zbo at h
  split at h
  · cases h
    cases r1.int_inv; cases r2.int_inv
    exact .inl (.inl ⟨_, _, rfl, rfl, k _ G H (.refl gh) (.int _)⟩)
  · split at h
    · cases h
      cases r1.str_inv; cases r2.str_inv
      exact .inl (.inr ⟨_, _, rfl, rfl, by assumption, k _ G H (.refl gh) (.str _)⟩)
    · cases h
  · split at h
    · rename_i hz
      cases h
      obtain ⟨a, vs, rfl, ha, ra⟩ := r1.lst_inv
      obtain ⟨b, us, rfl, hb, rb⟩ := r2.lst_inv
      exact .inr ⟨a, b, vs, us, rfl, rfl, gh _ _ ha, gh _ _ hb, by rw [ra.length, rb.length]; exact hz, new_lst gh (ra.append rb) k⟩
    · cases h
  · cases h
theorem op_addA : OpR X (binaryOp .Add) (fun x y H Q => (rI0 (fun i j => V.int (i + j)) x y H Q \/ (∃ i j, x = .str i /\ y = .str j /\ i.length + j.length <= sizeLine /\ Q (.str (i ++ j)) H)) \/ rCat x y H Q) := (op_add.or op_add_str).or op_cat
theorem za8 (ha : DE Γ X a fa) (hb : DE Γ X b fb) : DE Γ X (.BinOp a .Add b pos) (b2 zbo fa fb) := de_op op_addA does_add ha hb
theorem does_int0 {K : PySem.W.Frag} {g : D -> D -> Option D} {o : Int -> Int -> Int} (hg : ∀ x y z, g x y = some z -> ∃ i j, x = .int i /\ y = .int j /\ z = .int (o i j)) : Does Γ K g (rI0 fun i j => V.int (o i j)) := by
  intro G H v u x y z gh r1 r2 h Q k
  obtain ⟨i, j, rfl, rfl, rfl⟩ := hg x y z h
  cases r1.int_inv; cases r2.int_inv
  exact ⟨_, _, rfl, rfl, k _ G H (.refl gh) (.int _)⟩
theorem does_intC {K : PySem.W.Frag} {g : D -> D -> Option D} {C : Int -> Int -> Prop} {o : Int -> Int -> Int} (hg : ∀ x y z, g x y = some z -> ∃ i j, x = .int i /\ y = .int j /\ C i j /\ z = .int (o i j)) : Does Γ K g (rI C fun i j => V.int (o i j)) := by
  intro G H v u x y z gh r1 r2 h Q k
  obtain ⟨i, j, rfl, rfl, hc, rfl⟩ := hg x y z h
  cases r1.int_inv; cases r2.int_inv
  exact ⟨_, _, rfl, rfl, hc, k _ G H (.refl gh) (.int _)⟩
theorem de_sub (ha : DE Γ X a fa) (hb : DE Γ X b fb) : DE Γ X (.BinOp a .Sub b pos) (b2 subD fa fb) := de_op op_sub (does_int0 fun x y z h => by
  unfold subD at h; split at h <;> cases h; exact ⟨_, _, rfl, rfl, rfl⟩) ha hb
theorem de_fdiv (ha : DE Γ X a fa) (hb : DE Γ X b fb) : DE Γ X (.BinOp a .FloorDiv b pos) (b2 fdivD fa fb) := de_op op_fdiv (does_intC fun x y z h => by
  unfold fdivD at h; split at h
  · split at h <;> cases h; exact ⟨_, _, rfl, rfl, by assumption, rfl⟩
  · cases h) ha hb
theorem zbJ (ha : DE Γ X a fa) (hb : DE Γ X b fb) : DE Γ X (.BinOp a .Mod b pos) (b2 zcj fa fb) := de_op op_mod (does_intC fun x y z h => by
  unfold zcj at h; split at h
  · split at h <;> cases h; exact ⟨_, _, rfl, rfl, by assumption, rfl⟩
  · cases h) ha hb
theorem de_pow (ha : DE Γ X a fa) (hb : DE Γ X b fb) : DE Γ X (.BinOp a .Pow b pos) (b2 powD fa fb) := de_op op_pow (does_intC fun x y z h => by
  unfold powD at h; split at h
  · split at h <;> cases h; exact ⟨_, _, rfl, rfl, by assumption, rfl⟩
  · cases h) ha hb
theorem fold_rep (a : Array Nat) : ∀ (k : Nat) (acc : List Nat), (List.replicate k a).foldl (· ++ ·) acc.toArray = (acc ++ (List.replicate k a.toList).flatten).toArray
  | 0, acc => by simp
  | k + 1, acc => by
    rw [List.replicate_succ, List.foldl_cons, List.replicate_succ, List.flatten_cons, ← List.append_assoc, ← fold_rep a k (acc ++ a.toList)]
    congr 1
    simp
def rMulS : R2 := fun x y H Q => ∃ z n, x = .str z /\ y = .int n /\ 0 <= n /\ n < 1000 /\ z.length < 1000 /\ Q (.str (repS z n.toNat)) H
theorem op_mulS : OpR X (binaryOp .Mult) rMulS := by
  intro pins s σ H x y v u Q I rx ry h
  obtain ⟨z, n, rfl, rfl, h0, h1, h2, q⟩ := h
  obtain ⟨t, rfl⟩ := rx
  obtain ⟨t', rfl⟩ := ry
  have hl : z.length * n.toNat <= 1000000 := Nat.le_trans (Nat.mul_le_mul (Nat.le_of_lt h2) (show n.toNat <= 1000 by omega)) (by decide)
  have e0 : (List.replicate n.toNat z.cps).foldl (· ++ ·) #[] = (repS z n.toNat).cps := by
    have := fold_rep z.cps n.toNat []
    simpa [repS] using this
  refine PySem.P.mul_str ?_ (fun h _ => ?_) (fun _ _ => ?_) ?_
  · rw [decide_eq_false (by omega), decide_eq_false (by omega)]; rfl
  · have e : (z.length : Int) * n = ((z.length * n.toNat : Nat) : Int) := by rw [Int.natCast_mul]; congr 1; omega
    have : (z.length : Int) <= (2 ^ 63 - 1 : Int) / n := Int.le_ediv_of_mul_le (by omega) (by rw [e]; omega)
    omega
  · unfold Builtin.Str.tooLong
    exact decide_eq_false (by have := sizeLine_eq; omega)
  · split
    · have : n = 0 := by omega
      subst this
      exact ⟨by decide, ⟨.str _, H, I.tok _, ⟨_, rfl⟩, by simpa [repS, Str.empty] using q⟩⟩
    · split
      · rename_i hc
        have ez : repS z n.toNat = z := by
          rcases Bool.or_eq_true _ _ ▸ hc with e | e
          · have : n = 1 := by simpa using e
            subst this
            simp [repS]
          · have hz : z.cps = #[] := by
              have : z.cps.size = 0 := by simpa [Str.length] using e
              exact Array.eq_empty_of_size_eq_zero this
            cases z
            simp only at hz
            subst hz
            simp [repS]
        exact ⟨.str _, H, I, ⟨_, rfl⟩, by rw [← ez]; exact q⟩
      · rw [e0]
        refine ⟨?_, ⟨.str _, H, I.tok _, ⟨_, rfl⟩, q⟩⟩
        have e1 : (repS z n.toNat).length = n.toNat * z.length := by
          show (List.replicate n.toNat z.cps.toList).flatten.toArray.size = _
          rw [List.size_toArray, len_rep]
          simp [Str.length]
        show (repS z n.toNat).length <= sizeLine
        rw [e1, Nat.mul_comm]
        have := sizeLine_eq
        omega
theorem does_mul {K : PySem.W.Frag} : Does Γ K mulD (fun x y H Q => (rI CMul (fun i j => V.int (i * j)) x y H Q \/ rRep x y H Q) \/ rMulS x y H Q) := by
  intro G H v u x y z gh r1 r2 h Q k
  unfold mulD at h
  split at h
  · split at h
    · cases h
      cases r1.int_inv; cases r2.int_inv
      exact .inl (.inl ⟨_, _, rfl, rfl, by assumption, k _ G H (.refl gh) (.int _)⟩)
    · cases h
  · split at h
    · rename_i hz
      cases h
      obtain ⟨a, vs, rfl, ha, ra⟩ := r1.lst_inv
      cases r2.int_inv
      exact .inl (.inr ⟨a, _, vs, rfl, rfl, gh _ _ ha, hz.1, hz.2.1, by rw [ra.length]; exact hz.2.2, new_lst gh (ra.rep _) k⟩)
    · cases h
  · split at h
    · rename_i hz
      cases h
      cases r1.str_inv
      cases r2.int_inv
      exact .inr ⟨_, _, rfl, rfl, hz.1, hz.2.1, hz.2.2, k _ G H (.refl gh) (.str _)⟩
    · cases h
  · cases h
theorem de_mul (ha : DE Γ X a fa) (hb : DE Γ X b fb) : DE Γ X (.BinOp a .Mult b pos) (b2 mulD fa fb) := de_op ((op_mul.or op_rep).or op_mulS) does_mul ha hb
end
end L2
end
section
namespace L2
open PySem PySem.Spec PyProof.Rows
section
variable {Γ : Cn} {X : Cx} {a b c e : Expr} {es : List Expr} {fa fb fc f : FE} {pos : Pos}
theorem Rep.non_inv {K : PySem.W.Frag} {G : Hp} {v : V} (r : Rep Γ K G v .non) : v = .non := by cases r; rfl
def ltS (x y : Str) : Bool := decide (x.cps.toList < y.cps.toList)
def ltD : D -> D -> Option D
  | .int i, .int j => some (.bl (decide (i < j)))
  | .str x, .str y => some (.bl (ltS x y))
  | _, _ => none
def leD : D -> D -> Option D
  | .int i, .int j => some (.bl (decide (i <= j)))
  | .str x, .str y => some (.bl (!ltS y x))
  | _, _ => none
def gtD : D -> D -> Option D
  | .int i, .int j => some (.bl (decide (j < i)))
  | _, _ => none
def eqS : D -> D -> Option Bool
  | .int i, .int j => some (decide (i = j))
  | .bl i, .bl j => some (decide (i = j))
  | .str i, .str j => some (decide (i = j))
  | .non, .non => some true
  | .non, .int _ => some false | .int _, .non => some false | .non, .bl _ => some false | .bl _, .non => some false | .non, .str _ => some false | .str _, .non => some false
  | .int _, .str _ => some false | .str _, .int _ => some false | .bl _, .str _ => some false | .str _, .bl _ => some false
  | _, _ => none
def eqD (x y : D) : Option D := (eqS x y).map D.bl
def neD (x y : D) : Option D := (eqS x y).map fun b => D.bl (!b)
theorem eqS_ok {K : PySem.W.Frag} {G : Hp} {v u : V} {x y : D} {k : Bool} (r1 : Rep Γ K G v x) (r2 : Rep Γ K G u y) (h : eqS x y = some k) : scal v u = true /\ decide (v = u) = k := by
  unfold eqS at h
  split at h <;> cases h
  · cases r1.int_inv; cases r2.int_inv; exact ⟨rfl, by simp⟩
  · cases r1.bl_inv; cases r2.bl_inv; exact ⟨rfl, by simp⟩
  · cases r1.str_inv; cases r2.str_inv; exact ⟨rfl, by simp⟩
  · cases r1.non_inv; cases r2.non_inv; exact ⟨rfl, by simp⟩
  · cases r1.non_inv; cases r2.int_inv; exact ⟨rfl, by simp⟩
  · cases r1.int_inv; cases r2.non_inv; exact ⟨rfl, by simp⟩
  · cases r1.non_inv; cases r2.bl_inv; exact ⟨rfl, by simp⟩
  · cases r1.bl_inv; cases r2.non_inv; exact ⟨rfl, by simp⟩
  · cases r1.non_inv; cases r2.str_inv; exact ⟨rfl, by simp⟩
  · cases r1.str_inv; cases r2.non_inv; exact ⟨rfl, by simp⟩
  · cases r1.int_inv; cases r2.str_inv; exact ⟨rfl, by simp⟩
  · cases r1.str_inv; cases r2.int_inv; exact ⟨rfl, by simp⟩
  · cases r1.bl_inv; cases r2.str_inv; exact ⟨rfl, by simp⟩
  · cases r1.str_inv; cases r2.bl_inv; exact ⟨rfl, by simp⟩
theorem does_eq {K : PySem.W.Frag} : Does Γ K eqD rEq := by
  intro G H v u x y z gh r1 r2 h Q k
  unfold eqD at h
  cases e : eqS x y with
  | none => rw [e] at h; cases h
  | some b =>
    rw [e] at h
    cases h
    obtain ⟨h1, h2⟩ := eqS_ok r1 r2 e
    exact ⟨h1, by rw [h2]; exact k _ G H (.refl gh) (.bl _)⟩
theorem does_ne {K : PySem.W.Frag} : Does Γ K neD rNe := by
  intro G H v u x y z gh r1 r2 h Q k
  unfold neD at h
  cases e : eqS x y with
  | none => rw [e] at h; cases h
  | some b =>
    rw [e] at h
    cases h
    obtain ⟨h1, h2⟩ := eqS_ok r1 r2 e
    exact ⟨h1, by rw [h2]; exact k _ G H (.refl gh) (.bl _)⟩
theorem does_intB {K : PySem.W.Frag} {g : D -> D -> Option D} {o : Int -> Int -> Bool} (hg : ∀ x y z, g x y = some z -> ∃ i j, x = .int i /\ y = .int j /\ z = .bl (o i j)) : Does Γ K g (rI0 fun i j => V.bl (o i j)) := by
  intro G H v u x y z gh r1 r2 h Q k
  obtain ⟨i, j, rfl, rfl, rfl⟩ := hg x y z h
  cases r1.int_inv; cases r2.int_inv
  exact ⟨_, _, rfl, rfl, k _ G H (.refl gh) (.bl _)⟩
theorem op_le_str : OpR X (compareOp .LtE) (fun x y H Q => ∃ i j, x = .str i /\ y = .str j /\ Q (.bl (!ltS j i)) H) := by
  intro pins s σ H x y v u Q I rx ry h
  obtain ⟨i, j, rfl, rfl, q⟩ := h
  obtain ⟨t, rfl⟩ := rx
  obtain ⟨t', rfl⟩ := ry
  exact PySem.P.le_str (za9 I q (by simp [ltS]))
theorem does_lt {K : PySem.W.Frag} : Does Γ K ltD (fun x y H Q => rI0 (fun i j => V.bl (decide (i < j))) x y H Q \/ ∃ i j, x = .str i /\ y = .str j /\ Q (.bl (decide (i.cps.toList < j.cps.toList))) H) := by
  intro G H v u x y z gh r1 r2 h Q k
  unfold ltD at h
  split at h <;> cases h
  · cases r1.int_inv; cases r2.int_inv; exact .inl ⟨_, _, rfl, rfl, k _ G H (.refl gh) (.bl _)⟩
  · cases r1.str_inv; cases r2.str_inv; exact .inr ⟨_, _, rfl, rfl, k _ G H (.refl gh) (.bl _)⟩
theorem does_le {K : PySem.W.Frag} : Does Γ K leD (fun x y H Q => rI0 (fun i j => V.bl (decide (i <= j))) x y H Q \/ ∃ i j, x = .str i /\ y = .str j /\ Q (.bl (!ltS j i)) H) := by
  intro G H v u x y z gh r1 r2 h Q k
  unfold leD at h
  split at h <;> cases h
  · cases r1.int_inv; cases r2.int_inv; exact .inl ⟨_, _, rfl, rfl, k _ G H (.refl gh) (.bl _)⟩
  · cases r1.str_inv; cases r2.str_inv; exact .inr ⟨_, _, rfl, rfl, k _ G H (.refl gh) (.bl _)⟩
structure CmpD (Γ : Cn) (X : Cx) (op : CmpOp) (g : D -> D -> Option D) : Prop where
  ex : ∃ r, OpR X (compareOp op) r /\ Does Γ X.K g r
theorem cd_lt : CmpD Γ X .Lt ltD := ⟨_, op_lt.or op_lt_str, does_lt⟩
theorem cd_le : CmpD Γ X .LtE leD := ⟨_, op_le.or op_le_str, does_le⟩
theorem cd_gt : CmpD Γ X .Gt gtD := ⟨_, op_gt, does_intB fun x y z h => by unfold gtD at h; split at h <;> cases h; exact ⟨_, _, rfl, rfl, rfl⟩⟩
theorem cd_eq : CmpD Γ X .Eq eqD := ⟨_, op_eq, does_eq⟩
theorem cd_ne : CmpD Γ X .NotEq neD := ⟨_, op_ne, does_ne⟩
theorem zcD {op : CmpOp} {g : D -> D -> Option D} (h : CmpD Γ X op g) (ha : DE Γ X a fa) (hb : DE Γ X b fb) (hm : behindInMarks op b = false) : DE Γ X (.Compare a [op] [b] pos) (b2 g fa fb) := ⟨by
  obtain ⟨r, ho, hr⟩ := h.ex
  exact (pe_cmpR ho ha.1 hb.1 hm).imp (TD.two hr)⟩
def chD (g g' : D -> D -> Option D) (fa fb fc : FE) : FE := fun ρ => (fa ρ).bind fun x => (fb ρ).bind fun y => (g x y).bind fun z => match z with
  | .bl true => (fc ρ).bind fun w => g' y w
  | .bl false => some (.bl false)
  | _ => none
theorem TD.chain {g g' : D -> D -> Option D} {r r' : R2} (hr : Does Γ X.K g r) (hr' : Does Γ X.K g' r') : ∀ σ H Q, TD Γ X.K (chD g g' fa fb fc) σ H Q -> tChain r r' (TD Γ X.K fa) (TD Γ X.K fb) (TD Γ X.K fc) σ H Q := by
  rintro σ H Q ⟨G₀, H₀, G, ρ, d, A, h, k⟩
  unfold chD at h
  obtain ⟨x, ha, h⟩ := Option.bind_eq_some_iff.mp h
  obtain ⟨y, hb, h⟩ := Option.bind_eq_some_iff.mp h
  obtain ⟨z, hz, h⟩ := Option.bind_eq_some_iff.mp h
  refine ⟨G₀, H₀, G, ρ, x, A, ha, fun v G1 H1 s1 r1 => ⟨G₀, H₀, G1, ρ, y, A.step s1, hb, fun u G2 H2 s2 r2 => ?_⟩⟩
  refine hr s2.gh (r1.mono s2.gg) r2 hz _ fun w G3 H3 s3 r3 => ?_
  split at h
  · cases r3.bl_inv
    obtain ⟨w, hc, h⟩ := Option.bind_eq_some_iff.mp h
    refine ⟨true, rfl, iteT ⟨G₀, H₀, G3, ρ, w, ((A.step s1).step s2).step s3, hc, fun q G4 H4 s4 r4 => ?_⟩⟩
    exact hr' s4.gh ((r2.mono s3.gg).mono s4.gg) r4 h Q fun w' G' H' s r => k w' G' H' ((((s1.trans s2).trans s3).trans s4).trans s) r
  · cases r3.bl_inv
    cases h
    exact ⟨false, rfl, iteF (k _ G3 H3 ((s1.trans s2).trans s3) (.bl _))⟩
  · cases h
theorem de_chain {op op' : CmpOp} {g g' : D -> D -> Option D} (h : CmpD Γ X op g) (h' : CmpD Γ X op' g') (ha : DE Γ X a fa) (hb : DE Γ X b fb) (hc : DE Γ X c fc) (hm : lastMarks [op, op'] [b, c] = false := by with_unfolding_all rfl) :
    DE Γ X (.Compare a [op, op'] [b, c] pos) (chD g g' fa fb fc) := ⟨by
  obtain ⟨r, ho, hr⟩ := h.ex
  obtain ⟨r', ho', hr'⟩ := h'.ex
  exact (pe_chain ho ho' ha.1 hb.1 hc.1 hm).imp (TD.chain hr hr')⟩
def toB (f : FE) : FT := fun ρ => (f ρ).bind fun d => match d with
  | .bl b => some b
  | _ => none
theorem TDt.val {f : FE} : ∀ σ H Q, TDt Γ X.K (toB f) σ H Q -> TD Γ X.K f σ H fun x H' => ∃ k, x = .bl k /\ Q k H' := by
  rintro σ H Q ⟨G₀, H₀, G, ρ, b, A, h, k⟩
  unfold toB at h
  obtain ⟨d, hd, h⟩ := Option.bind_eq_some_iff.mp h
  split at h <;> cases h
  exact ⟨G₀, H₀, G, ρ, _, A, hd, fun v G' H' s r => ⟨b, r.bl_inv, k G' H' s⟩⟩
theorem zct {op : CmpOp} {g : D -> D -> Option D} (h : CmpD Γ X op g) (ha : DE Γ X a fa) (hb : DE Γ X b fb) (hm : behindInMarks op b = false) : DT Γ X (.Compare a [op] [b] pos) (toB (b2 g fa fb)) := ⟨by
  obtain ⟨r, ho, hr⟩ := h.ex
  exact (pt_cmpR ho ha.1 hb.1 hm).imp fun σ H Q q => TD.two hr σ H _ (TDt.val σ H Q q)⟩
theorem dt_chain {op op' : CmpOp} {g g' : D -> D -> Option D} (h : CmpD Γ X op g) (h' : CmpD Γ X op' g') (ha : DE Γ X a fa) (hb : DE Γ X b fb) (hc : DE Γ X c fc) (hm : lastMarks [op, op'] [b, c] = false := by with_unfolding_all rfl) :
    DT Γ X (.Compare a [op, op'] [b, c] pos) (toB (chD g g' fa fb fc)) := ⟨by
  obtain ⟨r, ho, hr⟩ := h.ex
  obtain ⟨r', ho', hr'⟩ := h'.ex
  exact (pt_chain ho ho' ha.1 hb.1 hc.1 hm).imp fun σ H Q q => TD.chain hr hr' σ H _ (TDt.val σ H Q q)⟩
theorem zaI (h : DE Γ X e f) (he : ∀ whole, isTrue e X.env whole = (do let v ← whole; standAt e.pos; holding [v] (truthy v)) := by intro _; rfl) : DT Γ X e (toB f) := ⟨(pt_val h.1 he).imp TDt.val⟩
def zbX (f : FT) : FT := fun ρ => (f ρ).map (!·)
def andT (f g : FT) : FT := fun ρ => (f ρ).bind fun b => if b = true then g ρ else some false
def orT (f g : FT) : FT := fun ρ => (f ρ).bind fun b => if b = true then some true else g ρ
variable {ft gt : FT} {zcY : List Expr}
theorem DW.dt {e : Expr} (h : DW Γ X e ft) : DT Γ X e ft := ⟨h.1.pt⟩
theorem zaL (h : DT Γ X a ft) : DT Γ X (.UnaryOp .Not a pos) (zbX ft) := ⟨(pt_not h.1).imp fun σ H Q => by
  rintro ⟨G₀, H₀, G, ρ, b, A, h, k⟩
  unfold zbX at h
  obtain ⟨c, hc, h⟩ := Option.map_eq_some_iff.mp h
  exact ⟨G₀, H₀, G, ρ, c, A, hc, fun G' H' s => by show Q (!c) H'; rw [h]; exact k G' H' s⟩⟩
theorem dw_and1 (h : DT Γ X a ft) : DW Γ X (.BoolOp .And [a] pos) ft := ⟨pw_and1 h.1⟩
theorem zbY (h : DT Γ X a ft) : DW Γ X (.BoolOp .Or [a] pos) ft := ⟨pw_or1 h.1⟩
theorem dw_and (h : DT Γ X a ft) (h' : DW Γ X (.BoolOp .And (b :: zcY) pos) gt) : DW Γ X (.BoolOp .And (a :: b :: zcY) pos) (andT ft gt) := ⟨(pw_and h.1 h'.1).imp fun σ H Q => by
  rintro ⟨G₀, H₀, G, ρ, r, A, h, k⟩
  unfold andT at h
  obtain ⟨c, hc, h⟩ := Option.bind_eq_some_iff.mp h
  refine ⟨G₀, H₀, G, ρ, c, A, hc, fun G1 H1 s1 => ?_⟩
  cases c with
  | true => exact iteT ⟨G₀, H₀, G1, ρ, r, A.step s1, by simpa using h, fun G' H' s => k G' H' (s1.trans s)⟩
  | false =>
    rw [if_neg Bool.false_ne_true] at h
    cases h
    exact iteF (k _ _ s1)⟩
theorem zcC (h : DT Γ X a ft) (h' : DW Γ X (.BoolOp .Or (b :: zcY) pos) gt) : DW Γ X (.BoolOp .Or (a :: b :: zcY) pos) (orT ft gt) := ⟨(pw_or h.1 h'.1).imp fun σ H Q => by
  rintro ⟨G₀, H₀, G, ρ, r, A, h, k⟩
  unfold orT at h
  obtain ⟨c, hc, h⟩ := Option.bind_eq_some_iff.mp h
  refine ⟨G₀, H₀, G, ρ, c, A, hc, fun G1 H1 s1 => ?_⟩
  cases c with
  | false => exact iteF ⟨G₀, H₀, G1, ρ, r, A.step s1, by simpa using h, fun G' H' s => k G' H' (s1.trans s)⟩
  | true =>
    rw [if_pos rfl] at h
    cases h
    exact iteT (k _ _ s1)⟩
def zcZ (fa fb : FE) : FE := fun ρ => (fa ρ).bind fun d => match d with
  | .bl true => fb ρ
  | .bl false => some (.bl false)
  | _ => none
def notD (fa : FE) : FE := fun ρ => (fa ρ).bind fun d => match d with
  | .bl b => some (.bl (!b))
  | _ => none
theorem zcP {op} (h : DE Γ X a fa) : DE Γ X (.BoolOp op [a] pos) fa := ⟨pe_one h.1⟩
theorem zbZ (ha : DE Γ X a fa) (hb : DE Γ X (.BoolOp .And (b :: zcY) pos) fb) : DE Γ X (.BoolOp .And (a :: b :: zcY) pos) (zcZ fa fb) := ⟨(pe_and ha.1 hb.1).imp fun σ H Q => by
  rintro ⟨G₀, H₀, G, ρ, d, A, h, k⟩
  unfold zcZ at h
  obtain ⟨x, hx, h⟩ := Option.bind_eq_some_iff.mp h
  refine ⟨G₀, H₀, G, ρ, x, A, hx, fun v G1 H1 s1 r1 => ?_⟩
  split at h
  · cases r1.bl_inv
    exact ⟨true, rfl, iteT ⟨G₀, H₀, G1, ρ, d, A.step s1, h, fun w G' H' s r => k w G' H' (s1.trans s) r⟩⟩
  · cases r1.bl_inv
    cases h
    exact ⟨false, rfl, iteF (k _ G1 H1 s1 (.bl _))⟩
  · cases h⟩
theorem de_not (ha : DE Γ X a fa) : DE Γ X (.UnaryOp .Not a pos) (notD fa) := ⟨(pe_not ha.1).imp fun σ H Q => by
  rintro ⟨G₀, H₀, G, ρ, d, A, h, k⟩
  unfold notD at h
  obtain ⟨x, hx, h⟩ := Option.bind_eq_some_iff.mp h
  refine ⟨G₀, H₀, G, ρ, x, A, hx, fun v G1 H1 s1 r1 => ?_⟩
  split at h
  · cases r1.bl_inv
    cases h
    exact ⟨_, rfl, k _ G1 H1 s1 (.bl _)⟩
  · cases h⟩
def zak : FA := fun _ => some []
def zab (fa : FE) (fr : FA) : FA := fun ρ => (fa ρ).bind fun x => (fr ρ).map (x :: ·)
variable {fr : FA}
theorem zae : DA Γ X [] zak := ⟨pa_nil.imp fun σ H Q => by
  rintro ⟨G₀, H₀, G, ρ, d, A, h, k⟩
  cases h
  exact k _ G H (.refl A.gh) .nil⟩
theorem zaa (ha : DE Γ X e fa) (hr : DA Γ X es fr) (hs : starEach (e :: es) X.env = (false, eval e X.env) :: starEach es X.env := by rfl) : DA Γ X (e :: es) (zab fa fr) := ⟨(pa_cons ha.1 hr.1 hs).imp fun σ H Q => by
  rintro ⟨G₀, H₀, G, ρ, d, A, h, k⟩
  unfold zab at h
  obtain ⟨x, hx, h⟩ := Option.bind_eq_some_iff.mp h
  obtain ⟨xs, hxs, h⟩ := Option.map_eq_some_iff.mp h
  subst h
  exact ⟨G₀, H₀, G, ρ, x, A, hx, fun v G1 H1 s1 r1 => ⟨G₀, H₀, G1, ρ, xs, A.step s1, hxs, fun vs G2 H2 s2 r2 => k _ G2 H2 (s1.trans s2) (.cons (r1.mono s2.gg) r2)⟩⟩⟩
def szF (fr : FA) : FA := fun ρ => (fr ρ).bind fun l => if l.length <= sizeLine then some l else none
def za3 (fr : FA) : FE := fun ρ => (fr ρ).map D.lst
def zce (fr : FA) : FE := fun ρ => (fr ρ).map D.tup
theorem DO.de (h : DO Γ X e fr) : DE Γ X e (za3 fr) := ⟨h.1.imp fun σ H Q => by
  rintro ⟨G₀, H₀, G, ρ, d, A, h, k⟩
  unfold za3 at h
  obtain ⟨ds, hd, rfl⟩ := Option.map_eq_some_iff.mp h
  exact ⟨G₀, H₀, G, ρ, ds, A, hd, fun p vs G' H' s hp r => new_lst s.gh r (fun w G2 H2 s2 r2 => k w G2 H2 (s.trans s2) r2) p hp⟩⟩
theorem zbv (h : DA Γ X es fr) : DO Γ X (.List es pos) (szF fr) := ⟨(pe_lst h.1).imp fun σ H Q => by
  rintro ⟨G₀, H₀, G, ρ, d, A, h, k⟩
  unfold szF at h
  obtain ⟨ds, hd, h⟩ := Option.bind_eq_some_iff.mp h
  split at h
  · rename_i hz
    cases h
    exact ⟨G₀, H₀, G, ρ, d, A, hd, fun vs G' H' s r => ⟨by rw [r.length]; exact hz, fun p hp => k p vs G' H' s hp r⟩⟩
  · cases h⟩
theorem zb5 {x1} (h : DA Γ X es fr) : DE Γ X (.Tuple es x1 pos) (zce (szF fr)) := ⟨(pe_tup h.1).imp fun σ H Q => by
  rintro ⟨G₀, H₀, G, ρ, d, A, h, k⟩
  unfold zce szF at h
  obtain ⟨ds', hd', rfl⟩ := Option.map_eq_some_iff.mp h
  obtain ⟨ds, hd, h⟩ := Option.bind_eq_some_iff.mp hd'
  split at h
  · rename_i hz
    cases h
    exact ⟨G₀, H₀, G, ρ, ds', A, hd, fun vs G' H' s r => ⟨by rw [r.length]; exact hz, new_tup s.gh r fun w G2 H2 s2 r2 => k w G2 H2 (s.trans s2) r2⟩⟩
  · cases h⟩
def DoesC (Γ : Cn) (K : PySem.W.Frag) (g : List D -> Option D) (r : List V -> Hp -> VK -> Prop) : Prop :=
  ∀ {G H vs ds z}, zb9 G H -> Reps Γ K G vs ds -> g ds = some z -> ∀ Q : VK, (∀ w G' H', Step G H G' H' -> Rep Γ K G' w z -> Q w H') -> r vs H Q
def cF (g : List D -> Option D) (fr : FA) : FE := fun ρ => (fr ρ).bind g
theorem TD.call {g : List D -> Option D} {r : List V -> Hp -> VK -> Prop} (hr : DoesC Γ X.K g r) : ∀ σ H Q, TD Γ X.K (cF g fr) σ H Q -> tCB r (TDa Γ X.K fr) σ H Q := by
  rintro σ H Q ⟨G₀, H₀, G, ρ, d, A, h, k⟩
  unfold cF at h
  obtain ⟨ds, hd, h⟩ := Option.bind_eq_some_iff.mp h
  exact ⟨G₀, H₀, G, ρ, ds, A, hd, fun vs G1 H1 s1 r1 => hr s1.gh r1 h Q fun w G' H' s r => k w G' H' (s1.trans s) r⟩
structure BltD (Γ : Cn) (X : Cx) (id : String) (g : List D -> Option D) : Prop where
  ex : ∃ r, CallR X (.builtin id) r /\ DoesC Γ X.K g r
structure TyD (Γ : Cn) (X : Cx) (id : String) (g : List D -> Option D) : Prop where
  ex : ∃ r, CallR X (.type id) r /\ DoesC Γ X.K g r
variable {x : Str} {p : Pos}
theorem zaz {id : String} {g : List D -> Option D} (hc : BltD Γ X id g) (hg : Gl X x) (hm : X.mg x = none) (hv : bootBuiltins x = some (.builtin id)) (ha : DA Γ X (e :: es) fr) (hn : x ≠ "__name__" := by decide) (hdb : (x == ("__debug__" : Str)) = false := by decide)
    (he : starEach (e :: es) X.env = (false, eval e X.env) :: starEach es X.env := by rfl) (hpl : (backTo pos (starEach es X.env)).any (·.1) = false := by rfl) : DE Γ X (.Call (.Name x p) (e :: es) [] pos) (cF g fr) := ⟨by
  obtain ⟨r, h1, h2⟩ := hc.ex
  exact (pe_callB h1 hg hm hv ha.1 hn hdb he hpl).imp (TD.call h2)⟩
theorem zdk {id : String} {g : List D -> Option D} (hc : TyD Γ X id g) (hg : Gl X x) (hm : X.mg x = none) (hv : bootBuiltins x = some (.type id)) (ha : DA Γ X (e :: es) fr) (hn : x ≠ "__name__" := by decide) (hdb : (x == ("__debug__" : Str)) = false := by decide)
    (he : starEach (e :: es) X.env = (false, eval e X.env) :: starEach es X.env := by rfl) (hpl : (backTo pos (starEach es X.env)).any (·.1) = false := by rfl) : DE Γ X (.Call (.Name x p) (e :: es) [] pos) (cF g fr) := ⟨by
  obtain ⟨r, h1, h2⟩ := hc.ex
  exact (pe_callTy h1 hg hm hv ha.1 hn hdb he hpl).imp (TD.call h2)⟩
theorem de_ty {n : String} (hg : Gl X x) (hm : X.mg x = none) (hv : bootBuiltins x = some (.type n)) (hn : x ≠ "__name__" := by decide) (hd : (x == ("__debug__" : Str)) = false := by decide) : DE Γ X (.Name x pos) (vC (.ty n)) := TD.const (fun _ => .ty n) (pe_bltn hg hm hv rfl hn hd)
theorem Reps.one {K : PySem.W.Frag} {G : Hp} {vs : List V} {d : D} (r : Reps Γ K G vs [d]) : ∃ v, vs = [v] /\ Rep Γ K G v d := by
  cases r with
  | cons h t => cases t; exact ⟨_, rfl, h⟩
theorem Reps.two {K : PySem.W.Frag} {G : Hp} {vs : List V} {d d' : D} (r : Reps Γ K G vs [d, d']) : ∃ v u, vs = [v, u] /\ Rep Γ K G v d /\ Rep Γ K G u d' := by
  cases r with
  | cons h t => cases t with
    | cons h2 t2 => cases t2; exact ⟨_, _, rfl, h, h2⟩
def absD : List D -> Option D
  | [.int i] => some (.int (if i < 0 then -i else i))
  | _ => none
theorem bd_abs : BltD Γ X "abs" absD := ⟨_, call_abs, fun {G H vs ds z} gh r h Q k => by
  unfold absD at h
  split at h <;> cases h
  obtain ⟨v, rfl, r1⟩ := r.one
  cases r1.int_inv
  exact ⟨_, rfl, k _ G H (.refl gh) (.int _)⟩⟩
def maxD : List D -> Option D
  | [.int i, .int j] => some (.int (if j > i then j else i))
  | _ => none
theorem bd_max (hc : X.calm = true) : BltD Γ X "max" maxD := ⟨_, call_max2 hc, fun {G H vs ds z} gh r h Q k => by
  unfold maxD at h
  split at h <;> cases h
  obtain ⟨v, u, rfl, r1, r2⟩ := r.two
  cases r1.int_inv; cases r2.int_inv
  exact ⟨_, _, rfl, k _ G H (.refl gh) (.int _)⟩⟩
def minD : List D -> Option D
  | [.int i, .int j] => some (.int (if j < i then j else i))
  | _ => none
theorem bd_min (hc : X.calm = true) : BltD Γ X "min" minD := ⟨_, call_min2 hc, fun {G H vs ds z} gh r h Q k => by
  unfold minD at h
  split at h <;> cases h
  obtain ⟨v, u, rfl, r1, r2⟩ := r.two
  cases r1.int_inv; cases r2.int_inv
  exact ⟨_, _, rfl, k _ G H (.refl gh) (.int _)⟩⟩
def zcU : List D -> Option D
  | [.str x] => if x.length <= sizeLine then some (.int (x.length : Nat)) else none
  | [.lst l] => some (.int (l.length : Nat))
  | [.tup l] => some (.int (l.length : Nat))
  | [.scr l] => some (.int (l.length : Nat))
  | _ => none
theorem zcE : BltD Γ X "len" zcU := ⟨_, call_len, fun {G H vs ds z} gh r h Q k => by
  unfold zcU at h
  split at h
  · split at h
    · cases h
      obtain ⟨v, rfl, r1⟩ := r.one
      cases r1.str_inv
      exact ⟨_, _, rfl, ⟨by assumption, rfl⟩, k _ G H (.refl gh) (.int _)⟩
    · cases h
  · cases h
    obtain ⟨v, rfl, r1⟩ := r.one
    obtain ⟨a, vs, rfl, ha, rv⟩ := r1.lst_inv
    exact ⟨_, _, rfl, .inl ⟨vs, .inl (.inl (gh _ _ ha)), rfl⟩, k _ G H (.refl gh) (by rw [rv.length]; exact .int _)⟩
  · cases h
    obtain ⟨v, rfl, r1⟩ := r.one
    obtain ⟨a, vs, rfl, ha, rv⟩ := r1.tup_inv
    exact ⟨_, _, rfl, .inr ⟨vs, .inl (.inl (gh _ _ ha)), rfl⟩, k _ G H (.refl gh) (by rw [rv.length]; exact .int _)⟩
  · cases h
    obtain ⟨v, rfl, r1⟩ := r.one
    obtain ⟨a, rfl, ha⟩ := r1.scr_inv
    exact ⟨_, _, rfl, .inl ⟨_, gh.seq ha, rfl⟩, k _ G H (.refl gh) (by rw [List.length_map]; exact .int _)⟩
  · cases h⟩
def tyD : D -> Option String
  | .non => some "NoneType"
  | .bl _ => some "bool"
  | .int _ => some "int"
  | .str _ => some "str"
  | .lst _ => some "list"
  | .tup _ => some "tuple"
  | .dk _ => some "dict"
  | .dt _ => some "dict"
  | _ => none
def isiT (t c : String) : Option Bool := if (Value.type t == Value.type c) = true then some true else if PySem.W.kitMeta c = true then Option.map (fun x => x.contains (Value.type c)) (PySem.fastBuiltinMro t) else none
def isiD : List D -> Option D
  | [d, .ty c] => (tyD d).bind fun t => (isiT t c).map D.bl
  | _ => none
theorem tyOf_ok {K : PySem.W.Frag} {G H : Hp} {v : V} {d : D} {t : String} (gh : zb9 G H) (r : Rep Γ K G v d) (h : tyD d = some t) : TyOf K H v (.type t) := by
  unfold tyD at h
  split at h <;> cases h
  · cases r.non_inv; exact .non
  · cases r.bl_inv; exact .bl _
  · cases r.int_inv; exact .int _
  · cases r.str_inv; exact .str _
  · obtain ⟨a, vs, rfl, ha, _⟩ := r.lst_inv; exact .lst (gh _ _ ha)
  · obtain ⟨a, vs, rfl, ha, _⟩ := r.tup_inv; exact .tup (gh _ _ ha)
  · cases r with
    | dk h _ _ => exact .dK (gh _ _ h)
  · cases r with
    | dt h _ _ => exact .dT (gh _ _ h)
theorem bd_isi : BltD Γ X "isinstance" isiD := by
  refine ⟨fun vs H Q => ∃ v t c b, vs = [v, .ty c] /\ TyOf X.K H v (.type t) /\ PySem.W.kitOne X.K (.type t) (.type c) = some b /\ Q (.bl b) H, ?_, ?_⟩
  · intro pins s σ H xs us Q I r h
    obtain ⟨v, t, c, b, rfl, ty, hk, q⟩ := h
    obtain ⟨u, w', rfl, r1, r2⟩ := vals2 r
    cases r2
    exact isinst_ok I r1 ty hk fun tk => ⟨.bl b, H, I.tok tk, rfl, q⟩
  · intro G H vs ds z gh r h Q k
    unfold isiD at h
    split at h
    · obtain ⟨t, ht, h⟩ := Option.bind_eq_some_iff.mp h
      obtain ⟨b, hb, rfl⟩ := Option.map_eq_some_iff.mp h
      obtain ⟨v, u, rfl, r1, r2⟩ := r.two
      cases r2
      exact ⟨v, t, _, b, rfl, tyOf_ok gh r1 ht, hb, k _ G H (.refl gh) (.bl _)⟩
    · cases h
end
end L2
end
section
namespace L2
open PySem PySem.Spec PyProof.Rows
section
variable {Γ : Cn} {X : Cx} {a b c e : Expr} {es : List Expr} {fa fb fc f : FE} {fr : FA} {pos p2 : Pos}
theorem Reps.atI {K : PySem.W.Frag} {G : Hp} {vs : List V} {ds : List D} {i : Int} {d : D} (r : Reps Γ K G vs ds) (h : L2.atI ds i = some d) : ∃ v, L2.atI vs i = some v /\ Rep Γ K G v d := by
  unfold L2.atI at h ⊢
  rw [r.length]
  cases e : ixN ds.length i with
  | none => rw [e] at h; cases h
  | some j =>
    rw [e] at h
    obtain ⟨v, h1, h2⟩ := r.get (i := j) (d := d) h
    exact ⟨v, h1, h2⟩
theorem atI_map {α β : Type} (g : α -> β) (xs : List α) (i : Int) : L2.atI (xs.map g) i = (L2.atI xs i).map g := by
  unfold L2.atI
  rw [List.length_map]
  cases ixN xs.length i with
  | none => rfl
  | some j => simp
def ixD : D -> D -> Option D
  | .lst l, .int i => atI l i
  | .tup l, .int i => atI l i
  | .scr l, .int i => (atI l i).map D.int
  | .str x, .int i => if x.length <= sizeLine then (atI x.cps.toList i).map fun c => D.str ⟨#[c]⟩ else none
  | _, _ => none
theorem does_ix {K : PySem.W.Frag} : Does Γ K ixD (rIx K) := by
  intro G H v u x y z gh r1 r2 h Q k
  unfold ixD at h
  split at h
  · obtain ⟨a, vs, rfl, ha, rv⟩ := r1.lst_inv
    cases r2.int_inv
    obtain ⟨w, hw, rw'⟩ := rv.atI h
    exact .inl ⟨a, vs, _, w, rfl, rfl, .inl (.inl (gh _ _ ha)), hw, k w G H (.refl gh) rw'⟩
  · obtain ⟨a, vs, rfl, ha, rv⟩ := r1.tup_inv
    cases r2.int_inv
    obtain ⟨w, hw, rw'⟩ := rv.atI h
    exact .inr (.inl ⟨a, vs, _, w, rfl, rfl, .inl (.inl (gh _ _ ha)), hw, k w G H (.refl gh) rw'⟩)
  · obtain ⟨a, rfl, ha⟩ := r1.scr_inv
    cases r2.int_inv
    obtain ⟨n, hn, rfl⟩ := Option.map_eq_some_iff.mp h
    exact .inl ⟨a, _, _, .int n, rfl, rfl, gh.seq ha, by rw [atI_map, hn]; rfl, k _ G H (.refl gh) (.int _)⟩
  · split at h
    · cases r1.str_inv
      cases r2.int_inv
      obtain ⟨n, hn, rfl⟩ := Option.map_eq_some_iff.mp h
      exact .inr (.inr ⟨_, _, n, rfl, rfl, by assumption, hn, k _ G H (.refl gh) (.str _)⟩)
    · cases h
  · cases h
theorem zar (ha : DE Γ X a fa) (hb : DE Γ X b fb) (hs : PlainIx b := by intro _ _; rfl) : DE Γ X (.Subscript a b pos) (b2 ixD fa fb) := ⟨(pe_ix ix_seq ha.1 hb.1 hs).imp (TD.two does_ix)⟩
def cutL {α : Type} (xs : List α) (lo hi : Option Int) : List α := (xs.drop (HT.sIx xs.length 0 lo)).take (HT.sIx xs.length xs.length hi - HT.sIx xs.length 0 lo)
theorem cutL_map {α β : Type} (g : α -> β) (xs : List α) (lo hi : Option Int) : cutL (xs.map g) lo hi = (cutL xs lo hi).map g := by
  unfold cutL
  simp
theorem Reps.cut {K : PySem.W.Frag} {G : Hp} {vs : List V} {ds : List D} (r : Reps Γ K G vs ds) (lo hi : Option Int) : Reps Γ K G (cutV vs lo hi) (cutL ds lo hi) := by
  unfold cutV cutL
  rw [r.length]
  exact (r.drop _).take _
def cutS (x : Str) (lo hi : Option Int) : Str := ⟨(cutL x.cps.toList lo hi).toArray⟩
theorem strIdx_eq (lo hi : Option Int) (n : Nat) : Builtin.Str.strSliceIndices lo hi 1 n = (List.range (HT.sIx n n hi - HT.sIx n 0 lo)).map (HT.sIx n 0 lo + ·) := by
  rw [← sliceRange_one]
  unfold Builtin.Str.strSliceIndices
  have h1 : ∀ (o : Option Int) (d : Nat), d <= n -> (match o with | none => (d : Int) | some i => if (1 : Int) > 0 then max 0 (min (if i < 0 then i + (n : Int) else i) n) else max (-1) (min (if i < 0 then i + (n : Int) else i) ((n : Int) - 1))) = ((HT.sIx n d o : Nat) : Int) := fun o d hd => by
    cases o with
    | none => simp [HT.sIx]
    | some i =>
      simp only [HT.sIx, show (1 : Int) > 0 by decide, if_true]
      by_cases h : i < 0
      · simp only [h, if_true]; omega
      · simp only [h, if_false]; omega
  have e0 := h1 lo 0 (Nat.zero_le _)
  have e1 := h1 hi n (Nat.le_refl _)
  rw [← e0, ← e1]
  rfl
theorem slice_eq (x : Str) (lo hi : Option Int) : Txt.slice x lo hi = cutS x lo hi := by
  have key : (Builtin.Str.strSliceIndices lo hi 1 x.length).filterMap (x.cps[·]?) = cutL x.cps.toList lo hi := by
    rw [strIdx_eq, pick_run]
    unfold cutL
    rw [show x.cps.toList.length = x.length by simp [Str.length]]
  unfold Txt.slice cutS
  split
  · rename_i h
    rw [← key]
    have hl : (Builtin.Str.strSliceIndices lo hi 1 x.length).length = x.length := by simpa using h
    rw [strIdx_eq] at hl ⊢
    rw [pick_run]
    rw [List.length_map, List.length_range] at hl
    have hb : HT.sIx x.length x.length hi <= x.length := by
      cases hi with
      | none => simp [HT.sIx]
      | some i => simp only [HT.sIx]; split <;> omega
    have h0 : HT.sIx x.length 0 lo = 0 \/ x.length = 0 := by omega
    have hx : x.cps.toList.length = x.length := by simp [Str.length]
    have e : (x.cps.toList.drop (HT.sIx x.length 0 lo)).take (HT.sIx x.length x.length hi - HT.sIx x.length 0 lo) = x.cps.toList := by
      rcases h0 with h0 | h0
      · rw [h0, List.drop_zero]
        rw [h0] at hl
        exact List.take_of_length_le (by omega)
      · have : x.cps.toList = [] := List.length_eq_zero_iff.mp (by omega)
        rw [this]; simp
    rw [e]
  · rw [key]
def pN : za2 -> Option (Option Int) := fun _ => some none
def pS (f : FE) : za2 -> Option (Option Int) := fun ρ => (f ρ).bind fun d => match d with
  | .int i => some (some i)
  | _ => none
def TDp (Γ : Cn) (K : PySem.W.Frag) (f : za2 -> Option (Option Int)) : TO := fun σ H Q => ∃ G₀ H₀ G ρ o, At Γ K G₀ H₀ G H ρ σ /\ f ρ = some o /\ ∀ G' H', Step G H G' H' -> Q o H'
structure DP (Γ : Cn) (X : Cx) (e : Option Expr) (f : za2 -> Option (Option Int)) : Prop where
  out : PO X e (TDp Γ X.K f)
theorem zcx : DP Γ X none pN := ⟨fun pins s σ H Q I ⟨G₀, H₀, G, ρ, o, A, h, k⟩ => by
  cases h
  exact po_none pins s σ H Q I (k G H (.refl A.gh))⟩
theorem zcw (h : DE Γ X e f) : DP Γ X (some e) (pS f) := ⟨fun pins s σ H Q I ⟨G₀, H₀, G, ρ, o, A, q, k⟩ => by
  unfold pS at q
  obtain ⟨d, hd, q⟩ := Option.bind_eq_some_iff.mp q
  split at q <;> cases q
  exact po_some h.1 pins s σ H Q I ⟨G₀, H₀, G, ρ, _, A, hd, fun v G' H' s r => ⟨_, r.int_inv, k G' H' s⟩⟩⟩
theorem sl_str : SlR X (fun x lo hi H Q => ∃ z, x = .str z /\ z.length <= sizeLine /\ Q (.str (cutS z lo hi)) H) := by
  intro pins s σ H x v vl vu lo hi sl Q I rx hs pl pu h
  obtain ⟨z, rfl, hz, q⟩ := h
  obtain ⟨t, rfl⟩ := rx
  refine ⟨"str", _, PySem.F.slot_str_getitem.lookup, typeIs_str _ _ _, ?_⟩
  obtain ⟨l, rfl, el⟩ : ∃ l : Option (Int × Tok), vl = partValue l /\ l.map (·.1) = lo := by
    cases pl with
    | none => exact ⟨none, rfl, rfl⟩
    | int i t => exact ⟨some (i, t), rfl, rfl⟩
  obtain ⟨u, rfl, eu⟩ : ∃ l : Option (Int × Tok), vu = partValue l /\ l.map (·.1) = hi := by
    cases pu with
    | none => exact ⟨none, rfl, rfl⟩
    | int i t => exact ⟨some (i, t), rfl, rfl⟩
  refine wpAny_getItem_str_slice (l := l) (u := u) (st := none) hs rfl ?_
  have e : (if ((Option.map (fun x => x.fst) (none : Option (Int × Tok))).getD 1 == 1 && (slicePicked z l u none).length == z.length) = true then z else { cps := (List.filterMap (fun x => z.cps[x]?) (slicePicked z l u none)).toArray }) = cutS z lo hi := by
    have e0 : Txt.slice z (l.map (·.1)) (u.map (·.1)) = cutS z lo hi := by
      rw [el, eu]
      exact slice_eq z lo hi
    exact e0
  refine post_val_or_str ⟨?_, fun t' k => ?_⟩
  · rw [e, ← slice_eq]
    exact Nat.le_trans (Txt.slice_le z _ _) hz
  · rw [e]
    exact ⟨.str _, H, I.tok k, ⟨_, rfl⟩, q⟩
def sliceD (lo hi : Option Int) : D -> Option D
  | .lst l => some (.lst (cutL l lo hi))
  | .scr l => some (.lst ((cutL l lo hi).map D.int))
  | .tup l => if HT.sIx l.length 0 lo = 0 /\ HT.sIx l.length l.length hi = l.length then none else some (.tup (cutL l lo hi))
  | .str x => if x.length <= sizeLine then some (.str (cutS x lo hi)) else none
  | _ => none
def slF (f : FE) (fl fh : za2 -> Option (Option Int)) : FE := fun ρ => (f ρ).bind fun d => (fl ρ).bind fun l => (fh ρ).bind fun h => sliceD l h d
variable {fl fh : za2 -> Option (Option Int)} {lo hi : Option Expr}
theorem zbR (he : DE Γ X e f) (hl : DP Γ X lo fl) (hh : DP Γ X hi fh) : DE Γ X (.Subscript e (.Slice lo hi none p2) pos) (slF f fl fh) := ⟨(pe_slice (sl_list.or (sl_tup.or sl_str)) he.1 hl.1 hh.1).imp fun σ H Q => by
  rintro ⟨G₀, H₀, G, ρ, d, A, h, k⟩
  unfold slF at h
  obtain ⟨x, hx, h⟩ := Option.bind_eq_some_iff.mp h
  obtain ⟨l, hl, h⟩ := Option.bind_eq_some_iff.mp h
  obtain ⟨u, hu, h⟩ := Option.bind_eq_some_iff.mp h
  refine ⟨G₀, H₀, G, ρ, x, A, hx, fun v G1 H1 s1 r1 => ⟨G₀, H₀, G1, ρ, l, A.step s1, hl, fun G2 H2 s2 => ⟨G₀, H₀, G2, ρ, u, (A.step s1).step s2, hu, fun G3 H3 s3 => ?_⟩⟩⟩
  have s := (s1.trans s2).trans s3
  have r := r1.mono (s2.gg.trans s3.gg)
  have gh := s3.gh
  unfold sliceD at h
  split at h
  · cases h
    obtain ⟨a, vs, rfl, ha, rv⟩ := r.lst_inv
    exact .inl ⟨a, vs, rfl, .inl (.inl (gh _ _ ha)), new_lst gh (rv.cut l u) fun w G4 H4 s4 r4 => k w G4 H4 (s.trans s4) r4⟩
  · cases h
    obtain ⟨a, rfl, ha⟩ := r.scr_inv
    refine .inl ⟨a, _, rfl, gh.seq ha, new_lst gh ?_ fun w G4 H4 s4 r4 => k w G4 H4 (s.trans s4) r4⟩
    show Reps Γ X.K G3 (cutL _ l u) _
    rw [cutL_map]
    exact Reps.ints _
  · split at h
    · cases h
    · rename_i hw
      cases h
      obtain ⟨a, vs, rfl, ha, rv⟩ := r.tup_inv
      exact .inr (.inl ⟨a, vs, rfl, .inl (.inl (gh _ _ ha)), by rw [rv.length]; exact hw, new_tup gh (rv.cut l u) fun w G4 H4 s4 r4 => k w G4 H4 (s.trans s4) r4⟩)
  · split at h
    · cases h
      cases r.str_inv
      exact .inr (.inr ⟨_, rfl, by assumption, k _ _ _ s (.str _)⟩)
    · cases h
  · cases h⟩
structure MtD (Γ : Cn) (X : Cx) (T id : String) (g : D -> List D -> Option D) : Prop where
  ex : ∃ r, MtR X id r /\ ∀ {G H v x vs ds z}, zb9 G H -> Rep Γ X.K G v x -> Reps Γ X.K G vs ds -> g x ds = some z -> ∀ Q : VK, (∀ w G' H', Step G H G' H' -> Rep Γ X.K G' w z -> Q w H') -> r v vs H Q
  ty : ∀ {G H v x ds z}, zb9 G H -> Rep Γ X.K G v x -> g x ds = some z -> tyV X.K T v H
variable {name : Str} {apos cpos : Pos} {o : Expr} {fo : FE}
def strsD : List D -> Option (List Str)
  | [] => some []
  | .str x :: r => (strsD r).map (x :: ·)
  | _ :: _ => none
def joinD : D -> List D -> Option D
  | .str sep, [.lst l] => (strsD l).bind fun ys => if (ys.map (·.length)).sum + ys.length * sep.length <= 16777216 then some (.str (Txt.join sep ys)) else none
  | _, _ => none
def blsD : List D -> Option (List Bool)
  | [] => some []
  | .bl x :: r => (blsD r).map (x :: ·)
  | _ :: _ => none
theorem blsD_ok {K : PySem.W.Frag} {G : Hp} : ∀ {vs : List V} {ds : List D} {ys : List Bool}, Reps Γ K G vs ds -> blsD ds = some ys -> vs = ys.map V.bl
  | _, [], ys, r, h => by cases r; cases h; rfl
  | _, d :: ds, ys, .cons h1 h2, h => by
    cases d with
    | bl x =>
      obtain ⟨zs, hz, rfl⟩ := Option.map_eq_some_iff.mp (show (blsD ds).map (x :: ·) = some ys from h)
      rw [h1.bl_inv, blsD_ok h2 hz]; rfl
    | _ => cases h
def allD : List D -> Option D
  | [.lst l] => (blsD l).map fun bs => D.bl (bs.all id)
  | _ => none
theorem vals_bl : ∀ {bs : List Bool} {us : List Value}, zb3 (bs.map V.bl) us -> us = bs.map Value.bool
  | [], _, r => by rw [List.map_nil] at r; cases r; rfl
  | y :: ys, _, r => by
    rw [List.map_cons] at r
    cases r with
    | cons r1 r2 => cases r1; rw [vals_bl r2]; rfl
theorem all_range (bs : List Bool) : (List.range bs.length).all (fun i => bs.getD i false) = bs.all id := by
  rw [Bool.eq_iff_iff, List.all_eq_true, List.all_eq_true]
  constructor
  · intro h x hx
    obtain ⟨i, hi, e⟩ := List.mem_iff_getElem.mp hx
    have := h i (List.mem_range.mpr hi)
    simp [List.getD, hi] at this
    rw [← e]; exact this
  · intro h i hi
    have hi' := List.mem_range.mp hi
    have := h (bs[i]) (List.getElem_mem hi')
    simp [List.getD, hi']
    exact this
theorem truth_bl {prog : Program} {w : World} {A : Around} {bs : List Bool} : TruthOf prog w A (fun i v => (bs.map Value.bool).toArray[i]? = some v) (fun i => bs.getD i false) := fun i v s Q E hP hQ => by
  have hP' : (bs.map Value.bool)[i]? = some v := by simpa using hP
  rw [List.getElem?_map] at hP'
  obtain ⟨b, hb, rfl⟩ := Option.map_eq_some_iff.mp hP'
  have : bs.getD i false = b := by simp [List.getD, hb]
  have hQ' : Q (bs.getD i false) s := hQ
  rw [this] at hQ'
  exact wpAny_truthy_bool hQ'
theorem zdx (hc : X.calm = true) : BltD Γ X "all" allD := by
  refine ⟨fun vs H Q => ∃ (a : Addr) (bs : List Bool), vs = [.ref a] /\ H a = some (.lst (bs.map V.bl)) /\ Q (.bl (bs.all id)) H, ?_, ?_⟩
  · intro pins s σ H xs us Q I r h
    obtain ⟨a, bs, rfl, ha, q⟩ := h
    obtain ⟨u, rfl, ru⟩ := vals1 r
    cases ru
    obtain ⟨its, rv, pl, _⟩ := I.list (.inl (.inl ha))
    have e := vals_bl rv
    subst e
    refine call_all_walk (wpAny_pyIter_list pl.isList ?_)
    have ne : a ≠ s.heap.objs.size := by obtain ⟨o, _, h1, _⟩ := pl; exact Nat.ne_of_lt (Heap.lt_size h1)
    refine ⟨s.heap.objs.size, _, _, _, _, _, fun i => bs.getD i false, rfl, Walks.list (A := X.A.in1) (show X.A.in1.handled = none from I.ok.hd hc) s.heap.objs.size a ne (bs.map Value.bool).toArray, ⟨⟨_, Heap.get?_push_size _ rfl, rfl, rfl⟩, pl.isList.at fun o q => Heap.get?_push_of_some _ q⟩, truth_bl, fun h' tk hk => ?_⟩
    have e2 : (bs.map Value.bool).toArray.size = bs.length := by simp
    rw [e2, all_range]
    refine ⟨.bl _, H, I.kept fun b o z => hk b o ?_ (Heap.get?_push_of_some _ z), rfl, q⟩
    intro z'
    have : b = s.heap.objs.size := by simpa using z'
    exact absurd (Heap.lt_size z) (by rw [this]; exact Nat.lt_irrefl _)
  · intro G H vs ds z gh r h Q k
    unfold allD at h
    split at h
    · obtain ⟨bs, hb, rfl⟩ := Option.map_eq_some_iff.mp h
      obtain ⟨v, rfl, r1⟩ := r.one
      obtain ⟨a, ws, rfl, ha, rw'⟩ := r1.lst_inv
      refine ⟨a, bs, rfl, ?_, k _ G H (.refl gh) (.bl _)⟩
      rw [← blsD_ok rw' hb]
      exact gh _ _ ha
    · cases h
end
end L2
end
section
namespace L2
open PySem PySem.Spec PyProof.Rows
structure Yd (Γ : Cn) (K : PySem.W.Frag) (J : It) (G : Hp) (ds : List D) : Prop where
  go : ∀ (i : Nat) d G2 H2, ds[i]? = some d -> zb9 G G2 -> zb9 G2 H2 -> J.go i H2 /\ ∀ x H3, J.yld i H2 x H3 -> ∃ G3, Step G2 H2 G3 H3 /\ Rep Γ K G3 x d
  stop : ∀ G2 H2, zb9 G G2 -> zb9 G2 H2 -> J.stop ds.length H2
def TDi (Γ : Cn) (K : PySem.W.Frag) (f : FA) : TI := fun σ H R => ∃ G₀ H₀ G ρ ds, At Γ K G₀ H₀ G H ρ σ /\ f ρ = some ds /\ ∀ J G' H', Step G H G' H' -> Yd Γ K J G' ds -> R J H'
structure DI (Γ : Cn) (X : Cx) (tg e : Expr) (f : FA) : Prop where
  out : PI X tg e (TDi Γ X.K f)
theorem PI.imp {X : Cx} {tg e : Expr} {t t' : TI} (h : PI X tg e t) (i : ∀ σ H R, t' σ H R -> t σ H R) : PI X tg e t' := fun pins s σ H R I q => h pins s σ H R I (i _ _ _ q)
section
variable {Γ : Cn} {X : Cx} {a b c e tg iter : Expr} {es : List Expr} {fa fb fc f : FE} {fr fi : FA} {pos p2 p : Pos}
theorem yd_tup {K : PySem.W.Frag} {G : Hp} {a : Addr} {vs : List V} {ds : List D} (h : G a = some (.tup vs)) (r : Reps Γ K G vs ds) : Yd Γ K (Itt K a) G ds := by
  refine ⟨fun i d G2 H2 hd g1 g2 => ?_, fun G2 H2 g1 g2 => ⟨vs, .inl (.inl (g2 _ _ (g1 _ _ h))), by rw [r.length]; exact Nat.le_refl _⟩⟩
  obtain ⟨v, hv, rv⟩ := r.get hd
  refine ⟨⟨vs, v, .inl (.inl (g2 _ _ (g1 _ _ h))), hv⟩, fun x H3 ⟨e1, e2⟩ => ?_⟩
  subst e1
  have := e2 vs (.inl (.inl (g2 _ _ (g1 _ _ h))))
  rw [hv] at this
  cases this
  exact ⟨G2, .refl g2, rv.mono g1⟩
theorem yd_enum {K : PySem.W.Frag} {G : Hp} {a : Addr} {vs : List V} {ds : List D} (h : SqL K G a vs) (r : Reps Γ K G vs ds) : Yd Γ K (Ite K a) G (ds.mapIdx fun i d => D.tup [.int i, d]) := by
  refine ⟨fun i d G2 H2 hd g1 g2 => ?_, fun G2 H2 g1 g2 => ⟨vs, g2.seq (g1.seq h), by rw [List.length_mapIdx, r.length]; exact Nat.le_refl _⟩⟩
  rw [List.getElem?_mapIdx] at hd
  obtain ⟨d', hd', rfl⟩ := Option.map_eq_some_iff.mp hd
  obtain ⟨v, hv, rv⟩ := r.get hd'
  refine ⟨⟨vs, v, g2.seq (g1.seq h), hv⟩, fun x H3 ⟨T, y, e0, hT, e1, e2⟩ => ?_⟩
  subst e0
  have := e2 vs (g2.seq (g1.seq h))
  rw [hv] at this
  cases this
  subst e1
  have s := Step.new (o := .tup [.int i, v]) g2 hT
  exact ⟨_, s, .tup zaH (.cons (.int _) (.cons ((rv.mono g1).mono s.gg) .nil))⟩
def itemsD : D -> Option (List D)
  | .lst l => some l
  | .tup l => some l
  | .scr l => some (l.map D.int)
  | _ => none
def itF (f : FE) : FA := fun ρ => (f ρ).bind itemsD
theorem pi_seq {l : Expr} {tl : TE} (hl : PE X l tl) : PI X tg l (fun σ H R => tl σ H fun x H1 => (∃ a, x = .ref a /\ (∃ xs, SqL X.K H1 a xs) /\ R (Itl X.K a) H1) \/ (∃ a, x = .ref a /\ (∃ xs, SqT X.K H1 a xs) /\ R (Itt X.K a) H1)) := by
  intro pins s σ H R I h
  refine thn (hl pins s σ H _ I h) fun v s1 ⟨x, H1, I1, r1, q1⟩ => ?_
  rcases q1 with ⟨a, e, ⟨xs, hq⟩, q⟩ | ⟨a, e, ⟨xs, hq⟩, q⟩
  · subst e
    cases r1
    obtain ⟨its, rv, p, hz⟩ := I1.list hq
    refine wpAny_pyIter_list p.isList ?_
    refine ⟨s1.heap.objs.size, [s1.heap.objs.size], _, _, H1, rfl, I1.kept (t' := s1.toks) fun b o e => Heap.get?_push_of_some _ e, turn_list a _, ⟨_, Heap.get?_push_size _ rfl, rfl, rfl⟩, fun b hb => ?_, q⟩
    have e : b = s1.heap.objs.size := by simpa using hb
    subst e
    exact I1.fpOk (Nat.le_refl _) (I1.hok.fresh (Nat.le_refl _))
  · subst e
    cases r1
    obtain ⟨its, rv, p, hz⟩ := I1.tuple hq
    refine wpAny_pyIter_tuple (show s1.heap.IsTuple a its.toArray from p) ?_
    refine ⟨s1.heap.objs.size, [s1.heap.objs.size], _, _, H1, rfl, I1.kept (t' := s1.toks) fun b o e => Heap.get?_push_of_some _ e, turn_tuple a _, ⟨_, Heap.get?_push_size _ rfl, rfl, rfl⟩, fun b hb => ?_, q⟩
    have e : b = s1.heap.objs.size := by simpa using hb
    subst e
    exact I1.fpOk (Nat.le_refl _) (I1.hok.fresh (Nat.le_refl _))
theorem za1 (h : DE Γ X iter f) : DI Γ X tg iter (itF f) := ⟨(pi_seq h.1).imp fun σ H R => by
  rintro ⟨G₀, H₀, G, ρ, ds, A, h, k⟩
  unfold itF at h
  obtain ⟨d, hd, h⟩ := Option.bind_eq_some_iff.mp h
  refine ⟨G₀, H₀, G, ρ, d, A, hd, fun v G' H' s r => ?_⟩
  unfold itemsD at h
  split at h
  · cases h
    obtain ⟨a, vs, rfl, ha, rv⟩ := r.lst_inv
    refine .inl ⟨a, rfl, ⟨vs, .inl (.inl (s.gh _ _ ha))⟩, k _ G' H' s ?_⟩
    refine ⟨fun i d G2 H2 hd g1 g2 => ?_, fun G2 H2 g1 g2 => ⟨vs, .inl (.inl (g2 _ _ (g1 _ _ ha))), by rw [rv.length]; exact Nat.le_refl _⟩⟩
    obtain ⟨v, hv, rv'⟩ := rv.get hd
    refine ⟨⟨vs, v, .inl (.inl (g2 _ _ (g1 _ _ ha))), hv⟩, fun x H3 ⟨e1, e2⟩ => ?_⟩
    subst e1
    have := e2 vs (.inl (.inl (g2 _ _ (g1 _ _ ha))))
    rw [hv] at this
    cases this
    exact ⟨G2, .refl g2, rv'.mono g1⟩
  · cases h
    obtain ⟨a, vs, rfl, ha, rv⟩ := r.tup_inv
    exact .inr ⟨a, rfl, ⟨vs, .inl (.inl (s.gh _ _ ha))⟩, k _ G' H' s (yd_tup ha rv)⟩
  · rename_i l
    cases h
    obtain ⟨a, rfl, ha⟩ := r.scr_inv
    refine .inl ⟨a, rfl, ⟨_, s.gh.seq ha⟩, k _ G' H' s ?_⟩
    refine ⟨fun i d G2 H2 hd g1 g2 => ?_, fun G2 H2 g1 g2 => ⟨_, g2.seq (g1.seq ha), by simp⟩⟩
    rw [List.getElem?_map] at hd
    obtain ⟨n, hn, rfl⟩ := Option.map_eq_some_iff.mp hd
    have hv : (List.map V.int l)[i]? = some (V.int n) := by rw [List.getElem?_map, hn]; rfl
    refine ⟨⟨_, _, g2.seq (g1.seq ha), hv⟩, fun x H3 ⟨e1, e2⟩ => ?_⟩
    subst e1
    have := e2 _ (g2.seq (g1.seq ha))
    rw [hv] at this
    cases this
    exact ⟨G2, .refl g2, .int _⟩
  · cases h⟩
def signsD : D -> Option (List D)
  | .str x => some (x.cps.toList.map fun c => D.str ⟨#[c]⟩)
  | _ => none
def itS (f : FE) : FA := fun ρ => (f ρ).bind signsD
theorem di_str {n : Str} {q : Pos} (h : DE Γ X iter f) : DI Γ X (.Name n q) iter (itS f) := ⟨(pi_str h.1).imp fun σ H R => by
  rintro ⟨G₀, H₀, G, ρ, ds, A, h, k⟩
  unfold itS at h
  obtain ⟨d, hd, h⟩ := Option.bind_eq_some_iff.mp h
  refine ⟨G₀, H₀, G, ρ, d, A, hd, fun v G' H' s r => ?_⟩
  unfold signsD at h
  split at h <;> cases h
  cases r.str_inv
  rename_i x
  refine ⟨x, rfl, k _ G' H' s ⟨fun i d G2 H2 hd g1 g2 => ?_, fun G2 H2 g1 g2 => ?_⟩⟩
  · rw [List.getElem?_map] at hd
    obtain ⟨c, hc, rfl⟩ := Option.map_eq_some_iff.mp hd
    have hc' : x.cps[i]? = some c := by simpa using hc
    refine ⟨(Array.getElem?_eq_some_iff.mp hc').1, fun y H3 ⟨e1, c2, h2, e2⟩ => ?_⟩
    subst e1
    subst e2
    rw [hc'] at h2
    cases h2
    exact ⟨G2, .refl g2, .str _⟩
  · show _ = x.cps.size
    simp⟩
def enumD : D -> Option (List D)
  | .lst l => some (l.mapIdx fun i d => D.tup [.int i, d])
  | .scr l => some ((l.map D.int).mapIdx fun i d => D.tup [.int i, d])
  | _ => none
def itE (f : FE) : FA := fun ρ => (f ρ).bind enumD
theorem zdw {elts : List Expr} {k1 : Nat} {tpos : Pos} (hg : Gl X "enumerate") (hm : X.mg "enumerate" = none) (h : DE Γ X a f) (hs : starEach [a] X.env = [(false, eval a X.env)] := by rfl) (hs0 : starEach ([a] : List Expr) X.env = (false, eval a X.env) :: starEach [] X.env := by rfl) :
    DI Γ X (.Tuple elts k1 tpos) (.Call (.Name "enumerate" p) [a] [] pos) (itE f) := ⟨(pi_enum hg hm (pa_cons h.1 pa_nil hs0) hs).imp fun σ H R => by
  rintro ⟨G₀, H₀, G, ρ, ds, A, h, k⟩
  unfold itE at h
  obtain ⟨d, hd, h⟩ := Option.bind_eq_some_iff.mp h
  refine ⟨G₀, H₀, G, ρ, d, A, hd, fun v G' H' s r => ?_⟩
  unfold enumD at h
  split at h
  · cases h
    obtain ⟨a, vs, rfl, ha, rv⟩ := r.lst_inv
    exact ⟨a, rfl, ⟨vs, .inl (.inl (s.gh _ _ ha))⟩, k _ G' H' s (yd_enum (.inl (.inl ha)) rv)⟩
  · cases h
    obtain ⟨a, rfl, ha⟩ := r.scr_inv
    exact ⟨a, rfl, ⟨_, s.gh.seq ha⟩, k _ G' H' s (yd_enum ha (Reps.ints _))⟩
  · cases h⟩
theorem yd_range {K : PySem.W.Frag} {G : Hp} {lo : Int} {n : Nat} : Yd Γ K (Itr lo n) G ((List.range n).map fun i : Nat => D.int (lo + i)) := by
  refine ⟨fun i d G2 H2 hd g1 g2 => ?_, fun G2 H2 g1 g2 => ?_⟩
  · rw [List.getElem?_map] at hd
    obtain ⟨j, hj, rfl⟩ := Option.map_eq_some_iff.mp hd
    have hi : i < n := by
      have := (List.getElem?_eq_some_iff.mp hj).1
      simpa using this
    have e : j = i := by simpa [hi] using hj.symm
    subst e
    refine ⟨hi, fun x H3 ⟨e1, e2⟩ => ?_⟩
    subst e1
    subst e2
    exact ⟨G2, .refl g2, .int _⟩
  · show n <= _
    simp
def rng1 : List D -> Option (List D)
  | [.int j] => if -(2 ^ 62) <= j /\ j < 2 ^ 62 then some ((List.range j.toNat).map fun i : Nat => D.int (0 + i)) else none
  | _ => none
def rng2 : List D -> Option (List D)
  | [.int i, .int j] => if -(2 ^ 62) <= i /\ i < 2 ^ 62 /\ -(2 ^ 62) <= j /\ j < 2 ^ 62 then some ((List.range (j - i).toNat).map fun k : Nat => D.int (i + k)) else none
  | _ => none
def itR (g : List D -> Option (List D)) (fr : FA) : FA := fun ρ => (fr ρ).bind g
theorem zdi (hg : Gl X "range") (hm : X.mg "range" = none) (h : DA Γ X [a] fr) (hs : starEach [a] X.env = [(false, eval a X.env)] := by rfl) : DI Γ X tg (.Call (.Name "range" p) [a] [] pos) (itR rng1 fr) := ⟨(pi_range1 hg hm h.1 hs).imp fun σ H R => by
  rintro ⟨G₀, H₀, G, ρ, ds, A, h, k⟩
  unfold itR at h
  obtain ⟨d, hd, h⟩ := Option.bind_eq_some_iff.mp h
  refine ⟨G₀, H₀, G, ρ, d, A, hd, fun v G' H' s r => ?_⟩
  unfold rng1 at h
  split at h
  · split at h
    · rename_i hz
      cases h
      obtain ⟨v, rfl, r1⟩ := r.one
      cases r1.int_inv
      exact ⟨_, rfl, hz.1, hz.2, k _ G' H' s yd_range⟩
    · cases h
  · cases h⟩
theorem di_range2 (hg : Gl X "range") (hm : X.mg "range" = none) (h : DA Γ X [a, b] fr) (hs : starEach [a, b] X.env = [(false, eval a X.env), (false, eval b X.env)] := by rfl) (hs2 : starEach [b] X.env = [(false, eval b X.env)] := by rfl) : DI Γ X tg (.Call (.Name "range" p) [a, b] [] pos) (itR rng2 fr) := ⟨(pi_range2 hg hm h.1 hs hs2).imp fun σ H R => by
  rintro ⟨G₀, H₀, G, ρ, ds, A, h, k⟩
  unfold itR at h
  obtain ⟨d, hd, h⟩ := Option.bind_eq_some_iff.mp h
  refine ⟨G₀, H₀, G, ρ, d, A, hd, fun v G' H' s r => ?_⟩
  unfold rng2 at h
  split at h
  · split at h
    · rename_i hz
      cases h
      obtain ⟨v, u, rfl, r1, r2⟩ := r.two
      cases r1.int_inv
      cases r2.int_inv
      exact ⟨_, _, rfl, hz, k _ G' H' s yd_range⟩
    · cases h
  · cases h⟩
abbrev FG := D -> za2 -> Option za2
abbrev FGs := List D -> za2 -> Option za2
def TDg (Γ : Cn) (K : PySem.W.Frag) (g : FG) : TG := fun v σ H Q => ∃ G₀ H₀ G ρ d ρ', At Γ K G₀ H₀ G H ρ σ /\ Rep Γ K G v d /\ g d ρ = some ρ' /\ ∀ σ', At Γ K G₀ H₀ G H ρ' σ' -> Q σ' H
def TDgs (Γ : Cn) (K : PySem.W.Frag) (g : FGs) : TGs := fun vs σ H Q => ∃ G₀ H₀ G ρ ds ρ', At Γ K G₀ H₀ G H ρ σ /\ Reps Γ K G vs ds /\ g ds ρ = some ρ' /\ ∀ σ', At Γ K G₀ H₀ G H ρ' σ' -> Q σ' H
structure DG (Γ : Cn) (X : Cx) (tg : Expr) (g : FG) : Prop where
  pg : PG X tg (TDg Γ X.K g)
  no : ∀ d ρ ρ', g d ρ = some ρ' -> NoOwn ρ -> NoOwn ρ'
structure DGs (Γ : Cn) (X : Cx) (ts : List Expr) (g : FGs) : Prop where
  pg : PGs X ts (TDgs Γ X.K g)
  no : ∀ d ρ ρ', g d ρ = some ρ' -> NoOwn ρ -> NoOwn ρ'
theorem PG.imp {t t' : TG} (h : PG X tg t) (i : ∀ v σ H Q, t' v σ H Q -> t v σ H Q) : PG X tg t' := fun pins s σ H v u Q I r q => h pins s σ H v u Q I r (i _ _ _ _ q)
theorem PGs.imp {ts : List Expr} {t t' : TGs} (h : PGs X ts t) (i : ∀ v σ H Q, t' v σ H Q -> t v σ H Q) : PGs X ts t' := fun pins s σ H v u Q I r q => h pins s σ H v u Q I r (i _ _ _ _ q)
def zaP (i : Nat) : FG := fun d ρ => some (ρ.set i (some (.sh d)))
theorem noOwn_set {ρ : za2} {i : Nat} {d : D} (h : NoOwn ρ) : NoOwn (ρ.set i (some (.sh d))) := fun j ds e => by
  by_cases hj : j = i
  · subst hj
    rw [List.getElem?_set, if_pos rfl] at e
    split at e <;> cases e
    exact ⟨_, rfl⟩
  · rw [List.getElem?_set_ne (Ne.symm hj)] at e
    exact h j ds e
theorem zau (i : Nat) {x : Str} (hN : X.N.Nodup) (hi : X.N[i]? = some x := by rfl) (hx : Loc X.env.scope x := by first | exact Or.inl rfl | exact Or.inr rfl) (hf : X.fn x = true \/ X.env.scope.names.lookup x = some .local := by first | exact .inl rfl | exact .inr rfl | assumption) : DG Γ X (.Name x pos) (zaP i) := by
  refine ⟨(pg_name hN hi hx hf).imp fun v σ H Q => ?_, fun d ρ ρ' e h => ?_⟩
  · rintro ⟨G₀, H₀, G, ρ, d, ρ', A, r, h, k⟩
    cases h
    exact k _ (A.setSh r)
  · cases e
    exact noOwn_set h
def zcr : FGs := fun ds ρ => match ds with
  | [] => some ρ
  | _ => none
def zaG (g : FG) (gs : FGs) : FGs := fun ds ρ => match ds with
  | d :: r => (g d ρ).bind fun ρ' => gs r ρ'
  | _ => none
theorem zcW : DGs Γ X [] zcr := by
  refine ⟨pgs_nil.imp fun vs σ H Q => ?_, fun d ρ ρ' e h => ?_⟩
  · rintro ⟨G₀, H₀, G, ρ, ds, ρ', A, r, h, k⟩
    unfold zcr at h
    split at h <;> cases h
    cases r
    exact ⟨rfl, k σ A⟩
  · unfold zcr at e
    split at e <;> cases e
    exact h
theorem zaY {ts : List Expr} {g : FG} {gs : FGs} (h1 : DG Γ X e g) (h2 : DGs Γ X ts gs) (hs : (assignEach (e :: ts) X.env).map (·.2) = assign e X.env :: (assignEach ts X.env).map (·.2) := by rfl) : DGs Γ X (e :: ts) (zaG g gs) := by
  refine ⟨(pgs_cons h1.pg h2.pg hs).imp fun vs σ H Q => ?_, fun ds ρ ρ' e h => ?_⟩
  · rintro ⟨G₀, H₀, G, ρ, ds, ρ', A, r, h, k⟩
    unfold zaG at h
    split at h
    · obtain ⟨ρ1, h1, h⟩ := Option.bind_eq_some_iff.mp h
      cases r with
      | cons r1 r2 => exact ⟨_, _, rfl, G₀, H₀, G, ρ, _, ρ1, A, r1, h1, fun σ1 A1 => ⟨G₀, H₀, G, ρ1, _, ρ', A1, r2, h, k⟩⟩
    · cases h
  · unfold zaG at e
    split at e
    · obtain ⟨ρ1, e1, e⟩ := Option.bind_eq_some_iff.mp e
      exact h2.no _ _ _ e (h1.no _ _ _ e1 h)
    · cases e
def zcs (n : Nat) (gs : FGs) : FG := fun d ρ => match d with
  | .tup ds => if ds.length = n then gs ds ρ else none
  | _ => none
theorem dg_tup {ts : List Expr} {k : Nat} {gs : FGs} {n : Nat} (hc : X.calm = true) (h : DGs Γ X ts gs) (hn : (assignEach ts X.env).length = n := by rfl) (hst : (assignEach ts X.env).findIdx? (·.1) = none := by rfl) : DG Γ X (.Tuple ts k pos) (zcs n gs) := by
  refine ⟨(pg_tup hc h.pg hn hst).imp fun v σ H Q => ?_, fun ds ρ ρ' e q => ?_⟩
  · rintro ⟨G₀, H₀, G, ρ, d, ρ', A, r, h, k⟩
    unfold zcs at h
    split at h
    · split at h
      · rename_i hl
        obtain ⟨a, vs, rfl, ha, rv⟩ := r.tup_inv
        exact ⟨a, vs, rfl, .inl (.inl (A.gh _ _ ha)), by rw [rv.length]; exact hl, G₀, H₀, G, ρ, _, ρ', A, rv, h, k⟩
      · cases h
    · cases h
  · unfold zcs at e
    split at e
    · split at e
      · exact h.no _ _ _ e q
      · cases e
    · cases e
def compL (g : FG) (ft : FT) (fe : FE) : List D -> za2 -> Option (List D)
  | [], _ => some []
  | x :: xs, ρ => (g x ρ).bind fun ρ1 => (ft ρ1).bind fun b => if b = true then (fe ρ1).bind fun d => (compL g ft fe xs ρ1).map (d :: ·) else compL g ft fe xs ρ1
def fvEnv (fv : List (Option Nat)) (ρ : za2) : za2 := fv.map fun o => o.bind fun j => match ρ[j]? with
  | some (some (.sh d)) => some (.sh d)
  | _ => none
def zaO (fi : FA) (g : FG) (ft : FT) (fe : FE) (fv : List (Option Nat)) : FA := fun ρ => (fi ρ).bind fun xs => if xs.length <= sizeLine then compL g ft fe xs (fvEnv fv ρ) else none
structure DTs (Γ : Cn) (X : Cx) (es : List Expr) (f : FT) : Prop where
  out : PTs X es (TDt Γ X.K f)
theorem PTs.imp {t t' : TT} (h : PTs X es t) (i : ∀ σ H Q, t' σ H Q -> t σ H Q) : PTs X es t' := fun pins s σ H Q I q => h pins s σ H Q I (i _ _ _ q)
def tT : FT := fun _ => some true
theorem zaM : DTs Γ X [] tT := ⟨pts_nil.imp fun σ H Q => by
  rintro ⟨G₀, H₀, G, ρ, b, A, h, k⟩
  cases h
  exact k G H (.refl A.gh)⟩
theorem dts_one {ft : FT} (h : DT Γ X c ft) : DTs Γ X [c] ft := ⟨pts_one h.1⟩
variable {scope : Scope} {N' : List Str} {fv : List (Option Nat)} {g : FG} {ft : FT} {fe : FE} {ifs : List Expr} {elt : Expr}
structure DB (Γ : Cn) (X : Cx) (N' : List Str) (scope : Scope) (tg : Expr) (ifs : List Expr) (elt : Expr) (g : FG) (ft : FT) (fe : FE) : Prop where
  out : ∀ (cl : List (Str × Addr)) (C : Addr) (s₀ : Shared) (H₀ : Hp) (fp : List Addr), DG Γ (zc2 X N' scope cl C s₀ H₀ fp) tg g /\ DTs Γ (zc2 X N' scope cl C s₀ H₀ fp) ifs ft /\ DE Γ (zc2 X N' scope cl C s₀ H₀ fp) elt fe
theorem DB.pb (h : DB Γ X N' scope tg ifs elt g ft fe) : PB X N' scope tg ifs elt (TDg Γ X.K g) (TDt Γ X.K ft) (TD Γ X.K fe) := fun cl C s₀ H₀ fp => ⟨(h.1 cl C s₀ H₀ fp).1.pg, (h.1 cl C s₀ H₀ fp).2.1.1, (h.1 cl C s₀ H₀ fp).2.2.1⟩
theorem fv_rel {K : PySem.W.Frag} {G₀ H₀ G H : Hp} {ρ : za2} {σ : St} (A : At Γ K G₀ H₀ G H ρ σ) : At Γ K G H G H (fvEnv fv ρ) (fvSt fv σ) /\ NoOwn (fvEnv fv ρ) := by
  have no : NoOwn (fvEnv fv ρ) := fun i ds e => by
    unfold fvEnv at e
    rw [List.getElem?_map] at e
    obtain ⟨o, ho, e⟩ := Option.map_eq_some_iff.mp e
    cases o with
    | none => cases e
    | some j =>
      simp only [Option.bind_some] at e
      split at e <;> cases e
      exact ⟨_, rfl⟩
  refine ⟨⟨.refl A.gh, .ofSh (by simp [fvEnv, fvSt]) no fun i d e => ?_⟩, no⟩
  unfold fvEnv at e
  unfold fvSt
  rw [List.getElem?_map] at e ⊢
  obtain ⟨o, ho, e⟩ := Option.map_eq_some_iff.mp e
  rw [ho]
  cases o with
  | none => cases e
  | some j =>
    simp only [Option.bind_some] at e
    split at e
    · rename_i d' hd'
      cases e
      obtain ⟨v, h1, h2⟩ := A.env.sh j d hd'
      exact ⟨v, by simp [h1], h2⟩
    · cases e
theorem comp_tdo (no : ∀ d ρ ρ', g d ρ = some ρ' -> NoOwn ρ -> NoOwn ρ') : ∀ σ H Q, TDo Γ X.K (zaO fi g ft fe fv) σ H Q -> tLC (TDi Γ X.K fi) (TDg Γ X.K g) (TDt Γ X.K ft) (TD Γ X.K fe) fv σ H Q := by
  rintro σ H Q ⟨G₀, H₀, G, ρ, ds, A, h, k⟩
  unfold zaO at h
  obtain ⟨xs, hx, h⟩ := Option.bind_eq_some_iff.mp h
  split at h
  case isFalse => cases h
  rename_i hz
  refine ⟨G₀, H₀, G, ρ, xs, A, hx, fun J G1 H1 s1 Y acc hacc => ?_⟩
  have gacc : G1 acc = none := s1.gh.free hacc
  obtain ⟨A0, no0⟩ := fv_rel (fv := fv) (A.step s1)
  refine ⟨fun i m ys σ' H' => m = xs.length - i /\ i <= xs.length /\ ys.length <= i /\ ∃ G' ρ' done zcY, At Γ X.K G1 H1 G' H' ρ' σ' /\ NoOwn ρ' /\ H' acc = some (.lst ys) /\ G' acc = none /\ Reps Γ X.K G' ys done /\ compL g ft fe (xs.drop i) ρ' = some zcY /\ done ++ zcY = ds, ?_, ?_⟩
  · refine ⟨xs.length, rfl, Nat.zero_le _, Nat.le_refl _, G1, fvEnv fv ρ, [], ds, ?_, no0, zaH, gacc, .nil, by rw [List.drop_zero]; exact h, rfl⟩
    have sn := Step.newOwn (o := .lst []) s1.gh hacc
    exact ⟨sn, .ofSh A0.env.len no0 A0.env.sh⟩
  · rintro i m ys σ' H' ⟨hm, hi, hyi, G', ρ', done, zcY, A', no', hacc', gacc', ry, hr, hd⟩
    subst hm
    refine ⟨hacc', ?_⟩
    by_cases hlt : i < xs.length
    · right
      have hxi : xs[i]? = some xs[i] := by simp [hlt]
      obtain ⟨go, yl⟩ := Y.go i _ G' H' hxi A'.st.gg A'.gh
      refine ⟨go, fun x H2 hy => ?_⟩
      obtain ⟨G2, s2, r2⟩ := yl x H2 hy
      have A2 := A'.step s2
      have hdr : xs.drop i = xs[i] :: xs.drop (i + 1) := List.drop_eq_getElem_cons hlt
      rw [hdr] at hr
      unfold compL at hr
      obtain ⟨ρ1, h1, hr⟩ := Option.bind_eq_some_iff.mp hr
      obtain ⟨b, h2, hr⟩ := Option.bind_eq_some_iff.mp hr
      refine ⟨G1, H1, G2, ρ', _, ρ1, A2, r2, h1, fun σ2 A3 => ⟨G1, H1, G2, ρ1, b, A3, h2, fun G4 H4 s4 => ?_⟩⟩
      have no1 := no _ _ _ h1 no'
      have hH4 : H4 acc = some (.lst ys) := s4.hh _ _ (s2.hh _ _ hacc')
      have hG4 : G4 acc = none := (s4.out _ _ (s2.hh _ _ hacc')).trans ((s2.out _ _ hacc').trans gacc')
      cases b with
      | false =>
        rw [if_neg Bool.false_ne_true] at hr
        refine iteF ⟨xs.length - (i + 1), by omega, rfl, hlt, by omega, G4, ρ1, done, zcY, A3.step s4, no1, hH4, hG4, (ry.mono s2.gg).mono s4.gg, hr, hd⟩
      | true =>
        rw [if_pos rfl] at hr
        obtain ⟨d, h3, hr⟩ := Option.bind_eq_some_iff.mp hr
        obtain ⟨zs, h5, rfl⟩ := Option.map_eq_some_iff.mp hr
        refine iteT ⟨G1, H1, G4, ρ1, d, A3.step s4, h3, fun v G5 H5 s5 r5 => ?_⟩
        have A5 := (A3.step s4).step s5
        have hH5 : H5 acc = some (.lst ys) := s5.hh _ _ hH4
        have hG5 : G5 acc = none := (s5.out _ _ hH4).trans hG4
        refine ⟨hH5, by omega, xs.length - (i + 1), by omega, rfl, hlt, by rw [List.length_append, List.length_singleton]; omega, G5, ρ1, done ++ [d], zs, ?_, no1, zaH, hG5, ((((ry.mono s2.gg).mono s4.gg).mono s5.gg).append (.cons r5 .nil)), h5, by rw [List.append_assoc]; exact hd⟩
        refine ⟨⟨fun b o e => ?_, A5.st.gg, fun b o e => ?_, A5.st.out⟩, .ofSh A5.env.len no1 A5.env.sh⟩
        · rw [zaB (zat e hacc)]; exact A5.st.hh b o e
        · rw [zaB (zat e hG5)]; exact A5.st.gh b o e
    · left
      have e : i = xs.length := by omega
      subst e
      rw [List.drop_length] at hr
      cases hr
      rw [List.append_nil] at hd
      subst hd
      refine ⟨Y.stop G' H' A'.st.gg A'.gh, ?_⟩
      have hf : H' = upd (fun b => if b = acc then none else H' b) acc (.lst ys) := by
        funext b
        by_cases hb : b = acc
        · subst hb; rw [zaH]; exact hacc'
        · rw [zaB hb, if_neg hb]
      rw [hf]
      refine k acc ys G' (fun b => if b = acc then none else H' b) (s1.trans ⟨fun b o e => ?_, A'.st.gg, fun b o e => ?_, A'.st.out⟩) (if_pos rfl) ry
      · show (if b = acc then none else H' b) = some o
        rw [if_neg (zat e hacc)]; exact A'.st.hh b o e
      · show (if b = acc then none else H' b) = some o
        rw [if_neg (zat e gacc')]; exact A'.st.gh b o e
theorem zb4 (hc : X.calm = true) (S : CompScope X scope) (F : FvOk X N' scope fv) (hi : DI Γ X tg iter fi) (hb : DB Γ X N' scope tg ifs elt g ft fe) (hs : ∀ x, foldedSetIterable iter X.env x = pure x := by intro _; rfl) :
    DO Γ X (.ListComp elt [⟨tg, iter, ifs, 0⟩] scope pos) (zaO fi g ft fe fv) := ⟨(pe_lc hc S F hi.1 hb.pb hs).imp (comp_tdo (hb.1 [] 0 X.s₀ X.H₀ []).1.no)⟩
end
end L2
end
section
namespace L2
open PySem PySem.Spec PyProof.Rows
section
variable {Γ : Cn} {X : Cx} {a b c e tg iter : Expr} {es : List Expr} {fa fb fc f : FE} {fr fi : FA} {pos p2 p : Pos} {g g' : FS} {st : Stmt} {sts : List Stmt} {ft : FT}
def zci : FS := fun ρ => some (.nx, ρ)
def zaE (g g' : FS) : FS := fun ρ => (g ρ).bind fun r => match r.1 with
  | .nx => g' r.2
  | fl => some (fl, r.2)
theorem zaK : DSs Γ X [] zci := ⟨pss_nil.imp fun E σ H => by
  rintro ⟨G₀, H₀, G, ρ, fl, ρ', A, h, k⟩
  cases h
  exact k σ G H (.refl _) A⟩
theorem zan (h : DS Γ X st g) : DSs Γ X [st] g := ⟨pss_one h.1⟩
theorem zaf (h1 : DS Γ X st g) (h2 : DSs Γ X sts g') : DSs Γ X (st :: sts) (zaE g g') := ⟨(pss_cons h1.1 h2.1).imp fun E σ H => by
  rintro ⟨G₀, H₀, G, ρ, fl, ρ', A, h, k⟩
  unfold zaE at h
  obtain ⟨⟨fl1, ρ1⟩, h1, h⟩ := Option.bind_eq_some_iff.mp h
  refine ⟨G₀, H₀, G, ρ, fl1, ρ1, A, h1, fun σ1 G1 H1 sm A1 => ?_⟩
  cases fl1 with
  | nx => exact ⟨G₀, H₀, G1, ρ1, fl, ρ', A1, h, fun σ' G' H' sm' A' => k σ' G' H' (sm.trans sm') A'⟩
  | bk => cases h; exact k σ1 G1 H1 sm A1
  | ct => cases h; exact k σ1 G1 H1 sm A1
  | rt d => cases h; exact k σ1 G1 H1 sm A1
  | ow d => cases h; exact k σ1 G1 H1 sm A1
  | nw d => cases h; exact k σ1 G1 H1 sm A1
  | od d => cases h; exact k σ1 G1 H1 sm A1⟩
def zba (f : FE) : FS := fun ρ => (f ρ).map fun d => (.rt d, ρ)
theorem zax (h : DE Γ X e f) : DS Γ X (.Return (some e) pos) (zba f) := ⟨(ps_ret h.1).imp fun E σ H => by
  rintro ⟨G₀, H₀, G, ρ, fl, ρ', A, h, k⟩
  unfold zba at h
  obtain ⟨d, hd, h⟩ := Option.map_eq_some_iff.mp h
  cases h
  exact ⟨G₀, H₀, G, ρ, d, A, hd, fun v G' H' s r => k σ G' H' s.gg (A.step s) v r⟩⟩
def zbp (i : Nat) (f : FE) : FS := fun ρ => (f ρ).map fun d => (.nx, ρ.set i (some (.sh d)))
theorem zaS (i : Nat) {x : Str} {pos' : Pos} (hN : X.N.Nodup) (h : DE Γ X e f) (hi : X.N[i]? = some x := by rfl) (hx : Loc X.env.scope x := by first | exact Or.inl rfl | exact Or.inr rfl) (hs : swapsWith e (some (.Name x pos')) pos.line X.env = pure false := by rfl) (hf : X.fn x = true \/ X.env.scope.names.lookup x = some .local := by first | exact .inl rfl | exact .inr rfl | assumption) :
    DS Γ X (.Assign [.Name x pos'] e pos) (zbp i f) := ⟨(ps_set hN hi hx h.1 hs hf).imp fun E σ H => by
  rintro ⟨G₀, H₀, G, ρ, fl, ρ', A, h, k⟩
  unfold zbp at h
  obtain ⟨d, hd, h⟩ := Option.map_eq_some_iff.mp h
  cases h
  exact ⟨G₀, H₀, G, ρ, d, A, hd, fun v G' H' s r => k _ G' H' s.gg ((A.step s).setSh r)⟩⟩
def sOwn (i : Nat) (f : FA) : FS := fun ρ => (f ρ).map fun d => (.nx, ρ.set i (some (.own d)))
theorem own_td {i : Nat} : ∀ E σ H, TDs Γ X.K (sOwn i fr) E σ H -> tAsg (TDo Γ X.K fr) (gName i) E σ H := by
  rintro E σ H ⟨G₀, H₀, G, ρ, fl, ρ', A, h, k⟩
  unfold sOwn at h
  obtain ⟨d, hd, h⟩ := Option.map_eq_some_iff.mp h
  cases h
  exact ⟨G₀, H₀, G, ρ, d, A, hd, fun p vs G' H' s hp r => k _ G' _ s.gg ((A.step s).setOwn hp r)⟩
theorem zc0 (i : Nat) {x : Str} {pos' : Pos} (hN : X.N.Nodup) (h : DO Γ X e fr) (hi : X.N[i]? = some x := by rfl) (hx : Loc X.env.scope x := by first | exact Or.inl rfl | exact Or.inr rfl) (hs : swapsWith e (some (.Name x pos')) pos.line X.env = pure false := by rfl) (hf : X.fn x = true \/ X.env.scope.names.lookup x = some .local := by first | exact .inl rfl | exact .inr rfl | assumption) :
    DS Γ X (.Assign [.Name x pos'] e pos) (sOwn i fr) := ⟨(ps_set hN hi hx h.1 hs hf).imp own_td⟩
theorem set_td {i : Nat} : ∀ E σ H, TDs Γ X.K (zbp i (za3 fr)) E σ H -> tAsg (TDo Γ X.K fr) (gName i) E σ H := by
  rintro E σ H ⟨G₀, H₀, G, ρ, fl, ρ', A, h, k⟩
  unfold zbp za3 at h
  obtain ⟨d, hd, h⟩ := Option.map_eq_some_iff.mp h
  obtain ⟨ds, hd', rfl⟩ := Option.map_eq_some_iff.mp hd
  cases h
  refine ⟨G₀, H₀, G, ρ, ds, A, hd', fun p vs G' H' s hp r => ?_⟩
  have s2 := Step.new (o := .lst vs) s.gh hp
  exact k _ _ _ (s.gg.trans s2.gg) (((A.step s).step s2).setSh (.lst zaH (r.mono s2.gg)))
variable {scope : Scope} {N' : List Str} {fv : List (Option Nat)} {gg : FG} {fe : FE} {ifs : List Expr} {elt : Expr}
theorem ds_lc (i : Nat) {y : Str} {py spos : Pos} (hN : X.N.Nodup) (hc : X.calm = true) (S : CompScope X scope) (F : FvOk X N' scope fv) (hi : DI Γ X tg iter fi) (hb : DB Γ X N' scope tg ifs elt gg ft fe)
    (hy : X.N[i]? = some y := by rfl) (hyl : X.env.scope.names.lookup y = some .local := by rfl) (hsw : swapsWith (.ListComp elt [⟨tg, iter, ifs, 0⟩] scope pos) (some (.Name y py)) spos.line X.env = pure true := by rfl) (hs : ∀ x, foldedSetIterable iter X.env x = pure x := by intro _; rfl) :
    DS Γ X (.Assign [.Name y py] (.ListComp elt [⟨tg, iter, ifs, 0⟩] scope pos) spos) (zbp i (za3 (zaO fi gg ft fe fv))) := ⟨(ps_lc hN hy hyl hc S F hi.1 hb.pb hsw hs).imp fun E σ H q => comp_tdo (hb.1 [] 0 X.s₀ X.H₀ []).1.no σ H _ (set_td E σ H q)⟩
def sApp (i : Nat) (f : FE) : FS := fun ρ => match ρ[i]? with
  | some (some (.own ds)) => (f ρ).bind fun d => if ds.length < sizeLine then some (.nx, ρ.set i (some (.own (ds ++ [d])))) else none
  | _ => none
theorem zbt (i : Nat) {x : Str} {vp apos cpos : Pos} (h : DE Γ X e f) (hN : X.N[i]? = some x := by rfl) (hv : Vis X.env.scope x := by first | exact Or.inl rfl | exact Or.inr (Or.inl rfl) | exact Or.inr (Or.inr rfl)) (hd : (x == ("__debug__" : Str)) = false := by decide)
    (hcd : (x == ("__classdict__" : Str)) = false := by decide)
    (hbase : attributeBase (.Name x vp) "append" X.env (eval (.Name x vp) X.env) = eval (.Name x vp) X.env := by rfl)
    (hfew : ((backTo cpos (starEach [e] X.env)).all (fun x => !x.1) && (backToKw cpos (keywordEach [] X.env)).all (fun x => x.1.isSome)
      && decide ([e].length + ([] : List Keyword).length + (if ([] : List Keyword).isEmpty then 0 else 1) < 30)) = true := by rfl)
    (hline : (apos.endLine == cpos.line) = true := by rfl) (hs : starEach [e] X.env = (false, eval e X.env) :: starEach [] X.env := by rfl) (hplain : (backTo cpos (starEach [] X.env)).any (·.1) = false := by rfl)
    (hsw : swapsWith (.Call (.Attribute (.Name x vp) "append" apos) [e] [] cpos) none pos.line X.env = pure false := by rfl) :
    DS Γ X (.Expr (.Call (.Attribute (.Name x vp) "append" apos) [e] [] cpos) pos) (sApp i f) := ⟨(ps_expr (pe_bm PySem.F.plainAttrs_list PySem.F.slot_list_append PySem.F.type_list_append mt_append (pe_var hN hv hd hcd) (pa_cons h.1 pa_nil hs) hbase hfew hline hs hplain) hsw).imp fun E σ H => by
    rintro ⟨G₀, H₀, G, ρ, fl, ρ', A, h, k⟩
    unfold sApp at h
    split at h
    · rename_i ds hi
      obtain ⟨d, hd, h⟩ := Option.bind_eq_some_iff.mp h
      split at h
      · rename_i hz
        cases h
        obtain ⟨a, vs, h1, h2, h3, h4, h5⟩ := A.env.own i ds hi
        refine ⟨.ref a, h1, .inl ⟨rfl, vs, .inl (.inl h4)⟩, G₀, H₀, G, ρ, d, A, hd, fun v G1 H1 s1 r1 => ?_⟩
        have A1 := A.step s1
        refine ⟨a, vs, v, rfl, rfl, s1.hh _ _ h4, by rw [h5.length]; exact hz, ?_⟩
        exact k σ G1 _ s1.gg (A1.chOwn hi h1 ((h5.mono s1.gg).append (.cons r1 .nil)))
      · cases h
    · cases h⟩
def sFrz (i : Nat) (g : FS) : FS := fun ρ => match ρ[i]? with
  | some (some (.own ds)) => g (ρ.set i (some (.sh (.lst ds))))
  | _ => none
theorem TDs.frz (i : Nat) : ∀ E σ H, TDs Γ X.K (sFrz i g) E σ H -> TDs Γ X.K g E σ H := by
  rintro E σ H ⟨G₀, H₀, G, ρ, fl, ρ', A, h, k⟩
  unfold sFrz at h
  split at h
  · rename_i ds hi
    obtain ⟨G', sm, A'⟩ := A.freeze hi
    exact ⟨G₀, H₀, G', _, fl, ρ', A', h, fun σ1 G1 H1 sm1 A1 => k σ1 G1 H1 (sm.trans sm1) A1⟩
  · cases h
theorem zcL (i : Nat) (h : DSs Γ X sts g) : DSs Γ X sts (sFrz i g) := ⟨h.1.imp (TDs.frz i)⟩
def sIf (ft : FT) (g g' : FS) : FS := fun ρ => (ft ρ).bind fun c => if c = true then g ρ else g' ρ
theorem zbG {sa sb : List Stmt} (hc : DT Γ X c ft) (ha : DSs Γ X sa g) (hb : DSs Γ X sb g') : DS Γ X (.If c sa sb pos) (sIf ft g g') := ⟨(ps_if hc.1 ha.1 hb.1).imp fun E σ H => by
  rintro ⟨G₀, H₀, G, ρ, fl, ρ', A, h, k⟩
  unfold sIf at h
  obtain ⟨x, hx, h⟩ := Option.bind_eq_some_iff.mp h
  refine ⟨G₀, H₀, G, ρ, x, A, hx, fun G1 H1 s1 => ?_⟩
  cases x with
  | true => exact iteT ⟨G₀, H₀, G1, ρ, fl, ρ', A.step s1, by simpa using h, fun σ2 G2 H2 sm2 A2 => k σ2 G2 H2 (s1.gg.trans sm2) A2⟩
  | false => exact iteF ⟨G₀, H₀, G1, ρ, fl, ρ', A.step s1, by simpa using h, fun σ2 G2 H2 sm2 A2 => k σ2 G2 H2 (s1.gg.trans sm2) A2⟩⟩
def forL (gg : FG) (body : FS) : List D -> FS
  | [], ρ => some (.nx, ρ)
  | x :: xs, ρ => (gg x ρ).bind fun ρ1 => (body ρ1).bind fun r => match r.1 with
    | .nx => forL gg body xs r.2
    | .ct => forL gg body xs r.2
    | .bk => some (.nx, r.2)
    | .rt d => some (.rt d, r.2)
    | .ow d => some (.ow d, r.2)
    | .nw d => some (.nw d, r.2)
    | .od d => some (.od d, r.2)
def sFor (fi : FA) (gg : FG) (body : FS) : FS := fun ρ => (fi ρ).bind fun xs => forL gg body xs ρ
theorem zcO {body : List Stmt} (hp : PassesOwn (model X.prog X.w) X.A X.env X.xe) (hc : X.calm = true) (hi : DI Γ X tg iter fi) (hg : DG Γ X tg gg) (hb : DSs Γ X body g) (hs : ∀ x, foldedSetIterable iter X.env x = pure x := by intro _; rfl) :
    DS Γ X (.For tg iter body [] pos) (sFor fi gg g) := ⟨(ps_for hp hc hi.1 hg.pg hb.1 hs).imp fun E σ H => by
  rintro ⟨G₀, H₀, G, ρ, fl, ρ', A, h, k⟩
  unfold sFor at h
  obtain ⟨xs, hx, h⟩ := Option.bind_eq_some_iff.mp h
  refine ⟨G₀, H₀, G, ρ, xs, A, hx, fun J G1 H1 s1 Y => ?_⟩
  refine ⟨fun i m σ' H' => m = xs.length - i /\ i <= xs.length /\ ∃ G' ρ1, zb9 G1 G' /\ At Γ X.K G₀ H₀ G' H' ρ1 σ' /\ forL gg g (xs.drop i) ρ1 = some (fl, ρ'), ⟨xs.length, rfl, Nat.zero_le _, G1, ρ, .refl _, A.step s1, by rw [List.drop_zero]; exact h⟩, ?_⟩
  rintro i m σ' H' ⟨rfl, hi, G', ρ1, sm, A', hr⟩
  by_cases hlt : i < xs.length
  · right
    have hxi : xs[i]? = some xs[i] := by simp [hlt]
    obtain ⟨go, yl⟩ := Y.go i _ G' H' hxi sm A'.gh
    have hdr : xs.drop i = xs[i] :: xs.drop (i + 1) := List.drop_eq_getElem_cons hlt
    rw [hdr] at hr
    unfold forL at hr
    obtain ⟨ρ2, h2, hr⟩ := Option.bind_eq_some_iff.mp hr
    obtain ⟨⟨fl3, ρ3⟩, h3, hr⟩ := Option.bind_eq_some_iff.mp hr
    refine ⟨go, fun σ3 H3 => (fl3 = .nx \/ fl3 = .ct) /\ ∃ G3, zb9 G1 G3 /\ At Γ X.K G₀ H₀ G3 H3 ρ3 σ3, fun σ3 H3 ⟨hfl, G3, sm3, A3⟩ => ?_, fun x H2 hy => ?_⟩
    · refine ⟨xs.length - (i + 1), by omega, rfl, hlt, G3, ρ3, sm3, A3, ?_⟩
      rcases hfl with e | e <;> subst e <;> exact hr
    · obtain ⟨G2, s2, r2⟩ := yl x H2 hy
      refine ⟨G₀, H₀, G2, ρ1, _, ρ2, A'.step s2, r2, h2, fun σ2 A2 => ⟨G₀, H₀, G2, ρ2, fl3, ρ3, A2, h3, fun σ3 G3 H3 sm3 A3 => ?_⟩⟩
      have smm : zb9 G1 G3 := (sm.trans s2.gg).trans sm3
      cases fl3 with
      | nx => exact ⟨.inl rfl, G3, smm, A3⟩
      | ct => exact ⟨.inr rfl, G3, smm, A3⟩
      | bk => cases hr; exact k σ3 G3 H3 (s1.gg.trans smm) A3
      | rt d => cases hr; exact k σ3 G3 H3 (s1.gg.trans smm) A3
      | ow d => cases hr; exact k σ3 G3 H3 (s1.gg.trans smm) A3
      | nw d => cases hr; exact k σ3 G3 H3 (s1.gg.trans smm) A3
      | od d => cases hr; exact k σ3 G3 H3 (s1.gg.trans smm) A3
  · left
    have e : i = xs.length := by omega
    subst e
    rw [List.drop_length] at hr
    cases hr
    exact ⟨Y.stop G' H' sm A'.gh, k σ' G' H' (s1.gg.trans sm) A'⟩⟩
end
end L2
end
section
namespace L2
open PySem PySem.Spec PyProof.Rows
section
variable {Γ : Cn} {X : Cx} {a b c e tg iter : Expr} {es : List Expr} {fa fb fc f fk fw : FE} {fr fi : FA} {pos p2 p : Pos}
def spF (Γ : Cn) (K : PySem.W.Frag) (n : Nat) (F : List D -> Option D) : Sp := fun vs H Q _ => ∃ G ds d, zb9 G H /\ Reps Γ K G vs ds /\ ds.length = n /\ F ds = some d /\ ∀ v G' H', Step G H G' H' -> Rep Γ K G' v d -> Q v H'
def zbO (n : Nat) (g : FS) : List D -> Option D := fun ds => (g (ds.map (fun d => some (Slot.sh d)) ++ List.replicate n none)).bind fun r => match r.1 with
  | .rt d => some d
  | .nx => some .non
  | _ => none
theorem start_rel {K : PySem.W.Frag} {G H : Hp} {vs : List V} {ds : List D} {N : List Str} {m : Nat} (gh : zb9 G H) (r : Reps Γ K G vs ds) (hm : m = N.length - vs.length) : At Γ K G H G H (ds.map (fun d => some (Slot.sh d)) ++ List.replicate m none) (start N vs) := by
  have no : NoOwn (ds.map (fun d => some (Slot.sh d)) ++ List.replicate m none) := fun i es e => by
    by_cases hi : i < ds.length
    · rw [List.getElem?_append_left (by simpa using hi), List.getElem?_map] at e
      obtain ⟨d, _, e⟩ := Option.map_eq_some_iff.mp e
      cases e
      exact ⟨_, rfl⟩
    · rw [List.getElem?_append_right (by simpa using hi), List.getElem?_replicate] at e
      split at e <;> cases e
  refine ⟨.refl gh, .ofSh (by simp [start, r.length, hm]) no fun i d e => ?_⟩
  by_cases hi : i < ds.length
  · rw [List.getElem?_append_left (by simpa using hi), List.getElem?_map] at e
    obtain ⟨d', hd, e⟩ := Option.map_eq_some_iff.mp e
    cases e
    obtain ⟨v, hv, rv⟩ := r.get hd
    refine ⟨v, ?_, rv⟩
    unfold start
    rw [List.getElem?_append_left (by rw [List.length_map, r.length]; exact hi), List.getElem?_map, hv]
    rfl
  · rw [List.getElem?_append_right (by simpa using hi), List.getElem?_replicate] at e
    split at e <;> cases e
theorem Fun.okD {P : Program} {w : World} {K : PySem.W.Frag} {mg : Str -> Option Value} {base : Heap} {x qual : Str} {st : Stmt} {f : Addr} {fd : FuncData} {N ps : List Str} {k : Nat} {g : FS} (F : Fun K x qual st f fd) (S : FnScope N ps (zai st))
    (hbody : ∀ (cdv : Value) (A : Around) (outer : List Env) (s : Shared) (H : Hp) (E : XK), Room k (A.deeper (envOfC qual (zai st) s.heap.objs.size f cdv)) ->
      DSs Γ (cxOf CX0 P w K mg base N qual (zai st) f cdv A outer s H E).nox (zbe st) g) : FnOk P w K mg base CX0 (k + 1) f fd ps (spF Γ K ps.length (zbO (N.length - ps.length) g)) := by
  refine F.ok S (fun vs H Q E h => ?_) (fun cdv A outer s H vs Q E hr h => ?_)
  · obtain ⟨G, ds, d, _, r, hl, _⟩ := h
    rw [r.length, hl]
  · obtain ⟨G, ds, d, gh, r, hl, hd, k⟩ := h
    refine ⟨_, (hbody cdv A outer s H E hr).1, ?_⟩
    unfold zbO at hd
    obtain ⟨⟨fl, ρ'⟩, hg, hd⟩ := Option.bind_eq_some_iff.mp hd
    refine ⟨G, H, G, _, fl, ρ', start_rel gh r (by rw [r.length, hl]), hg, fun σ' G' H' sm A' => ?_⟩
    cases fl with
    | rt d' => cases hd; exact fun v rv => k v G' H' A'.st rv
    | nx => cases hd; exact k .non G' H' A'.st .non
    | bk => cases hd
    | ct => cases hd
    | ow d => cases hd
    | nw d => cases hd
    | od d => cases hd
theorem de_call {k : Nat} {fx : Addr} {fd : FuncData} {ps : List Str} {n : Nat} {F : List D -> Option D} {x : Str} (Fo : FnOk X.prog X.w X.K X.mg X.base CX0 k fx fd ps (spF Γ X.K n F)) (hr : Room k X.A) (hg : Gl X x) (hm : X.mg x = some (.ref fx)) (hk : PySem.W.keepIn X.K (.ref fx) = true) (hb : Binds X.K fd ps [])
    (ha : DA Γ X (e :: es) fr) (hn : ∀ ρ ds, fr ρ = some ds -> ds.length = n) (hdb : (x == ("__debug__" : Str)) = false := by decide) (he : starEach (e :: es) X.env = (false, eval e X.env) :: starEach es X.env := by rfl) (hpl : (backTo pos (starEach es X.env)).any (·.1) = false := by rfl) :
    DE Γ X (.Call (.Name x p) (e :: es) [] pos) (cF F fr) := ⟨(pe_call Fo hr hg hm hk hb .nil pass0 ha.1 hdb he hpl).imp fun σ H Q => by
  rintro ⟨G₀, H₀, G, ρ, d, A, h, k⟩
  unfold cF at h
  obtain ⟨ds, hd, h⟩ := Option.bind_eq_some_iff.mp h
  refine ⟨G₀, H₀, G, ρ, ds, A, hd, fun vs G1 H1 s1 r1 => ?_⟩
  show spF Γ X.K n F (vs ++ []) H1 Q E0
  rw [List.append_nil]
  exact ⟨G1, ds, d, s1.gh, r1, hn ρ ds hd, h, fun v G' H' s r => k v G' H' (s1.trans s) r⟩⟩
theorem aNil_len {ρ : za2} {ds : List D} (h : zak ρ = some ds) : ds.length = 0 := by cases h; rfl
theorem zcX {n : Nat} (hn : ∀ ρ ds, fr ρ = some ds -> ds.length = n) : ∀ ρ ds, zab fa fr ρ = some ds -> ds.length = n + 1 := fun ρ ds h => by
  unfold zab at h
  obtain ⟨x, hx, h⟩ := Option.bind_eq_some_iff.mp h
  obtain ⟨xs, hxs, rfl⟩ := Option.map_eq_some_iff.mp h
  rw [List.length_cons, hn ρ xs hxs]
end
end L2
end
section
namespace L2
open PySem PySem.Spec PyProof.Rows
structure Cal (Γ : Cn) (P : Program) (w : World) (K : PySem.W.Frag) (mg : Str -> Option Value) (base : Heap) (x : Str) (n k : Nat) (F : List D -> Option D) : Prop where
  ex : ∃ f fd ps, FnOk P w K mg base CX0 k f fd ps (spF Γ K n F) /\ mg x = some (.ref f) /\ PySem.W.keepIn K (.ref f) = true /\ Binds K fd ps []
structure Dfn (K : PySem.W.Frag) (mg : Str -> Option Value) (x : Str) (st : Stmt) : Prop where
  ex : ∃ f fd, Fun K x x st f fd /\ mg x = some (.ref f)
section
variable {Γ : Cn} {X : Cx} {e : Expr} {es : List Expr} {fr : FA} {pos p : Pos}
theorem zap {x : Str} {n k : Nat} {F : List D -> Option D} (C : Cal Γ X.prog X.w X.K X.mg X.base x n k F) {j : Nat} (hr : Room j X.A) (hk : k <= j) (hg : Gl X x) (ha : DA Γ X (e :: es) fr) (hn : ∀ ρ ds, fr ρ = some ds -> ds.length = n)
    (hdb : (x == ("__debug__" : Str)) = false := by decide) (he : starEach (e :: es) X.env = (false, eval e X.env) :: starEach es X.env := by rfl) (hpl : (backTo pos (starEach es X.env)).any (·.1) = false := by rfl) :
    DE Γ X (.Call (.Name x p) (e :: es) [] pos) (cF F fr) := by
  obtain ⟨f, fd, ps, h1, h2, h3, h4⟩ := C.ex
  exact de_call h1 (hr.mono hk) hg h2 h3 h4 ha hn hdb he hpl
theorem Dfn.cal {P : Program} {w : World} {K : PySem.W.Frag} {mg : Str -> Option Value} {base : Heap} {x : Str} {st : Stmt} {N ps : List Str} {k : Nat} {g : FS} (F : Dfn K mg x st) (S : FnScope N ps (zai st))
    (hb : ∀ (kV doc pm : Value) (an : Option Addr) (cdv ct : Value) (us : List Value), us.length = ps.length -> bindArgs (PySem.W.fnOf x x (zcy st) (zbe st) (zai st) .none kV doc pm an cdv ct) ⟨us, []⟩ = pure (ps.zip us))
    (hbody : ∀ (f : Addr) (cdv : Value) (A : Around) (outer : List Env) (s : Shared) (H : Hp) (E : XK), Room k (A.deeper (envOfC x (zai st) s.heap.objs.size f cdv)) ->
      DSs Γ (cxOf CX0 P w K mg base N x (zai st) f cdv A outer s H E).nox (zbe st) g) : Cal Γ P w K mg base x ps.length (k + 1) (zbO (N.length - ps.length) g) := by
  obtain ⟨f, fd, h1, h2⟩ := F.ex
  exact ⟨f, fd, ps, h1.okD S (hbody f), h2, h1.kp, h1.binds hb⟩
theorem Dfn.mk' {K : PySem.W.Frag} {h : Heap} {mg : Str -> Option Value} {x : Str} {st : Stmt} {f : Addr} {oc : Value} {od an : Option Addr} {osl : Array (Option Value)} {kV doc pm cdv ct : Value} (X : K.In h) (G : h.Ns mainGlobals mg) (a : PySem.W.nsIn K mainGlobals x = some (some (.ref f)))
    (l : K.lookup f = some ⟨oc, od, .func (PySem.W.fnOf x x (zcy st) (zbe st) (zai st) .none kV doc pm an cdv ct), osl⟩) (c : PySem.W.codeIn K cdv x = true) (k : PySem.W.keepIn K (.ref f) = true) : Dfn K mg x st :=
  ⟨f, _, fun_mk l c k, PySem.W.mg_of X G a⟩
def csChk (names : List (Str × NameKind)) (outer : List (Str × NameKind)) : Bool :=
  names.all fun y => y.2 != .cell && (y.2 != .local || names.lookup y.1 == some .local) && (y.2 != .free || outer.lookup y.1 == some .cell || outer.lookup y.1 == some .free)
theorem CompScope.of {X : Cx} {scope : Scope} (hk : scope.kind = .function) (h : csChk scope.names X.env.scope.names = true) : CompScope X scope := by
  unfold csChk at h
  rw [List.all_eq_true] at h
  refine ⟨hk, fun y hy e => ?_, fun y hy e => ?_, fun y hy e => ?_⟩
  · have := h y hy
    rw [e] at this
    simp at this
  · have := h y hy
    rw [e] at this
    simpa using this
  · have := h y hy
    rw [e] at this
    simpa [Env.kindOf] using this
def fvChk (N' : List Str) (fv : List (Option Nat)) (N : List Str) (outer names : List (Str × NameKind)) : Bool :=
  fv.length == N'.length && (N'.zip fv).all fun y => match y.2 with
    | none => true
    | some j => N[j]? == some y.1 && (outer.lookup y.1 == some .cell || outer.lookup y.1 == some .free) && names.lookup y.1 == some .free
theorem FvOk.of {X : Cx} {N' : List Str} {scope : Scope} {fv : List (Option Nat)} (h : fvChk N' fv X.N X.env.scope.names scope.names = true) : FvOk X N' scope fv := by
  unfold fvChk at h
  rw [Bool.and_eq_true, List.all_eq_true] at h
  obtain ⟨h1, h2⟩ := h
  refine ⟨by simpa using h1, fun i j x e1 e2 => ?_⟩
  have hm : (x, some j) ∈ N'.zip fv := by
    refine List.mem_iff_getElem?.mpr ⟨i, ?_⟩
    rw [List.getElem?_zip_eq_some]
    exact ⟨e1, e2⟩
  have := h2 _ hm
  simp only [Bool.and_eq_true, Bool.or_eq_true, beq_iff_eq] at this
  exact ⟨this.1.1, this.1.2, this.2⟩
end
end L2
end
section
namespace L2
open PySem PySem.Spec PyProof.Rows
mutual
def pdD : D -> Option PyData
  | .non => some .none
  | .bl b => some (.bool b)
  | .int i => some (.int i)
  | .str x => some (.str x)
  | .tup l => (pdDs l).map PyData.tuple
  | .lst l => (pdDs l).map PyData.list
  | .scr ns => some (.list (ns.map PyData.int))
  | _ => none
def pdDs : List D -> Option (List PyData)
  | [] => some []
  | d :: r => (pdD d).bind fun p => (pdDs r).map (p :: ·)
end
section
variable {Γ : Cn} {X : Cx} {pins : List (Addr × Obj)} {σ : St} {G H : Hp} {s : Shared}
theorem reads_ints {h : Heap} : ∀ {ns : List Int} {us : List Value}, zb3 (ns.map V.int) us -> ∃ as, ReadsAll h us (ns.map PyData.int) as
  | [], _, r => by rw [List.map_nil] at r; cases r; exact ⟨_, .nil⟩
  | n :: ns, _, r => by
    rw [List.map_cons] at r
    cases r with
    | cons r1 r2 =>
      obtain ⟨t, e⟩ := r1
      subst e
      obtain ⟨as, q⟩ := reads_ints r2
      exact ⟨_, .cons (.int n t) q⟩
mutual
theorem Rep.reads (I : Inv X pins σ H s) (gh : zb9 G H) : ∀ {v : V} {d : D} {u : Value} {p : PyData}, Rep Γ X.K G v d -> zca v u -> pdD d = some p -> ∃ as, Reads s.heap u p as
  | _, _, u, p, .non, r, h => by cases r; rw [pdD] at h; cases h; exact ⟨_, .none⟩
  | _, _, u, p, .bl b, r, h => by cases r; rw [pdD] at h; cases h; exact ⟨_, .bool b⟩
  | _, _, u, p, .int i, r, h => by obtain ⟨t, rfl⟩ := r; rw [pdD] at h; cases h; exact ⟨_, .int i t⟩
  | _, _, u, p, .str x, r, h => by obtain ⟨t, rfl⟩ := r; rw [pdD] at h; cases h; exact ⟨_, .str x t⟩
  | _, _, u, p, .ty n, r, h => by rw [pdD] at h; cases h; all_goals (intros; contradiction)
  | _, _, u, p, .tup ha rs, r, h => by
    cases r
    rw [pdD] at h
    obtain ⟨ps, hp, rfl⟩ := Option.map_eq_some_iff.mp h
    obtain ⟨its, rv, ⟨o, e1, e2, n, e3⟩, _⟩ := I.tuple (.inl (.inl (gh _ _ ha)))
    obtain ⟨as, q⟩ := Reps.reads I gh rs rv hp
    exact ⟨_, .tuple e1 e2 e3 (by simpa using q)⟩
  | _, _, u, p, .lst ha rs, r, h => by
    cases r
    rw [pdD] at h
    obtain ⟨ps, hp, rfl⟩ := Option.map_eq_some_iff.mp h
    obtain ⟨its, rv, ⟨o, n, e1, e2, _, e3⟩, _⟩ := I.list (.inl (.inl (gh _ _ ha)))
    obtain ⟨as, q⟩ := Reps.reads I gh rs rv hp
    exact ⟨_, .list e1 e2 e3 (by simpa using q)⟩
  | _, _, u, p, .scr hs, r, h => by
    cases r
    rw [pdD] at h
    cases h
    obtain ⟨its, rv, ⟨o, n, e1, e2, _, e3⟩, _⟩ := I.list (gh.seq hs)
    obtain ⟨as, q⟩ := reads_ints (h := s.heap) rv
    exact ⟨_, .list e1 e2 e3 (by simpa using q)⟩
  | _, _, u, p, .dk ha _ _, r, h => by rw [pdD] at h; cases h; all_goals (intros; contradiction)
  | _, _, u, p, .dt ha _ _, r, h => by rw [pdD] at h; cases h; all_goals (intros; contradiction)
  | _, _, u, p, .ins ha _ _ _, r, h => by rw [pdD] at h; cases h; all_goals (intros; contradiction)
theorem Reps.reads (I : Inv X pins σ H s) (gh : zb9 G H) : ∀ {vs : List V} {ds : List D} {us : List Value} {ps : List PyData}, Reps Γ X.K G vs ds -> zb3 vs us -> pdDs ds = some ps -> ∃ as, ReadsAll s.heap us ps as
  | _, _, _, _, .nil, r, h => by cases r; rw [pdDs] at h; cases h; exact ⟨_, .nil⟩
  | _, _, _, _, .cons r1 r2, r, h => by
    cases r with
    | cons q1 q2 =>
      rw [pdDs] at h
      obtain ⟨p, hp, h⟩ := Option.bind_eq_some_iff.mp h
      obtain ⟨ps, hps, rfl⟩ := Option.map_eq_some_iff.mp h
      obtain ⟨as, a1⟩ := Rep.reads I gh r1 q1 hp
      obtain ⟨bs, a2⟩ := Reps.reads I gh r2 q2 hps
      exact ⟨_, .cons a1 a2⟩
end
end
section
variable {Γ : Cn} {X : Cx} {a b c e : Expr} {es : List Expr} {fa fb fc f : FE} {fr : FA} {pos : Pos}
def eqX (x y : D) : Option Bool := (pdD x).bind fun p => (pdD y).bind fun q => if SeqAt.shaped p = true /\ SeqAt.shaped q = true then some (PyData.eqv p q) else none
def eqXD (x y : D) : Option D := (eqX x y).map D.bl
def neXD (x y : D) : Option D := (eqX x y).map fun b => D.bl (!b)
def rX (Γ : Cn) (K : PySem.W.Frag) (neg : Bool) : R2 := fun x y H Q => ∃ G d e b, zb9 G H /\ Rep Γ K G x d /\ Rep Γ K G y e /\ eqX d e = some b /\ Q (.bl (if neg then !b else b)) H
theorem eqX_some {x y : D} {b : Bool} (h : eqX x y = some b) : ∃ p q, pdD x = some p /\ pdD y = some q /\ SeqAt.shaped p = true /\ SeqAt.shaped q = true /\ b = PyData.eqv p q := by
  unfold eqX at h
  obtain ⟨p, hp, h⟩ := Option.bind_eq_some_iff.mp h
  obtain ⟨q, hq, h⟩ := Option.bind_eq_some_iff.mp h
  split at h
  · rename_i hz
    cases h
    exact ⟨p, q, hp, hq, hz.1, hz.2, rfl⟩
  · cases h
theorem op_eqX (hu : X.A.units + 64 < cLine) : OpR X (compareOp .Eq) (rX Γ X.K false) := by
  intro pins s σ H x y v u Q I rx ry h
  obtain ⟨G, d, e, b, gh, r1, r2, hb, q⟩ := h
  obtain ⟨p, q', hp, hq, s1, s2, rfl⟩ := eqX_some hb
  obtain ⟨as, a1⟩ := r1.reads I gh rx hp
  obtain ⟨bs, a2⟩ := r2.reads I gh ry hq
  exact eq_dataH a1 a2 s1 s2 hu ⟨.bl _, H, I, rfl, q⟩
theorem op_neX (hu : X.A.units + 64 < cLine) : OpR X (compareOp .NotEq) (rX Γ X.K true) := by
  intro pins s σ H x y v u Q I rx ry h
  obtain ⟨G, d, e, b, gh, r1, r2, hb, q⟩ := h
  obtain ⟨p, q', hp, hq, s1, s2, rfl⟩ := eqX_some hb
  obtain ⟨as, a1⟩ := r1.reads I gh rx hp
  obtain ⟨bs, a2⟩ := r2.reads I gh ry hq
  exact ne_dataH a1 a2 s1 s2 hu ⟨.bl _, H, I, rfl, q⟩
theorem cd_eqX (hu : X.A.units + 64 < cLine) : CmpD Γ X .Eq eqXD := ⟨_, op_eqX (Γ := Γ) hu, fun {G H v u x y z} gh r1 r2 h Q k => by
  unfold eqXD at h
  obtain ⟨b, hb, rfl⟩ := Option.map_eq_some_iff.mp h
  exact ⟨G, x, y, b, gh, r1, r2, hb, k _ G H (.refl gh) (.bl _)⟩⟩
theorem cd_neX (hu : X.A.units + 64 < cLine) : CmpD Γ X .NotEq neXD := ⟨_, op_neX (Γ := Γ) hu, fun {G H v u x y z} gh r1 r2 h Q k => by
  unfold neXD at h
  obtain ⟨b, hb, rfl⟩ := Option.map_eq_some_iff.mp h
  exact ⟨G, x, y, b, gh, r1, r2, hb, k _ G H (.refl gh) (.bl _)⟩⟩
def inX (x y : D) : Option Bool := (pdD x).bind fun p => (pdD y).bind fun q => match q with
  | .list l => if SeqAt.shaped p = true /\ PyData.canLayAll0 l = true then some (l.any fun z => PyData.eqv z p) else none
  | _ => none
def inXD (x y : D) : Option D := (inX x y).map D.bl
def ninXD (x y : D) : Option D := (inX x y).map fun b => D.bl (!b)
def rInX (Γ : Cn) (K : PySem.W.Frag) (neg : Bool) : R2 := fun x y H Q => ∃ G d e b, zb9 G H /\ Rep Γ K G x d /\ Rep Γ K G y e /\ inX d e = some b /\ Q (.bl (if neg then !b else b)) H
theorem inX_some {x y : D} {b : Bool} (h : inX x y = some b) : ∃ p l, pdD x = some p /\ pdD y = some (.list l) /\ SeqAt.shaped p = true /\ PyData.canLayAll0 l = true /\ b = l.any fun z => PyData.eqv z p := by
  unfold inX at h
  obtain ⟨p, hp, h⟩ := Option.bind_eq_some_iff.mp h
  obtain ⟨q, hq, h⟩ := Option.bind_eq_some_iff.mp h
  split at h
  · split at h
    · rename_i hz
      cases h
      exact ⟨p, _, hp, hq, hz.1, hz.2, rfl⟩
    · cases h
  · cases h
theorem shaped_inv {p : PyData} (h : SeqAt.shaped p = true) : p.canLay0 = true /\ p.depth <= 64 := by
  unfold SeqAt.shaped at h
  rw [Bool.and_eq_true] at h
  exact ⟨h.1, of_decide_eq_true h.2⟩
theorem op_inX (hu : X.A.units + 66 < cLine) : OpR X (compareOp .In) (rInX Γ X.K false) := by
  intro pins s σ H x y v u Q I rx ry h
  obtain ⟨G, d, e, b, gh, r1, r2, hb, q⟩ := h
  obtain ⟨p, l, hp, hq, s1, s2, rfl⟩ := inX_some hb
  obtain ⟨as, a1⟩ := r1.reads I gh rx hp
  obtain ⟨bs, a2⟩ := r2.reads I gh ry hq
  obtain ⟨c1, c2⟩ := shaped_inv s1
  have := Nat.min_le_right (PyData.depthAll l) p.depth
  exact SeqAt.in_list_reads a2 a1 s2 c1 (by omega) ⟨.bl _, H, I, rfl, q⟩
theorem op_ninX (hu : X.A.units + 66 < cLine) : OpR X (compareOp .NotIn) (rInX Γ X.K true) := by
  intro pins s σ H x y v u Q I rx ry h
  obtain ⟨G, d, e, b, gh, r1, r2, hb, q⟩ := h
  obtain ⟨p, l, hp, hq, s1, s2, rfl⟩ := inX_some hb
  obtain ⟨as, a1⟩ := r1.reads I gh rx hp
  obtain ⟨bs, a2⟩ := r2.reads I gh ry hq
  obtain ⟨c1, c2⟩ := shaped_inv s1
  have := Nat.min_le_right (PyData.depthAll l) p.depth
  exact SeqAt.notIn_list_reads a2 a1 s2 c1 (by omega) ⟨.bl _, H, I, rfl, q⟩
theorem cd_inX (hu : X.A.units + 66 < cLine) : CmpD Γ X .In inXD := ⟨_, op_inX (Γ := Γ) hu, fun {G H v u x y z} gh r1 r2 h Q k => by
  unfold inXD at h
  obtain ⟨b, hb, rfl⟩ := Option.map_eq_some_iff.mp h
  exact ⟨G, x, y, b, gh, r1, r2, hb, k _ G H (.refl gh) (.bl _)⟩⟩
theorem cd_ninX (hu : X.A.units + 66 < cLine) : CmpD Γ X .NotIn ninXD := ⟨_, op_ninX (Γ := Γ) hu, fun {G H v u x y z} gh r1 r2 h Q k => by
  unfold ninXD at h
  obtain ⟨b, hb, rfl⟩ := Option.map_eq_some_iff.mp h
  exact ⟨G, x, y, b, gh, r1, r2, hb, k _ G H (.refl gh) (.bl _)⟩⟩
theorem hu66 {k : Nat} (hr : Room k X.A) : X.A.units + 66 < cLine := by have := hr.un; omega
theorem hu64 {k : Nat} (hr : Room k X.A) : X.A.units + 64 < cLine := by have := hr.un; omega
def isNoneD (d : D) : Bool := match d with
  | .non => true
  | _ => false
def isNotD (x y : D) : Option D := match y with
  | .non => some (.bl (!isNoneD x))
  | _ => none
theorem rep_isNone {K : PySem.W.Frag} {G : Hp} {v : V} {d : D} (r : Rep Γ K G v d) : decide (v = .non) = isNoneD d := by
  cases r <;> simp [isNoneD]
theorem cd_isNot : CmpD Γ X .IsNot isNotD := ⟨_, op_notN, fun {G H v u x y z} gh r1 r2 h Q k => by
  unfold isNotD at h
  split at h <;> cases h
  exact ⟨r2.non_inv, by rw [rep_isNone r1]; exact k _ G H (.refl gh) (.bl _)⟩⟩
end
end L2
end
section
namespace L2
open PySem PySem.Spec PyProof.Rows
section
variable {Γ : Cn} {X : Cx} {a b c e o i : Expr} {es : List Expr} {fa fb fc f fo fk fx : FE} {fr fi : FA} {pos p apos cpos : Pos} {ft : FT} {g : FS} {x : Str}
def bwT (i : Nat) (ft : FT) : FT := fun ρ => match ρ[i]? with
  | some (some (.own ds)) => ft (ρ.set i (some (.sh (.lst ds))))
  | _ => none
theorem Step.back {G G1 G' H H' : Hp} (gh : zb9 G H) (s1 : zb9 G G1) (s : Step G1 H G' H') : Step G H G H' := ⟨s.hh, .refl _, (s1.trans s.gg).trans s.gh, fun _ _ _ => rfl⟩
theorem dt_bw (i : Nat) (h : DT Γ X c ft) : DT Γ X c (bwT i ft) := ⟨h.1.imp fun σ H Q => by
  rintro ⟨G₀, H₀, G, ρ, b, A, h, k⟩
  unfold bwT at h
  split at h
  · rename_i ds hi
    obtain ⟨G1, sm, A1⟩ := A.freeze hi
    exact ⟨G₀, H₀, G1, _, b, A1, h, fun G' H' s => k G H' (s.back A.gh sm)⟩
  · cases h⟩
def sExt (i : Nat) (f : FE) : FS := fun ρ => match ρ[i]? with
  | some (some (.own ds)) => (f ρ).bind fun d => match d with
    | .lst l => if ds.length + l.length <= sizeLine then some (.nx, ρ.set i (some (.own (ds ++ l)))) else none
    | _ => none
  | _ => none
theorem ds_extend (i : Nat) {vp : Pos} (h : DE Γ X e f) (hN : X.N[i]? = some x := by rfl) (hv : Vis X.env.scope x := by first | exact Or.inl rfl | exact Or.inr (Or.inl rfl) | exact Or.inr (Or.inr rfl)) (hd : (x == ("__debug__" : Str)) = false := by decide)
    (hcd : (x == ("__classdict__" : Str)) = false := by decide)
    (hbase : attributeBase (.Name x vp) "extend" X.env (eval (.Name x vp) X.env) = eval (.Name x vp) X.env := by rfl)
    (hfew : ((backTo cpos (starEach [e] X.env)).all (fun x => !x.1) && (backToKw cpos (keywordEach [] X.env)).all (fun x => x.1.isSome)
      && decide ([e].length + ([] : List Keyword).length + (if ([] : List Keyword).isEmpty then 0 else 1) < 30)) = true := by rfl)
    (hline : (apos.endLine == cpos.line) = true := by rfl) (hs : starEach [e] X.env = (false, eval e X.env) :: starEach [] X.env := by rfl) (hplain : (backTo cpos (starEach [] X.env)).any (·.1) = false := by rfl)
    (hsw : swapsWith (.Call (.Attribute (.Name x vp) "extend" apos) [e] [] cpos) none pos.line X.env = pure false := by rfl) :
    DS Γ X (.Expr (.Call (.Attribute (.Name x vp) "extend" apos) [e] [] cpos) pos) (sExt i f) := ⟨(ps_expr (pe_bm PySem.F.plainAttrs_list PySem.F.slot_list_extend PySem.F.type_list_extend mt_extend (pe_var hN hv hd hcd) (pa_cons h.1 pa_nil hs) hbase hfew hline hs hplain) hsw).imp fun E σ H => by
    rintro ⟨G₀, H₀, G, ρ, fl, ρ', A, h, k⟩
    unfold sExt at h
    split at h
    · rename_i ds hi
      obtain ⟨d, hd, h⟩ := Option.bind_eq_some_iff.mp h
      split at h
      · rename_i l
        split at h
        · rename_i hz
          cases h
          obtain ⟨a, vs, h1, h2, h3, h4, h5⟩ := A.env.own i ds hi
          refine ⟨.ref a, h1, .inl ⟨rfl, vs, .inl (.inl h4)⟩, G₀, H₀, G, ρ, _, A, hd, fun v G1 H1 s1 r1 => ?_⟩
          have A1 := A.step s1
          obtain ⟨b, us, rfl, hb, rb⟩ := r1.lst_inv
          refine ⟨a, b, vs, us, rfl, rfl, s1.hh _ _ h4, s1.gh _ _ hb, by rw [h5.length, rb.length]; exact hz, ?_⟩
          exact k σ G1 _ s1.gg (A1.chOwn hi h1 ((h5.mono s1.gg).append rb))
        · cases h
      · cases h
    · cases h⟩
def intD : List D -> Option D
  | [.int i] => some (.int i)
  | [.bl k] => some (.int (if k then 1 else 0))
  | _ => none
theorem td_int : TyD Γ X "int" intD := ⟨_, call_int1, fun {G H vs ds z} gh r h Q k => by
  unfold intD at h
  split at h <;> cases h
  · obtain ⟨v, rfl, r1⟩ := r.one
    cases r1.int_inv
    exact .inl ⟨_, rfl, k _ G H (.refl gh) (.int _)⟩
  · obtain ⟨v, rfl, r1⟩ := r.one
    cases r1.bl_inv
    exact .inr ⟨_, rfl, k _ G H (.refl gh) (.int _)⟩⟩
def tupleD : List D -> Option D
  | [.lst l] => some (.tup l)
  | [.tup l] => some (.tup l)
  | _ => none
theorem td_tuple : TyD Γ X "tuple" tupleD := ⟨_, call_tuple_of, fun {G H vs ds z} gh r h Q k => by
  unfold tupleD at h
  split at h <;> cases h
  · obtain ⟨v, rfl, r1⟩ := r.one
    obtain ⟨a, us, rfl, ha, ra⟩ := r1.lst_inv
    exact ⟨a, us, rfl, .inl ⟨.inl (.inl (gh _ _ ha)), new_tup gh ra k⟩⟩
  · obtain ⟨v, rfl, r1⟩ := r.one
    obtain ⟨a, us, rfl, ha, ra⟩ := r1.tup_inv
    exact ⟨a, us, rfl, .inr ⟨.inl (.inl (gh _ _ ha)), k _ G H (.refl gh) (.tup ha ra)⟩⟩⟩
def valG {κ α : Type} [DecidableEq κ] (kvs : List (κ × α)) (k : κ) : Option α := (kvs.find? fun kv => decide (kv.1 = k)).map (·.2)
def putG {κ α : Type} [DecidableEq κ] (kvs : List (κ × α)) (k : κ) (v : α) : List (κ × α) :=
  if (kvs.any fun kv => decide (kv.1 = k)) = true then kvs.map (fun kv => if kv.1 = k then (kv.1, v) else kv) else kvs ++ [(k, v)]
theorem kr_val {κ : Type} [DecidableEq κ] {K : PySem.W.Frag} {G : Hp} {k : κ} : ∀ {us : List (κ × V)} {kvs : List (κ × D)}, us.map (·.1) = kvs.map (·.1) -> Reps Γ K G (us.map (·.2)) (kvs.map (·.2)) ->
    (valG kvs k = none /\ valV us k = none) \/ ∃ d v, valG kvs k = some d /\ valV us k = some v /\ Rep Γ K G v d
  | [], [], _, _ => .inl ⟨rfl, rfl⟩
  | [], _ :: _, e, _ => by cases e
  | _ :: _, [], e, _ => by cases e
  | (k1, v) :: us, (k2, d) :: kvs, e, r => by
    have e1 : k1 = k2 := (List.cons.inj e).1
    have e2 : us.map (·.1) = kvs.map (·.1) := (List.cons.inj e).2
    subst e1
    have r : Reps Γ K G (v :: us.map (·.2)) (d :: kvs.map (·.2)) := r
    cases r with
    | cons r1 r2 =>
      by_cases h : k1 = k
      · exact .inr ⟨d, v, by simp [valG, List.find?_cons, h], valV_pos h, r1⟩
      · have := kr_val (k := k) e2 r2
        rw [valV_neg (p := (k1, v)) h]
        simpa [valG, List.find?_cons, h] using this
theorem kr_any {κ : Type} [DecidableEq κ] {k : κ} {α β : Type} : ∀ {us : List (κ × α)} {kvs : List (κ × β)}, us.map (·.1) = kvs.map (·.1) -> (us.any fun kv => decide (kv.1 = k)) = (kvs.any fun kv => decide (kv.1 = k))
  | [], [], _ => rfl
  | [], _ :: _, e => by cases e
  | _ :: _, [], e => by cases e
  | (k1, v) :: us, (k2, d) :: kvs, e => by
    have e1 : k1 = k2 := (List.cons.inj e).1
    subst e1
    rw [List.any_cons, List.any_cons, kr_any (us := us) (kvs := kvs) (List.cons.inj e).2]
theorem kr_map {κ : Type} [DecidableEq κ] {K : PySem.W.Frag} {G : Hp} {k : κ} {v : V} {d : D} (rv : Rep Γ K G v d) : ∀ {us : List (κ × V)} {kvs : List (κ × D)}, us.map (·.1) = kvs.map (·.1) -> Reps Γ K G (us.map (·.2)) (kvs.map (·.2)) ->
    (us.map fun kv => if kv.1 = k then (kv.1, v) else kv).map (·.1) = (kvs.map fun kv => if kv.1 = k then (kv.1, d) else kv).map (·.1) /\ Reps Γ K G ((us.map fun kv => if kv.1 = k then (kv.1, v) else kv).map (·.2)) ((kvs.map fun kv => if kv.1 = k then (kv.1, d) else kv).map (·.2))
  | [], [], _, _ => ⟨rfl, .nil⟩
  | [], _ :: _, e, _ => by cases e
  | _ :: _, [], e, _ => by cases e
  | (k1, u) :: us, (k2, x) :: kvs, e, r => by
    have e1 : k1 = k2 := (List.cons.inj e).1
    have e2 : us.map (·.1) = kvs.map (·.1) := (List.cons.inj e).2
    subst e1
    have r : Reps Γ K G (u :: us.map (·.2)) (x :: kvs.map (·.2)) := r
    cases r with
    | cons r1 r2 =>
      obtain ⟨h1, h2⟩ := kr_map (k := k) rv e2 r2
      by_cases h : k1 = k
      · subst h
        simp only [List.map_cons, if_true]
        exact ⟨by rw [h1], .cons rv h2⟩
      · simp only [List.map_cons, if_neg h]
        exact ⟨by rw [h1], .cons r1 h2⟩
theorem kr_put {κ : Type} [DecidableEq κ] {K : PySem.W.Frag} {G : Hp} {k : κ} {v : V} {d : D} (rv : Rep Γ K G v d) {us : List (κ × V)} {kvs : List (κ × D)} (e : us.map (·.1) = kvs.map (·.1)) (r : Reps Γ K G (us.map (·.2)) (kvs.map (·.2))) :
    (putK us k v).map (·.1) = (putG kvs k d).map (·.1) /\ Reps Γ K G ((putK us k v).map (·.2)) ((putG kvs k d).map (·.2)) := by
  unfold putK putG
  rw [kr_any (k := k) e]
  split
  · exact kr_map rv e r
  · simp only [List.map_append, List.map_cons, List.map_nil]
    exact ⟨by rw [e], r.append (.cons rv .nil)⟩
def dkey : D -> Option Key
  | .int i => some (.inl i)
  | .str x => some (.inr x)
  | _ => none
def dkeys : List D -> Option (List Key)
  | [] => some []
  | d :: r => (dkey d).bind fun k => (dkeys r).map (k :: ·)
theorem dkey_ok {K : PySem.W.Frag} {G : Hp} {v : V} {d : D} {k : Key} (r : Rep Γ K G v d) (h : dkey d = some k) : v = kV k := by
  unfold dkey at h
  split at h <;> cases h
  · exact r.int_inv
  · exact r.str_inv
theorem dkeys_ok {K : PySem.W.Frag} {G : Hp} : ∀ {vs : List V} {ds : List D} {ks : List Key}, Reps Γ K G vs ds -> dkeys ds = some ks -> vs = ks.map kV
  | _, [], ks, r, h => by cases r; cases h; rfl
  | _, d :: ds, ks, .cons h1 h2, h => by
    unfold dkeys at h
    obtain ⟨k, hk, h⟩ := Option.bind_eq_some_iff.mp h
    obtain ⟨zs, hz, rfl⟩ := Option.map_eq_some_iff.mp h
    rw [dkey_ok h1 hk, dkeys_ok h2 hz]; rfl
def lookD (d k : D) : Option (Option D) := match d, k with
  | .dk l, k => (dkey k).map (valG l)
  | .dt l, .tup t => (dkeys t).map (valG l)
  | _, _ => none
theorem isD_of {K : PySem.W.Frag} {G H : Hp} {v : V} {d k : D} {r : Option D} (gh : zb9 G H) (rv : Rep Γ K G v d) (h : lookD d k = some r) : ∃ a, v = .ref a /\ IsD H a := by
  unfold lookD at h
  split at h
  · cases rv with
    | dk h _ _ => exact ⟨_, rfl, .inl ⟨_, .inl (gh _ _ h)⟩⟩
  · cases rv with
    | dt h _ _ => exact ⟨_, rfl, .inr ⟨_, .inl (gh _ _ h)⟩⟩
  · cases h
theorem dget_of {K : PySem.W.Frag} {G H : Hp} {v y : V} {d k : D} {r : Option D} (gh : zb9 G H) (rv : Rep Γ K G v d) (ry : Rep Γ K G y k) (h : lookD d k = some r) :
    ∃ a o, v = .ref a /\ DGet H a y o /\ ((r = none /\ o = none) \/ ∃ w z, r = some z /\ o = some w /\ Rep Γ K G w z) := by
  unfold lookD at h
  split at h
  · obtain ⟨kk, hk, rfl⟩ := Option.map_eq_some_iff.mp h
    cases rv with
    | dk h1 h2 h3 =>
      have ey := dkey_ok ry hk
      subst ey
      refine ⟨_, _, rfl, DGet.k (gh _ _ h1), ?_⟩
      rcases kr_val (k := kk) h2 h3 with ⟨q1, q2⟩ | ⟨z, w, q1, q2, q3⟩
      · exact .inl ⟨q1, q2⟩
      · exact .inr ⟨w, z, q1, q2, q3⟩
  · obtain ⟨kk, hk, rfl⟩ := Option.map_eq_some_iff.mp h
    cases rv with
    | dt h1 h2 h3 =>
      obtain ⟨b, ys, rfl, hb, rb⟩ := ry.tup_inv
      have ey := dkeys_ok rb hk
      subst ey
      refine ⟨_, _, rfl, DGet.t (gh _ _ h1) (gh _ _ hb), ?_⟩
      rcases kr_val (k := kk) h2 h3 with ⟨q1, q2⟩ | ⟨z, w, q1, q2, q3⟩
      · exact .inl ⟨q1, q2⟩
      · exact .inr ⟨w, z, q1, q2, q3⟩
  · cases h
def dgetD (d k : D) : Option D := (lookD d k).bind id
theorem de_dget (hu : X.A.units + 66 < cLine) (ho : DE Γ X o fo) (hi : DE Γ X i fi') (hs : NoSl i := by intro _ _; rfl) : DE Γ X (.Subscript o i pos) (b2 dgetD fo fi') := ⟨(pe_dget (by omega) ho.1 hi.1 hs).imp fun σ H Q => by
  rintro ⟨G₀, H₀, G, ρ, d, A, h, k⟩
  unfold b2 at h
  obtain ⟨x, hx, h⟩ := Option.bind_eq_some_iff.mp h
  obtain ⟨y, hy, h⟩ := Option.bind_eq_some_iff.mp h
  refine ⟨G₀, H₀, G, ρ, x, A, hx, fun v G1 H1 s1 r1 => ⟨G₀, H₀, G1, ρ, y, A.step s1, hy, fun u G2 H2 s2 r2 => ?_⟩⟩
  unfold dgetD at h
  obtain ⟨r, hr, h⟩ := Option.bind_eq_some_iff.mp h
  obtain ⟨a, ov, rfl, hg, hc⟩ := dget_of s2.gh (r1.mono s2.gg) r2 hr
  rcases hc with ⟨rfl, _⟩ | ⟨w, z, rfl, rfl, rw'⟩
  · cases h
  · cases h
    exact ⟨a, w, rfl, hg, k w G2 H2 (s1.trans s2) rw'⟩⟩
def dget1D (d k : D) : Option D := (lookD d k).map fun r => r.getD .non
theorem de_dget1 (hu : X.A.units + 66 < cLine) (ho : DE Γ X o fo) (he : DE Γ X e f) (m : M1 X o "get" apos e cpos := by exact ⟨rfl, rfl, rfl, rfl⟩) : DE Γ X (.Call (.Attribute o "get" apos) [e] [] cpos) (b2 dget1D fo f) := ⟨(pe_dget1 (by omega) ho.1 he.1 m).imp fun σ H Q => by
  rintro ⟨G₀, H₀, G, ρ, d, A, h, k⟩
  unfold b2 at h
  obtain ⟨x, hx, h⟩ := Option.bind_eq_some_iff.mp h
  obtain ⟨y, hy, h⟩ := Option.bind_eq_some_iff.mp h
  unfold dget1D at h
  obtain ⟨r, hr, rfl⟩ := Option.map_eq_some_iff.mp h
  refine ⟨G₀, H₀, G, ρ, x, A, hx, fun v G1 H1 s1 r1 => ?_⟩
  obtain ⟨a0, e0, d0⟩ := isD_of s1.gh r1 hr
  refine ⟨a0, e0, d0, G₀, H₀, G1, ρ, y, A.step s1, hy, fun u G2 H2 s2 r2 => ?_⟩
  obtain ⟨a, ov, e1, hg, hc⟩ := dget_of s2.gh (r1.mono s2.gg) r2 hr
  subst e0
  cases e1
  rcases hc with ⟨rfl, rfl⟩ | ⟨w, z, rfl, rfl, rw'⟩
  · exact ⟨none, hg, k _ G2 H2 (s1.trans s2) .non⟩
  · exact ⟨some w, hg, k w G2 H2 (s1.trans s2) rw'⟩⟩
def sNo : FS := fun _ => none
theorem ds_no {st : Stmt} : DS Γ X st sNo := ⟨fun pins s σ H E I q => by
  obtain ⟨G₀, H₀, G, ρ, fl, ρ', A, h, k⟩ := q
  cases h⟩
end
end L2
end
section
namespace L2
open PySem PySem.Spec PyProof.Rows
structure CF (Γ : Cn) (K : PySem.W.Frag) (c : Str) (attrs : List Str) : Prop where
  ex : ∃ C, Γ.cls c = some C /\ Cls K C /\ ∀ f ∈ attrs, NoAttr K C f
section
variable {Γ : Cn} {X : Cx} {a b c e o i value : Expr} {es : List Expr} {fa fb fc f fo fk fx fv : FE} {fr fi : FA} {pos pos' p apos cpos : Pos} {ft : FT} {g : FS} {x cl fl n m : Str} {attrs : List Str}
theorem zcl {K : PySem.W.Frag} {G : Hp} {k : Str} : ∀ {us : List (Str × V)} {fs : List (Str × D)}, us.map (·.1) = fs.map (·.1) -> Reps Γ K G (us.map (·.2)) (fs.map (·.2)) ->
    (fs.lookup k = none /\ us.lookup k = none) \/ ∃ d v, fs.lookup k = some d /\ us.lookup k = some v /\ Rep Γ K G v d
  | [], [], _, _ => .inl ⟨rfl, rfl⟩
  | [], _ :: _, e, _ => by cases e
  | _ :: _, [], e, _ => by cases e
  | (k1, v) :: us, (k2, d) :: fs, e, r => by
    have e1 : k1 = k2 := (List.cons.inj e).1
    have e2 : us.map (·.1) = fs.map (·.1) := (List.cons.inj e).2
    subst e1
    have r : Reps Γ K G (v :: us.map (·.2)) (d :: fs.map (·.2)) := r
    cases r with
    | cons r1 r2 =>
      by_cases h : k = k1
      · subst h
        exact .inr ⟨d, v, by simp [List.lookup], by simp [List.lookup], r1⟩
      · have hb : (k == k1) = false := by simpa using h
        have := zcl (k := k) e2 r2
        simpa [List.lookup, hb] using this
theorem putF_new {f : Str} {v : V} : ∀ {fs : List (Str × V)}, fs.lookup f = none -> putF f v fs = fs ++ [(f, v)]
  | [], _ => rfl
  | (g, x) :: r, h => by
    by_cases e : f = g
    · subst e; simp [List.lookup] at h
    · have hb : (f == g) = false := by simpa using e
      rw [putF, if_neg (fun z => e z.symm), putF_new (by simpa [List.lookup, hb] using h)]
      rfl
def fldD (c f : Str) : D -> Option D
  | .ins c' fs => if c' = c then fs.lookup f else none
  | _ => none
def fldF (c f : Str) (fo : FE) : FE := fun ρ => (fo ρ).bind (fldD c f)
theorem de_fld (hc : CF Γ X.K cl attrs) (hf : fl ∈ attrs) (ho : DE Γ X o fo) (hb : attributeBase o fl X.env (eval o X.env) = eval o X.env := by rfl) : DE Γ X (.Attribute o fl pos) (fldF cl fl fo) := ⟨(pe_fld ho.1 hb).imp fun σ H Q => by
  rintro ⟨G₀, H₀, G, ρ, d, A, h, k⟩
  unfold fldF at h
  obtain ⟨x, hx, hq⟩ := Option.bind_eq_some_iff.mp h
  clear h
  refine ⟨G₀, H₀, G, ρ, x, A, hx, fun v G1 H1 s1 r1 => ?_⟩
  unfold fldD at hq
  split at hq
  · split at hq
    · rename_i ec
      subst ec
      obtain ⟨C, q1, q2, q3⟩ := hc.ex
      cases r1 with
      | ins h1 h2 h3 h4 =>
        rw [q1] at h2
        cases h2
        rcases zcl (k := fl) h3 h4 with ⟨z1, _⟩ | ⟨d', v', z1, z2, z3⟩
        · rw [z1] at hq; cases hq
        · rw [z1] at hq
          cases hq
          exact ⟨_, C, _, _, v', rfl, s1.gh _ _ h1, q2, q3 fl hf, z2, k v' G1 H1 s1 z3⟩
    · cases hq
  · cases hq⟩
def slotFld (f : Str) : Slot -> Option D
  | .obj _ fs => fs.lookup f
  | .objd _ fs n _ => if f = n then none else fs.lookup f
  | _ => none
def slotCls : Slot -> Option Str
  | .obj c _ => some c
  | .objd c _ _ _ => some c
  | _ => none
def ofldF (c f : Str) (i : Nat) : FE := fun ρ => match ρ[i]? with
  | some (some s) => if slotCls s = some c then slotFld f s else none
  | _ => none
theorem look_app {vs : List (Str × V)} {n f : Str} {v w : V} (h : vs.lookup f = some v) : (vs ++ [(n, w)]).lookup f = some v := by
  induction vs with
  | nil => cases h
  | cons p r ih =>
    obtain ⟨g, x⟩ := p
    by_cases e : f = g
    · subst e; simpa [List.lookup] using h
    · have hb : (f == g) = false := by simpa using e
      simp only [List.cons_append, List.lookup, hb] at h ⊢
      exact ih h
theorem de_ofld (i : Nat) (hc : CF Γ X.K cl attrs) (hf : fl ∈ attrs) {vp : Pos} (hN : X.N[i]? = some x := by rfl) (hv : Vis X.env.scope x := by first | exact Or.inl rfl | exact Or.inr (Or.inl rfl) | exact Or.inr (Or.inr rfl)) (hd : (x == ("__debug__" : Str)) = false := by decide)
    (hcd : (x == ("__classdict__" : Str)) = false := by decide) (hb : attributeBase (.Name x vp) fl X.env (eval (.Name x vp) X.env) = eval (.Name x vp) X.env := by rfl) : DE Γ X (.Attribute (.Name x vp) fl pos) (ofldF cl fl i) := ⟨(pe_fld (pe_var hN hv hd hcd) hb).imp fun σ H Q => by
  rintro ⟨G₀, H₀, G, ρ, d, A, h, k⟩
  unfold ofldF at h
  split at h
  · rename_i s hi
    split at h
    · rename_i hcl
      obtain ⟨C, q1, q2, q3⟩ := hc.ex
      obtain ⟨v, fp, h1, h2⟩ := A.get hi
      cases h2 with
      | sh _ => cases h
      | own _ _ _ _ => cases h
      | odk _ _ _ _ _ => cases h
      | odt _ _ _ _ _ => cases h
      | tlo _ _ _ _ _ _ => cases h
      | pin _ => cases h
      | obj g1 g2 g3 g4 g5 g6 g7 =>
        cases hcl
        rw [q1] at g1
        cases g1
        have h : List.lookup fl _ = some d := h
        rcases zcl (k := fl) g5 g6 with ⟨z1, _⟩ | ⟨d', v', z1, z2, z3⟩
        · rw [z1] at h; cases h
        · rw [z1] at h
          cases h
          exact ⟨_, h1, _, C, _, _, v', rfl, g4, q2, q3 fl hf, z2, k v' G H (.refl A.gh) z3⟩
      | objd g1 g2 g3 g4 g5 g6 _ _ _ _ _ g7 =>
        cases hcl
        rw [q1] at g1
        cases g1
        unfold slotFld at h
        simp only at h
        split at h
        · cases h
        · rcases zcl (k := fl) g5 g6 with ⟨z1, _⟩ | ⟨d', v', z1, z2, z3⟩
          · rw [z1] at h; cases h
          · rw [z1] at h
            cases h
            exact ⟨_, h1, _, C, _, _, v', rfl, g4, q2, q3 fl hf, look_app z2, k v' G H (.refl A.gh) z3⟩
    · cases h
  · cases h⟩
def sOfld (c f : Str) (i : Nat) (fv : FE) : FS := fun ρ => (fv ρ).bind fun d => match ρ[i]? with
  | some (some (.obj c' fs)) => if c' = c /\ fs.lookup f = none /\ fs.length < 100 then some (.nx, ρ.set i (some (.obj c (fs ++ [(f, d)])))) else none
  | _ => none
theorem zc9 (i : Nat) (hc : CF Γ X.K cl attrs) (hf : fl ∈ attrs) {vp : Pos} (hv' : DE Γ X value fv) (hN : X.N[i]? = some x := by rfl) (hv : Vis X.env.scope x := by first | exact Or.inl rfl | exact Or.inr (Or.inl rfl) | exact Or.inr (Or.inr rfl)) (hd : (x == ("__debug__" : Str)) = false := by decide)
    (hcd : (x == ("__classdict__" : Str)) = false := by decide) (hs : swapsWith value (some (.Attribute (.Name x vp) fl pos')) pos.line X.env = pure false := by rfl) : DS Γ X (.Assign [.Attribute (.Name x vp) fl pos'] value pos) (sOfld cl fl i fv) := ⟨(ps_fld (pe_var hN hv hd hcd) hv'.1 hs).imp fun E σ H => by
  rintro ⟨G₀, H₀, G, ρ, flw, ρ', A, h, k⟩
  unfold sOfld at h
  obtain ⟨d, hd, h⟩ := Option.bind_eq_some_iff.mp h
  split at h
  · rename_i c' fs hi
    split at h
    · rename_i hz
      obtain ⟨rfl, hz2, hz3⟩ := hz
      cases h
      obtain ⟨C, q1, q2, q3⟩ := hc.ex
      refine ⟨G₀, H₀, G, ρ, d, A, hd, fun v G1 H1 s1 r1 => ?_⟩
      have A1 := A.step s1
      obtain ⟨w, fp, h1, h2⟩ := A1.get hi
      cases h2 with
      | obj g1 g2 g3 g4 g5 g6 g7 =>
        rename_i a C' dx vs
        have g1' := g1
        rw [q1] at g1
        cases g1
        have hl : vs.lookup fl = none := by
          rcases zcl (k := fl) g5 g6 with ⟨_, z2⟩ | ⟨d', v', z1, _, _⟩
          · exact z2
          · rw [z1] at hz2; cases hz2
        have hlen : vs.length = fs.length := by simpa using congrArg List.length g5
        refine ⟨_, h1, a, C, dx, vs, rfl, g4, q2, q3 fl hf, by omega, ?_⟩
        rw [putF_new hl]
        refine k σ G1 _ s1.gg (A1.ch hi h1 (.obj g1' g2 g3 g4 g5 g6 g7) (fun b o e hb => ?_) (.obj (vs := vs ++ [(fl, v)]) g1' g2 g3 zaH (by simp [g5]) (by simpa using g6.append (.cons r1 .nil)) g7) (fun b hb => .inl hb) (.refl _) (fun b o e => ?_) (fun _ _ _ _ => rfl))
        · rw [zaB (fun z => hb (List.mem_singleton.mpr z))]; exact e
        · rw [zaB (zat e g3)]; exact A1.gh b o e
    · cases h
  · cases h⟩
def sOfd (c f : Str) (i : Nat) : FS := fun ρ => match ρ[i]? with
  | some (some (.obj c' fs)) => if c' = c /\ fs.lookup f = none /\ fs.length < 100 then some (.nx, ρ.set i (some (.objd c fs f []))) else none
  | _ => none
theorem ds_ofd (i : Nat) (hc : CF Γ X.K cl attrs) (hf : fl ∈ attrs) {vp dp : Pos} (hN : X.N[i]? = some x := by rfl) (hv : Vis X.env.scope x := by first | exact Or.inl rfl | exact Or.inr (Or.inl rfl) | exact Or.inr (Or.inr rfl)) (hd : (x == ("__debug__" : Str)) = false := by decide)
    (hcd : (x == ("__classdict__" : Str)) = false := by decide) (hs : swapsWith (.Dict [] [] dp) (some (.Attribute (.Name x vp) fl pos')) pos.line X.env = pure false := by rfl) : DS Γ X (.Assign [.Attribute (.Name x vp) fl pos'] (.Dict [] [] dp) pos) (sOfd cl fl i) := ⟨(ps_fld (pe_var hN hv hd hcd) pe_dnewK hs).imp fun E σ H => by
  rintro ⟨G₀, H₀, G, ρ, flw, ρ', A, h, k⟩ p hp
  unfold sOfd at h
  split at h
  · rename_i c' fs hi
    split at h
    · rename_i hz
      obtain ⟨rfl, hz2, hz3⟩ := hz
      cases h
      obtain ⟨C, q1, q2, q3⟩ := hc.ex
      obtain ⟨w, fp, h1, h2⟩ := A.get hi
      cases h2 with
      | obj g1 g2 g3 g4 g5 g6 g7 =>
        rename_i a C' dx vs
        have g1' := g1
        rw [q1] at g1
        cases g1
        have hl : vs.lookup fl = none := by
          rcases zcl (k := fl) g5 g6 with ⟨_, z2⟩ | ⟨d', v', z1, _, _⟩
          · exact z2
          · rw [z1] at hz2; cases hz2
        have hlen : vs.length = fs.length := by simpa using congrArg List.length g5
        have npa : a ≠ p := zat g4 hp
        refine ⟨_, h1, a, C, dx, vs, rfl, by rw [zaB npa]; exact g4, q2, q3 fl hf, by omega, ?_⟩
        rw [putF_new hl]
        have hp0 : H₀ p = none := A.st.hh.free hp
        have hpg : G p = none := A.gh.free hp
        refine k σ G _ (.refl _) (A.ch hi h1 (.obj g1' g2 g3 g4 g5 g6 g7) (fun b o e hb => ?_) (.objd (vs := vs) (p := p) (us := []) (kvs := []) g1' g2 g3 zaH g5 g6 hp0 hpg (by rw [zaB npa.symm, zaH]) rfl .nil g7) (fun b hb => ?_) (.refl _) (fun b o e => ?_) (fun _ _ _ _ => rfl))
        · rw [zaB (fun z => hb (List.mem_singleton.mpr z)), zaB (zat e hp)]; exact e
        · rcases List.mem_cons.mp hb with rfl | hb
          · exact .inl (List.mem_singleton.mpr rfl)
          · rw [List.mem_singleton.mp hb]; exact .inr hp
        · rw [zaB (zat e g3), zaB (zat e hpg)]; exact A.gh b o e
    · cases h
  · cases h⟩
def zc6 (c f : Str) (i : Nat) (fk fv : FE) : FS := fun ρ => (fv ρ).bind fun d => (fk ρ).bind fun kd => (dkey kd).bind fun k => match ρ[i]? with
  | some (some (.objd c' fs n kvs)) => if c' = c /\ n = f /\ fs.lookup f = none /\ kvs.length < 100000 then some (.nx, ρ.set i (some (.objd c fs n (putG kvs k d)))) else none
  | _ => none
theorem look_last {vs : List (Str × V)} {f : Str} {w : V} (h : vs.lookup f = none) : (vs ++ [(f, w)]).lookup f = some w := by
  induction vs with
  | nil => simp [List.lookup]
  | cons p r ih =>
    obtain ⟨g, x⟩ := p
    by_cases e : f = g
    · subst e; simp [List.lookup] at h
    · have hb : (f == g) = false := by simpa using e
      simp only [List.cons_append, List.lookup, hb] at h ⊢
      exact ih h
theorem ds_ofdPut (i : Nat) (hu : X.A.units + 66 < cLine) (hc : CF Γ X.K cl attrs) (hf : fl ∈ attrs) {vp ap : Pos} {ke : Expr} (hk : DE Γ X ke fk) (hv' : DE Γ X value fv) (hN : X.N[i]? = some x := by rfl) (hv : Vis X.env.scope x := by first | exact Or.inl rfl | exact Or.inr (Or.inl rfl) | exact Or.inr (Or.inr rfl)) (hd : (x == ("__debug__" : Str)) = false := by decide)
    (hcd : (x == ("__classdict__" : Str)) = false := by decide) (hb : attributeBase (.Name x vp) fl X.env (eval (.Name x vp) X.env) = eval (.Name x vp) X.env := by rfl) (hs : swapsWith value (some (.Subscript (.Attribute (.Name x vp) fl ap) ke pos')) pos.line X.env = pure false := by rfl) :
    DS Γ X (.Assign [.Subscript (.Attribute (.Name x vp) fl ap) ke pos'] value pos) (zc6 cl fl i fk fv) := ⟨(ps_dput (by omega) (pe_fld (pe_var hN hv hd hcd) hb) hk.1 hv'.1 hs).imp fun E σ H => by
  rintro ⟨G₀, H₀, G, ρ, flw, ρ', A, h, k⟩
  unfold zc6 at h
  obtain ⟨d, hd, ha⟩ := Option.bind_eq_some_iff.mp h
  clear h
  obtain ⟨kd, hkd, hb1⟩ := Option.bind_eq_some_iff.mp ha
  clear ha
  obtain ⟨kk, hkk, hq⟩ := Option.bind_eq_some_iff.mp hb1
  clear hb1
  split at hq
  · rename_i c' fs n kvs hi
    split at hq
    · rename_i hz
      obtain ⟨rfl, rfl, hz2, hz3⟩ := hz
      cases hq
      obtain ⟨C, q1, q2, q3⟩ := hc.ex
      refine ⟨G₀, H₀, G, ρ, d, A, hd, fun v G1 H1 s1 r1 => ?_⟩
      have A1 := A.step s1
      obtain ⟨w, fp, h1, h2⟩ := A1.get hi
      cases h2 with
      | objd g1 g2 g3 g4 g5 g6 y1 y2 y3 y4 y5 g7 =>
        rename_i a C' dx p vs us
        have g1' := g1
        rw [q1] at g1
        cases g1
        have hl : vs.lookup n = none := by
          rcases zcl (k := n) g5 g6 with ⟨_, z2⟩ | ⟨d', v', z1, _, _⟩
          · exact z2
          · rw [z1] at hz2; cases hz2
        refine ⟨_, h1, a, C, dx, _, .ref p, rfl, g4, q2, q3 n hf, look_last hl, G₀, H₀, G1, ρ, kd, A1, hkd, fun u G2 H2 s2 r2 => ?_⟩
        have A2 := A1.step s2
        have eu := dkey_ok r2 hkk
        subst eu
        have hp2 : H2 p = some (.dK us) := s2.hh _ _ y3
        have ha2 : H2 a = some (.ins C dx (vs ++ [(n, .ref p)])) := s2.hh _ _ g4
        have ga2 : G2 a = none := (s2.out _ _ g4).trans g3
        have gp2 : G2 p = none := (s2.out _ _ y3).trans y2
        have npa : a ≠ p := ne_of ha2 hp2 (by intro z; cases z)
        have hlen : us.length = kvs.length := by simpa using congrArg List.length y4
        obtain ⟨w1, w2⟩ := kr_put (k := kk) (r1.mono s2.gg) y4 (y5.mono s2.gg)
        refine ⟨p, _, rfl, DPut.k hp2 (by have := sizeLine_eq; omega), ?_⟩
        refine k σ G2 _ (s1.gg.trans s2.gg) (A2.ch hi h1 (.objd g1' g2 ga2 ha2 g5 (g6.mono s2.gg) y1 gp2 hp2 y4 (y5.mono s2.gg) g7) (fun b o e hb => ?_) (.objd (p := p) g1' g2 ga2 (by rw [zaB npa]; exact ha2) g5 (g6.mono s2.gg) y1 gp2 zaH w1 w2 g7) (fun b hb => .inl hb) (.refl _) (fun b o e => ?_) (fun _ _ _ _ => rfl))
        · rw [zaB (fun z => hb (by rw [z]; exact List.mem_cons_of_mem _ List.mem_cons_self))]; exact e
        · rw [zaB (zat e gp2)]; exact A2.gh b o e
    · cases hq
  · cases hq⟩
def slotIns : Slot -> Option D
  | .obj c fs => some (.ins c fs)
  | .objd c fs n kvs => some (.ins c (fs ++ [(n, .dk kvs)]))
  | _ => none
theorem At.done {K : PySem.W.Frag} {G₀ H₀ G H : Hp} {ρ : za2} {σ : St} (A : At Γ K G₀ H₀ G H ρ σ) {i : Nat} {s : Slot} {d : D} (hi : ρ[i]? = some (some s)) (hd : slotIns s = some d) : ∃ a G', Γ.self = some a /\ Step G₀ H₀ G' H /\ Rep Γ K G' (.ref a) d := by
  obtain ⟨v, fp, h1, h2⟩ := A.get hi
  cases h2 with
  | sh _ => cases hd
  | own _ _ _ _ => cases hd
  | odk _ _ _ _ _ => cases hd
  | odt _ _ _ _ _ => cases hd
  | tlo _ _ _ _ _ _ => cases hd
  | pin _ => cases hd
  | obj g1 g2 g3 g4 g5 g6 g7 =>
    cases hd
    rename_i a C dx vs fs
    have sm : zb9 G (upd G a (.ins C dx vs)) := fun b o e => by rw [zaB (zat e g3)]; exact e
    refine ⟨a, upd G a (.ins C dx vs), g7, ⟨A.st.hh, A.st.gg.trans sm, fun b o e => ?_, fun b o e => ?_⟩, .ins zaH g1 g5 (g6.mono sm)⟩
    · by_cases hb : b = a
      · subst hb; rw [zaH] at e; cases e; exact g4
      · rw [zaB hb] at e; exact A.gh b o e
    · rw [zaB (zat e g2)]; exact A.st.out b o e
  | objd g1 g2 g3 g4 g5 g6 y1 y2 y3 y4 y5 g7 =>
    cases hd
    rename_i n a C dx p vs fs us kvs
    have npa : a ≠ p := ne_of g4 y3 (by intro z; cases z)
    have sm : zb9 G (upd (upd G p (.dK us)) a (.ins C dx (vs ++ [(n, .ref p)]))) := fun b o e => by rw [zaB (zat e g3), zaB (zat e y2)]; exact e
    refine ⟨a, _, g7, ⟨A.st.hh, A.st.gg.trans sm, fun b o e => ?_, fun b o e => ?_⟩, .ins (us := vs ++ [(n, .ref p)]) (fs := fs ++ [(n, .dk kvs)]) zaH g1 (by simp [g5]) ?_⟩
    · by_cases hb : b = a
      · subst hb; rw [zaH] at e; cases e; exact g4
      · rw [zaB hb] at e
        by_cases hb' : b = p
        · subst hb'; rw [zaH] at e; cases e; exact y3
        · rw [zaB hb'] at e; exact A.gh b o e
    · rw [zaB (zat e g2), zaB (zat e y1)]; exact A.st.out b o e
    · have r2 : Rep Γ K (upd (upd G p (.dK us)) a (.ins C dx (vs ++ [(n, .ref p)]))) (.ref p) (.dk kvs) := .dk (us := us) (by rw [zaB npa.symm, zaH]) y4 (y5.mono sm)
      simpa using (g6.mono sm).append (.cons r2 .nil)
end
end L2
end
section
namespace L2
open PySem PySem.Spec PyProof.Rows
def Cn.mk1 (Γ : Cn) (x : Addr) : Cn := ⟨Γ.cls, some x⟩
section
variable {Γ : Cn} {P : Program} {w : World} {K : PySem.W.Frag} {mg : Str -> Option Value} {base : Heap} {c : Str} {attrs : List Str} {x : Addr}
theorem Rep.to1 {G : Hp} {v : V} {d : D} (x : Addr) (r : Rep Γ K G v d) : Rep (Γ.mk1 x) K G v d := Rep.re (Γ := Γ) (Γ' := Γ.mk1 x) rfl r
theorem Rep.of1 {G : Hp} {v : V} {d : D} {x : Addr} (r : Rep (Γ.mk1 x) K G v d) : Rep Γ K G v d := Rep.re (Γ := Γ.mk1 x) (Γ' := Γ) rfl r
theorem Reps.of1 {G : Hp} {v : List V} {d : List D} {x : Addr} (r : Reps (Γ.mk1 x) K G v d) : Reps Γ K G v d := Reps.re (Γ := Γ.mk1 x) (Γ' := Γ) rfl r
theorem CF.re (h : CF Γ K c attrs) (x : Addr) : CF (Γ.mk1 x) K c attrs := ⟨h.ex⟩
theorem spF_re {n : Nat} {F : List D -> Option D} {vs : List V} {H : Hp} {Q : VK} {E : XK} (x : Addr) (h : spF (Γ.mk1 x) K n F vs H Q E) : spF Γ K n F vs H Q E := by
  obtain ⟨G, ds, d, h1, h2, h3, h4, k⟩ := h
  exact ⟨G, ds, d, h1, h2.of1, h3, h4, fun v G' H' s r => k v G' H' s (r.to1 x)⟩
theorem Cal.re {y : Str} {n k : Nat} {F : List D -> Option D} (C : Cal Γ P w K mg base y n k F) (x : Addr) : Cal (Γ.mk1 x) P w K mg base y n k F := by
  obtain ⟨f, fd, ps, h1, h2, h3, h4⟩ := C.ex
  exact ⟨f, fd, ps, h1.imp fun vs H Q E q => spF_re x q, h2, h3, h4⟩
structure CalM (Γ : Cn) (P : Program) (w : World) (K : PySem.W.Frag) (mg : Str -> Option Value) (base : Heap) (c m : Str) (n k : Nat) (F : List D -> Option D) : Prop where
  ex : ∃ C f fd ps, Γ.cls c = some C /\ Cls K C /\ Meth K C m f /\ FnOk P w K mg base CX0 k f fd ps (spF Γ K n F) /\ Binds K fd ps []
def spI (Γ : Cn) (K : PySem.W.Frag) (C : Addr) (n : Nat) (F : List D -> Option D) : Sp := fun vs H Q _ => ∃ x dx H1 G ds d us, vs = .ref x :: us /\ H = upd (upd H1 dx (.own x)) x (.ins C dx []) /\ H1 x = none /\ H1 dx = none /\ dx ≠ x /\ zb9 G H1 /\ Reps Γ K G us ds /\ ds.length = n /\ F ds = some d /\
  ∀ G' H', Step G H1 G' H' -> Rep Γ K G' (.ref x) d -> Q .non H'
structure CalI (Γ : Cn) (P : Program) (w : World) (K : PySem.W.Frag) (mg : Str -> Option Value) (base : Heap) (c : Str) (n k : Nat) (F : List D -> Option D) : Prop where
  ex : ∃ C f fd ps, Γ.cls c = some C /\ Mk K C f /\ mg c = some (.ref C) /\ FnOk P w K mg base CX0 k f fd ps (spI Γ K C n F) /\ Binds K fd ps []
end
section
variable {Γ : Cn} {X : Cx} {e o : Expr} {es : List Expr} {fo : FE} {fr : FA} {pos p apos : Pos} {c m : Str}
def methF (c m : Str) (F : List D -> Option D) (fo : FE) (fr : FA) : FE := fun ρ => (fo ρ).bind fun d => match d with
  | .ins c' fs => if c' = c /\ fs.lookup m = none then (fr ρ).bind fun ds => F (d :: ds) else none
  | _ => none
theorem de_meth {n k j : Nat} {F : List D -> Option D} {pl : Sem Bool} (C : CalM Γ X.prog X.w X.K X.mg X.base c m (n + 1) k F) (hr : Room j X.A) (hk : k <= j) (ho : DE Γ X o fo) (ha : DA Γ X (e :: es) fr) (hn : ∀ ρ ds, fr ρ = some ds -> ds.length = n)
    (hst : starEach (e :: es) X.env = (false, eval e X.env) :: starEach es X.env := by rfl) (hpl : (backTo pos (starEach es X.env)).any (·.1) = false := by rfl)
    (ht : eval (.Call (.Attribute o m apos) (e :: es) [] pos) X.env = (do
      let ov ← eval o X.env
      standAt apos.atName
      let (f, first) ← holding [ov] (getMethod ov m pl)
      callWith pos f first (backTo pos (starEach (e :: es) X.env)) (backToKw pos (keywordEach [] X.env))) := by rfl) :
    DE Γ X (.Call (.Attribute o m apos) (e :: es) [] pos) (methF c m F fo fr) := ⟨by
  obtain ⟨Ca, f, fd, ps, h0, h1, h2, h3, h4⟩ := C.ex
  refine (pe_meth ho.1 h1 h2 h3 (hr.mono hk) h4 .nil pass0 ha.1 hst hpl ht).imp fun σ H Q => ?_
  rintro ⟨G₀, H₀, G, ρ, d, A, h, k⟩
  unfold methF at h
  obtain ⟨x, hx, hq⟩ := Option.bind_eq_some_iff.mp h
  clear h
  refine ⟨G₀, H₀, G, ρ, x, A, hx, fun v G1 H1 s1 r1 => ?_⟩
  split at hq
  · rename_i c' fs
    split at hq
    · rename_i hz
      obtain ⟨rfl, hz2⟩ := hz
      obtain ⟨ds, hds, hF⟩ := Option.bind_eq_some_iff.mp hq
      have r1' := r1
      cases r1 with
      | ins g1 g2 g3 g4 =>
        rw [h0] at g2
        cases g2
        rename_i _ _ us0
        have hl : List.lookup m us0 = none := by
          rcases zcl (k := m) g3 g4 with ⟨_, z2⟩ | ⟨d', v', z1, _, _⟩
          · exact z2
          · rw [z1] at hz2; cases hz2
        refine ⟨_, _, _, rfl, s1.gh _ _ g1, hl, G₀, H₀, G1, ρ, ds, A.step s1, hds, fun vs G2 H2 s2 r2 => ?_⟩
        show spF Γ X.K (n + 1) F (_ :: (vs ++ [])) H2 Q E0
        rw [List.append_nil]
        exact ⟨G2, _, d, s2.gh, .cons (r1'.mono s2.gg) r2, by rw [List.length_cons, hn ρ ds hds], hF, fun v G' H' s r => k v G' H' ((s1.trans s2).trans s) r⟩
    · cases hq
  · cases hq⟩
theorem de_meth0 {k j : Nat} {F : List D -> Option D} {pl : Sem Bool} (C : CalM Γ X.prog X.w X.K X.mg X.base c m 1 k F) (hr : Room j X.A) (hk : k <= j) (ho : DE Γ X o fo)
    (ht : eval (.Call (.Attribute o m apos) [] [] pos) X.env = (do
      let ov ← eval o X.env
      standAt apos.atName
      let (f, first) ← holding [ov] (getMethod ov m pl)
      callWith pos f first (backTo pos (starEach [] X.env)) (backToKw pos (keywordEach [] X.env))) := by rfl) :
    DE Γ X (.Call (.Attribute o m apos) [] [] pos) (methF c m F fo zak) := ⟨by
  obtain ⟨Ca, f, fd, ps, h0, h1, h2, h3, h4⟩ := C.ex
  refine (pe_meth0 ho.1 h1 h2 h3 (hr.mono hk) h4 .nil pass0 ht).imp fun σ H Q => ?_
  rintro ⟨G₀, H₀, G, ρ, d, A, h, k⟩
  unfold methF at h
  obtain ⟨x, hx, hq⟩ := Option.bind_eq_some_iff.mp h
  clear h
  refine ⟨G₀, H₀, G, ρ, x, A, hx, fun v G1 H1 s1 r1 => ?_⟩
  split at hq
  · rename_i c' fs
    split at hq
    · rename_i hz
      obtain ⟨rfl, hz2⟩ := hz
      obtain ⟨ds, hds, hF⟩ := Option.bind_eq_some_iff.mp hq
      cases hds
      have r1' := r1
      cases r1 with
      | ins g1 g2 g3 g4 =>
        rw [h0] at g2
        cases g2
        rename_i _ _ us0
        have hl : List.lookup m us0 = none := by
          rcases zcl (k := m) g3 g4 with ⟨_, z2⟩ | ⟨d', v', z1, _, _⟩
          · exact z2
          · rw [z1] at hz2; cases hz2
        refine ⟨_, _, _, rfl, s1.gh _ _ g1, hl, ?_⟩
        exact ⟨G1, _, d, s1.gh, .cons r1' .nil, rfl, hF, fun v G' H' s r => k v G' H' (s1.trans s) r⟩
    · cases hq
  · cases hq⟩
theorem de_make {n k j : Nat} {F : List D -> Option D} (C : CalI Γ X.prog X.w X.K X.mg X.base c n k F) (hr : Room j X.A) (hk : k + 1 <= j) (hg : Gl X c) (ha : DA Γ X (e :: es) fr) (hn : ∀ ρ ds, fr ρ = some ds -> ds.length = n)
    (hdb : (c == ("__debug__" : Str)) = false := by decide) (he : starEach (e :: es) X.env = (false, eval e X.env) :: starEach es X.env := by rfl) (hpl : (backTo pos (starEach es X.env)).any (·.1) = false := by rfl) :
    DE Γ X (.Call (.Name c p) (e :: es) [] pos) (cF F fr) := ⟨by
  obtain ⟨Ca, f, fd, ps, h0, h1, h2, h3, h4⟩ := C.ex
  refine (pe_make h1 h3 (hr.mono hk) hg h2 h4 .nil pass0 ha.1 hdb he hpl).imp fun σ H Q => ?_
  rintro ⟨G₀, H₀, G, ρ, d, A, h, k⟩
  unfold cF at h
  obtain ⟨ds, hd, hq⟩ := Option.bind_eq_some_iff.mp h
  refine ⟨G₀, H₀, G, ρ, ds, A, hd, fun vs G1 H1 s1 r1 x dx hx hdx hne => ?_⟩
  rw [List.append_nil]
  exact ⟨x, dx, H1, G1, ds, d, vs, rfl, rfl, hx, hdx, hne, s1.gh, r1, hn ρ ds hd, hq, fun G' H' s r => ⟨rfl, k _ G' H' (s1.trans s) r⟩⟩⟩
end
def runI (n : Nat) (c : Str) (g : FS) : List D -> Option D := fun ds => (g (some (.obj c []) :: ds.map (fun d => some (Slot.sh d)) ++ List.replicate n none)).bind fun r => match r.1 with
  | .nx => match r.2[0]? with
    | some (some s) => slotIns s
    | _ => none
  | _ => none
section
variable {Γ : Cn} {P : Program} {w : World} {K : PySem.W.Frag} {mg : Str -> Option Value} {base : Heap} {c : Str} {attrs : List Str}
theorem Fun.okI {x qual : Str} {st : Stmt} {f C : Addr} {fd : FuncData} {N ps : List Str} {s0 : Str} {k : Nat} {g : FS} (F : Fun K x qual st f fd) (S : FnScope N (s0 :: ps) (zai st)) (hC : Γ.cls c = some C)
    (hbody : ∀ (y : Addr) (cdv : Value) (A : Around) (outer : List Env) (s : Shared) (H : Hp) (E : XK), Room k (A.deeper (envOfC qual (zai st) s.heap.objs.size f cdv)) ->
      DSs (Γ.mk1 y) (cxOf CX0 P w K mg base N qual (zai st) f cdv A outer s H E).nox (zbe st) g) : FnOk P w K mg base CX0 (k + 1) f fd (s0 :: ps) (spI Γ K C ps.length (runI (N.length - (ps.length + 1)) c g)) := by
  refine F.ok S (fun vs H Q E h => ?_) (fun cdv A outer s H vs Q E hr h => ?_)
  · obtain ⟨y, dx, H1, G, ds, d, us, rfl, _, _, _, _, _, r, hl, _⟩ := h
    rw [List.length_cons, r.length, hl, List.length_cons]
  · obtain ⟨y, dx, H1, G, ds, d, us, rfl, rfl, hx, hdx, hne, gh, r, hl, hd, k⟩ := h
    refine ⟨_, (hbody y cdv A outer s _ E hr).1, ?_⟩
    unfold runI at hd
    obtain ⟨⟨fl, ρ'⟩, hg, hd⟩ := Option.bind_eq_some_iff.mp hd
    have s1 := Step.newOwn (o := .own y) gh hdx
    have hx1 : (upd H1 dx (.own y)) y = none := by rw [zaB (Ne.symm hne)]; exact hx
    have s2 := s1.trans (Step.newOwn (o := .ins C dx []) s1.gh hx1)
    have hlen : us.length = ds.length := r.length
    have A0 : At (Γ.mk1 y) K G H1 G (upd (upd H1 dx (.own y)) y (.ins C dx [])) (some (.obj c []) :: ds.map (fun d => some (Slot.sh d)) ++ List.replicate (N.length - (ps.length + 1)) none) (start N (.ref y :: us)) := by
      refine ⟨s2, by simp [start, hlen, hl], fun i => if i = 0 then [y] else [], fun i t e => ?_, fun i j t u hij e1 e2 b hb => ?_⟩
      · cases i with
        | zero =>
          cases e
          exact ⟨.ref y, rfl, .obj (vs := []) (fs := []) hC hx (gh.free hx) zaH rfl .nil rfl⟩
        | succ i =>
          have e : (ds.map (fun d => some (Slot.sh d)) ++ List.replicate (N.length - (ps.length + 1)) none)[i]? = some (some t) := e
          by_cases hi : i < ds.length
          · rw [List.getElem?_append_left (by simpa using hi), List.getElem?_map] at e
            obtain ⟨d', hd', e⟩ := Option.map_eq_some_iff.mp e
            cases e
            obtain ⟨v, hv, rv⟩ := r.get hd'
            refine ⟨v, ?_, .sh (rv.to1 y)⟩
            unfold start
            show ((us.map some) ++ _)[i]? = some (some v)
            rw [List.getElem?_append_left (by rw [List.length_map, hlen]; exact hi), List.getElem?_map, hv]
            rfl
          · rw [List.getElem?_append_right (by simpa using hi), List.getElem?_replicate] at e
            split at e <;> cases e
      · have hb : b ∈ (if i = 0 then [y] else []) := hb
        show b ∉ (if j = 0 then [y] else [])
        by_cases hi : i = 0
        · subst hi
          rw [if_neg (Ne.symm hij)]
          exact fun z => by cases z
        · rw [if_neg hi] at hb; cases hb
    refine ⟨G, H1, G, _, fl, ρ', A0, hg, fun σ' G' H' sm A' => ?_⟩
    cases fl with
    | nx =>
      simp only at hd
      split at hd
      · rename_i sl hs
        obtain ⟨a, G2, e1, st2, rp⟩ := A'.done hs hd
        cases e1
        exact k G2 H' st2 rp.of1
      · cases hd
    | rt d' => cases hd
    | ow d' => cases hd
    | nw d' => cases hd
    | od d' => cases hd
    | bk => cases hd
    | ct => cases hd
structure DfnM (K : PySem.W.Frag) (C : Addr) (c m qual : Str) (st : Stmt) : Prop where
  ex : ∃ f fd, Fun K m qual st f fd /\ PySem.W.findIn K (.ref C) m = some (some (.ref f)) /\ PySem.W.isFn K (.ref f) = true
structure ClsOk (Γ : Cn) (K : PySem.W.Frag) (mg : Str -> Option Value) (c : Str) (C : Addr) : Prop where
  cn : Γ.cls c = some C
  cl : Cls K C
  mgC : mg c = some (.ref C)
  makes : PySem.W.makesIn K C = true
  kp : PySem.W.keepIn K (.ref C) = true
theorem DfnM.cal {m qual : Str} {C : Addr} {st : Stmt} {N ps : List Str} {k : Nat} {g : FS} (O : ClsOk Γ K mg c C) (F : DfnM K C c m qual st) (S : FnScope N ps (zai st))
    (hb : ∀ (kV doc pm : Value) (an : Option Addr) (cdv ct : Value) (us : List Value), us.length = ps.length -> bindArgs (PySem.W.fnOf m qual (zcy st) (zbe st) (zai st) .none kV doc pm an cdv ct) ⟨us, []⟩ = pure (ps.zip us))
    (hbody : ∀ (f : Addr) (cdv : Value) (A : Around) (outer : List Env) (s : Shared) (H : Hp) (E : XK), Room k (A.deeper (envOfC qual (zai st) s.heap.objs.size f cdv)) ->
      DSs Γ (cxOf CX0 P w K mg base N qual (zai st) f cdv A outer s H E).nox (zbe st) g) : CalM Γ P w K mg base c m ps.length (k + 1) (zbO (N.length - ps.length) g) := by
  obtain ⟨f, fd, h1, h2, h3⟩ := F.ex
  exact ⟨C, f, fd, ps, O.cn, O.cl, ⟨h2, h3, h1.kp⟩, h1.okD S (hbody f), h1.binds hb⟩
theorem DfnM.calI {qual : Str} {C : Addr} {st : Stmt} {N ps : List Str} {s0 : Str} {k : Nat} {g : FS} (O : ClsOk Γ K mg c C) (F : DfnM K C c "__init__" qual st) (S : FnScope N (s0 :: ps) (zai st))
    (hb : ∀ (kV doc pm : Value) (an : Option Addr) (cdv ct : Value) (us : List Value), us.length = (s0 :: ps).length -> bindArgs (PySem.W.fnOf "__init__" qual (zcy st) (zbe st) (zai st) .none kV doc pm an cdv ct) ⟨us, []⟩ = pure ((s0 :: ps).zip us))
    (hbody : ∀ (f y : Addr) (cdv : Value) (A : Around) (outer : List Env) (s : Shared) (H : Hp) (E : XK), Room k (A.deeper (envOfC qual (zai st) s.heap.objs.size f cdv)) ->
      DSs (Γ.mk1 y) (cxOf CX0 P w K mg base N qual (zai st) f cdv A outer s H E).nox (zbe st) g) : CalI Γ P w K mg base c ps.length (k + 1) (runI (N.length - (ps.length + 1)) c g) := by
  obtain ⟨f, fd, h1, h2, h3⟩ := F.ex
  exact ⟨C, f, fd, s0 :: ps, O.cn, ⟨O.makes, h2, h3, O.kp⟩, O.mgC, h1.okI S O.cn (hbody f), h1.binds hb⟩
theorem ClsOk.cf {C : Addr} (O : ClsOk Γ K mg c C) (h : ∀ f ∈ attrs, NoAttr K C f) : CF Γ K c attrs := ⟨C, O.cn, O.cl, h⟩
end
end L2
end
section
namespace ST
open PySem
structure Pr where
  j : Nat
  more : Nat
  i : Nat
  pt : Nat
def adv (M : Nat) (p : Pr) : Pr := if p.more > 0 then { p with j := p.j + 1, more := p.more - 1 } else
  { j := (SetTable.leap M p.i p.pt).1, more := SetTable.runEnd M (SetTable.leap M p.i p.pt).1 - (SetTable.leap M p.i p.pt).1, i := (SetTable.leap M p.i p.pt).1, pt := (SetTable.leap M p.i p.pt).2 }
def st0 (M : Nat) (h : Int) : Pr := { j := SetTable.bits h % (M + 1), more := SetTable.runEnd M (SetTable.bits h % (M + 1)) - SetTable.bits h % (M + 1), i := SetTable.bits h % (M + 1), pt := SetTable.bits h }
def it (M : Nat) (h : Int) : Nat -> Pr
  | 0 => st0 M h
  | n + 1 => adv M (it M h n)
def J (M : Nat) (h : Int) (n : Nat) : Nat := (it M h n).j
def lp (M : Nat) (h : Int) : Nat -> Nat × Nat
  | 0 => (SetTable.bits h % (M + 1), SetTable.bits h)
  | r + 1 => SetTable.leap M (lp M h r).1 (lp M h r).2
def atRun (M : Nat) (x : Nat × Nat) : Pr := { j := x.1, more := SetTable.runEnd M x.1 - x.1, i := x.1, pt := x.2 }
theorem it_add (M : Nat) (h : Int) (n : Nat) : ∀ k, it M h (n + k) = (Nat.repeat (adv M) k (it M h n))
  | 0 => rfl
  | k + 1 => by rw [← Nat.add_assoc, it, it_add M h n k]; rfl
theorem run_len (M i : Nat) : SetTable.runEnd M i - i <= 9 := by
  unfold SetTable.runEnd
  split <;> omega
theorem steps (M : Nat) : ∀ (k : Nat) (p : Pr), k <= p.more -> Nat.repeat (adv M) k p = { p with j := p.j + k, more := p.more - k }
  | 0, p, _ => rfl
  | k + 1, p, h => by
    rw [Nat.repeat, steps M k p (by omega)]
    unfold adv
    rw [if_pos (by show p.more - k > 0; omega)]
    simp only [Nat.sub_sub, Nat.add_assoc]
theorem run_at (M : Nat) (h : Int) : ∀ r, ∃ n, n <= 10 * r /\ it M h n = atRun M (lp M h r)
  | 0 => ⟨0, Nat.le_refl _, rfl⟩
  | r + 1 => by
    obtain ⟨n, hn, e⟩ := run_at M h r
    have hl := run_len M (lp M h r).1
    refine ⟨n + (SetTable.runEnd M (lp M h r).1 - (lp M h r).1) + 1, by omega, ?_⟩
    have e2 := steps M (SetTable.runEnd M (lp M h r).1 - (lp M h r).1) (atRun M (lp M h r)) (Nat.le_refl _)
    rw [it, it_add, e, e2]
    unfold adv
    rw [if_neg (by show ¬ ((SetTable.runEnd M (lp M h r).1 - (lp M h r).1) - (SetTable.runEnd M (lp M h r).1 - (lp M h r).1) > 0); omega)]
    rfl
theorem bits_lt (h : Int) : SetTable.bits h < 2 ^ 64 := by
  unfold SetTable.bits
  have h1 := Int.emod_nonneg h (show (2 ^ 64 : Int) ≠ 0 by decide)
  have h2 := Int.emod_lt_of_pos h (show (0 : Int) < 2 ^ 64 by decide)
  omega
theorem pt_at (M : Nat) (h : Int) : ∀ r, (lp M h r).2 = SetTable.bits h / 32 ^ r
  | 0 => by simp [lp]
  | r + 1 => by
    show (lp M h r).2 / 32 = _
    rw [pt_at M h r, Nat.div_div_eq_div_mul, Nat.pow_succ]
theorem pt_zero (M : Nat) (h : Int) {r : Nat} (hr : 13 <= r) : (lp M h r).2 = 0 := by
  rw [pt_at]
  refine Nat.div_eq_of_lt (Nat.lt_of_lt_of_le (bits_lt h) ?_)
  exact Nat.le_trans (show 2 ^ 64 <= 32 ^ 13 by decide) (Nat.pow_le_pow_right (by decide) hr)
def fl (M i : Nat) : Nat := (i * 5 + 1) % (M + 1)
def orb (M : Nat) : Nat -> Nat -> Nat
  | 0, i => i
  | m + 1, i => fl M (orb M m i)
theorem lp_orb (M : Nat) (h : Int) : ∀ m, (lp M h (13 + m)).1 = orb M m (lp M h 13).1
  | 0 => rfl
  | m + 1 => by
    show (SetTable.leap M (lp M h (13 + m)).1 (lp M h (13 + m)).2).1 = _
    rw [pt_zero M h (by omega), lp_orb M h m]
    simp [SetTable.leap, orb, fl]
theorem orb_add (M i : Nat) (a : Nat) : ∀ b, orb M (a + b) i = orb M b (orb M a i)
  | 0 => rfl
  | b + 1 => by rw [← Nat.add_assoc, orb, orb_add M i a b]; rfl
def orbL (M : Nat) : Nat -> Nat -> List Nat
  | 0, _ => []
  | n + 1, i => i :: orbL M n (fl M i)
theorem orb_succ (M : Nat) : ∀ m i, orb M (m + 1) i = orb M m (fl M i)
  | 0, _ => rfl
  | m + 1, i => by rw [orb, orb_succ M m i]; rfl
theorem orbL_mem (M : Nat) : ∀ (n i j : Nat), j ∈ orbL M n i -> ∃ m, m < n /\ orb M m i = j
  | 0, _, _, h => nomatch h
  | n + 1, i, j, h => by
    rcases List.mem_cons.mp h with e | h
    · exact ⟨0, Nat.succ_pos _, e.symm⟩
    · obtain ⟨m, hm, e⟩ := orbL_mem M n (fl M i) j h
      exact ⟨m + 1, by omega, by rw [orb_succ]; exact e⟩
structure Full (M : Nat) : Prop where
  all : ∀ j, j <= M -> ∃ m, m < M + 1 /\ orb M m 0 = j
  back : orb M (M + 1) 0 = 0
def chk (M : Nat) : Bool := (List.range (M + 1)).all (fun j => (orbL M (M + 1) 0).contains j) && orb M (M + 1) 0 == 0
theorem full_of {M : Nat} (h : chk M = true) : Full M := by
  unfold chk at h
  rw [Bool.and_eq_true, List.all_eq_true] at h
  refine ⟨fun j hj => ?_, by simpa using h.2⟩
  have := h.1 j (List.mem_range.mpr (by omega))
  exact orbL_mem M (M + 1) 0 j (by simpa using this)
theorem full7 : Full 7 := full_of (by decide +kernel)
theorem full31 : Full 31 := full_of (by decide +kernel)
theorem full127 : Full 127 := full_of (by decide +kernel)
theorem full511 : Full 511 := full_of (by decide +kernel)
theorem Full.reach {M : Nat} (F : Full M) {i j : Nat} (hi : i <= M) (hj : j <= M) : ∃ m, m <= M /\ orb M m i = j := by
  obtain ⟨a, ha, ea⟩ := F.all i hi
  obtain ⟨b, hb, eb⟩ := F.all j hj
  by_cases h : a <= b
  · refine ⟨b - a, by omega, ?_⟩
    rw [← ea, ← orb_add, show a + (b - a) = b by omega, eb]
  · refine ⟨M + 1 - a + b, by omega, ?_⟩
    rw [← ea, ← orb_add, show a + (M + 1 - a + b) = (M + 1) + b by omega, orb_add, F.back, eb]
theorem lp_le (M : Nat) (h : Int) : ∀ r, (lp M h r).1 <= M
  | 0 => Nat.lt_succ_iff.mp (Nat.mod_lt _ (Nat.succ_pos _))
  | r + 1 => Nat.lt_succ_iff.mp (Nat.mod_lt _ (Nat.succ_pos _))
theorem Full.covers {M : Nat} (F : Full M) (h : Int) {j : Nat} (hj : j <= M) : ∃ n, n < 10 * (M + 15) /\ J M h n = j := by
  obtain ⟨m, hm, e⟩ := F.reach (lp_le M h 13) hj
  obtain ⟨n, hn, en⟩ := run_at M h (13 + m)
  refine ⟨n, by omega, ?_⟩
  unfold J
  rw [en]
  show (lp M h (13 + m)).1 = j
  rw [lp_orb, e]
theorem it_le (M : Nat) (h : Int) : ∀ n, (it M h n).j + (it M h n).more <= M
  | 0 => by
    have := lp_le M h 0
    show (lp M h 0).1 + (SetTable.runEnd M (lp M h 0).1 - (lp M h 0).1) <= M
    unfold SetTable.runEnd
    split <;> omega
  | n + 1 => by
    have ih := it_le M h n
    rw [it]
    unfold adv
    split
    · show (it M h n).j + 1 + ((it M h n).more - 1) <= M
      omega
    · show (SetTable.leap M (it M h n).i (it M h n).pt).1 + (SetTable.runEnd M (SetTable.leap M (it M h n).i (it M h n).pt).1 - (SetTable.leap M (it M h n).i (it M h n).pt).1) <= M
      have : (SetTable.leap M (it M h n).i (it M h n).pt).1 <= M := Nat.lt_succ_iff.mp (Nat.mod_lt _ (Nat.succ_pos _))
      unfold SetTable.runEnd
      split <;> omega
theorem J_le (M : Nat) (h : Int) (n : Nat) : J M h n <= M := Nat.le_trans (Nat.le_add_right _ _) (it_le M h n)
theorem Full.first {M : Nat} (F : Full M) (h : Int) (occ : Nat -> Bool) (hf : ∃ j, j <= M /\ occ j = false) : ∃ n, n < 10 * (M + 15) /\ occ (J M h n) = false /\ ∀ m, m < n -> occ (J M h m) = true := by
  obtain ⟨j, hj, hof⟩ := hf
  obtain ⟨n, hn, e⟩ := F.covers h hj
  have key : ∀ n, n < 10 * (M + 15) -> occ (J M h n) = false -> ∃ n, n < 10 * (M + 15) /\ occ (J M h n) = false /\ ∀ m, m < n -> occ (J M h m) = true := by
    intro n
    induction n using Nat.strongRecOn with
    | ind n ih =>
      intro hn ho
      by_cases hx : ∃ m, m < n /\ occ (J M h m) = false
      · obtain ⟨m, hm, hm2⟩ := hx
        exact ih m hm (by omega) hm2
      · refine ⟨n, hn, ho, fun m hm => ?_⟩
        cases q : occ (J M h m) with
        | true => rfl
        | false => exact absurd ⟨m, hm, q⟩ hx
  exact key n hn (by rw [e]; exact hof)
end ST
end
section
namespace ST
open PySem
theorem below_go (xs : Array Nat) (j : Nat) (hs : xs.toList.Pairwise (· < ·)) : ∀ (fuel lo hi : Nat), hi - lo <= fuel -> lo <= hi -> hi <= xs.size -> (∀ i, i < lo -> ∀ v, xs[i]? = some v -> v < j) -> (∀ i, hi <= i -> ∀ v, xs[i]? = some v -> j <= v) ->
    (SetTable.below.go xs j fuel lo hi <= xs.size) /\ (∀ i, i < SetTable.below.go xs j fuel lo hi -> ∀ v, xs[i]? = some v -> v < j) /\ ∀ i, SetTable.below.go xs j fuel lo hi <= i -> ∀ v, xs[i]? = some v -> j <= v
  | 0, lo, hi, hf, hl, hh, h1, h2 => by
    have e : lo = hi := by omega
    subst e
    exact ⟨hh, h1, h2⟩
  | fuel + 1, lo, hi, hf, hl, hh, h1, h2 => by
    have mono : ∀ a b va vb, a < b -> xs[a]? = some va -> xs[b]? = some vb -> va < vb := fun a b va vb hab ha hb => by
      have := List.pairwise_iff_getElem.mp hs a b
      obtain ⟨a1, a2⟩ := Array.getElem?_eq_some_iff.mp ha
      obtain ⟨b1, b2⟩ := Array.getElem?_eq_some_iff.mp hb
      have q := this (by simpa using a1) (by simpa using b1) hab
      simpa [a2, b2] using q
    unfold SetTable.below.go
    by_cases hlt : lo < hi
    · rw [if_pos hlt]
      have hm1 : lo <= (lo + hi) / 2 := by omega
      have hm2 : (lo + hi) / 2 < hi := by omega
      have hget : ∃ v, xs[(lo + hi) / 2]? = some v := ⟨xs[(lo + hi) / 2]'(by omega), by simp [show (lo + hi) / 2 < xs.size by omega]⟩
      obtain ⟨v, hv⟩ := hget
      have hd : xs.getD ((lo + hi) / 2) j = v := by simp [Array.getD_eq_getD_getElem?, hv]
      dsimp only
      rw [hd]
      by_cases hvj : v < j
      · rw [if_pos hvj]
        refine below_go xs j hs fuel _ _ (by omega) (by omega) hh (fun i hi' w hw => ?_) h2
        rcases Nat.lt_or_ge i ((lo + hi) / 2) with hi2 | hi2
        · exact Nat.lt_trans (mono i _ w v hi2 hw hv) hvj
        · have e : i = (lo + hi) / 2 := by omega
          subst e
          rw [hv] at hw; cases hw; exact hvj
      · rw [if_neg hvj]
        refine below_go xs j hs fuel _ _ (by omega) (by omega) (by omega) h1 fun i hi' w hw => ?_
        rcases Nat.lt_or_ge ((lo + hi) / 2) i with hi2 | hi2
        · exact Nat.le_trans (by omega) (Nat.le_of_lt (mono _ i v w hi2 hv hw))
        · have e : i = (lo + hi) / 2 := by omega
          subst e
          rw [hv] at hw; cases hw; omega
    · rw [if_neg hlt]
      have e : lo = hi := by omega
      subst e
      exact ⟨hh, h1, h2⟩
theorem below_ok (xs : Array Nat) (j : Nat) (hs : xs.toList.Pairwise (· < ·)) : SetTable.below xs j <= xs.size /\ (∀ i, i < SetTable.below xs j -> ∀ v, xs[i]? = some v -> v < j) /\ ∀ i, SetTable.below xs j <= i -> ∀ v, xs[i]? = some v -> j <= v :=
  below_go xs j hs xs.size 0 xs.size (Nat.le_refl _) (Nat.zero_le _) (Nat.le_refl _) (fun i h => absurd h (Nat.not_lt_zero _)) fun i h v hv => by
    have := (Array.getElem?_eq_some_iff.mp hv).1
    omega
theorem below_mem (xs : Array Nat) (j i : Nat) (hs : xs.toList.Pairwise (· < ·)) (h : xs[i]? = some j) : SetTable.below xs j = i := by
  obtain ⟨h0, h1, h2⟩ := below_ok xs j hs
  rcases Nat.lt_trichotomy (SetTable.below xs j) i with hl | hl | hl
  · have hi := (Array.getElem?_eq_some_iff.mp h).1
    have hg : xs[SetTable.below xs j]? = some (xs[SetTable.below xs j]'(by omega)) := by simp [show SetTable.below xs j < xs.size by omega]
    have q1 := h2 _ (Nat.le_refl _) _ hg
    have := List.pairwise_iff_getElem.mp hs (SetTable.below xs j) i (by simp; omega) (by simpa using hi) hl
    obtain ⟨_, e⟩ := Array.getElem?_eq_some_iff.mp h
    simp only [Array.getElem_toList] at this
    omega
  · exact hl
  · have := h1 i hl j h
    omega
structure Tb (t : SetTable) (es : Array (Int × Value)) : Prop where
  full : Full t.mask
  sz : t.place.size = es.size
  dm : t.dummies = #[]
  ri : t.place.toList.Pairwise (· < ·)
  le : ∀ j ∈ t.place.toList, j <= t.mask
  few : es.size * 5 < t.mask * 3
  rc : ∀ (i j : Nat) (h : Int) (x : Value), t.place[i]? = some j -> es[i]? = some (h, x) -> ∃ n, J t.mask h n = j /\ ∀ m, m < n -> J t.mask h m ∈ t.place.toList
section
variable {t : SetTable} {es : Array (Int × Value)}
theorem Tb.live (T : Tb t es) {j i : Nat} (h : t.place[i]? = some j) : t.slot j = .live i := by
  unfold SetTable.slot
  rw [below_mem _ _ _ T.ri h]
  simp [h]
theorem Tb.empty (T : Tb t es) {j : Nat} (h : j ∉ t.place.toList) : t.slot j = .empty := by
  unfold SetTable.slot
  have h1 : t.place[SetTable.below t.place j]? ≠ some j := fun e => h (by
    rw [← Array.getElem?_toList] at e
    exact List.mem_of_getElem? e)
  have h2 : SetTable.has t.dummies j = false := by rw [T.dm]; rfl
  simp [h1, h2]
theorem Tb.occ (T : Tb t es) {j : Nat} (h : j ∈ t.place.toList) : ∃ i : Nat, t.place[i]? = some j := by
  obtain ⟨i, hi⟩ := List.mem_iff_getElem?.mp h
  exact ⟨i, by rw [← Array.getElem?_toList]; exact hi⟩
theorem Tb.fits (T : Tb t es) : t.fits es.size = true := by
  have h1 := T.sz
  have h2 := T.few
  simp only [SetTable.fits, SetTable.fill, T.dm, Array.size_empty, Bool.and_eq_true, beq_iff_eq, decide_eq_true_eq]
  omega
theorem sub_len : ∀ (a b : List Nat), a.Nodup -> (∀ x ∈ a, x ∈ b) -> a.length <= b.length
  | [], _, _, _ => Nat.zero_le _
  | x :: r, b, nd, h => by
    have hx := h x List.mem_cons_self
    have nd' := List.nodup_cons.mp nd
    have := sub_len r (b.erase x) nd'.2 fun y hy => (List.mem_erase_of_ne (show y ≠ x from fun e => nd'.1 (by rw [← e]; exact hy))).mpr (h y (List.mem_cons_of_mem _ hy))
    have hl := List.length_erase_of_mem hx
    have hp : 0 < b.length := List.length_pos_of_mem hx
    rw [List.length_cons]
    omega
theorem Tb.free (T : Tb t es) : ∃ j, j <= t.mask /\ decide (j ∈ t.place.toList) = false := by
  by_cases hx : ∃ j, j <= t.mask /\ j ∉ t.place.toList
  · obtain ⟨j, h1, h2⟩ := hx
    exact ⟨j, h1, decide_eq_false h2⟩
  · exfalso
    have all : ∀ j, j <= t.mask -> j ∈ t.place.toList := fun j hj => Classical.byContradiction fun hn => hx ⟨j, hj, hn⟩
    have h1 := sub_len (List.range (t.mask + 1)) t.place.toList List.nodup_range fun j hj => all j (by have := List.mem_range.mp hj; omega)
    have h2 := T.sz
    have h3 := T.few
    simp only [List.length_range, Array.length_toList] at h1
    omega
theorem Tb.first (T : Tb t es) (h : Int) : ∃ n, n < 10 * (t.mask + 15) /\ J t.mask h n ∉ t.place.toList /\ ∀ m, m < n -> J t.mask h m ∈ t.place.toList := by
  obtain ⟨n, h1, h2, h3⟩ := T.full.first h (fun j => decide (j ∈ t.place.toList)) T.free
  exact ⟨n, h1, of_decide_eq_false h2, fun m hm => of_decide_eq_true (h3 m hm)⟩
def zcA (p : Pr) : SetTable.Probe := { j := p.j, more := p.more, i := p.i, perturb := p.pt, dummy := none }
theorem adv_eq (t : SetTable) (p : Pr) : t.advance (zcA p) = zcA (adv t.mask p) := by
  unfold SetTable.advance adv zcA
  by_cases h : p.more > 0
  · simp only [h, if_true]
  · simp only [h, if_false]
theorem Tb.probe_go (T : Tb t es) (hashAt : Nat -> Int) (h : Int) {n0 : Nat} (hf : J t.mask h n0 ∉ t.place.toList) (ho : ∀ m, m < n0 -> J t.mask h m ∈ t.place.toList) : ∀ (fuel n : Nat), n <= n0 -> n0 < n + fuel ->
    (∃ n' i, n <= n' /\ n' < n0 /\ t.place[i]? = some (J t.mask h n') /\ hashAt i = h /\ (∀ m i, n <= m -> m < n' -> t.place[i]? = some (J t.mask h m) -> hashAt i ≠ h) /\ SetTable.probe.go t hashAt h fuel (zcA (it t.mask h n)) = some (.candidate (J t.mask h n') i (zcA (it t.mask h (n' + 1))))) \/
    ((∀ m i, n <= m -> m < n0 -> t.place[i]? = some (J t.mask h m) -> hashAt i ≠ h) /\ SetTable.probe.go t hashAt h fuel (zcA (it t.mask h n)) = some (.empty (J t.mask h n0) none))
  | 0, n, h1, h2 => by omega
  | fuel + 1, n, h1, h2 => by
    unfold SetTable.probe.go
    by_cases hn : n = n0
    · subst hn
      right
      refine ⟨fun m i a b => by omega, ?_⟩
      have hs : t.slot (zcA (it t.mask h n)).j = .empty := T.empty hf
      rw [hs]
      rfl
    · obtain ⟨i, hi⟩ := T.occ (ho n (by omega))
      have hs : t.slot (zcA (it t.mask h n)).j = .live i := T.live hi
      rw [hs]
      dsimp only
      by_cases hh : hashAt i = h
      · left
        refine ⟨n, i, Nat.le_refl _, by omega, hi, hh, fun m i a b => by omega, ?_⟩
        rw [if_pos (by simpa using hh), adv_eq]
        rfl
      · rw [if_neg (by simpa using hh), adv_eq]
        have inj : ∀ i', t.place[i']? = some (J t.mask h n) -> i' = i := fun i' h' => by
          rw [← below_mem _ _ _ T.ri h', ← below_mem _ _ _ T.ri hi]
        have ext : ∀ {b : Nat}, (∀ m i, n + 1 <= m -> m < b -> t.place[i]? = some (J t.mask h m) -> hashAt i ≠ h) -> ∀ m i, n <= m -> m < b -> t.place[i]? = some (J t.mask h m) -> hashAt i ≠ h := fun {b} q m i' a c d => by
          by_cases e : m = n
          · subst e
            rw [inj i' d]; exact hh
          · exact q m i' (by omega) c d
        rcases T.probe_go hashAt h hf ho fuel (n + 1) (by omega) (by omega) with ⟨n', i', a, b, c, d, e, f⟩ | ⟨e, f⟩
        · exact .inl ⟨n', i', by omega, b, c, d, ext e, f⟩
        · exact .inr ⟨ext e, f⟩
theorem zcn {α : Type} (xs : Array α) (p : Nat) (x : α) (hp : p <= xs.size) : (SetTable.insertAt xs p x).toList = xs.toList.take p ++ x :: xs.toList.drop p := by
  unfold SetTable.insertAt
  simp [Array.toList_extract, List.extract_eq_take_drop]
  exact List.take_of_length_le (by simp)
theorem insert_get {α : Type} (l : List α) (p : Nat) (x : α) (hp : p <= l.length) (i : Nat) : (l.take p ++ x :: l.drop p)[i]? = if i < p then l[i]? else if i = p then some x else l[i - 1]? := by
  by_cases h1 : i < p
  · rw [if_pos h1, List.getElem?_append_left (by rw [List.length_take]; omega), List.getElem?_take_of_lt h1]
  · rw [if_neg h1, List.getElem?_append_right (by rw [List.length_take]; omega), List.length_take, Nat.min_eq_left hp]
    by_cases h2 : i = p
    · rw [if_pos h2, h2]; simp
    · rw [if_neg h2]
      obtain ⟨k, hk⟩ : ∃ k, i - p = k + 1 := ⟨i - p - 1, by omega⟩
      rw [hk, List.getElem?_cons_succ, List.getElem?_drop]
      congr 1
      omega
theorem insert_mem {α : Type} (l : List α) (p : Nat) (x y : α) : y ∈ l.take p ++ x :: l.drop p ↔ y = x \/ y ∈ l := by
  rw [List.mem_append, List.mem_cons]
  constructor
  · rintro (h | h | h)
    · exact .inr (List.mem_of_mem_take h)
    · exact .inl h
    · exact .inr (List.mem_of_mem_drop h)
  · rintro (h | h)
    · exact .inr (.inl h)
    · have : y ∈ l.take p ++ l.drop p := by rw [List.take_append_drop]; exact h
      rcases List.mem_append.mp this with h | h
      · exact .inl h
      · exact .inr (.inr h)
theorem Tb.put (T : Tb t es) {h : Int} {x : Value} {n0 : Nat} (hf : J t.mask h n0 ∉ t.place.toList) (ho : ∀ m, m < n0 -> J t.mask h m ∈ t.place.toList) (few : (es.size + 1) * 5 < t.mask * 3) (pl : Bool) :
    Tb { (t.put (J t.mask h n0)).1 with plain := pl } (SetTable.insertAt es (t.put (J t.mask h n0)).2 (h, x)) := by
  obtain ⟨b0, b1, b2⟩ := below_ok t.place (J t.mask h n0) T.ri
  have bes : SetTable.below t.place (J t.mask h n0) <= es.size := by rw [← T.sz]; exact b0
  have pl1 : (SetTable.insertAt t.place (SetTable.below t.place (J t.mask h n0)) (J t.mask h n0)).toList = t.place.toList.take (SetTable.below t.place (J t.mask h n0)) ++ J t.mask h n0 :: t.place.toList.drop (SetTable.below t.place (J t.mask h n0)) := zcn _ _ _ b0
  have el1 : (SetTable.insertAt es (SetTable.below t.place (J t.mask h n0)) (h, x)).toList = es.toList.take (SetTable.below t.place (J t.mask h n0)) ++ (h, x) :: es.toList.drop (SetTable.below t.place (J t.mask h n0)) := zcn _ _ _ bes
  have szp : (SetTable.insertAt t.place (SetTable.below t.place (J t.mask h n0)) (J t.mask h n0)).size = t.place.size + 1 := by
    rw [← Array.length_toList, pl1]; simp; omega
  have sze : (SetTable.insertAt es (SetTable.below t.place (J t.mask h n0)) (h, x)).size = es.size + 1 := by
    rw [← Array.length_toList, el1]; simp; omega
  refine ⟨T.full, ?_, ?_, ?_, ?_, ?_, ?_⟩
  · show (SetTable.insertAt t.place _ _).size = _
    rw [szp]
    show _ = (SetTable.insertAt es (SetTable.below t.place (J t.mask h n0)) (h, x)).size
    rw [sze, T.sz]
  · show (if SetTable.has t.dummies (J t.mask h n0) = true then _ else t.dummies) = #[]
    rw [T.dm]; rfl
  · show (SetTable.insertAt t.place (SetTable.below t.place (J t.mask h n0)) (J t.mask h n0)).toList.Pairwise (· < ·)
    rw [pl1, List.pairwise_append, List.pairwise_cons]
    have tk : ∀ a ∈ t.place.toList.take (SetTable.below t.place (J t.mask h n0)), a < J t.mask h n0 := fun a ha => by
      obtain ⟨i, hi⟩ := List.mem_iff_getElem?.mp ha
      have hi' : i < SetTable.below t.place (J t.mask h n0) := by
        have := (List.getElem?_eq_some_iff.mp hi).1
        rw [List.length_take] at this; omega
      rw [List.getElem?_take_of_lt hi', Array.getElem?_toList] at hi
      exact b1 i hi' a hi
    have dr : ∀ a ∈ t.place.toList.drop (SetTable.below t.place (J t.mask h n0)), J t.mask h n0 < a := fun a ha => by
      obtain ⟨i, hi⟩ := List.mem_iff_getElem?.mp ha
      rw [List.getElem?_drop, Array.getElem?_toList] at hi
      have h1 := b2 _ (Nat.le_add_right _ i) a hi
      rcases Nat.lt_or_ge (J t.mask h n0) a with q | q
      · exact q
      · exact absurd (by rw [← Array.getElem?_toList] at hi; have e : a = J t.mask h n0 := by omega
                         rw [e] at hi; exact List.mem_of_getElem? hi) hf
    refine ⟨T.ri.sublist (List.take_sublist _ _), ⟨dr, T.ri.sublist (List.drop_sublist _ _)⟩, fun a ha b hb => ?_⟩
    rcases List.mem_cons.mp hb with e | hb
    · rw [e]; exact tk a ha
    · exact Nat.lt_trans (tk a ha) (dr b hb)
  · intro j hj
    have hj' : j ∈ (SetTable.insertAt t.place (SetTable.below t.place (J t.mask h n0)) (J t.mask h n0)).toList := hj
    rw [pl1, insert_mem] at hj'
    rcases hj' with e | hj'
    · rw [e]; exact J_le _ _ _
    · exact T.le j hj'
  · show (SetTable.insertAt es (SetTable.below t.place (J t.mask h n0)) (h, x)).size * 5 < t.mask * 3
    rw [sze]; exact few
  · intro i j h' x' e1 e2
    have e1' : (SetTable.insertAt t.place (SetTable.below t.place (J t.mask h n0)) (J t.mask h n0)).toList[i]? = some j := by rw [Array.getElem?_toList]; exact e1
    have e2' : (SetTable.insertAt es (SetTable.below t.place (J t.mask h n0)) (h, x)).toList[i]? = some (h', x') := by rw [Array.getElem?_toList]; exact e2
    rw [pl1, insert_get _ _ _ (by simpa using b0)] at e1'
    rw [el1, insert_get _ _ _ (by simpa using bes)] at e2'
    have up : ∀ {n : Nat}, (∀ m, m < n -> J t.mask h' m ∈ t.place.toList) -> ∀ m, m < n -> J t.mask h' m ∈ (SetTable.insertAt t.place (SetTable.below t.place (J t.mask h n0)) (J t.mask h n0)).toList := fun q m hm => by
      rw [pl1, insert_mem]; exact .inr (q m hm)
    by_cases c1 : i < SetTable.below t.place (J t.mask h n0)
    · rw [if_pos c1] at e1' e2'
      rw [Array.getElem?_toList] at e1' e2'
      obtain ⟨n, hn, q⟩ := T.rc i j h' x' e1' e2'
      exact ⟨n, hn, up q⟩
    · rw [if_neg c1] at e1' e2'
      by_cases c2 : i = SetTable.below t.place (J t.mask h n0)
      · rw [if_pos c2] at e1' e2'
        cases e1'
        cases e2'
        exact ⟨n0, rfl, up ho⟩
      · rw [if_neg c2] at e1' e2'
        rw [Array.getElem?_toList] at e1' e2'
        obtain ⟨n, hn, q⟩ := T.rc _ j h' x' e1' e2'
        exact ⟨n, hn, up q⟩
end
end ST
end
section
namespace ST
open PySem
def zcm (owner : Array (Option Nat)) (j : Nat) : Bool := (owner.getD j (some 0)).isNone
theorem run_J {M : Nat} {h : Int} {n r : Nat} (e : it M h n = atRun M (lp M h r)) {k : Nat} (hk : k < SetTable.runEnd M (lp M h r).1 + 1 - (lp M h r).1) : J M h (n + k) = (lp M h r).1 + k := by
  unfold J
  rw [it_add, e, steps M k _ (by show k <= SetTable.runEnd M (lp M h r).1 - (lp M h r).1; omega)]
  rfl
theorem run_next {M : Nat} {h : Int} {n r : Nat} (e : it M h n = atRun M (lp M h r)) : it M h (n + (SetTable.runEnd M (lp M h r).1 + 1 - (lp M h r).1)) = atRun M (lp M h (r + 1)) := by
  have hge : (lp M h r).1 <= SetTable.runEnd M (lp M h r).1 := by unfold SetTable.runEnd; split <;> omega
  have e2 := steps M (SetTable.runEnd M (lp M h r).1 - (lp M h r).1) (atRun M (lp M h r)) (Nat.le_refl _)
  rw [show n + (SetTable.runEnd M (lp M h r).1 + 1 - (lp M h r).1) = n + (SetTable.runEnd M (lp M h r).1 - (lp M h r).1) + 1 by omega, it, it_add, e, e2]
  unfold adv
  rw [if_neg (by show ¬ ((SetTable.runEnd M (lp M h r).1 - (lp M h r).1) - (SetTable.runEnd M (lp M h r).1 - (lp M h r).1) > 0); omega)]
  rfl
theorem free_go {M : Nat} {h : Int} (owner : Array (Option Nat)) {rs : Nat} (hfr : zcm owner (lp M h rs).1 = true) : ∀ (fuel r n : Nat), it M h n = atRun M (lp M h r) -> r <= rs -> rs < r + fuel -> (∀ m, m < n -> zcm owner (J M h m) = false) ->
    ∃ n', zcm owner (J M h n') = true /\ (∀ m, m < n' -> zcm owner (J M h m) = false) /\ SetTable.layClean.free M owner fuel (lp M h r).1 (lp M h r).2 = some (J M h n')
  | 0, r, n, _, h1, h2, _ => by omega
  | fuel + 1, r, n, e, h1, h2, h3 => by
    unfold SetTable.layClean.free
    cases hf : (List.range (SetTable.runEnd M (lp M h r).1 + 1 - (lp M h r).1)).find? (fun k => (owner.getD ((lp M h r).1 + k) (some 0)).isNone) with
    | some k =>
      have hk := List.mem_range.mp (List.mem_of_find?_eq_some hf)
      have hp : zcm owner ((lp M h r).1 + k) = true := by
        have := List.find?_some hf
        exact this
      refine ⟨n + k, by rw [run_J e hk]; exact hp, fun m hm => ?_, ?_⟩
      · rcases Nat.lt_or_ge m n with c | c
        · exact h3 m c
        · obtain ⟨d, rfl⟩ : ∃ d, m = n + d := ⟨m - n, by omega⟩
          rw [run_J e (by omega)]
          obtain ⟨as, bs, hab, hno⟩ := (List.find?_eq_some_iff_append.mp hf).2
          have hd : d ∈ as := by
            have hl : as = List.range k := by
              have hlen : as.length = k := by
                have : (List.range (SetTable.runEnd M (lp M h r).1 + 1 - (lp M h r).1))[as.length]? = some k := by rw [hab]; simp
                rw [List.getElem?_range] at this
                · exact Option.some.inj this
                · have := congrArg List.length hab
                  simp at this
                  omega
              have := congrArg (List.take k) hab
              rw [List.take_range, Nat.min_eq_left (by omega), ← hlen, List.take_left'] at this
              · rw [hlen] at this; exact this.symm
              · rfl
            rw [hl]; exact List.mem_range.mpr (by omega)
          have := hno d hd
          exact Bool.eq_false_iff.mpr (fun z => by rw [show (owner.getD ((lp M h r).1 + d) (some 0)).isNone = true from z] at this; cases this)
      · rw [run_J e hk]
    | none =>
      have hn : ∀ k, k < SetTable.runEnd M (lp M h r).1 + 1 - (lp M h r).1 -> zcm owner (J M h (n + k)) = false := fun k hk => by
        rw [run_J e hk]
        have := List.find?_eq_none.mp hf k (List.mem_range.mpr hk)
        exact Bool.eq_false_iff.mpr this
      have hge : (lp M h r).1 <= SetTable.runEnd M (lp M h r).1 := by unfold SetTable.runEnd; split <;> omega
      have hr : r ≠ rs := fun z => by
        subst z
        have := hn 0 (by omega)
        rw [run_J e (by omega), Nat.add_zero, hfr] at this
        cases this
      exact free_go owner hfr fuel (r + 1) _ (run_next e) (by omega) (by omega) fun m hm => by
        rcases Nat.lt_or_ge m n with c | c
        · exact h3 m c
        · obtain ⟨d, rfl⟩ : ∃ d, m = n + d := ⟨m - n, by omega⟩
          exact hn d (by omega)
theorem Full.free {M : Nat} (F : Full M) (h : Int) (owner : Array (Option Nat)) (hf : ∃ j, j <= M /\ zcm owner j = true) :
    ∃ n, zcm owner (J M h n) = true /\ (∀ m, m < n -> zcm owner (J M h m) = false) /\ SetTable.layClean.free M owner (SetTable.turns M) (SetTable.bits h % (M + 1)) (SetTable.bits h) = some (J M h n) := by
  obtain ⟨j, hj, hjf⟩ := hf
  obtain ⟨m, hm, e⟩ := F.reach (lp_le M h 13) hj
  have hl : (lp M h (13 + m)).1 = j := by rw [lp_orb, e]
  exact free_go owner (rs := 13 + m) (by rw [hl]; exact hjf) (SetTable.turns M) 0 0 rfl (Nat.zero_le _) (by unfold SetTable.turns; omega) fun m hm => absurd hm (Nat.not_lt_zero _)
structure Own (M : Nat) (hs : List Int) (owner : Array (Option Nat)) : Prop where
  sz : owner.size = M + 1
  lt : ∀ (j k : Nat), owner[j]? = some (some k) -> k < hs.length
  on : ∀ k, k < hs.length -> ∃ j : Nat, owner[j]? = some (some k)
  inj : ∀ (j j' k : Nat), owner[j]? = some (some k) -> owner[j']? = some (some k) -> j = j'
  rc : ∀ (j k : Nat) h, owner[j]? = some (some k) -> hs[k]? = some h -> ∃ n, J M h n = j /\ ∀ m, m < n -> zcm owner (J M h m) = false
theorem zdf {owner : Array (Option Nat)} {j : Nat} : zcm owner j = true ↔ owner[j]? = some none := by
  unfold zcm
  rw [Array.getD_eq_getD_getElem?]
  cases e : owner[j]? with
  | none => simp
  | some o => cases o <;> simp
theorem Own.empty (M : Nat) : Own M [] (Array.replicate (M + 1) none) := by
  have no : ∀ (j k : Nat), (Array.replicate (M + 1) (none : Option Nat))[j]? = some (some k) -> False := fun j k h => by
    rw [Array.getElem?_replicate] at h
    split at h <;> cases h
  exact ⟨by simp, fun j k h => (no j k h).elim, fun k h => absurd h (Nat.not_lt_zero _), fun j _ k h _ => (no j k h).elim, fun j k _ h _ => (no j k h).elim⟩
theorem Own.room {M : Nat} {hs : List Int} {owner : Array (Option Nat)} (O : Own M hs owner) (hr : hs.length <= M) : ∃ j, j <= M /\ zcm owner j = true := by
  by_cases hx : ∃ j, j <= M /\ zcm owner j = true
  · exact hx
  · exfalso
    have all : ∀ j, j <= M -> ∃ k, owner[j]? = some (some k) := fun j hj => by
      have h1 : zcm owner j ≠ true := fun z => hx ⟨j, hj, z⟩
      have h2 : j < owner.size := by rw [O.sz]; omega
      cases q : owner[j] with
      | none => exact absurd (zdf.mpr (by simp [h2, q])) h1
      | some k => exact ⟨k, by simp [h2, q]⟩
    have pig := sub_len ((List.range (M + 1)).map fun j => ((owner[j]?).join).getD 0) (List.range hs.length) ?_ ?_
    · rw [List.length_map, List.length_range, List.length_range] at pig
      omega
    · refine List.nodup_iff_pairwise_ne.mpr (List.pairwise_map.mpr (List.Pairwise.imp_of_mem ?_ List.nodup_range))
      intro a b ha hb hab e
      obtain ⟨k, hk⟩ := all a (by have := List.mem_range.mp ha; omega)
      obtain ⟨k', hk'⟩ := all b (by have := List.mem_range.mp hb; omega)
      simp only [hk, hk', Option.join_some, Option.getD_some] at e
      subst e
      exact hab (O.inj a b k hk hk')
    · intro x hx'
      obtain ⟨j, hj, rfl⟩ := List.mem_map.mp hx'
      obtain ⟨k, hk⟩ := all j (by have := List.mem_range.mp hj; omega)
      simp only [hk, Option.join_some, Option.getD_some]
      exact List.mem_range.mpr (O.lt j k hk)
theorem Own.more {M : Nat} {hs : List Int} {owner : Array (Option Nat)} (O : Own M hs owner) {h : Int} {n : Nat} (hf : zcm owner (J M h n) = true) (ho : ∀ m, m < n -> zcm owner (J M h m) = false) :
    Own M (hs ++ [h]) (owner.setIfInBounds (J M h n) (some hs.length)) := by
  have hlt : J M h n < owner.size := by rw [O.sz]; have := J_le M h n; omega
  have hold := zdf.mp hf
  have get : ∀ j : Nat, (owner.setIfInBounds (J M h n) (some hs.length))[j]? = if j = J M h n then some (some hs.length) else owner[j]? := fun j => by
    rw [Array.getElem?_setIfInBounds]
    by_cases e : J M h n = j
    · subst e; simp [hlt]
    · rw [if_neg e, if_neg (Ne.symm e)]
  have stay : ∀ {j k : Nat}, owner[j]? = some (some k) -> (owner.setIfInBounds (J M h n) (some hs.length))[j]? = some (some k) := fun {j k} q => by
    rw [get, if_neg]
    · exact q
    · intro e; rw [e, hold] at q; cases q
  have notfree : ∀ {j : Nat}, zcm owner j = false -> zcm (owner.setIfInBounds (J M h n) (some hs.length)) j = false := fun {j} q => by
    refine Bool.eq_false_iff.mpr fun z => ?_
    have z' := zdf.mp z
    rw [get] at z'
    split at z'
    · cases z'
    · rw [zdf.mpr z'] at q; cases q
  refine ⟨by simp [O.sz], fun j k q => ?_, fun k hk => ?_, fun j j' k q q' => ?_, fun j k h' q q' => ?_⟩
  · rw [get] at q
    rw [List.length_append, List.length_singleton]
    split at q
    · cases q; omega
    · have := O.lt j k q; omega
  · rw [List.length_append, List.length_singleton] at hk
    by_cases e : k = hs.length
    · exact ⟨J M h n, by rw [get, if_pos rfl, e]⟩
    · obtain ⟨j, hj⟩ := O.on k (by omega)
      exact ⟨j, stay hj⟩
  · rw [get] at q q'
    split at q
    · rename_i c
      cases q
      split at q'
      · rename_i c'; rw [c, c']
      · have := O.lt j' _ q'; omega
    · split at q'
      · cases q'
        have := O.lt j _ q; omega
      · exact O.inj j j' k q q'
  · rw [get] at q
    split at q
    · rename_i c
      cases q
      rw [List.getElem?_append_right (Nat.le_refl _)] at q'
      simp at q'
      subst q'
      exact ⟨n, c.symm, fun m hm => notfree (ho m hm)⟩
    · have hk := O.lt j k q
      rw [List.getElem?_append_left hk] at q'
      obtain ⟨n', e, r⟩ := O.rc j k h' q q'
      exact ⟨n', e, fun m hm => notfree (r m hm)⟩
theorem Full.lays {M : Nat} (F : Full M) (hs : Array Int) (hr : hs.size <= M) : ∃ owner, SetTable.layClean M hs = some owner /\ Own M hs.toList owner := by
  have all : ∀ (zcY done : List Int) (owner : Array (Option Nat)), Own M done owner -> (done ++ zcY).length <= M -> ∃ owner', Own M (done ++ zcY) owner' /\
      zcY.foldl (fun (acc : Option (Array (Option Nat) × Nat)) h => do
        let (owner, k) ← acc
        let j ← SetTable.layClean.free M owner (SetTable.turns M) (SetTable.bits h % (M + 1)) (SetTable.bits h)
        pure (owner.setIfInBounds j (some k), k + 1)) (some (owner, done.length)) = some (owner', (done ++ zcY).length) := by
    intro zcY
    induction zcY with
    | nil => intro done owner O _; exact ⟨owner, by rw [List.append_nil]; exact O, by simp⟩
    | cons h r ih =>
      intro done owner O hl
      obtain ⟨n, h1, h2, h3⟩ := F.free h owner (O.room (by simp at hl; omega))
      have O' := O.more h1 h2
      obtain ⟨owner', O2, e⟩ := ih (done ++ [h]) _ O' (by simpa using hl)
      refine ⟨owner', by simpa using O2, ?_⟩
      rw [List.foldl_cons]
      have e1 : (do
        let (owner, k) ← some (owner, done.length)
        let j ← SetTable.layClean.free M owner (SetTable.turns M) (SetTable.bits h % (M + 1)) (SetTable.bits h)
        pure (owner.setIfInBounds j (some k), k + 1) : Option (Array (Option Nat) × Nat)) = some (owner.setIfInBounds (J M h n) (some done.length), done.length + 1) := by
        show (SetTable.layClean.free M owner (SetTable.turns M) (SetTable.bits h % (M + 1)) (SetTable.bits h) >>= fun j => pure (owner.setIfInBounds j (some done.length), done.length + 1)) = _
        rw [h3]; rfl
      rw [e1]
      rw [List.length_append, List.length_singleton] at e
      rw [e]
      simp
  obtain ⟨owner', O, e⟩ := all hs.toList [] _ (Own.empty M) (by simpa using hr)
  refine ⟨owner', ?_, by simpa using O⟩
  unfold SetTable.layClean
  rw [← Array.foldl_toList]
  have e' := congrArg (Option.map (·.1)) e
  exact e'
end ST
end
section
namespace ST
open PySem
theorem fm_get {α β : Type} (f : α -> Option β) : ∀ (l : List α), (∀ k ∈ l, ∃ y, f k = some y) -> ∀ i : Nat, (l.filterMap f)[i]? = (l[i]?).bind f
  | [], _, i => by simp
  | k :: r, h, i => by
    obtain ⟨y, hy⟩ := h k List.mem_cons_self
    rw [List.filterMap_cons_some hy]
    cases i with
    | zero => simp [hy]
    | succ i => simp only [List.getElem?_cons_succ]; exact fm_get f r (fun k hk => h k (List.mem_cons_of_mem _ hk)) i
theorem fm_len {α β : Type} (f : α -> Option β) : ∀ (l : List α), (∀ k ∈ l, ∃ y, f k = some y) -> (l.filterMap f).length = l.length
  | [], _ => rfl
  | k :: r, h => by
    obtain ⟨y, hy⟩ := h k List.mem_cons_self
    rw [List.filterMap_cons_some hy, List.length_cons, List.length_cons, fm_len f r fun k hk => h k (List.mem_cons_of_mem _ hk)]
def zdu (M : Nat) (owner : Array (Option Nat)) : List (Nat × Nat) := (List.range (M + 1)).filterMap fun j => (owner.getD j none).map (j, ·)
theorem zcS {M : Nat} {owner : Array (Option Nat)} (hsz : owner.size = M + 1) {j k : Nat} : (j, k) ∈ zdu M owner ↔ owner[j]? = some (some k) := by
  unfold zdu
  rw [List.mem_filterMap]
  constructor
  · rintro ⟨j', hj', e⟩
    rw [Array.getD_eq_getD_getElem?] at e
    cases q : owner[j']? with
    | none => rw [q] at e; cases e
    | some o =>
      rw [q] at e
      cases o with
      | none => cases e
      | some k' => cases e; exact q
  · intro q
    have hj : j < owner.size := (Array.getElem?_eq_some_iff.mp q).1
    exact ⟨j, List.mem_range.mpr (by omega), by rw [Array.getD_eq_getD_getElem?, q]; rfl⟩
theorem live_sorted (M : Nat) (owner : Array (Option Nat)) : ((zdu M owner).map (·.1)).Pairwise (· < ·) := by
  unfold zdu
  rw [List.pairwise_map]
  refine List.Pairwise.filterMap _ ?_ (List.pairwise_lt_range (n := M + 1))
  intro a a' haa b hb b' hb'
  obtain ⟨k, _, rfl⟩ := Option.map_eq_some_iff.mp hb
  obtain ⟨k', _, rfl⟩ := Option.map_eq_some_iff.mp hb'
  exact haa
theorem live_nodup {M : Nat} {hs : List Int} {owner : Array (Option Nat)} (O : Own M hs owner) : ((zdu M owner).map (·.2)).Nodup := by
  have h1 := List.pairwise_map.mp (live_sorted M owner)
  refine List.nodup_iff_pairwise_ne.mpr (List.pairwise_map.mpr (List.Pairwise.imp_of_mem ?_ h1))
  rintro ⟨j, k⟩ ⟨j', k'⟩ ha hb hlt e
  have e' : k = k' := e
  subst e'
  have := O.inj j j' k ((zcS O.sz).mp ha) ((zcS O.sz).mp hb)
  have hlt' : j < j' := hlt
  omega
theorem live_len {M : Nat} {hs : List Int} {owner : Array (Option Nat)} (O : Own M hs owner) : (zdu M owner).length = hs.length := by
  have h1 := sub_len ((zdu M owner).map (·.2)) (List.range hs.length) (live_nodup O) fun k hk => by
    obtain ⟨⟨j, k'⟩, hm, rfl⟩ := List.mem_map.mp hk
    exact List.mem_range.mpr (O.lt j k' ((zcS O.sz).mp hm))
  have h2 := sub_len (List.range hs.length) ((zdu M owner).map (·.2)) List.nodup_range fun k hk => by
    obtain ⟨j, hj⟩ := O.on k (List.mem_range.mp hk)
    exact List.mem_map.mpr ⟨(j, k), (zcS O.sz).mpr hj, rfl⟩
  rw [List.length_map, List.length_range] at h1 h2
  omega
theorem Full.relaid {t : SetTable} {es : Array (Int × Value)} {wanted : Nat} (F : Full (SetTable.sizeAbove wanted - 1)) (few : es.size * 5 < (SetTable.sizeAbove wanted - 1) * 3) :
    ∃ t' order, t.relaid (es.map (·.1)) wanted = some (t', order) /\ (order.filterMap (es[·]?)).size = es.size /\ Tb t' (order.filterMap (es[·]?)) /\ (∀ e, e ∈ (order.filterMap (es[·]?)).toList ↔ e ∈ es.toList) /\ t'.mask = SetTable.sizeAbove wanted - 1 /\ t'.led = t.led := by
  generalize hM : SetTable.sizeAbove wanted - 1 = M at F few
  obtain ⟨owner, hl, O⟩ := F.lays (es.map (·.1)) (by simp; omega)
  have hlen : (es.map (·.1)).toList.length = es.size := by simp
  have llen : (zdu M owner).length = es.size := by rw [live_len O, hlen]
  refine ⟨{ mask := M, place := ((zdu M owner).map (·.1)).toArray, dummies := #[], finger := t.finger, led := t.led, moves := t.movedTo M, plain := t.plain }, ((zdu M owner).map (·.2)).toArray, ?_, ?_⟩
  · unfold SetTable.relaid
    rw [hM]
    unfold SetTable.laid
    rw [hl]
    rfl
  · have hall : ∀ k ∈ (zdu M owner).map (·.2), ∃ y, es[k]? = some y := fun k hk => by
      obtain ⟨⟨j, k'⟩, hm, rfl⟩ := List.mem_map.mp hk
      have := O.lt j k' ((zcS O.sz).mp hm)
      rw [hlen] at this
      exact ⟨es[k'], by simp [this]⟩
    have etl : (Array.filterMap (fun x => es[x]?) ((zdu M owner).map (·.2)).toArray).toList = ((zdu M owner).map (·.2)).filterMap (fun x => es[x]?) := by simp
    have esz : (Array.filterMap (fun x => es[x]?) ((zdu M owner).map (·.2)).toArray).size = es.size := by
      rw [← Array.length_toList, etl, fm_len _ _ hall, List.length_map, llen]
    refine ⟨esz, ⟨F, ?_, rfl, ?_, ?_, ?_, ?_⟩, fun e => ?_, rfl, rfl⟩
    · rw [esz]; simp [llen]
    · show ((zdu M owner).map (·.1)).toArray.toList.Pairwise (· < ·)
      exact live_sorted M owner
    · intro j hj
      have hj' : j ∈ (zdu M owner).map (·.1) := hj
      obtain ⟨⟨j', k⟩, hm, rfl⟩ := List.mem_map.mp hj'
      have := (Array.getElem?_eq_some_iff.mp ((zcS O.sz).mp hm)).1
      rw [O.sz] at this
      show j' <= M
      omega
    · rw [esz]; exact few
    · intro i j h x e1 e2
      have e1' : ((zdu M owner).map (·.1))[i]? = some j := by simpa using e1
      rw [← Array.getElem?_toList, etl, fm_get _ _ hall, List.getElem?_map] at e2
      rw [List.getElem?_map] at e1'
      obtain ⟨⟨j', k⟩, hm, rfl⟩ := Option.map_eq_some_iff.mp e1'
      rw [hm] at e2
      have e2' : es[k]? = some (h, x) := e2
      have ho := (zcS O.sz).mp (List.mem_of_getElem? hm)
      obtain ⟨n, hn, q⟩ := O.rc j' k h ho (by simp [e2'])
      refine ⟨n, hn, fun m hm' => ?_⟩
      have hnf := q m hm'
      have hle := J_le M h m
      have hlt : J M h m < owner.size := by rw [O.sz]; omega
      cases c : owner[J M h m] with
      | none =>
        rw [zdf.mpr (by simp [hlt, c])] at hnf; cases hnf
      | some k' =>
        show J M h m ∈ (zdu M owner).map (·.1)
        exact List.mem_map.mpr ⟨(J M h m, k'), (zcS O.sz).mpr (by simp [hlt, c]), rfl⟩
    · rw [etl, List.mem_filterMap]
      constructor
      · rintro ⟨k, _, hk⟩
        rw [← Array.getElem?_toList] at hk
        exact List.mem_of_getElem? hk
      · intro he
        obtain ⟨k, hk⟩ := List.mem_iff_getElem?.mp he
        rw [Array.getElem?_toList] at hk
        have hlt := (Array.getElem?_eq_some_iff.mp hk).1
        obtain ⟨j, hj⟩ := O.on k (by rw [hlen]; exact hlt)
        exact ⟨k, List.mem_map.mpr ⟨(j, k), (zcS O.sz).mpr hj, rfl⟩, hk⟩
def Mk (M : Nat) : Prop := M = 7 \/ M = 31 \/ M = 127 \/ M = 511
theorem Mk.full {M : Nat} (h : Mk M) : Full M := by
  rcases h with h | h | h | h <;> subst h
  · exact full7
  · exact full31
  · exact full127
  · exact full511
theorem Mk.grow {M n : Nat} (h : Mk M) (h1 : n * 5 < M * 3) (h2 : ¬ (n + 1) * 5 < M * 3) (hn : n <= 300) : Mk (SetTable.sizeAbove (SetTable.grown (n + 1)) - 1) /\ (n + 1) * 5 < (SetTable.sizeAbove (SetTable.grown (n + 1)) - 1) * 3 /\ SetTable.sizeAbove (SetTable.grown (n + 1)) <= 512 := by
  rcases h with h | h | h | h <;> subst h
  · have : n = 4 := by omega
    subst this
    exact ⟨.inr (.inl (by decide)), by decide, by decide⟩
  · have : n = 18 := by omega
    subst this
    exact ⟨.inr (.inr (.inl (by decide))), by decide, by decide⟩
  · have : n = 76 := by omega
    subst this
    exact ⟨.inr (.inr (.inr (by decide))), by decide, by decide⟩
  · omega
end ST
end
section
namespace ST
open PySem PySem.Spec PyProof.Rows
section
variable {prog : Program} {w : World} {A : Around} {R : Result -> Shared -> Prop} {I : Addr} {fp wr : List Addr} {G : Array GenState -> Array GenState -> Prop} {n : Nat} {P : Nat -> Value -> Prop} {St : Nat -> Shared -> Prop}
def Adds (prog : Program) (w : World) (A : Around) (S : Addr) (Ba : Heap -> Prop) (P : Nat -> Value -> Prop) (n : Nat) (J : Nat -> Obj -> Prop) : Prop :=
  ∀ (i : Nat) (v : Value) (s : Shared) (o : Obj) (Q : Bool -> Shared -> Prop) (E : Value -> Shared -> Prop), i < n -> P i v -> s.heap.get? S = some o -> J i o -> Ba s.heap ->
    (∀ b h' tk o', s.toks <= tk -> Heap.SameBut S s.heap h' -> h'.get? S = some o' -> J (i + 1) o' -> Q b { s with heap := h', toks := tk }) -> wpAny (model prog w) A (setAdd S v) Q E s
theorem set_loop (W : WalksS prog w A.in1 I fp wr G n P St) (S : Addr) (hSf : S ∉ fp) (Ba : Heap -> Prop) (hBa : ∀ h h', Ba h -> (∀ b o, b ∉ S :: wr -> h.get? b = some o -> h'.get? b = some o) -> Ba h') (J : Nat -> Obj -> Prop) (hadd : Adds prog w A.in1 S Ba P n J) :
    ∀ (k i : Nat) (s : Shared) (o : Obj), n - i = k -> i <= n -> St i s -> s.heap.get? S = some o -> J i o -> Ba s.heap ->
      (∀ s' o', Moved (S :: wr) G s s' -> s'.heap.get? S = some o' -> J n o' -> R (.ok (.ret .none)) s') ->
      codeAny (model prog w) A (.builtin "set.update.loop" ⟨[.ref S, .ref I], []⟩) R s := by
  have hSw : S ∉ wr := fun h => hSf (W.sub _ h)
  have hsub : ∀ b ∈ wr, b ∈ S :: wr := fun b hb => List.mem_cons_of_mem _ hb
  intro k
  induction k with
  | zero =>
    intro i s o hk hi hst hS hJ hB hR
    have hin : i = n := by omega
    subst hin
    refine codeAny_builtin F.entry_set_update_loop ?_
    rw [Around.under_plainId F.plain_set_update_loop _]
    show wpAny _ A.in1 (pyNext (.ref I) >>= _) _ _ s
    refine wpAny_bind (W.done s _ _ hst fun s' hm => ?_)
    show wpAny _ A.in1 (ret Value.none) _ _ s'
    exact wpAny_pure (hR s' o (hm.mono hsub) (hm.heap S _ hSw hS) hJ)
  | succ k ih =>
    intro i s o hk hi hst hS hJ hB hR
    have hlt : i < n := by omega
    refine codeAny_builtin F.entry_set_update_loop ?_
    rw [Around.under_plainId F.plain_set_update_loop _]
    show wpAny _ A.in1 (pyNext (.ref I) >>= _) _ _ s
    refine wpAny_bind (W.item i s _ _ hlt hst fun v s' hP hst' hm => ?_)
    show wpAny _ A.in1 (holding [v] (setAdd S v) >>= _) _ _ s'
    refine wpAny_bind (wpAny_holding ?_)
    refine hadd i v s' o _ _ hlt hP (hm.heap S _ hSw hS) hJ (hBa _ _ hB fun b o hb e => hm.heap b o (fun z => hb (hsub b z)) e) fun b h' tk o' htk hsb hS' hJ' => ?_
    refine wpAny_pure ⟨plainId_quiet F.plain_set_update_loop _, ih (i + 1) _ o' (by omega) hlt (W.frame _ s' _ _ hst' htk fun b hb o e => ?_) hS' hJ' ?_ fun s'' o'' hm'' hS'' hJ'' => ?_⟩
    · rw [hsb.2 b (fun h : b = S => hSf (by rw [← h]; exact hb))]; exact e
    · refine hBa _ _ (hBa _ _ hB fun b o hb e => hm.heap b o (fun z => hb (hsub b z)) e) fun b o hb e => ?_
      show h'.get? b = some o
      rw [hsb.2 b (fun h : b = S => hb (by rw [h]; exact List.mem_cons_self))]; exact e
    · refine hR s'' o'' (Moved.trans W.gtrans ((hm.mono hsub).then_heap htk fun b o hb e => ?_) hm'') hS'' hJ''
      rw [hsb.2 b (fun h : b = S => hb (by rw [h]; exact List.mem_cons_self))]; exact e
end
section
variable {prog : Program} {w : World} {A : Around} {E : Value -> Shared -> Prop} {s : Shared}
set_option maxRecDepth 100000 in
set_option maxHeartbeats 3200000 in
theorem call_set_gen {l : Addr} {items : Array Value} {Q : Value -> Shared -> Prop} (hh : A.handled = none) (hl : s.heap.IsList l items) (J : Nat -> Obj -> Prop)
    (hJ0 : ∀ led : Bool, J 0 { cls := .type "set", dict := none, data := .set #[] 0 (.fresh 0 0 led) })
    (hadd : ∀ A' : Around, A'.units <= A.units + 16 -> Adds prog w A' s.heap.objs.size (fun h => ∀ b o, b < s.heap.objs.size -> s.heap.get? b = some o -> h.get? b = some o) (fun i v => items[i]? = some v) items.size J)
    (h : ∀ (h' : Heap) (tk : Nat) (o : Obj), h'.get? s.heap.objs.size = some o -> J items.size o ->
      (∀ b o, b < s.heap.objs.size -> s.heap.get? b = some o -> h'.get? b = some o) -> Q (.ref s.heap.objs.size) { s with heap := h', toks := tk }) :
    wpAny (model prog w) A (call (.type "set") [.ref l]) Q E s := by
  obtain ⟨c, tl, hmro⟩ := F.called_set.mro
  have hmade := F.called_set.made
  have hsub := F.called_set.sub
  refine wpAny_call (codeAny_of_tree ?_)
  show wpAny _ _ (callAny (.type "set") _) _ _ _
  refine wpAny_pure ⟨Code.quiet_builtin _ (by decide +kernel), codeAny_builtin F.entry_type_call ?_⟩
  rw [Around.under_plain (weight_type_call_type "set" [.ref l] []) rfl]
  have h1 := F.called_set.notType
  have h2 := F.called_set.canCreate
  have hct := F.typeCall_set_1 (.ref l)
  repeat (any_goals (first | assumption | wp_step))
  refine codeAny_mono (code_set_new_1 (.ref l) (E := E) (Q₁ := fun obj s₁ => ∃ led : Bool, obj = .ref s.heap.objs.size /\ s₁ = { s with heap := s.heap.push { cls := .type "set", dict := none, data := .set #[] 0 (.fresh 0 0 led) } }) fun led => ⟨led, rfl, rfl⟩) fun r s₁ hr => ?_
  cases r with
  | error e => exact hr
  | ok fl =>
    cases fl with
    | ret obj =>
      obtain ⟨led, rfl, rfl⟩ := hr
      have hS : (s.heap.push { cls := .type "set", dict := none, data := .set #[] 0 (.fresh 0 0 led) }).get? s.heap.objs.size = some { cls := .type "set", dict := none, data := .set #[] 0 (.fresh 0 0 led) } := Heap.get?_push_size _ rfl
      have hT : Shared.TypeIs { s with heap := s.heap.push { cls := .type "set", dict := none, data := .set #[] 0 (.fresh 0 0 led) } } (.ref s.heap.objs.size) "set" := ⟨_, hS, rfl⟩
      have hli := F.called_set.init.lookup
      have hbi := F.called_set.init.bind (.ref s.heap.objs.size)
      repeat (any_goals (first | assumption | wp_step))
      refine codeAny_mono (codeAny_call_builtin (R := wants (fun r s₂ => r = .none /\ ∃ h' tk o, s₂ = { s with heap := h', toks := tk } /\ h'.get? s.heap.objs.size = some o /\ J items.size o /\
          (∀ b o, b < s.heap.objs.size -> s.heap.get? b = some o -> h'.get? b = some o)) E) F.called_set.init.plain F.entry_set_init (check_set_init_1 hT ?_)) fun r₂ s₂ hr₂ => ?_
      · obtain ⟨ol, hol, hcl, nl, hdl⟩ := hl
        obtain ⟨ocls, odict, odata, oslots⟩ := ol
        simp only at hcl hdl
        subst hcl; subst hdl
        have hol' : (s.heap.push { cls := .type "set", dict := none, data := .set #[] 0 (.fresh 0 0 led) }).get? l = some { cls := .type "list", dict := odict, data := .seq items nl, slots := oslots } := Heap.get?_push_of_some _ hol
        have hsls := F.sub_list_set
        have hslf := F.sub_list_frozenset
        have hne : (Value.type "list" == Value.type "dict") = false := by decide
        have hl1 : (s.heap.push { cls := .type "set", dict := none, data := .set #[] 0 (.fresh 0 0 led) }).IsList l items := ⟨_, hol', rfl, nl, rfl⟩
        unfold Builtin.«set.__init__» noKeywords Builtin.Frozenset.updateFrom
        generalize hPI : pyIter = PI
        wp_walk
        subst hPI
        refine wpAny_pyIter_list hl1 ?_
        refine wpAny_bind (wpAny_runValue ?_)
        have hlS : l < s.heap.objs.size := Heap.lt_size hol
        have hh3 : A.in1.in1.in1.handled = none := by simp [hh]
        have hneI : l ≠ (s.heap.push { cls := .type "set", dict := none, data := .set #[] 0 (.fresh 0 0 led) }).objs.size := by
          rw [Heap.size_push]; exact Nat.ne_of_lt (Nat.lt_succ_of_lt hlS)
        have hSf : s.heap.objs.size ∉ [(s.heap.push { cls := .type "set", dict := none, data := .set #[] 0 (.fresh 0 0 led) }).objs.size, l] := by
          rw [Heap.size_push]; simp only [List.mem_cons, List.mem_singleton, List.not_mem_nil, or_false, not_or]
          exact ⟨Nat.ne_of_lt (Nat.lt_succ_self _), Nat.ne_of_gt hlS⟩
        have hget : ((s.heap.push { cls := .type "set", dict := none, data := .set #[] 0 (.fresh 0 0 led) }).push { cls := .type "list_iterator", data := .fields #[.ref l, .int 0 0] }).get? s.heap.objs.size
              = some { cls := .type "set", dict := none, data := .set #[] 0 (.fresh 0 0 led) } := Heap.get?_push_of_some _ hS
        refine set_loop ((Walks.list hh3 _ l hneI items).toS) s.heap.objs.size
          hSf (fun h => ∀ b o, b < s.heap.objs.size -> s.heap.get? b = some o -> h.get? b = some o) (fun h h' hB hk b o hb e => hk b o ?_ (hB b o hb e)) J (hadd _ (by show A.units + 3 <= _; omega)) (items.size - 0) 0 _ _ (by omega) (Nat.zero_le _)
          ⟨⟨_, Heap.get?_push_size _ rfl, rfl, rfl⟩, (hl1.push _)⟩ hget (hJ0 led) (fun b o hb e => Heap.get?_push_of_some _ (Heap.get?_push_of_some _ e)) ?hR
        · have hb1 : b ≠ s.heap.objs.size := Nat.ne_of_lt hb
          have hb2 : b ≠ (s.heap.push { cls := .type "set", dict := none, data := .set #[] 0 (.fresh 0 0 led) }).objs.size := by
            rw [Heap.size_push]; exact Nat.ne_of_lt (Nat.lt_succ_of_lt hb)
          simp only [List.mem_cons, List.mem_singleton, List.not_mem_nil, or_false, not_or]; exact ⟨hb1, hb2⟩
        case hR =>
          intro s' o' hm hS' hJ'
          obtain ⟨h', g', d', tk', os'⟩ := s'
          have eg : g' = s.gens := hm.gens
          have ed : d' = s.drawn := hm.drawn
          have eo : os' = s.os := hm.os
          subst eg; subst ed; subst eo
          show wpAny _ _ _ _ _ _
          refine wpAny_pure ?_
          show wpAny _ _ (ret Value.none) _ _ _
          refine wpAny_pure ⟨rfl, h', tk', o', rfl, hS', hJ', fun b o hb e => ?_⟩
          have hb1 : b ≠ s.heap.objs.size := Nat.ne_of_lt hb
          have hb2 : b ≠ (s.heap.push { cls := .type "set", dict := none, data := .set #[] 0 (.fresh 0 0 led) }).objs.size := by
            rw [Heap.size_push]; exact Nat.ne_of_lt (Nat.lt_succ_of_lt hb)
          exact hm.heap b o (by simp only [List.mem_cons, List.mem_singleton, List.not_mem_nil, or_false, not_or]; exact ⟨hb1, hb2⟩) (Heap.get?_push_of_some _ (Heap.get?_push_of_some _ e))
      · cases r₂ with
        | error e => exact hr₂
        | ok fl₂ =>
          cases fl₂ with
          | ret r =>
            obtain ⟨rfl, h', tk, o', rfl, hS', hJ', hk'⟩ := hr₂
            repeat (any_goals (first | assumption | wp_step))
            exact h _ _ _ hS' hJ' hk'
          | _ => exact hr₂.elim
    | _ => exact hr.elim
end
end ST
end
section
namespace ST
open PySem PySem.Spec PyProof.Rows
def dd {κ : Type} [DecidableEq κ] (l : List κ) : List κ := l.foldl (fun a k => if k ∈ a then a else a ++ [k]) []
theorem dd_snoc {κ : Type} [DecidableEq κ] (l : List κ) (k : κ) : dd (l ++ [k]) = if k ∈ dd l then dd l else dd l ++ [k] := by
  unfold dd; rw [List.foldl_append]; rfl
theorem dd_len {κ : Type} [DecidableEq κ] (l : List κ) : (dd l).length <= l.length := by
  have key : ∀ (l a : List κ), (l.foldl (fun a k => if k ∈ a then a else a ++ [k]) a).length <= a.length + l.length := by
    intro l
    induction l with
    | nil => intro a; exact Nat.le_refl _
    | cons k r ih =>
      intro a
      rw [List.foldl_cons]
      refine Nat.le_trans (ih _) ?_
      split
      · simp only [List.length_cons]; omega
      · simp only [List.length_append, List.length_cons, List.length_nil]; omega
  have := key l []
  simpa [dd] using this
section
variable {prog : Program} {w : World} {κ : Type} [DecidableEq κ] {knd : KeyKind prog w κ} {A : Around} {E : Value -> Shared -> Prop} {s : Shared}
theorem hashByValue_tuple {ks : List κ} {a : Addr} {Q : Bool -> Shared -> Prop} (hk : IsTupleKey knd s.heap ks a) (hsc : ∀ v k, knd.is k v = true -> v.scannable = true) (h : ∀ b, Q b s) : wpAny (model prog w) A (hashByValue 8 (.ref a)) Q E s := by
  have hT := hk.typeIs
  obtain ⟨o, items, n, ho, _, hd, hi⟩ := hk
  unfold hashByValue
  refine wpAny_bind (wpAny_specialOf hT F.slot_tuple_hash.lookup ?_)
  refine wpAny_bind (wpAny_seqItems ho hd ?_)
  refine wpAny_bind ?_
  show wpAny _ _ (forIn items _ _) _ _ s
  rw [← Array.forIn_toList]
  have hall : ∀ v ∈ items.toList, v.scannable = true := by
    have : ∀ {x : List κ} {vs : List Value}, ItemsAre knd x vs -> ∀ v ∈ vs, v.scannable = true := by
      intro x vs q
      induction q with
      | nil => intro v hv; cases hv
      | cons h1 _ ih =>
        intro v hv
        rcases List.mem_cons.mp hv with rfl | hv
        · exact hsc _ _ h1
        · exact ih v hv
    exact this hi
  refine wpAny_forIn_list _ (fun zcY r s' => s' = s /\ ∀ v ∈ zcY, v.scannable = true) _ ?_ ?_ _ _ ⟨rfl, hall⟩
  · rintro v zcY r s' ⟨rfl, hv⟩
    rw [hashByValue_scannable _ (hv v List.mem_cons_self)]
    refine wpAny_bind (wpAny_pure ?_)
    cases hp : plainKind v with
    | true =>
      simp only [Bool.not_true, Bool.false_eq_true, if_false]
      exact wpAny_pure ⟨rfl, fun u hu' => hv u (List.mem_cons_of_mem _ hu')⟩
    | false =>
      simp only [Bool.not_false, if_true]
      first | exact wpAny_pure (wpAny_pure (h _)) | exact wpAny_pure (h _) | exact wpAny_bind (wpAny_pure (wpAny_pure (wpAny_pure (h _))))
  · rintro ⟨r1, r2⟩ s' ⟨rfl, _⟩
    first | exact wpAny_pure (h _) | (cases r1 <;> exact wpAny_pure (h _))
theorem ofClass_tuple {ks : List κ} {a : Addr} {Q : Bool -> Shared -> Prop} (hk : IsTupleKey knd s.heap ks a) (h : Q false s) : wpAny (model prog w) A (ofAClassStatement 8 (.ref a)) Q E s := by
  have hT := hk.typeIs
  obtain ⟨o, items, n, ho, _, hd, hi⟩ := hk
  unfold ofAClassStatement
  refine wpAny_bind (wpAny_typeOf hT ?_)
  dsimp only
  rw [if_pos (by decide)]
  refine wpAny_bind (wpAny_pure ?_)
  simp only [Bool.not_true, Bool.false_eq_true, if_false]
  refine wpAny_bind (wpAny_seqItems ho hd ?_)
  refine wpAny_bind ?_
  show wpAny _ _ (forIn items _ _) _ _ s
  rw [← Array.forIn_toList]
  refine wpAny_forIn_list _ (fun zcY r s' => r.1 = none /\ s' = s /\ ∀ v ∈ zcY, carriedByValue v = true) _ ?_ ?_ _ _ ⟨rfl, rfl, hi.byValue⟩
  · rintro v zcY r s' ⟨hr, rfl, hv⟩
    have e : ofAClassStatement 7 v = pure false := by
      have := hv v List.mem_cons_self
      cases v with
      | ref b => simp [carriedByValue] at this
      | _ => rfl
    rw [e]
    refine wpAny_bind (wpAny_pure ?_)
    simp only [Bool.false_eq_true, if_false]
    exact wpAny_pure ⟨rfl, rfl, fun u hu' => hv u (List.mem_cons_of_mem _ hu')⟩
  · rintro ⟨r1, r2⟩ s' ⟨hr, rfl, _⟩
    simp only at hr
    subst hr
    exact wpAny_pure h
theorem unseen {ks : List κ} {a : Addr} {Q : Bool -> Shared -> Prop} (hk : IsTupleKey knd s.heap ks a) (st : List Value) (hst : ∀ y ∈ st, ∃ k b, y = .ref b /\ IsTupleKey knd s.heap k b) (h : Q false s) : wpAny (model prog w) A (searchCouldBeSeen (.ref a) st) Q E s := by
  unfold searchCouldBeSeen
  refine wpAny_bind ?_
  refine wpAny_forIn_list _ (fun zcY r s' => r.1 = none /\ s' = s /\ ∀ y ∈ zcY, ∃ k b, y = .ref b /\ IsTupleKey knd s.heap k b) _ ?_ ?_ _ _ ⟨rfl, rfl, hst⟩
  · rintro v zcY r s' ⟨hr, rfl, hv⟩
    obtain ⟨k, b, rfl, hb⟩ := hv v List.mem_cons_self
    dsimp only
    split
    · exact wpAny_pure ⟨rfl, rfl, fun u hu' => hv u (List.mem_cons_of_mem _ hu')⟩
    · refine wpAny_bind (wpAny_eqIsQuiet_tuple hk ?_)
      simp only [Bool.not_true, Bool.false_eq_true, if_false]
      refine wpAny_bind (wpAny_eqIsQuiet_tuple hb ?_)
      simp only [Bool.not_true, Bool.false_eq_true, if_false]
      refine wpAny_bind (ofClass_tuple hk ?_)
      simp only [Bool.false_eq_true, if_false]
      refine wpAny_bind (ofClass_tuple hb ?_)
      simp only [Bool.false_eq_true, if_false]
      exact wpAny_pure ⟨rfl, rfl, fun u hu' => hv u (List.mem_cons_of_mem _ hu')⟩
  · rintro ⟨r1, r2⟩ s' ⟨hr, rfl, _⟩
    simp only at hr
    subst hr
    exact wpAny_pure h
end
end ST
end
section
namespace ST
open PySem PySem.Spec PyProof.Rows
theorem probe_cases {t : SetTable} {es : Array (Int × Value)} (T : Tb t es) {hashAt : Nat -> Int} {h : Int} {p : SetTable.Probe} {r : Option SetTable.Met} {n n0 : Nat} (hp : t.probe hashAt h p = r) (hpp : p = zcA (it t.mask h n)) (hn : n <= n0) (hn0 : n0 < 10 * (t.mask + 15))
    (hf : J t.mask h n0 ∉ t.place.toList) (ho : ∀ m, m < n0 -> J t.mask h m ∈ t.place.toList) :
    (∃ n' i, n <= n' /\ n' < n0 /\ t.place[i]? = some (J t.mask h n') /\ hashAt i = h /\ (∀ m i, n <= m -> m < n' -> t.place[i]? = some (J t.mask h m) -> hashAt i ≠ h) /\ r = some (.candidate (J t.mask h n') i (zcA (it t.mask h (n' + 1))))) \/
    ((∀ m i, n <= m -> m < n0 -> t.place[i]? = some (J t.mask h m) -> hashAt i ≠ h) /\ r = some (.empty (J t.mask h n0) none)) := by
  subst hpp
  subst hp
  unfold SetTable.probe
  exact T.probe_go hashAt h hf ho (10 * SetTable.turns t.mask) n hn (by unfold SetTable.turns; omega)
theorem probe_never {t : SetTable} {es : Array (Int × Value)} (T : Tb t es) {hashAt : Nat -> Int} {h : Int} {p : SetTable.Probe} {n n0 : Nat} (hp : ∀ met, t.probe hashAt h p = some met -> False) (hpp : p = zcA (it t.mask h n)) (hn : n <= n0) (hn0 : n0 < 10 * (t.mask + 15))
    (hf : J t.mask h n0 ∉ t.place.toList) (ho : ∀ m, m < n0 -> J t.mask h m ∈ t.place.toList) : False := by
  rcases probe_cases T (r := t.probe hashAt h p) rfl hpp hn hn0 hf ho with ⟨n', i, _, _, _, _, _, g6⟩ | ⟨_, g2⟩
  · exact hp _ g6
  · exact hp _ g2
section
variable {prog : Program} {w : World} {κ : Type} [DecidableEq κ] {knd : KeyKind prog w κ} {A : Around} {E : Value -> Shared -> Prop} {s : Shared}
def Ents (knd : KeyKind prog w κ) (h : Heap) (es : Array (Int × Value)) : Prop := ∀ (i : Nat) e, es[i]? = some e -> ∃ k b, e = (tupleKeyHash knd k, .ref b) /\ IsTupleKey knd h k b
theorem Mk.odd {M : Nat} (h : Mk M) : (M % 2 == 0) = false := by
  rcases h with rfl | rfl | rfl | rfl <;> rfl
theorem search_ok {S a : Addr} {o : Obj} {es : Array (Int × Value)} {ep : Nat} {t : SetTable} {k : List κ} {n0 : Nat} {Q : SetFound -> Shared -> Prop} (hu : A.units < cLine) (ho : s.heap.get? S = some o) (hd : o.data = .set es ep t) (T : Tb t es) (hM : Mk t.mask)
    (hk : IsTupleKey knd s.heap k a) (he : Ents knd s.heap es) (hf : J t.mask (tupleKeyHash knd k) n0 ∉ t.place.toList) (hocc : ∀ m, m < n0 -> J t.mask (tupleKeyHash knd k) m ∈ t.place.toList) (hn0 : n0 < 10 * (t.mask + 15))
    (hyes : ∀ (i : Nat) (b : Addr), es[i]? = some (tupleKeyHash knd k, .ref b) -> IsTupleKey knd s.heap k b -> Q (.there none) s)
    (hno : (∀ (i : Nat) (b : Addr), es[i]? = some (tupleKeyHash knd k, .ref b) -> ¬ IsTupleKey knd s.heap k b) -> Q (.free (J t.mask (tupleKeyHash knd k) n0) false) s) :
    ∀ (fuel n : Nat) (stand : Option SetTable.Probe), n0 - n < fuel -> n <= n0 -> (stand.getD (t.probeStart (tupleKeyHash knd k)) = zcA (it t.mask (tupleKeyHash knd k) n)) ->
      (∀ (m i : Nat) (b : Addr), m < n -> t.place[i]? = some (J t.mask (tupleKeyHash knd k) m) -> es[i]? = some (tupleKeyHash knd k, .ref b) -> ¬ IsTupleKey knd s.heap k b) ->
      wpAny (model prog w) A (setSearchFrom S (.ref a) (tupleKeyHash knd k) true fuel stand) Q E s := by
  intro fuel
  induction fuel with
  | zero => intro n stand h1; omega
  | succ fuel ih =>
    intro n stand h1 h2 hs hw
    unfold setSearchFrom
    refine wpAny_bind (wpAny_setState_of ho hd T.fits ?_)
    dsimp only
    have hg : t.gaveWay = false := hM.odd
    rw [hg]
    simp only [Bool.false_eq_true, if_false]
    split
    · rename_i met hp
      rcases probe_cases T hp hs h2 hn0 hf hocc with ⟨n', i, g1, g2, g3, g4, g5, g6⟩ | ⟨g1, g2⟩
      · cases g6
        have hi : i < es.size := by
          have := (Array.getElem?_eq_some_iff.mp g3).1
          rw [T.sz] at this
          exact this
        have hei : es[i]? = some es[i] := by simp [hi]
        obtain ⟨k', b, e1, hb⟩ := he i _ hei
        rw [e1] at hei
        have hh : tupleKeyHash knd k' = tupleKeyHash knd k := by
          have g4' : ((es[i]?).map (·.1)).getD 0 = tupleKeyHash knd k := g4
          rw [hei] at g4'
          exact g4'
        rw [hh] at hei
        have zcY : wpAny (model prog w) A (do
            let some (_, y) := es[i]? | unsupported "internal:set-entry"
            let equal ← holding [y] (eqBool y (.ref a))
            let (es', _, t') ← setState S
            if true && equal then return .there none
            let some same := t'.sameMemory t.moves t.mask | unsupported "set.changed-during-lookup:is-the-new-block-at-the-old-address"
            let still ← match (if same then t'.slot (J t.mask (tupleKeyHash knd k) n') else .empty) with
              | .live i' => match es'[i']? with
                | some (_, y') => do pure (if ← isSame y' y then some i' else none)
                | none => pure none
              | _ => pure none
            match still with
            | none => rule "set.search.anew"; setSearchFrom S (.ref a) (tupleKeyHash knd k) true fuel none
            | some i' => if equal then return .there (some i') else setSearchFrom S (.ref a) (tupleKeyHash knd k) true fuel (some (zcA (it t.mask (tupleKeyHash knd k) (n' + 1))))) Q E s := by
          rw [hei]
          dsimp only
          refine wpAny_bind (wpAny_holding (wpAny_eqBool_tuple hu hb hk ?_))
          refine wpAny_bind (wpAny_setState_of ho hd T.fits ?_)
          dsimp only
          by_cases hkk : k' = k
          · subst hkk
            rw [decide_eq_true rfl]
            simp only [Bool.true_and, if_true]
            exact wpAny_pure (hyes i b hei hb)
          · rw [decide_eq_false hkk]
            simp only [Bool.true_and, Bool.false_eq_true, if_false]
            have hsm : t.sameMemory t.moves t.mask = some true := by unfold SetTable.sameMemory; simp
            rw [hsm]
            dsimp only
            simp only [if_true]
            rw [T.live g3]
            dsimp only
            rw [hei]
            dsimp only
            refine wpAny_bind (wpAny_isSame_ref_self ?_)
            simp only [if_true]
            refine wpAny_bind (wpAny_pure ?_)
            dsimp only
            refine ih (n' + 1) _ (by omega) (by omega) rfl ?_
            intro m i2 b2 hm hp2 he2
            by_cases h3 : m < n
            · exact hw m i2 b2 h3 hp2 he2
            · by_cases h4 : m = n'
              · subst h4
                have ei : i2 = i := by
                  have q1 := T.live hp2
                  have q2 := T.live g3
                  rw [q1] at q2
                  injection q2
                subst ei
                rw [hei] at he2
                cases he2
                exact fun z => hkk (hb.inj z)
              · exfalso
                refine g5 m i2 (by omega) (by omega) hp2 ?_
                show ((es[i2]?).map (·.1)).getD 0 = _
                rw [he2]
                rfl
        cases hled : t.led with
        | true =>
          simp only [Bool.not_true, Bool.false_eq_true, if_false]
          exact zcY
        | false =>
          simp only [Bool.not_false, if_true]
          refine wpAny_bind (unseen hk _ (fun y hy => ?_) ?_)
          · obtain ⟨e, he1, rfl⟩ := List.mem_map.mp hy
            have he2 : e ∈ es.toList := by
              have := Array.mem_toList_iff.mp he1
              rw [Array.mem_filter] at this
              exact Array.mem_toList_iff.mpr this.1
            obtain ⟨j, hj, ej⟩ := List.mem_iff_getElem.mp he2
            obtain ⟨k2, b2, q1, q2⟩ := he j e (by rw [← Array.getElem?_toList, List.getElem?_eq_getElem hj, ej])
            exact ⟨k2, b2, by rw [q1], q2⟩
          · simp only [Bool.false_eq_true, if_false]
            exact zcY
      · cases g2
        dsimp only
        refine wpAny_pure (hno fun i b hei hb => ?_)
        have hi : i < es.size := (Array.getElem?_eq_some_iff.mp hei).1
        have hpi : t.place[i]? = some t.place[i]! := by
          have : i < t.place.size := by rw [T.sz]; exact hi
          simp [this]
        obtain ⟨m, q1, q2⟩ := T.rc i _ _ _ hpi hei
        have hmem : J t.mask (tupleKeyHash knd k) m ∈ t.place.toList := by
          rw [q1]
          rw [← Array.getElem?_toList] at hpi
          exact List.mem_of_getElem? hpi
        have hm : m < n0 := by
          rcases Nat.lt_trichotomy m n0 with z | z | z
          · exact z
          · subst z; exact absurd hmem hf
          · exact absurd (q2 n0 z) hf
        by_cases h3 : m < n
        · exact hw m i b h3 (by rw [q1]; exact hpi) hei hb
        · refine g1 m i (by omega) hm (by rw [q1]; exact hpi) ?_
          show ((es[i]?).map (·.1)).getD 0 = _
          rw [hei]
          rfl
    · rename_i hp
      exact (probe_never T hp hs h2 hn0 hf hocc).elim
structure TS (knd : KeyKind prog w κ) (h : Heap) (ks : List (List κ)) (o : Obj) : Prop where
  cls : o.ExactSet
  ex : ∃ es ep t, o.data = .set es ep t /\ Tb t es /\ Mk t.mask /\ Ents knd h es /\ es.size = (dd ks).length /\ (∀ k ∈ dd ks, ∃ (i : Nat) (b : Addr), es[i]? = some (tupleKeyHash knd k, .ref b) /\ IsTupleKey knd h k b) /\ ∀ (i : Nat) (k : List κ) (b : Addr), es[i]? = some (tupleKeyHash knd k, .ref b) -> IsTupleKey knd h k b -> k ∈ dd ks
theorem IsTupleKey.mono {h h' : Heap} {k : List κ} {a : Addr} (x : IsTupleKey knd h k a) (q : ∀ o, h.get? a = some o -> h'.get? a = some o) : IsTupleKey knd h' k a := by
  obtain ⟨o, items, n, h1, h2⟩ := x
  exact ⟨o, items, n, q o h1, h2⟩
theorem mem_idx {es : Array (Int × Value)} {e : Int × Value} : e ∈ es.toList ↔ ∃ i : Nat, es[i]? = some e := by
  constructor
  · intro h
    obtain ⟨i, hi, q⟩ := List.mem_iff_getElem.mp h
    exact ⟨i, by rw [← Array.getElem?_toList, List.getElem?_eq_getElem hi, q]⟩
  · rintro ⟨i, h⟩
    rw [← Array.getElem?_toList] at h
    exact List.mem_of_getElem? h
theorem more_ok {h0 : Heap} {ks : List (List κ)} {k : List κ} {a : Addr} {es es' : Array (Int × Value)} (hk : IsTupleKey knd h0 k a) (hE : Ents knd h0 es) (hsz : es.size = (dd ks).length) (hin : ∀ k ∈ dd ks, ∃ (i : Nat) (b : Addr), es[i]? = some (tupleKeyHash knd k, .ref b) /\ IsTupleKey knd h0 k b)
    (hout : ∀ (i : Nat) (k : List κ) (b : Addr), es[i]? = some (tupleKeyHash knd k, .ref b) -> IsTupleKey knd h0 k b -> k ∈ dd ks) (hnew : k ∉ dd ks) (mem : ∀ e, e ∈ es'.toList ↔ e = (tupleKeyHash knd k, .ref a) \/ e ∈ es.toList) (size : es'.size = es.size + 1) :
    Ents knd h0 es' /\ es'.size = (dd (ks ++ [k])).length /\ (∀ k' ∈ dd (ks ++ [k]), ∃ (i : Nat) (b : Addr), es'[i]? = some (tupleKeyHash knd k', .ref b) /\ IsTupleKey knd h0 k' b) /\ ∀ (i : Nat) (k' : List κ) (b : Addr), es'[i]? = some (tupleKeyHash knd k', .ref b) -> IsTupleKey knd h0 k' b -> k' ∈ dd (ks ++ [k]) := by
  rw [dd_snoc, if_neg hnew]
  refine ⟨fun i e he => ?_, by rw [size, hsz, List.length_append, List.length_singleton], fun k' hk' => ?_, fun i k' b he hb => ?_⟩
  · rcases (mem e).mp (mem_idx.mpr ⟨i, he⟩) with rfl | q
    · exact ⟨k, a, rfl, hk⟩
    · obtain ⟨j, q⟩ := mem_idx.mp q
      exact hE j e q
  · rcases List.mem_append.mp hk' with q | q
    · obtain ⟨i, b, q1, q2⟩ := hin k' q
      obtain ⟨j, q3⟩ := mem_idx.mp ((mem _).mpr (.inr (mem_idx.mpr ⟨i, q1⟩)))
      exact ⟨j, b, q3, q2⟩
    · rw [List.mem_singleton.mp q]
      obtain ⟨j, q3⟩ := mem_idx.mp ((mem _).mpr (.inl rfl))
      exact ⟨j, a, q3, hk⟩
  · rcases (mem _).mp (mem_idx.mpr ⟨i, he⟩) with q | q
    · have e : b = a := by have := (Prod.mk.inj q).2; injection this
      subst e
      exact List.mem_append.mpr (.inr (List.mem_singleton.mpr (hb.inj hk)))
    · obtain ⟨j, q⟩ := mem_idx.mp q
      exact List.mem_append.mpr (.inl (hout j k' b q hb))
theorem stored_get {h : Heap} {S : Addr} {o : Obj} {es es' : Array (Int × Value)} {ep : Nat} {t t' : SetTable} (ho : h.get? S = some o) (hd : o.data = .set es ep t) : (h.update S (Obj.putSet es' t')).get? S = some { o with data := .set es' (ep + 1) t' } := by
  have q := Heap.get?_update_self (Obj.putSet es' t') ho (by rw [putSet_of es' t' hd]; rfl)
  rwa [putSet_of es' t' hd] at q
set_option maxHeartbeats 1000000 in
theorem add_tuple {S a : Addr} {o : Obj} {h0 : Heap} {ks : List (List κ)} {k : List κ} {Q : Bool -> Shared -> Prop} (hsc : ∀ v k, knd.is k v = true -> v.scannable = true) (hu : A.units < cLine) (ho : s.heap.get? S = some o) (T : TS knd h0 ks o) (hk : IsTupleKey knd h0 k a)
    (hB : ∀ b o, h0.get? b = some o -> s.heap.get? b = some o) (hlen : ks.length <= 300)
    (h : ∀ b h' tk o', s.toks <= tk -> Heap.SameBut S s.heap h' -> h'.get? S = some o' -> TS knd h0 (ks ++ [k]) o' -> Q b { s with heap := h', toks := tk }) : wpAny (model prog w) A (setAdd S (.ref a)) Q E s := by
  obtain ⟨hc, es, ep, t, hd, TB, hM, hE, hsz, hin, hout⟩ := T
  have up : ∀ {k : List κ} {b : Addr}, IsTupleKey knd h0 k b -> IsTupleKey knd s.heap k b := fun q => IsTupleKey.mono q fun o e => hB _ _ e
  have down : ∀ {k k' : List κ} {b : Addr}, IsTupleKey knd h0 k' b -> IsTupleKey knd s.heap k b -> k = k' := fun q1 q2 => q2.inj (up q1)
  have hE' : Ents knd s.heap es := fun i e he => by
    obtain ⟨k, b, q1, q2⟩ := hE i e he
    exact ⟨k, b, q1, up q2⟩
  have hddl := dd_len ks
  obtain ⟨n0, f1, f2, f3⟩ := TB.first (tupleKeyHash knd k)
  unfold setAdd
  refine wpAny_holding (wpAny_bind (wpAny_pyHash_tuple hu (up hk) ?_))
  unfold setAddHashed setAddHashedIn
  refine wpAny_holding (wpAny_bind (wpAny_setState_of (s := { s with toks := s.toks + (k.length + 1) }) ho hd TB.fits ?_))
  dsimp only
  rw [show byScan (.ref a) es = false from rfl]
  simp only [Bool.false_eq_true, if_false]
  unfold setSearch
  refine wpAny_bind (search_ok (s := { s with toks := s.toks + (k.length + 1) }) hu ho hd TB hM (up hk) hE' f2 f3 f1 (fun i b hei hb => ?_) (fun hall => ?_) 100000 0 none ?_ (Nat.zero_le _) rfl (fun m i b hm => by omega))
  ·
    dsimp only
    obtain ⟨k', b', q1, q2⟩ := hE i _ hei
    have : b' = b := by
      have := (Prod.mk.inj q1).2
      injection this with e
      exact e.symm
    subst this
    have ek := down q2 hb
    subst ek
    have hmem := hout i k _ hei q2
    refine wpAny_pure (h false s.heap _ o (by show s.toks <= s.toks + (k.length + 1); omega) (Heap.SameBut.refl S s.heap) ho ⟨hc, es, ep, t, hd, TB, hM, hE, ?_⟩)
    rw [dd_snoc, if_pos hmem]
    exact ⟨hsz, hin, hout⟩
  ·
    dsimp only
    have hnew : k ∉ dd ks := fun hm => by
      obtain ⟨i, b, q1, q2⟩ := hin k hm
      exact hall i b q1 (up q2)
    have hpl : SetTable.below t.place (J t.mask (tupleKeyHash knd k) n0) <= es.size := by
      have := (below_ok t.place (J t.mask (tupleKeyHash knd k) n0) TB.ri).1
      rw [TB.sz] at this
      exact this
    have hmaskle : t.mask <= 511 := by rcases hM with e | e | e | e <;> omega
    have hmem : ∀ e, e ∈ (SetTable.insertAt es (SetTable.below t.place (J t.mask (tupleKeyHash knd k) n0)) (tupleKeyHash knd k, Value.ref a)).toList ↔ e = (tupleKeyHash knd k, Value.ref a) \/ e ∈ es.toList := fun e => by
      rw [zcn _ _ _ hpl]
      exact insert_mem _ _ _ _
    have hsize : (SetTable.insertAt es (SetTable.below t.place (J t.mask (tupleKeyHash knd k) n0)) (tupleKeyHash knd k, Value.ref a)).size = es.size + 1 := by
      have := congrArg List.length (zcn es _ (tupleKeyHash knd k, Value.ref a) hpl)
      simp only [Array.length_toList, List.length_append, List.length_cons, List.length_take, List.length_drop] at this
      omega
    have hpsz : (SetTable.insertAt t.place (SetTable.below t.place (J t.mask (tupleKeyHash knd k) n0)) (J t.mask (tupleKeyHash knd k) n0)).size = es.size + 1 := by
      have := congrArg List.length (zcn t.place _ (J t.mask (tupleKeyHash knd k) n0) (by rw [TB.sz]; exact hpl))
      have h3 := TB.sz
      simp only [Array.length_toList, List.length_append, List.length_cons, List.length_take, List.length_drop] at this
      omega
    refine wpAny_bind (wpAny_setState_of (s := { s with toks := s.toks + (k.length + 1) }) ho hd TB.fits ?_)
    dsimp only
    have fin : ∀ (es' : Array (Int × Value)) (t' : SetTable) (h' : Heap) (o' : Obj), Tb t' es' -> Mk t'.mask -> (∀ e, e ∈ es'.toList ↔ e = (tupleKeyHash knd k, Value.ref a) \/ e ∈ es.toList) -> es'.size = es.size + 1 -> Heap.SameBut S s.heap h' -> h'.get? S = some o' -> o'.ExactSet -> (∃ ep', o'.data = .set es' ep' t') -> Q true { s with heap := h', toks := s.toks + (k.length + 1) } := fun es' t' h' o' q1 q2 q3 q4 q5 q6 q7 q8 => by
      obtain ⟨ep', q8⟩ := q8
      obtain ⟨w1, w2, w3, w4⟩ := more_ok hk hE hsz hin hout hnew q3 q4
      exact h true h' _ o' (by omega) q5 q6 ⟨q7, es', ep', t', q8, q1, q2, w1, w2, w3, w4⟩
    have zcY : ∀ pl : Bool, wpAny (model prog w) A (do
        storeSet S (SetTable.insertAt es (t.put (J t.mask (tupleKeyHash knd k) n0)).2 (tupleKeyHash knd k, Value.ref a)) { (t.put (J t.mask (tupleKeyHash knd k) n0)).1 with plain := pl }
        if (!false && SetTable.tooFull { (t.put (J t.mask (tupleKeyHash knd k) n0)).1 with plain := pl }) = true then do
          setRelay S (SetTable.grown (es.size + 1))
          pure true
        else pure true) Q E { s with toks := s.toks + (k.length + 1) } := fun pl => by
      refine wpAny_bind (wpAny_storeSet_of (s := { s with toks := s.toks + (k.length + 1) }) ho hd ?_ (by show (SetTable.insertAt es (SetTable.below t.place (J t.mask (tupleKeyHash knd k) n0)) (tupleKeyHash knd k, Value.ref a)).size <= sizeLine; rw [hsize, sizeLine_eq]; omega))
      have hg1 := stored_get (es' := SetTable.insertAt es (t.put (J t.mask (tupleKeyHash knd k) n0)).2 (tupleKeyHash knd k, Value.ref a)) (t' := { (t.put (J t.mask (tupleKeyHash knd k) n0)).1 with plain := pl }) ho hd
      have hsb1 := Heap.SameBut.update s.heap S (Obj.putSet (SetTable.insertAt es (t.put (J t.mask (tupleKeyHash knd k) n0)).2 (tupleKeyHash knd k, Value.ref a)) { (t.put (J t.mask (tupleKeyHash knd k) n0)).1 with plain := pl })
      have hdum : (t.put (J t.mask (tupleKeyHash knd k) n0)).1.dummies = #[] := by
        show (if SetTable.has t.dummies _ then _ else t.dummies) = #[]
        rw [TB.dm]
        rfl
      have hfill : SetTable.fill { (t.put (J t.mask (tupleKeyHash knd k) n0)).1 with plain := pl } = es.size + 1 := by
        show (SetTable.insertAt t.place _ _).size + (t.put (J t.mask (tupleKeyHash knd k) n0)).1.dummies.size = _
        rw [hdum]
        exact hpsz
      by_cases few : (es.size + 1) * 5 < t.mask * 3
      · have hfull : SetTable.tooFull { (t.put (J t.mask (tupleKeyHash knd k) n0)).1 with plain := pl } = false := by
          unfold SetTable.tooFull
          rw [hfill]
          exact decide_eq_false (by show ¬ ((es.size + 1) * 5 ≥ t.mask * 3); omega)
        rw [hfull]
        simp only [Bool.not_false, Bool.and_false, Bool.false_eq_true, if_false]
        refine wpAny_pure (fin _ _ _ _ (TB.put (x := .ref a) f2 f3 few pl) hM hmem hsize hsb1 hg1 hc ⟨_, rfl⟩)
      · have hfull : SetTable.tooFull { (t.put (J t.mask (tupleKeyHash knd k) n0)).1 with plain := pl } = true := by
          unfold SetTable.tooFull
          rw [hfill]
          exact decide_eq_true (by show ((es.size + 1) * 5 ≥ t.mask * 3); omega)
        rw [hfull]
        simp only [Bool.not_false, Bool.and_true, if_true]
        obtain ⟨m1, m2, m3⟩ := hM.grow TB.few few (by omega)
        have hes1 : (SetTable.insertAt es (t.put (J t.mask (tupleKeyHash knd k) n0)).2 (tupleKeyHash knd k, Value.ref a)).size = es.size + 1 := hsize
        obtain ⟨t', order, r1, r2, r3, r4, r5, r6⟩ := Full.relaid (t := { (t.put (J t.mask (tupleKeyHash knd k) n0)).1 with plain := pl }) (es := SetTable.insertAt es (t.put (J t.mask (tupleKeyHash knd k) n0)).2 (tupleKeyHash knd k, Value.ref a)) m1.full (by rw [hes1]; exact m2)
        unfold setRelay
        have hfits : SetTable.fits { (t.put (J t.mask (tupleKeyHash knd k) n0)).1 with plain := pl } (SetTable.insertAt es (t.put (J t.mask (tupleKeyHash knd k) n0)).2 (tupleKeyHash knd k, Value.ref a)).size = true := by
          unfold SetTable.fits
          rw [hfill, hes1, Bool.and_eq_true]
          have := TB.few
          exact ⟨by rw [beq_iff_eq]; exact hpsz, decide_eq_true (by show es.size + 1 <= t.mask; omega)⟩
        refine wpAny_bind ?_
        refine wpAny_bind (wpAny_setState_of (s := { s with heap := _, toks := s.toks + (k.length + 1) }) hg1 rfl hfits ?_)
        dsimp only
        rw [if_neg (by rw [sizeLine_eq]; omega), r1]
        refine wpAny_bind ?_
        show wpAny _ _ (if ((order.filterMap ((SetTable.insertAt es (t.put (J t.mask (tupleKeyHash knd k) n0)).2 (tupleKeyHash knd k, Value.ref a))[·]?)).size != (SetTable.insertAt es (t.put (J t.mask (tupleKeyHash knd k) n0)).2 (tupleKeyHash knd k, Value.ref a)).size) = true then _ else _) _ _ _
        rw [if_neg (by rw [r2]; simp)]
        refine wpAny_pure ?_
        dsimp only
        refine wpAny_storeSet_of (s := { s with heap := _, toks := s.toks + (k.length + 1) }) hg1 rfl ?_ (by rw [r2, hes1, sizeLine_eq]; omega)
        refine wpAny_pure (fin _ t' _ _ r3 (by rw [r5]; exact m1) (fun e => (r4 e).trans (hmem e)) (by rw [r2, hes1]) (hsb1.trans (Heap.SameBut.update _ S _)) (stored_get hg1 rfl) hc ⟨_, rfl⟩)
    split
    · refine wpAny_bind (hashByValue_tuple (s := { s with toks := s.toks + (k.length + 1) }) (up hk) hsc fun bv => ?_)
      cases bv
      · exact zcY false
      · exact zcY _
    · refine wpAny_bind (wpAny_pure ?_)
      exact zcY _
  · show n0 - 0 < 100000
    have : t.mask <= 511 := by rcases hM with e | e | e | e <;> omega
    omega
end
end ST
end
section
namespace L2
open PySem PySem.Spec PyProof.Rows ST
instance (priority := high) keyBEq : BEq Key := instBEqOfDecidableEq
instance (priority := high) keyLaw : LawfulBEq Key := inferInstanceAs (@LawfulBEq Key instBEqOfDecidableEq)
def SetN (n : Nat) (o : Obj) : Prop := o.ExactSet /\ ∃ es ep t, o.data = .set es ep t /\ t.fits es.size = true /\ es.size = n
def SetO (p : Addr) (n : Nat) : HO := .ext fun h => ∃ o, h.get? p = some o /\ SetN n o
section
variable {X : Cx}
theorem mix_scan {P : Program} {w : World} (v : Value) (k : Key) (h : (zaX P w).is k v = true) : v.scannable = true := by
  rcases zbn h with ⟨i, t, rfl, rfl⟩ | ⟨x, t, rfl, rfl⟩ <;> rfl
def rSet : List V -> Hp -> VK -> Prop := fun xs H Q => ∃ a vs, xs = [.ref a] /\ H a = some (.lst vs) /\ vs.length <= 300 /\
  ((∃ ks : List Key, vs = ks.map kV /\ ∀ p, H p = none -> Q (.ref p) (upd H p (SetO p (dd ks).length))) \/
   (∃ ts : List (List Key), vs.length = ts.length /\ (∀ (i : Nat) t, ts[i]? = some t -> ∃ b, vs[i]? = some (.ref b) /\ H b = some (.tup (t.map kV))) /\ ∀ p, H p = none -> Q (.ref p) (upd H p (SetO p (dd ts).length))))
theorem call_set (hc : X.calm = true) (hu : X.A.units + 66 < cLine) : CallR X (.type "set") rSet := by
  intro pins s σ H xs us Q I r h
  obtain ⟨a, vs, rfl, ha, hl, h⟩ := h
  obtain ⟨u, rfl, ru⟩ := vals1 r
  cases ru
  obtain ⟨its, rv, pl, hz⟩ := I.list (.inl (.inl ha))
  have hlen := rv.length
  have hsz : its.toArray.size = vs.length := by rw [List.size_toArray, hlen]
  have fin : ∀ (n : Nat) (h' : Heap) (tk : Nat) (o : Obj), h'.get? s.heap.objs.size = some o -> SetN n o -> (∀ b o, b < s.heap.objs.size -> s.heap.get? b = some o -> h'.get? b = some o) ->
      (∀ p, H p = none -> Q (.ref p) (upd H p (SetO p n))) -> EP X pins σ Q (.ref s.heap.objs.size) { s with heap := h', toks := tk } := fun n h' tk o ho hn hk q => by
    refine ⟨.ref s.heap.objs.size, _, I.laid (a := s.heap.objs.size) (o := SetO s.heap.objs.size n) (fun b u e => hk b u (Heap.lt_size e) e) (Nat.le_refl _) ?_, rfl, q _ I.fresh⟩
    refine ⟨⟨o, ho, hn⟩, ⟨o, ho⟩, fun h1 h2 hp hk2 => ?_⟩
    obtain ⟨o1, q1, q2⟩ := hp
    exact ⟨o1, hk2 o1 q1, q2⟩
  rcases h with ⟨ks, rfl, q⟩ | ⟨ts, ht, hts, q⟩
  ·
    have hkl : ks.length = its.length := by rw [← hlen, List.length_map]
    refine call_set_gen (I.ok.hd hc) pl.isList (fun i o => o.SetObjOf (zaX X.prog X.w) (fun k => decide (k ∈ dd (ks.take i))) (dd (ks.take i)).length) (fun led => ?_) (fun A' hA' i v sh o Q' E' hi hv ho hJ hB hQ => ?_) fun h' tk o ho hJ hk => ?_
    · have := setObjOf_fresh (knd := zaX X.prog X.w) led
      simpa [dd] using this
    · have hi' : i < ks.length := by rw [List.size_toArray] at hi; omega
      obtain ⟨u2, hu2, ru2⟩ := rv.get (i := i) (x := kV ks[i]) (by simp [hi'])
      have ev : v = u2 := by
        have hv' : its[i]? = some v := by simpa using hv
        rw [hu2] at hv'
        exact (Option.some.inj hv').symm
      subst ev
      have hkey := kV_is (P := X.prog) (w := X.w) ru2
      have hle : (dd (ks.take i)).length <= 300 := by
        have h1 := dd_len (ks.take i)
        rw [List.length_take] at h1
        rw [List.length_map] at hl
        omega
      unfold setAdd
      refine wpAny_holding (wpAny_bind ((zaX X.prog X.w).pyHash hkey ?_))
      refine wpAny_setAddHashed_of (knd := zaX X.prog X.w) (s := { sh with toks := sh.toks + 1 }) hkey (mix_scan _ _ hkey) (hJ.setOf ho (by unfold scanBound; omega)) (by unfold scanBound; omega) fun h' hsb hS2 => ?_
      obtain ⟨o', ho', hso⟩ := hS2.objOf
      refine hQ _ h' _ o' (Nat.le_succ _) hsb ho' ?_
      have htk : ks.take (i + 1) = ks.take i ++ [ks[i]] := by rw [List.take_succ, List.getElem?_eq_getElem hi']; rfl
      show Obj.SetObjOf (zaX X.prog X.w) o' (fun k => decide (k ∈ dd (List.take (i + 1) ks))) (dd (List.take (i + 1) ks)).length
      rw [htk, dd_snoc]
      by_cases hm : ks[i] ∈ dd (ks.take i)
      · rw [if_pos hm]
        rw [if_pos (by simpa using hm)] at hso
        have e : (fun k' => decide (k' ∈ dd (ks.take i)) || decide (k' = ks[i])) = fun k' => decide (k' ∈ dd (ks.take i)) := by
          funext k'
          by_cases hk' : k' = ks[i]
          · subst hk'; simp [hm]
          · simp [hk']
        rw [e] at hso
        exact hso
      · rw [if_neg hm]
        rw [if_neg (by simpa using hm)] at hso
        have e : (fun k' => decide (k' ∈ dd (ks.take i)) || decide (k' = ks[i])) = fun k' => decide (k' ∈ dd (ks.take i) ++ [ks[i]]) := by
          funext k'
          rw [Bool.eq_iff_iff]
          simp
        rw [e] at hso
        simpa using hso
    · have e : ks.take its.toArray.size = ks := by rw [List.size_toArray, ← hkl]; exact List.take_length
      rw [e] at hJ
      have hS := hJ.setOf ho (by have := dd_len ks; rw [List.length_map] at hl; unfold scanBound; omega)
      obtain ⟨o1, es, ep, t, v0, v1, v2, _, _, _, v3, v4⟩ := hS
      rw [ho] at v0
      cases v0
      exact fin _ h' tk o ho ⟨v1, es, ep, t, v2, v3, v4⟩ hk q
  ·
    have hkl : ts.length = its.length := by rw [← hlen, ht]
    refine call_set_gen (I.ok.hd hc) pl.isList (fun i o => ST.TS (zaX X.prog X.w) s.heap (ts.take i) o) (fun led => ?_) (fun A' hA' i v sh o Q' E' hi hv ho hJ hB hQ => ?_) fun h' tk o ho hJ hk => ?_
    · refine ⟨⟨rfl, rfl, rfl⟩, #[], 0, SetTable.fresh 0 0 led, rfl, ?_, .inl rfl, fun i e he => by simp at he, rfl, fun k hk => by simp [dd] at hk, fun i k b he => by simp at he⟩
      exact ⟨full7, rfl, rfl, by simp [SetTable.fresh], by simp [SetTable.fresh], by simp [SetTable.fresh], fun i j h x hp => by simp [SetTable.fresh] at hp⟩
    · have hi' : i < ts.length := by rw [List.size_toArray] at hi; omega
      obtain ⟨b, hb1, hb2⟩ := hts i ts[i] (by simp [hi'])
      obtain ⟨u2, hu2, ru2⟩ := rv.get hb1
      have ev : v = u2 := by
        have hv' : its[i]? = some v := by simpa using hv
        rw [hu2] at hv'
        exact (Option.some.inj hv').symm
      subst ev
      cases ru2
      have hkey := key_of I.hok hb2
      have htk : ts.take (i + 1) = ts.take i ++ [ts[i]] := by rw [List.take_succ, List.getElem?_eq_getElem hi']; rfl
      refine add_tuple (fun v k => mix_scan v k) (by omega) ho hJ hkey (fun b' o' e => hB b' o' (Heap.lt_size e) e) (by rw [List.length_take]; have := hl; omega) fun bb h' tk o' h1 h2 h3 h4 => hQ bb h' tk o' h1 h2 h3 (by show ST.TS _ _ (List.take (i + 1) ts) o'; rw [htk]; exact h4)
    · have e : ts.take its.toArray.size = ts := by rw [List.size_toArray, ← hkl]; exact List.take_length
      rw [e] at hJ
      obtain ⟨hc', es, ep, t, w1, w2, w3, w4, w5, w6, w7⟩ := hJ
      exact fin _ h' tk o ho ⟨hc', es, ep, t, w1, w2.fits, w5⟩ hk q
theorem call_lenSet : CallR X (.builtin "len") (fun xs H Q => ∃ p n, xs = [.ref p] /\ H p = some (SetO p n) /\ n <= 300 /\ Q (.int n) H) := by
  intro pins s σ H xs us Q I r h
  obtain ⟨p, n, rfl, hp, hn, q⟩ := h
  obtain ⟨u, rfl, ru⟩ := vals1 r
  cases ru
  obtain ⟨⟨o, ho, hex, es, ep, t, w1, w2, w3⟩, _, _⟩ := I.hok p _ hp
  exact call_len_set ho hex w1 w2 (by omega) ⟨.int n, H, I.tok _, ⟨_, by rw [w3]⟩, q⟩
end
end L2
end
section
namespace L2
open PySem PySem.Spec PyProof.Rows ST
def tupKeys : List D -> Option (List (List Key))
  | [] => some []
  | .tup t :: r => (dkeys t).bind fun k => (tupKeys r).map (k :: ·)
  | _ :: _ => none
theorem tupKeys_ok {Γ : Cn} {K : PySem.W.Frag} {G H : Hp} (gh : zb9 G H) : ∀ {vs : List V} {ds : List D} {ts : List (List Key)}, Reps Γ K G vs ds -> tupKeys ds = some ts -> vs.length = ts.length /\ ∀ (i : Nat) t, ts[i]? = some t -> ∃ b, vs[i]? = some (.ref b) /\ H b = some (.tup (t.map kV))
  | _, [], ts, r, h => by cases r; cases h; exact ⟨rfl, fun i t e => by simp at e⟩
  | _, d :: ds, ts, .cons h1 h2, h => by
    cases d with
    | tup t =>
      unfold tupKeys at h
      obtain ⟨k, hk, h⟩ := Option.bind_eq_some_iff.mp h
      obtain ⟨zs, hz, rfl⟩ := Option.map_eq_some_iff.mp h
      obtain ⟨a, us, rfl, ha, ra⟩ := h1.tup_inv
      have e := dkeys_ok ra hk
      subst e
      obtain ⟨q1, q2⟩ := tupKeys_ok gh h2 hz
      refine ⟨by rw [List.length_cons, List.length_cons, q1], fun i t' e => ?_⟩
      cases i with
      | zero => cases e; exact ⟨a, rfl, gh _ _ ha⟩
      | succ i => exact q2 i t' e
    | _ => cases h
def lensetD : D -> Option D
  | .lst l => if l.length <= 300 then match dkeys l with
    | some ks => some (.int (dd ks).length)
    | none => (tupKeys l).map fun ts => .int (dd ts).length
    else none
  | _ => none
section
variable {Γ : Cn} {X : Cx} {e : Expr} {f : FE} {pos p p2 pos2 : Pos}
theorem de_lenset (hc : X.calm = true) (hu : X.A.units + 66 < cLine) (hgl : Gl X "len") (hml : X.mg "len" = none) (hgs : Gl X "set") (hms : X.mg "set" = none) (h : DE Γ X e f)
    (h1 : starEach ([.Call (.Name "set" p2) [e] [] pos2] : List Expr) X.env = (false, eval (.Call (.Name "set" p2) [e] [] pos2) X.env) :: starEach [] X.env := by rfl) (h2 : (backTo pos (starEach [] X.env)).any (·.1) = false := by rfl)
    (h3 : starEach ([e] : List Expr) X.env = (false, eval e X.env) :: starEach [] X.env := by rfl) (h4 : (backTo pos2 (starEach [] X.env)).any (·.1) = false := by rfl) :
    DE Γ X (.Call (.Name "len" p) [.Call (.Name "set" p2) [e] [] pos2] [] pos) (b1 lensetD f) := ⟨by
  refine (pe_callB call_lenSet hgl hml (by rfl) (pa_cons (pe_callTy (call_set hc hu) hgs hms (by rfl) (pa_cons h.1 pa_nil h3) (by decide) (by decide) h3 h4) pa_nil h1) (by decide) (by decide) h1 h2).imp fun σ H Q => ?_
  rintro ⟨G₀, H₀, G, ρ, d, A, hq, k⟩
  unfold b1 at hq
  obtain ⟨x, hx, hl⟩ := Option.bind_eq_some_iff.mp hq
  clear hq
  refine ⟨G₀, H₀, G, ρ, x, A, hx, fun v G1 H1 s1 r1 => ?_⟩
  unfold lensetD at hl
  split at hl
  · rename_i l
    split at hl
    · rename_i hz
      obtain ⟨a, vs, rfl, ha, ra⟩ := r1.lst_inv
      have go : ∀ (n : Nat), n <= 300 -> d = .int n -> ∀ p, H1 p = none -> ∃ p' n', [V.ref p] = [V.ref p'] /\ (upd H1 p (SetO p n)) p' = some (SetO p' n') /\ n' <= 300 /\ Q (.int n') (upd H1 p (SetO p n)) := fun n hn ed p hp => by
        subst ed
        refine ⟨p, n, rfl, zaH, hn, k _ G1 _ (s1.trans (Step.newOwn s1.gh hp)) (.int _)⟩
      refine ⟨a, vs, rfl, s1.gh _ _ ha, by rw [ra.length]; exact hz, ?_⟩
      split at hl
      · rename_i ks hk
        refine .inl ⟨ks, dkeys_ok ra hk, go _ ?_ (Option.some.inj hl).symm⟩
        have h5 := dd_len ks
        have h6 : ks.length = l.length := by
          have := dkeys_ok ra hk
          rw [← ra.length, this, List.length_map]
        omega
      · obtain ⟨ts, ht, e1⟩ := Option.map_eq_some_iff.mp hl
        obtain ⟨q1, q2⟩ := tupKeys_ok s1.gh ra ht
        refine .inr ⟨ts, q1, q2, go _ ?_ e1.symm⟩
        have h5 := dd_len ts
        have h6 := ra.length
        omega
    · cases hl
  · cases hl⟩
end
end L2
end
section
namespace DT
open PySem PySem.Spec PyProof.Rows
theorem no_keys : typeLookup (.type "list") "keys" = pure none := by rw [typeLookup_type, builtinLookup_eq_fast]; kernel_rfl
theorem no_hook : typeLookup (.type "list") "__getattr__" = pure none := by rw [typeLookup_type, builtinLookup_eq_fast]; kernel_rfl
theorem miss_list {l : Addr} {u : Tok} {R : Result -> Shared -> Prop} {prog : Program} {w : World} {A : Around} {s : Shared} {xs : Array Value} {n : Nat} (hx : s.heap.get? l = some { cls := .type "list", data := .seq xs n }) (hA : A.handled = none)
    (h : ∀ h' tk e, Heap.NewAttrErr s.heap h' e (.ref l) "keys" -> R (.error (.ref e)) { s with heap := h', toks := tk }) :
    codeAny (model prog w) A (.call (.builtin "list.__getattribute__") ⟨[.ref l, .str "keys" u], []⟩) R s := by
  obtain ⟨hp, g, d, tk, os⟩ := s
  have hT : (⟨hp, g, d, tk, os⟩ : Shared).TypeIs (.ref l) "list" := ⟨_, hx, rfl⟩
  have f1 := no_keys
  refine codeAny_call_builtin F.slot_list_getattribute.plain F.entry_list_ga (F.slot_list_getattribute.check _ _ _ _ _ _ _ _ hT (F.args_list_getattribute_2 _ _) ?_)
  unfold Builtin.«object.__getattribute__»
  repeat (any_goals (first | assumption | wp_step))
  have hsz : (Str.ofString "keys").length + 100 <= sizeLine := by rw [PySem.ofString_length]; decide
  refine wpAny_raiseAttrError (A := A.in1) hA h ?_
  exact attrMsg_fits (by decide +kernel) hsz
set_option maxHeartbeats 4000000 in
theorem keys_none {l : Addr} {Q : Option Value -> Shared -> Prop} {prog : Program} {w : World} {A : Around} {E : Value -> Shared -> Prop} {s : Shared} {xs : Array Value} {n : Nat} (hx : s.heap.get? l = some { cls := .type "list", data := .seq xs n }) (hA : A.handled = none)
    (h : ∀ h' tk, (∀ b ob, s.heap.get? b = some ob -> h'.get? b = some ob) -> Q none { s with heap := h', toks := tk }) :
    wpAny (model prog w) A (getAttr? (.ref l) "keys") Q E s := by
  obtain ⟨hp, g, d, tk, os⟩ := s
  have hT : ∀ tk', (⟨hp, g, d, tk', os⟩ : Shared).TypeIs (.ref l) "list" := fun _ => ⟨_, hx, rfl⟩
  have f1 := sub_AttributeError
  have f2 := F.slot_list_getattribute.lookup
  have f3 := F.slot_list_getattribute.bind (.ref l)
  have f5 := no_hook
  unfold getAttr? getAttrBy?
  refine wpAny_bind (wpAny_mkText ?_)
  refine wpAny_bind (wpAny_attempt ?_)
  unfold getAttrBy
  refine wpAny_holding (wpAny_bind (wpAny_typeOf (hT _) (wpAny_bind (wpAny_of_eq f2 ?_))))
  show wpAny _ _ (getAttrByItsOwn _ _ _ _ _ _) _ _ _
  unfold getAttrByItsOwn
  refine wpAny_bind (m := hookBefore (Value.type "list")) (wpAny_pure ?_)
  refine wpAny_bind (wpAny_attempt (wpAny_holding ?_))
  show wpAny _ _ (boundAndCalled _ _ _) _ _ _
  unfold boundAndCalled
  refine wpAny_bind (wpAny_of_eq f3 ?_)
  refine wpAny_call (miss_list (s := ⟨hp, g, d, tk + 1, os⟩) hx hA fun h' tk' e hn => ?_)
  obtain ⟨t', u', he⟩ := hn.there
  have hE : Shared.TypeIs ⟨h', g, d, tk', os⟩ (.ref e) "AttributeError" := ⟨_, he, rfl⟩
  show wpAny _ _ (getattributeRaised _ _ _ _ _ _ _) _ _ _
  unfold getattributeRaised
  refine wpAny_bind (wpAny_isInstance hE f1 ?_)
  simp only [if_true]
  refine wpAny_bind (m := hookBehind (Value.type "list") none) (wpAny_of_eq f5 ?_)
  unfold hookOrError attributeErrorLeaves
  simp only [Bool.not_false, if_true]
  refine wpAny_bind (wpAny_throw ?_)
  refine wpAny_bind (wpAny_isInstance hE f1 ?_)
  simp only [if_true]
  exact wpAny_pure (h h' tk' hn.keeps)
end DT
end
section
namespace DT
open PySem PySem.Spec PyProof.Rows
theorem entry_loop : entryFor table "dict.update.loop" = some Builtin.«dict.update.loop» := entryFor_of_tree (by kernel_rfl)
theorem plain_loop : plainId "dict.update.loop" = true := by decide +kernel
section
variable {prog : Program} {w : World} {A : Around} {R : Result -> Shared -> Prop} {I : Addr} {fp wr : List Addr} {G : Array GenState -> Array GenState -> Prop} {n : Nat} {P : Nat -> Value -> Prop} {St : Nat -> Shared -> Prop}
def DAdds (prog : Program) (w : World) (A : Around) (S : Addr) (h0 : Heap) (P : Nat -> Value -> Prop) (n : Nat) (J : Nat -> Obj -> Prop) : Prop :=
  ∀ (i : Nat) (b : Addr) (kv vv : Value) (s : Shared) (o : Obj) (Q : Unit -> Shared -> Prop) (E : Value -> Shared -> Prop), i < n -> P i (.ref b) -> h0.IsTuple b #[kv, vv] -> s.heap.get? S = some o -> J i o -> (∀ b o, b < h0.objs.size -> h0.get? b = some o -> s.heap.get? b = some o) ->
    (∀ h' tk o', s.toks <= tk -> Heap.SameBut S s.heap h' -> h'.get? S = some o' -> J (i + 1) o' -> Q () { s with heap := h', toks := tk }) -> wpAny (model prog w) A (dictSet S kv vv) Q E s
theorem dict_loop (W : WalksS prog w A.in1 I fp wr G n P St) (S : Addr) (hSf : S ∉ fp) (h0 : Heap) (hS0 : h0.objs.size <= S) (hw0 : ∀ b ∈ wr, h0.objs.size <= b) (J : Nat -> Obj -> Prop) (hadd : DAdds prog w A.in1 S h0 P n J) (hP : ∀ i v, P i v -> ∃ b kv vv, v = .ref b /\ h0.IsTuple b #[kv, vv]) :
    ∀ (k i : Nat) (c : Int) (s : Shared) (o : Obj), n - i = k -> i <= n -> St i s -> s.heap.get? S = some o -> J i o -> (∀ b o, b < h0.objs.size -> h0.get? b = some o -> s.heap.get? b = some o) ->
      (∀ s' o', Moved (S :: wr) G s s' -> s'.heap.get? S = some o' -> J n o' -> R (.ok (.ret .none)) s') ->
      codeAny (model prog w) A (.builtin "dict.update.loop" ⟨[.ref S, .ref I, rawInt c, .none], []⟩) R s := by
  have hSw : S ∉ wr := fun h => hSf (W.sub _ h)
  have hsub : ∀ b ∈ wr, b ∈ S :: wr := fun b hb => List.mem_cons_of_mem _ hb
  have keep : ∀ {h h' : Heap}, (∀ b o, b < h0.objs.size -> h0.get? b = some o -> h.get? b = some o) -> (∀ b o, b ∉ S :: wr -> h.get? b = some o -> h'.get? b = some o) -> ∀ b o, b < h0.objs.size -> h0.get? b = some o -> h'.get? b = some o := fun q1 q2 b o hb e => q2 b o (fun z => by
    rcases List.mem_cons.mp z with z | z
    · rw [z] at hb; exact absurd hb (Nat.not_lt.mpr hS0)
    · exact absurd hb (Nat.not_lt.mpr (hw0 b z))) (q1 b o hb e)
  intro k
  induction k with
  | zero =>
    intro i c s o hk hi hst hS hJ hB hR
    have hin : i = n := by omega
    subst hin
    refine codeAny_builtin entry_loop ?_
    rw [Around.under_plainId plain_loop _]
    show wpAny _ A.in1 (pyNext (.ref I) >>= _) _ _ s
    refine wpAny_bind (W.done s _ _ hst fun s' hm => ?_)
    show wpAny _ A.in1 (Builtin.Dict.addKeywords S [] >>= _) _ _ s'
    exact wpAny_bind (wpAny_pure (wpAny_pure (hR s' o (hm.mono hsub) (hm.heap S _ hSw hS) hJ)))
  | succ k ih =>
    intro i c s o hk hi hst hS hJ hB hR
    have hlt : i < n := by omega
    refine codeAny_builtin entry_loop ?_
    rw [Around.under_plainId plain_loop _]
    show wpAny _ A.in1 (pyNext (.ref I) >>= _) _ _ s
    refine wpAny_bind (W.item i s _ _ hlt hst fun v s' hPv hst' hm => ?_)
    obtain ⟨b, kv, vv, rfl, hb⟩ := hP i v hPv
    have hB' := keep hB fun b o hb e => hm.heap b o (fun z => hb (hsub b z)) e
    obtain ⟨ob, hob, hoc, nn, hod⟩ := hb
    have hob' : s'.heap.get? b = some ob := hB' b ob (Heap.lt_size hob) hob
    have hTb : s'.TypeIs (.ref b) "tuple" := ⟨_, hob', hoc⟩
    show wpAny _ A.in1 (holding [Value.ref b] _ >>= _) _ _ s'
    refine wpAny_bind (wpAny_holding ?_)
    refine wpAny_bind ?_
    refine wpAny_tryCatch ?_
    unfold Builtin.Dict.pairItems
    refine wpAny_bind (wpAny_typeOf hTb ?_)
    rw [if_pos (by decide)]
    refine wpAny_bind (wpAny_seqItems hob' hod (wpAny_pure ?_))
    show wpAny _ A.in1 (holding [kv, vv] (dictSet S kv vv)) _ _ s'
    refine wpAny_holding (hadd i b kv vv s' o _ _ hlt hPv ⟨ob, hob, hoc, nn, hod⟩ (hm.heap S _ hSw hS) hJ hB' fun h' tk o' htk hsb hS' hJ' => ?_)
    refine wpAny_pure ⟨plainId_quiet plain_loop _, ih (i + 1) (c + 1) _ o' (by omega) hlt (W.frame _ s' _ _ hst' htk fun b hb o e => ?_) hS' hJ' ?_ fun s'' o'' hm'' hS'' hJ'' => ?_⟩
    · rw [hsb.2 b (fun h : b = S => hSf (by rw [← h]; exact hb))]; exact e
    · refine keep hB' fun b o hb e => ?_
      show h'.get? b = some o
      rw [hsb.2 b (fun h : b = S => hb (by rw [h]; exact List.mem_cons_self))]; exact e
    · refine hR s'' o'' (Moved.trans W.gtrans ((hm.mono hsub).then_heap htk fun b o hb e => ?_) hm'') hS'' hJ''
      rw [hsb.2 b (fun h : b = S => hb (by rw [h]; exact List.mem_cons_self))]; exact e
end
section
variable {prog : Program} {w : World} {A : Around} {E : Value -> Shared -> Prop} {s : Shared}
theorem call_dict_gen {l : Addr} {items : Array Value} {c : Nat} {Q : Value -> Shared -> Prop} (hh : A.handled = none) (hl : s.heap.get? l = some { cls := .type "list", data := .seq items c }) (J : Nat -> Obj -> Prop)
    (hJ0 : J 0 { cls := .type "dict", data := .dict #[] })
    (hadd : ∀ A' : Around, A'.units <= A.units + 16 -> DAdds prog w A' s.heap.objs.size s.heap (fun i v => items[i]? = some v) items.size J)
    (hP : ∀ (i : Nat) (v : Value), items[i]? = some v -> ∃ b kv vv, v = .ref b /\ s.heap.IsTuple b #[kv, vv])
    (h : ∀ (h' : Heap) (tk : Nat) (o : Obj), h'.get? s.heap.objs.size = some o -> J items.size o ->
      (∀ b o, b < s.heap.objs.size -> s.heap.get? b = some o -> h'.get? b = some o) -> Q (.ref s.heap.objs.size) { s with heap := h', toks := tk }) :
    wpAny (model prog w) A (call (.type "dict") [.ref l]) Q E s := by
  refine callType_codes (Q₁ := fun obj s₁ => obj = .ref s.heap.objs.size /\ s₁ = { s with heap := s.heap.push { cls := .type "dict", data := .dict #[] } }) F.kt_called_dict (F.kt_typeCall_dict_1 _) F.entry_dict_init (kt_code_dict_new _ ⟨rfl, rfl⟩) ?_
  rintro obj s₁ ⟨rfl, rfl⟩
  have hnew : (s.heap.push { cls := .type "dict", data := .dict #[] }).get? s.heap.objs.size = some { cls := .type "dict", data := .dict #[] } := Heap.get?_push_size _ rfl
  have hl1 : (s.heap.push { cls := .type "dict", data := .dict #[] }).get? l = some { cls := .type "list", data := .seq items c } := Heap.get?_push_of_some _ hl
  have hT : Shared.TypeIs { s with heap := s.heap.push { cls := .type "dict", data := .dict #[] } } (.ref s.heap.objs.size) "dict" := ⟨_, hnew, rfl⟩
  have hTl : Shared.TypeIs { s with heap := s.heap.push { cls := .type "dict", data := .dict #[] } } (.ref l) "list" := ⟨_, hl1, rfl⟩
  refine ⟨hT, F.args_dict_init_2 _ _, ?_⟩
  unfold Builtin.«dict.__init__»
  refine wpAny_bind ?_
  unfold Builtin.Dict.selfAndRest
  refine wpAny_bind (wpAny_notOrdered_dict hT ?_)
  show wpAny _ _ (pure (s.heap.objs.size, [Value.ref l])) _ _ _
  refine wpAny_pure ?_
  show wpAny _ _ (Builtin.Dict.updateFrom "dict.__init__" s.heap.objs.size (.ref l) [] .none) _ _ _
  unfold Builtin.Dict.updateFrom
  refine wpAny_bind (wpAny_typeOf hTl ?_)
  rw [if_pos (by decide)]
  refine wpAny_bind (keys_none (s := { s with heap := s.heap.push { cls := .type "dict", data := .dict #[] } }) (A := A.in1.in1) hl1 hh fun h1 tk1 hk1 => ?_)
  simp only [Option.isNone_none, if_true]
  refine wpAny_bind (wpAny_rule ?_)
  have hl2 : h1.IsList l items := ⟨_, hk1 _ _ hl1, rfl, _, rfl⟩
  refine wpAny_bind (wpAny_pyIter_list (s := { s with heap := h1, toks := tk1 }) hl2 ?_)
  refine wpAny_pure ⟨plainId_quiet plain_loop _, ?_⟩
  have hlS : l < s.heap.objs.size := Heap.lt_size hl
  have hsz1 : s.heap.objs.size < h1.objs.size := Heap.lt_size (hk1 _ _ hnew)
  have hneI : l ≠ h1.objs.size := Nat.ne_of_lt (Nat.lt_trans hlS hsz1)
  have hSf : s.heap.objs.size ∉ [h1.objs.size, l] := by
    simp only [List.mem_cons, List.mem_singleton, List.not_mem_nil, or_false, not_or]
    exact ⟨Nat.ne_of_lt hsz1, Nat.ne_of_gt hlS⟩
  have old : ∀ b o, b < s.heap.objs.size -> s.heap.get? b = some o -> h1.get? b = some o := fun b o _ e => hk1 _ _ (Heap.get?_push_of_some _ e)
  refine dict_loop ((Walks.list (A := A.in1.in1) (by simpa using hh) _ l hneI items).toS) s.heap.objs.size hSf s.heap (Nat.le_refl _) (fun b hb => ?_) J (hadd _ (by show A.units + 2 <= _; omega)) hP (items.size - 0) 0 0 _ _ (by omega) (Nat.zero_le _)
    ⟨⟨_, Heap.get?_push_size _ rfl, rfl, rfl⟩, hl2.push _⟩ (Heap.get?_push_of_some _ (hk1 _ _ hnew)) hJ0 (fun b o hb e => Heap.get?_push_of_some _ (old b o hb e)) fun s' o' hm hS' hJ' => ?_
  · have : b = h1.objs.size := by simpa using hb
    rw [this]; exact Nat.le_of_lt hsz1
  · obtain ⟨h', g', d', tk', os'⟩ := s'
    have eg : g' = s.gens := hm.gens
    have ed : d' = s.drawn := hm.drawn
    have eo : os' = s.os := hm.os
    subst eg; subst ed; subst eo
    refine ⟨rfl, h h' tk' o' hS' hJ' fun b o hb e => hm.heap b o ?_ (Heap.get?_push_of_some _ (old b o hb e))⟩
    simp only [List.mem_cons, List.mem_singleton, List.not_mem_nil, or_false, not_or]
    exact ⟨Nat.ne_of_lt hb, Nat.ne_of_lt (Nat.lt_trans hb hsz1)⟩
end
end DT
end
section
namespace L2
open PySem PySem.Spec PyProof.Rows
section
variable {κ : Type} [DecidableEq κ]
def mrg (kvs ps : List (κ × V)) : List (κ × V) := ps.foldl (fun acc kv => putK acc kv.1 kv.2) kvs
theorem mrg_snoc (kvs ps : List (κ × V)) (p : κ × V) : mrg kvs (ps ++ [p]) = putK (mrg kvs ps) p.1 p.2 := by unfold mrg; rw [List.foldl_append]; rfl
theorem putK_len (kvs : List (κ × V)) (k : κ) (v : V) : (putK kvs k v).length <= kvs.length + 1 := by
  unfold putK
  split
  · rw [List.length_map]; omega
  · rw [List.length_append, List.length_singleton]; omega
theorem mrg_len : ∀ (ps kvs : List (κ × V)), (mrg kvs ps).length <= kvs.length + ps.length
  | [], kvs => Nat.le_refl _
  | p :: ps, kvs => by
    have h1 := mrg_len ps (putK kvs p.1 p.2)
    have h2 := putK_len kvs p.1 p.2
    show (mrg (putK kvs p.1 p.2) ps).length <= _
    rw [List.length_cons]
    omega
end
section
variable {X : Cx}
def rDictK : List V -> Hp -> VK -> Prop := fun xs H Q => ∃ (a : Addr) (vs : List V) (ps : List (Key × V)), xs = [.ref a] /\ H a = some (.lst vs) /\ vs.length = ps.length /\ ps.length <= 1000 /\ (∀ (i : Nat) p, ps[i]? = some p -> ∃ b, vs[i]? = some (.ref b) /\ H b = some (.tup [kV p.1, p.2])) /\
  ∀ q, H q = none -> Q (.ref q) (upd H q (.dK (mrg [] ps)))
theorem pair_at {pins : List (Addr × Obj)} {σ : St} {H : Hp} {s : Shared} {b : Addr} {x y : V} (I : Inv X pins σ H s) (hb : H b = some (.tup [x, y])) : ∃ u v, zca x u /\ zca y v /\ s.heap.IsTuple b #[u, v] := by
  obtain ⟨its, r, p, _⟩ := I.tuple (.inl (.inl hb))
  cases r with
  | cons r1 r2 =>
    cases r2 with
    | cons r2 r3 =>
      cases r3
      exact ⟨_, _, r1, r2, p⟩
theorem tuple_inj {h : Heap} {b : Addr} {x y : Array Value} (p : h.IsTuple b x) (q : h.IsTuple b y) : x = y := by
  obtain ⟨o, h1, _, n, h2⟩ := p
  obtain ⟨o', g1, _, m, g2⟩ := q
  rw [h1] at g1
  cases g1
  rw [h2] at g2
  cases g2
  rfl
theorem call_dictK (hc : X.calm = true) (hu : X.A.units + 66 < cLine) : CallR X (.type "dict") rDictK := by
  intro pins s σ H xs us Q I r h
  obtain ⟨a, vs, ps, rfl, ha, hl, hz, hp, q⟩ := h
  obtain ⟨u, rfl, ru⟩ := vals1 r
  cases ru
  obtain ⟨z, its, n, rv, hlen, e⟩ := I.lstM ha
  have hsz : its.toArray.size = ps.length := by rw [List.size_toArray, ← hlen, hl]
  have hit : ∀ (i : Nat) (v : Value), its.toArray[i]? = some v -> ∃ p b u w, ps[i]? = some p /\ v = .ref b /\ zca (kV p.1) u /\ zca p.2 w /\ s.heap.IsTuple b #[u, w] := fun i v hv => by
    have hi : i < ps.length := by rw [← hsz]; exact (Array.getElem?_eq_some_iff.mp hv).1
    obtain ⟨b, hb1, hb2⟩ := hp i ps[i] (by simp [hi])
    obtain ⟨u2, hu2, ru2⟩ := rv.get hb1
    have hv' : its[i]? = some v := by simpa using hv
    rw [hu2] at hv'
    cases hv'
    cases ru2
    obtain ⟨u, w, r1, r2, r3⟩ := pair_at I hb2
    exact ⟨ps[i], b, u, w, by simp [hi], rfl, r1, r2, r3⟩
  refine DT.call_dict_gen (I.ok.hd hc) e (fun i o => ∃ vs', KV (mrg [] (ps.take i)) vs' /\ o.IsDictOf (zaX X.prog X.w) vs') ?_ (fun A' hA' i b kv vv sh o Q' E' hi hv hb ho hJ hB hQ => ?_) (fun i v hv => ?_) fun h' tk o ho hJ hk => ?_
  · obtain ⟨o, ho, hd⟩ := Heap.dictOf_iff.mp (Heap.DictOf.new (knd := zaX X.prog X.w) s.heap)
    have : o = { cls := .type "dict", data := .dict #[] } := by
      have := Heap.get?_push_size s.heap (o := { cls := .type "dict", data := .dict #[] }) rfl
      rw [this] at ho
      exact (Option.some.inj ho).symm
    subst this
    exact ⟨[], .nil, hd⟩
  · obtain ⟨p, b', u, w, h1, h2, h3, h4, h5⟩ := hit i _ hv
    cases h2
    have e2 := tuple_inj hb h5
    have e3 : kv = u /\ vv = w := by simpa using e2
    obtain ⟨rfl, rfl⟩ := e3
    obtain ⟨vs', k1, k2⟩ := hJ
    have hle : vs'.length <= 1000 := by
      have q1 := k1.length
      have q2 := mrg_len (ps.take i) ([] : List (Key × V))
      rw [List.length_take, List.length_nil] at q2
      omega
    refine wpAny_dictSet_pairs (kV_is h3) (Heap.dictOf_iff.mpr ⟨o, ho, k2⟩) (fun h' hd' hsb => ?_) (by rw [sizeLine_eq]; omega)
    obtain ⟨o', ho', hd''⟩ := Heap.dictOf_iff.mp hd'
    refine hQ h' _ o' (Nat.le_succ _) hsb ho' ⟨_, ?_, hd''⟩
    have htk : ps.take (i + 1) = ps.take i ++ [p] := by rw [List.take_succ, h1]; rfl
    rw [htk, mrg_snoc]
    exact k1.put p.1 h4
  · obtain ⟨p, b, u, w, h1, h2, h3, h4, h5⟩ := hit i v hv
    exact ⟨b, u, w, h2, h5⟩
  · obtain ⟨vs', k1, k2⟩ := hJ
    rw [hsz, List.take_length] at k1
    refine ⟨.ref s.heap.objs.size, _, I.laid (a := s.heap.objs.size) (o := .dK (mrg [] ps)) (fun b u e => hk b u (Heap.lt_size e) e) (Nat.le_refl _) ⟨?_, ?_, vs', k1, Heap.dictOf_iff.mpr ⟨o, ho, k2⟩⟩, rfl, q _ I.fresh⟩
    · have := mrg_len ps ([] : List (Key × V))
      rw [List.length_nil] at this
      rw [sizeLine_eq]
      omega
    · exact beq_eq_false_iff_ne.mpr (Ne.symm (Nat.ne_of_lt I.big))
def rDictT : List V -> Hp -> VK -> Prop := fun xs H Q => ∃ (a : Addr) (vs : List V) (ps : List (List Key × V)), xs = [.ref a] /\ H a = some (.lst vs) /\ vs.length = ps.length /\ ps.length <= 1000 /\ (∀ (i : Nat) p, ps[i]? = some p -> ∃ b kb, vs[i]? = some (.ref b) /\ H b = some (.tup [.ref kb, p.2]) /\ H kb = some (.tup (p.1.map kV))) /\
  ∀ q, H q = none -> Q (.ref q) (upd H q (.dT (mrg [] ps)))
theorem kt_all {H : Hp} {P : List Key -> Addr -> Prop} (hP : ∀ k b, H b = some (.tup (k.map kV)) -> P k b) : ∀ {kvs : List (List Key × V)} {xs : List (List Key × Addr × Value)}, KT H kvs xs -> ∀ x ∈ xs, P x.1 x.2.1 := by
  intro kvs xs q
  induction q with
  | nil => intro x hx; cases hx
  | @cons p y ps ys hq t ih =>
    intro x hx
    rcases List.mem_cons.mp hx with rfl | hx
    · exact hP _ _ (by rw [← hq.1]; exact hq.2.1)
    · exact ih x hx
theorem call_dictT (hc : X.calm = true) (hu : X.A.units + 66 < cLine) : CallR X (.type "dict") rDictT := by
  intro pins s σ H xs us Q I r h
  obtain ⟨a, vs, ps, rfl, ha, hl, hz, hp, q⟩ := h
  obtain ⟨u, rfl, ru⟩ := vals1 r
  cases ru
  obtain ⟨z, its, n, rv, hlen, e⟩ := I.lstM ha
  have hsz : its.toArray.size = ps.length := by rw [List.size_toArray, ← hlen, hl]
  have hit : ∀ (i : Nat) (v : Value), its.toArray[i]? = some v -> ∃ p b kb w, ps[i]? = some p /\ v = .ref b /\ H kb = some (.tup (p.1.map kV)) /\ zca p.2 w /\ s.heap.IsTuple b #[.ref kb, w] := fun i v hv => by
    have hi : i < ps.length := by rw [← hsz]; exact (Array.getElem?_eq_some_iff.mp hv).1
    obtain ⟨b, kb, hb1, hb2, hb3⟩ := hp i ps[i] (by simp [hi])
    obtain ⟨u2, hu2, ru2⟩ := rv.get hb1
    have hv' : its[i]? = some v := by simpa using hv
    rw [hu2] at hv'
    cases hv'
    cases ru2
    obtain ⟨u, w, r1, r2, r3⟩ := pair_at I hb2
    cases r1
    exact ⟨ps[i], b, kb, w, by simp [hi], rfl, hb3, r2, r3⟩
  have isk : ∀ {h' : Heap}, (∀ b o, b < s.heap.objs.size -> s.heap.get? b = some o -> h'.get? b = some o) -> ∀ k b, H b = some (.tup (k.map kV)) -> (tupleKind (zaX X.prog X.w)).is h' k b := fun hB k b hb => ST.IsTupleKey.mono (key_of I.hok hb) fun o e => hB _ _ (Heap.lt_size e) e
  refine DT.call_dict_gen (I.ok.hd hc) e (fun i o => ∃ xs', KT H (mrg [] (ps.take i)) xs' /\ ∃ es ep, o.ExactDict /\ o.data = .dict es ep /\ es.toList = xs'.map (entryOfKey (tupleKind (zaX X.prog X.w))) /\ (xs'.map (·.1)).Nodup) ?_ (fun A' hA' i b kv vv sh o Q' E' hi hv hb ho hJ hB hQ => ?_) (fun i v hv => ?_) fun h' tk o ho hJ hk => ?_
  · exact ⟨[], .nil, #[], 0, ⟨rfl, rfl, rfl⟩, rfl, rfl, List.nodup_nil⟩
  · obtain ⟨p, b', kb, w, h1, h2, h3, h4, h5⟩ := hit i _ hv
    cases h2
    have e2 := tuple_inj hb h5
    have e3 : kv = .ref kb /\ vv = w := by simpa using e2
    obtain ⟨rfl, rfl⟩ := e3
    obtain ⟨xs', k1, es, ep, k2, k3, k4, k5⟩ := hJ
    have hle : xs'.length <= 1000 := by
      have q1 := Paired.length k1
      have q2 := mrg_len (ps.take i) ([] : List (List Key × V))
      rw [List.length_take, List.length_nil] at q2
      omega
    refine wpAny_dictSet_heap (knd := tupleKind (zaX X.prog X.w)) (show A'.units < cLine by omega) (isk hB _ _ h3) ⟨o, es, ep, ho, k2, k3, k4, kt_all (isk hB) k1, k5⟩ (fun h' hd' hsb => ?_) (by rw [sizeLine_eq]; omega)
    obtain ⟨o', es', ep', ho', w2, w3, w4, _, w5⟩ := hd'
    refine hQ h' _ o' (Nat.le_add_right _ _) hsb ho' ⟨_, ?_, es', ep', w2, w3, w4, w5⟩
    have htk : ps.take (i + 1) = ps.take i ++ [p] := by rw [List.take_succ, h1]; rfl
    rw [htk, mrg_snoc]
    exact k1.put p.1 h3 h4
  · obtain ⟨p, b, kb, w, h1, h2, h3, h4, h5⟩ := hit i v hv
    exact ⟨b, _, w, h2, h5⟩
  · obtain ⟨xs', k1, es, ep, k2, k3, k4, k5⟩ := hJ
    rw [hsz, List.take_length] at k1
    refine ⟨.ref s.heap.objs.size, _, I.laid (a := s.heap.objs.size) (o := .dT (mrg [] ps)) (fun b u e => hk b u (Heap.lt_size e) e) (Nat.le_refl _) ⟨?_, ?_, xs', k1.keeps fun b ys e => ?_, o, es, ep, ho, k2, k3, k4, k5⟩, rfl, q _ I.fresh⟩
    · have := mrg_len ps ([] : List (List Key × V))
      rw [List.length_nil] at this
      rw [sizeLine_eq]
      omega
    · exact beq_eq_false_iff_ne.mpr (Ne.symm (Nat.ne_of_lt I.big))
    · rw [zaB (zat e I.fresh)]; exact e
end
section
variable {Γ : Cn} {X : Cx}
def pairsK : List D -> Option (List (Key × D))
  | [] => some []
  | .tup [k, v] :: r => (dkey k).bind fun kk => (pairsK r).map ((kk, v) :: ·)
  | _ :: _ => none
def pairsT : List D -> Option (List (List Key × D))
  | [] => some []
  | .tup [.tup t, v] :: r => (dkeys t).bind fun kk => (pairsT r).map ((kk, v) :: ·)
  | _ :: _ => none
def mrgD {κ : Type} [DecidableEq κ] (ps : List (κ × D)) : List (κ × D) := ps.foldl (fun acc kv => putG acc kv.1 kv.2) []
def dictKD : List D -> Option D
  | [.lst l] => if l.length <= 1000 then (pairsK l).map fun ps => .dk (mrgD ps) else none
  | _ => none
def dictTD : List D -> Option D
  | [.lst l] => if l.length <= 1000 then (pairsT l).map fun ps => .dt (mrgD ps) else none
  | _ => none
theorem kr_mrg {κ : Type} [DecidableEq κ] {K : PySem.W.Frag} {G : Hp} : ∀ {us : List (κ × V)} {kvs : List (κ × D)} {acc : List (κ × V)} {acd : List (κ × D)}, us.map (·.1) = kvs.map (·.1) -> Reps Γ K G (us.map (·.2)) (kvs.map (·.2)) -> acc.map (·.1) = acd.map (·.1) -> Reps Γ K G (acc.map (·.2)) (acd.map (·.2)) ->
    (mrg acc us).map (·.1) = (kvs.foldl (fun acc kv => putG acc kv.1 kv.2) acd).map (·.1) /\ Reps Γ K G ((mrg acc us).map (·.2)) ((kvs.foldl (fun acc kv => putG acc kv.1 kv.2) acd).map (·.2))
  | [], [], _, _, _, _, e, r => ⟨e, r⟩
  | [], _ :: _, _, _, e, _, _, _ => by cases e
  | _ :: _, [], _, _, e, _, _, _ => by cases e
  | (k1, v) :: us, (k2, d) :: kvs, acc, acd, e, r, e0, r0 => by
    have e1 : k1 = k2 := (List.cons.inj e).1
    subst e1
    have r : Reps Γ K G (v :: us.map (·.2)) (d :: kvs.map (·.2)) := r
    cases r with
    | cons r1 r2 =>
      obtain ⟨w1, w2⟩ := kr_put (k := k1) r1 e0 r0
      exact kr_mrg (us := us) (kvs := kvs) (List.cons.inj e).2 r2 w1 w2
theorem pairsK_ok {K : PySem.W.Frag} {G H : Hp} (gh : zb9 G H) : ∀ {vs : List V} {ds : List D} {ps : List (Key × D)}, Reps Γ K G vs ds -> pairsK ds = some ps ->
    ∃ us : List (Key × V), vs.length = us.length /\ us.map (·.1) = ps.map (·.1) /\ Reps Γ K G (us.map (·.2)) (ps.map (·.2)) /\ ∀ (i : Nat) p, us[i]? = some p -> ∃ b, vs[i]? = some (.ref b) /\ H b = some (.tup [kV p.1, p.2])
  | _, [], ps, r, h => by cases r; cases h; exact ⟨[], rfl, rfl, .nil, fun i p e => by simp at e⟩
  | _, d :: ds, ps, .cons h1 h2, h => by
    unfold pairsK at h
    split at h
    · rename_i heq; cases heq
    · rename_i heq
      cases heq
      obtain ⟨kk, hk, h⟩ := Option.bind_eq_some_iff.mp h
      obtain ⟨zs, hz, rfl⟩ := Option.map_eq_some_iff.mp h
      obtain ⟨us, q1, q2, q3, q4⟩ := pairsK_ok gh h2 hz
      obtain ⟨a, ws, rfl, ha, ra⟩ := h1.tup_inv
      obtain ⟨x, y, rfl, rx, ry⟩ := ra.two
      have ex := dkey_ok rx hk
      subst ex
      refine ⟨(kk, y) :: us, by rw [List.length_cons, List.length_cons, q1], by simp [q2], .cons ry q3, fun i p e => ?_⟩
      cases i with
      | zero => cases e; exact ⟨a, rfl, gh _ _ ha⟩
      | succ i => exact q4 i p e
    · cases h
theorem pairsT_ok {K : PySem.W.Frag} {G H : Hp} (gh : zb9 G H) : ∀ {vs : List V} {ds : List D} {ps : List (List Key × D)}, Reps Γ K G vs ds -> pairsT ds = some ps ->
    ∃ us : List (List Key × V), vs.length = us.length /\ us.map (·.1) = ps.map (·.1) /\ Reps Γ K G (us.map (·.2)) (ps.map (·.2)) /\ ∀ (i : Nat) p, us[i]? = some p -> ∃ b kb, vs[i]? = some (.ref b) /\ H b = some (.tup [.ref kb, p.2]) /\ H kb = some (.tup (p.1.map kV))
  | _, [], ps, r, h => by cases r; cases h; exact ⟨[], rfl, rfl, .nil, fun i p e => by simp at e⟩
  | _, d :: ds, ps, .cons h1 h2, h => by
    unfold pairsT at h
    split at h
    · rename_i heq; cases heq
    · rename_i heq
      cases heq
      obtain ⟨kk, hk, h⟩ := Option.bind_eq_some_iff.mp h
      obtain ⟨zs, hz, rfl⟩ := Option.map_eq_some_iff.mp h
      obtain ⟨us, q1, q2, q3, q4⟩ := pairsT_ok gh h2 hz
      obtain ⟨a, ws, rfl, ha, ra⟩ := h1.tup_inv
      obtain ⟨x, y, rfl, rx, ry⟩ := ra.two
      obtain ⟨kb, ks, rfl, hkb, rk⟩ := rx.tup_inv
      have ex := dkeys_ok rk hk
      subst ex
      refine ⟨(kk, y) :: us, by rw [List.length_cons, List.length_cons, q1], by simp [q2], .cons ry q3, fun i p e => ?_⟩
      cases i with
      | zero => cases e; exact ⟨a, kb, rfl, gh _ _ ha, gh _ _ hkb⟩
      | succ i => exact q4 i p e
    · cases h
theorem td_dictK (hc : X.calm = true) (hu : X.A.units + 66 < cLine) : TyD Γ X "dict" dictKD := ⟨_, call_dictK hc hu, fun {G H vs ds z} gh r h Q k => by
  unfold dictKD at h
  split at h
  · split at h
    · rename_i hz
      obtain ⟨ps, hp, rfl⟩ := Option.map_eq_some_iff.mp h
      obtain ⟨v, rfl, r1⟩ := r.one
      obtain ⟨a, ws, rfl, ha, ra⟩ := r1.lst_inv
      obtain ⟨us, q1, q2, q3, q4⟩ := pairsK_ok gh ra hp
      refine ⟨a, ws, us, rfl, gh _ _ ha, q1, by rw [← q1, ra.length]; exact hz, q4, fun p hp => ?_⟩
      have s := Step.new (o := .dK (mrg [] us)) gh hp
      obtain ⟨w1, w2⟩ := kr_mrg (acc := []) (acd := []) q2 q3 rfl .nil
      exact k _ _ _ s (.dk zaH w1 (w2.mono s.gg))
    · cases h
  · cases h⟩
theorem td_dictT (hc : X.calm = true) (hu : X.A.units + 66 < cLine) : TyD Γ X "dict" dictTD := ⟨_, call_dictT hc hu, fun {G H vs ds z} gh r h Q k => by
  unfold dictTD at h
  split at h
  · split at h
    · rename_i hz
      obtain ⟨ps, hp, rfl⟩ := Option.map_eq_some_iff.mp h
      obtain ⟨v, rfl, r1⟩ := r.one
      obtain ⟨a, ws, rfl, ha, ra⟩ := r1.lst_inv
      obtain ⟨us, q1, q2, q3, q4⟩ := pairsT_ok gh ra hp
      refine ⟨a, ws, us, rfl, gh _ _ ha, q1, by rw [← q1, ra.length]; exact hz, q4, fun p hp => ?_⟩
      have s := Step.new (o := .dT (mrg [] us)) gh hp
      obtain ⟨w1, w2⟩ := kr_mrg (acc := []) (acd := []) q2 q3 rfl .nil
      exact k _ _ _ s (.dt zaH w1 (w2.mono s.gg))
    · cases h
  · cases h⟩
end
end L2
end
section
namespace L2
open PySem PySem.Spec PyProof.Rows
section
variable {Γ : Cn} {X : Cx} {e : Expr} {es : List Expr} {fr : FA} {pos p2 : Pos} {x : Str}
def sRetO (i : Nat) : FS := fun ρ => match ρ[i]? with
  | some (some (.own ds)) => some (.ow ds, ρ)
  | _ => none
theorem ds_retO (i : Nat) {vp : Pos} (hN : X.N[i]? = some x := by rfl) (hv : Vis X.env.scope x := by first | exact Or.inl rfl | exact Or.inr (Or.inl rfl) | exact Or.inr (Or.inr rfl)) (hd : (x == ("__debug__" : Str)) = false := by decide)
    (hcd : (x == ("__classdict__" : Str)) = false := by decide) : DS Γ X (.Return (some (.Name x vp)) pos) (sRetO i) := ⟨(ps_ret (pe_var hN hv hd hcd)).imp fun E σ H => by
  rintro ⟨G₀, H₀, G, ρ, fl, ρ', A, h, k⟩
  unfold sRetO at h
  split at h
  · rename_i ds hi
    cases h
    obtain ⟨a, vs, h1, h2, h3, h4, h5⟩ := A.env.own i ds hi
    exact ⟨.ref a, h1, k σ G H (.refl _) A a vs h2 h3 h4 h5⟩
  · cases h⟩
def spO (Γ : Cn) (K : PySem.W.Frag) (n : Nat) (F : List D -> Option (List D)) : Sp := fun vs H Q _ => ∃ G ds rs, zb9 G H /\ Reps Γ K G vs ds /\ ds.length = n /\ F ds = some rs /\ ∀ p us G' H', Step G H G' H' -> H' p = none -> Reps Γ K G' us rs -> Q (.ref p) (upd H' p (.lst us))
def runO (n : Nat) (g : FS) : List D -> Option (List D) := fun ds => (g (ds.map (fun d => some (Slot.sh d)) ++ List.replicate n none)).bind fun r => match r.1 with
  | .ow ds => some ds
  | _ => none
theorem Fun.okO {P : Program} {w : World} {K : PySem.W.Frag} {mg : Str -> Option Value} {base : Heap} {x qual : Str} {st : Stmt} {f : Addr} {fd : FuncData} {N ps : List Str} {k : Nat} {g : FS} (F : Fun K x qual st f fd) (S : FnScope N ps (zai st))
    (hbody : ∀ (cdv : Value) (A : Around) (outer : List Env) (s : Shared) (H : Hp) (E : XK), Room k (A.deeper (envOfC qual (zai st) s.heap.objs.size f cdv)) ->
      DSs Γ (cxOf CX0 P w K mg base N qual (zai st) f cdv A outer s H E).nox (zbe st) g) : FnOk P w K mg base CX0 (k + 1) f fd ps (spO Γ K ps.length (runO (N.length - ps.length) g)) := by
  refine F.ok S (fun vs H Q E h => ?_) (fun cdv A outer s H vs Q E hr h => ?_)
  · obtain ⟨G, ds, d, _, r, hl, _⟩ := h
    rw [r.length, hl]
  · obtain ⟨G, ds, rs, gh, r, hl, hd, k⟩ := h
    refine ⟨_, (hbody cdv A outer s H E hr).1, ?_⟩
    unfold runO at hd
    obtain ⟨⟨fl, ρ'⟩, hg, hd⟩ := Option.bind_eq_some_iff.mp hd
    refine ⟨G, H, G, _, fl, ρ', start_rel gh r (by rw [r.length, hl]), hg, fun σ' G' H' sm A' => ?_⟩
    cases fl with
    | rt d' => cases hd
    | nx => cases hd
    | bk => cases hd
    | ct => cases hd
    | nw d' => cases hd
    | od d' => cases hd
    | ow d' =>
      cases hd
      intro p us hp0 hg hp rr
      have st : Step G H G' (fun b => if b = p then none else H' b) := by
        refine ⟨fun b o e => ?_, A'.st.gg, fun b o e => ?_, A'.st.out⟩
        · show (if b = p then none else H' b) = some o
          rw [if_neg (zat e hp0)]; exact A'.st.hh b o e
        · show (if b = p then none else H' b) = some o
          rw [if_neg (zat e hg)]; exact A'.st.gh b o e
      have := k p us G' _ st (if_pos rfl) rr
      have hf : upd (fun b => if b = p then none else H' b) p (.lst us) = H' := by
        funext b
        by_cases hb : b = p
        · subst hb; rw [zaH, hp]
        · rw [zaB hb]; exact if_neg hb
      rwa [hf] at this
end
structure CalO (Γ : Cn) (P : Program) (w : World) (K : PySem.W.Frag) (mg : Str -> Option Value) (base : Heap) (x : Str) (n k : Nat) (F : List D -> Option (List D)) : Prop where
  ex : ∃ f fd ps, FnOk P w K mg base CX0 k f fd ps (spO Γ K n F) /\ mg x = some (.ref f) /\ PySem.W.keepIn K (.ref f) = true /\ Binds K fd ps []
def cFO (F : List D -> Option (List D)) (fr : FA) : FA := fun ρ => (fr ρ).bind F
section
variable {Γ : Cn} {X : Cx} {e : Expr} {es : List Expr} {fr : FA} {pos p : Pos}
theorem do_cal {x : Str} {n k : Nat} {F : List D -> Option (List D)} (C : CalO Γ X.prog X.w X.K X.mg X.base x n k F) {j : Nat} (hr : Room j X.A) (hk : k <= j) (hg : Gl X x) (ha : DA Γ X (e :: es) fr) (hn : ∀ ρ ds, fr ρ = some ds -> ds.length = n)
    (hdb : (x == ("__debug__" : Str)) = false := by decide) (he : starEach (e :: es) X.env = (false, eval e X.env) :: starEach es X.env := by rfl) (hpl : (backTo pos (starEach es X.env)).any (·.1) = false := by rfl) :
    DO Γ X (.Call (.Name x p) (e :: es) [] pos) (cFO F fr) := ⟨by
  obtain ⟨f, fd, ps, h1, h2, h3, h4⟩ := C.ex
  refine (pe_call h1 (hr.mono hk) hg h2 h3 h4 .nil pass0 ha.1 hdb he hpl).imp fun σ H Q => ?_
  rintro ⟨G₀, H₀, G, ρ, d, A, h, k⟩
  unfold cFO at h
  obtain ⟨ds, hd, h⟩ := Option.bind_eq_some_iff.mp h
  refine ⟨G₀, H₀, G, ρ, ds, A, hd, fun vs G1 H1 s1 r1 => ?_⟩
  show spO Γ X.K n F (vs ++ []) H1 Q E0
  rw [List.append_nil]
  exact ⟨G1, ds, d, s1.gh, r1, hn ρ ds hd, h, fun p us G' H' s hp r => k p us G' H' (s1.trans s) hp r⟩⟩
theorem Dfn.calO {P : Program} {w : World} {K : PySem.W.Frag} {mg : Str -> Option Value} {base : Heap} {x : Str} {st : Stmt} {N ps : List Str} {k : Nat} {g : FS} (F : Dfn K mg x st) (S : FnScope N ps (zai st))
    (hb : ∀ (kV doc pm : Value) (an : Option Addr) (cdv ct : Value) (us : List Value), us.length = ps.length -> bindArgs (PySem.W.fnOf x x (zcy st) (zbe st) (zai st) .none kV doc pm an cdv ct) ⟨us, []⟩ = pure (ps.zip us))
    (hbody : ∀ (f : Addr) (cdv : Value) (A : Around) (outer : List Env) (s : Shared) (H : Hp) (E : XK), Room k (A.deeper (envOfC x (zai st) s.heap.objs.size f cdv)) ->
      DSs Γ (cxOf CX0 P w K mg base N x (zai st) f cdv A outer s H E).nox (zbe st) g) : CalO Γ P w K mg base x ps.length (k + 1) (runO (N.length - ps.length) g) := by
  obtain ⟨f, fd, h1, h2⟩ := F.ex
  exact ⟨f, fd, ps, h1.okO S (hbody f), h2, h1.kp, h1.binds hb⟩
theorem Dfn.none {P : Program} {w : World} {K : PySem.W.Frag} {mg : Str -> Option Value} {base : Heap} {x : Str} {st : Stmt} {ps : List Str} {k : Nat} (F : Dfn K mg x st)
    (hb : ∀ (kV doc pm : Value) (an : Option Addr) (cdv ct : Value) (us : List Value), us.length = ps.length -> bindArgs (PySem.W.fnOf x x (zcy st) (zbe st) (zai st) .none kV doc pm an cdv ct) ⟨us, []⟩ = pure (ps.zip us))
    : Cal Γ P w K mg base x ps.length k (fun _ => Option.none) := by
  obtain ⟨f, fd, h1, h2⟩ := F.ex
  refine ⟨f, fd, ps, ⟨fun vs H Q E h => ?_, fun A outer s H args us vs Q E hr I b v h => ?_⟩, h2, h1.kp, h1.binds hb⟩
  · obtain ⟨_, _, _, _, _, _, z, _⟩ := h
    cases z
  · obtain ⟨_, _, _, _, _, _, z, _⟩ := h
    cases z
end
end L2
end
section
namespace L2
open PySem PySem.Spec PyProof.Rows
def orG (g g' : D -> D -> Option D) (x y : D) : Option D := match g x y with
  | some z => some z
  | none => g' x y
section
variable {Γ : Cn} {X : Cx} {a b c e : Expr} {fa fb : FE} {op : CmpOp} {g g' : D -> D -> Option D}
theorem orG_or {x y z : D} (h : orG g g' x y = some z) : g x y = some z \/ g' x y = some z := by
  unfold orG at h
  split at h
  · rename_i q; cases h; exact .inl q
  · exact .inr h
theorem CmpD.or (h : CmpD Γ X op g) (h' : CmpD Γ X op g') : CmpD Γ X op (orG g g') := by
  obtain ⟨r, o, d⟩ := h.ex
  obtain ⟨r', o', d'⟩ := h'.ex
  refine ⟨_, o.or o', fun {G H v u x y z} gh r1 r2 q Q k => ?_⟩
  rcases orG_or q with q | q
  · exact .inl (d gh r1 r2 q Q k)
  · exact .inr (d' gh r1 r2 q Q k)
def eqA := orG eqD eqXD
def neA := orG neD neXD
theorem cd_eqA (hu : X.A.units + 64 < cLine) : CmpD Γ X .Eq eqA := cd_eq.or (cd_eqX hu)
theorem cd_neA (hu : X.A.units + 64 < cLine) : CmpD Γ X .NotEq neA := cd_ne.or (cd_neX hu)
theorem DfnM.mk' {K : PySem.W.Frag} {C f : Addr} {c m qual : Str} {st : Stmt} {oc : Value} {od an : Option Addr} {osl : Array (Option Value)} {kV doc pm cdv ct : Value} (a : PySem.W.findIn K (.ref C) m = some (some (.ref f))) (i : PySem.W.isFn K (.ref f) = true)
    (l : K.lookup f = some ⟨oc, od, .func (PySem.W.fnOf m qual (zcy st) (zbe st) (zai st) .none kV doc pm an cdv ct), osl⟩) (cd : PySem.W.codeIn K cdv qual = true) (k : PySem.W.keepIn K (.ref f) = true) : DfnM K C c m qual st := ⟨f, _, fun_mk l cd k, a, i⟩
end
section
variable {ρ : za2} {f1 f2 f3 f4 f5 f6 f7 : FE}
theorem ln1 : ∀ ρ ds, zab f1 zak ρ = some ds -> ds.length = 1 := zcX fun _ _ h => aNil_len h
theorem ln2 : ∀ ρ ds, zab f1 (zab f2 zak) ρ = some ds -> ds.length = 2 := zcX ln1
theorem ln3 : ∀ ρ ds, zab f1 (zab f2 (zab f3 zak)) ρ = some ds -> ds.length = 3 := zcX ln2
theorem ln4 : ∀ ρ ds, zab f1 (zab f2 (zab f3 (zab f4 zak))) ρ = some ds -> ds.length = 4 := zcX ln3
theorem ln5 : ∀ ρ ds, zab f1 (zab f2 (zab f3 (zab f4 (zab f5 zak)))) ρ = some ds -> ds.length = 5 := zcX ln4
theorem ln6 : ∀ ρ ds, zab f1 (zab f2 (zab f3 (zab f4 (zab f5 (zab f6 zak))))) ρ = some ds -> ds.length = 6 := zcX ln5
theorem ln7 : ∀ ρ ds, zab f1 (zab f2 (zab f3 (zab f4 (zab f5 (zab f6 (zab f7 zak)))))) ρ = some ds -> ds.length = 7 := zcX ln6
end
end L2
end
section
namespace L2
open PySem PySem.Spec PyProof.Rows
section
variable {Γ : Cn} {K : PySem.W.Frag} {G₀ H₀ G H : Hp} {ρ : za2} {σ : St}
end
section
variable {Γ : Cn} {X : Cx} {a b c e value : Expr} {es : List Expr} {f fk fv : FE} {fr : FA} {pos pos' p dp : Pos} {g : FS} {x : Str} {sts : List Stmt}
end
end L2
end
section
namespace L2
open PySem PySem.Spec PyProof.Rows
def TDn (Γ : Cn) (K : PySem.W.Frag) (f : FE) : TE := fun σ H Q => ∃ G₀ H₀ G ρ d, At Γ K G₀ H₀ G H ρ σ /\ f ρ = some d /\ ∀ v G' H', Step G H G' H' -> Rep Γ K G' v d -> NewL H G' v d -> Q v H'
structure DN (Γ : Cn) (X : Cx) (e : Expr) (f : FE) : Prop where
  out : PE X e (TDn Γ X.K f)
section
variable {Γ : Cn} {X : Cx} {a b c e tg iter : Expr} {es : List Expr} {fa fb fc f fe : FE} {fr fi : FA} {pos p p2 pos' : Pos} {ft : FT} {g : FG} {x : Str}
variable {scope : Scope} {N' : List Str} {fv : List (Option Nat)} {ifs : List Expr} {elt : Expr}
structure DBn (Γ : Cn) (X : Cx) (N' : List Str) (scope : Scope) (tg : Expr) (ifs : List Expr) (elt : Expr) (g : FG) (ft : FT) (fe : FE) : Prop where
  out : ∀ (cl : List (Str × Addr)) (C : Addr) (s₀ : Shared) (H₀ : Hp) (fp : List Addr), DG Γ (zc2 X N' scope cl C s₀ H₀ fp) tg g /\ DTs Γ (zc2 X N' scope cl C s₀ H₀ fp) ifs ft /\ DN Γ (zc2 X N' scope cl C s₀ H₀ fp) elt fe
end
def spN (Γ : Cn) (K : PySem.W.Frag) (n : Nat) (F : List D -> Option D) : Sp := fun vs H Q _ => ∃ G ds d, zb9 G H /\ Reps Γ K G vs ds /\ ds.length = n /\ F ds = some d /\ ∀ v G' H', Step G H G' H' -> Rep Γ K G' v d -> NewL H G' v d -> Q v H'
section
variable {Γ : Cn} {P : Program} {w : World} {K : PySem.W.Frag} {mg : Str -> Option Value} {base : Heap}
structure CalN (Γ : Cn) (P : Program) (w : World) (K : PySem.W.Frag) (mg : Str -> Option Value) (base : Heap) (x : Str) (n k : Nat) (F : List D -> Option D) : Prop where
  ex : ∃ f fd ps, FnOk P w K mg base CX0 k f fd ps (spN Γ K n F) /\ mg x = some (.ref f) /\ PySem.W.keepIn K (.ref f) = true /\ Binds K fd ps []
structure CalMN (Γ : Cn) (P : Program) (w : World) (K : PySem.W.Frag) (mg : Str -> Option Value) (base : Heap) (c m : Str) (n k : Nat) (F : List D -> Option D) : Prop where
  ex : ∃ C f fd ps, Γ.cls c = some C /\ Cls K C /\ Meth K C m f /\ FnOk P w K mg base CX0 k f fd ps (spN Γ K n F) /\ Binds K fd ps []
structure CalMO (Γ : Cn) (P : Program) (w : World) (K : PySem.W.Frag) (mg : Str -> Option Value) (base : Heap) (c m : Str) (n k : Nat) (F : List D -> Option (List D)) : Prop where
  ex : ∃ C f fd ps, Γ.cls c = some C /\ Cls K C /\ Meth K C m f /\ FnOk P w K mg base CX0 k f fd ps (spO Γ K n F) /\ Binds K fd ps []
end
section
variable {Γ : Cn} {X : Cx} {e o : Expr} {es : List Expr} {fo f : FE} {fr : FA} {pos p apos pos' : Pos} {c m x : Str}
end
end L2
end
section
namespace Law
open PySem L2 PySem.Spec PyProof.Rows
def top (i : Nat) : Stmt := PySem.Challenge.pw_shopbound_k25_pairs_that_meet.main.body.getD i (.Pass ⟨0, 0, 0, 0⟩)
abbrev s__law_cell : Stmt := top 53
abbrev zds : Stmt := top 54
abbrev s__law_spans : Stmt := top 56
abbrev s__law_name : Stmt := top 55
abbrev zc4 : Stmt := top 57
abbrev s__law_steps : Stmt := top 58
abbrev s__law_jobs : Stmt := top 59
abbrev zdr : Stmt := top 60
abbrev s__law_links : Stmt := top 61
abbrev zdq : Stmt := top 62
abbrev s__law_lists : Stmt := top 63
abbrev s_is_whole : Stmt := top 11
abbrev s_is_within : Stmt := top 14
abbrev s_is_tuple : Stmt := top 16
abbrev s_is_break : Stmt := top 30
abbrev s_is_list : Stmt := top 15
abbrev s_are_breaks : Stmt := top 31
abbrev s_is_name : Stmt := top 12
abbrev s_is_bench : Stmt := top 32
abbrev s_are_unlike : Stmt := top 18
abbrev zdo : Stmt := top 33
abbrev s_is_one_of : Stmt := top 17
abbrev s_is_way : Stmt := top 34
abbrev s_are_ways : Stmt := top 35
abbrev s_is_step : Stmt := top 36
abbrev s_are_steps : Stmt := top 37
abbrev s_is_job : Stmt := top 38
abbrev s_are_jobs : Stmt := top 39
abbrev s_is_setup : Stmt := top 40
abbrev s_are_setups : Stmt := top 41
abbrev s_is_link : Stmt := top 42
abbrev s_are_links : Stmt := top 43
abbrev s_is_amount : Stmt := top 44
abbrev zdp : Stmt := top 45
abbrev s_is_stock : Stmt := top 46
abbrev s_are_stocks : Stmt := top 47
abbrev zcJ : Stmt := top 48
abbrev s_fresh : Stmt := top 50
abbrev zcV : Stmt := inClass (top 51) 0
abbrev s__law_shop : Stmt := top 64
abbrev s__law_due : Stmt := top 65
abbrev zcv : Stmt := inClass (top 51) 9
abbrev s_pairs_of : Stmt := top 2
abbrev zc5 : Stmt := inClass (top 51) 10
abbrev zbD : Stmt := top 4
abbrev zdt : Stmt := inClass (top 51) 12
abbrev zcK : Stmt := top 3
abbrev s_sure_pairs : Stmt := top 5
abbrev s_law : Stmt := top 66
def t_LONGEST_NAME (mg : Str -> Option Value) : Tok := match mg "LONGEST_NAME" with | some (.int _ t) => t | _ => 0
def t_MOST_AMOUNT (mg : Str -> Option Value) : Tok := match mg "MOST_AMOUNT" with | some (.int _ t) => t | _ => 0
def t_MOST_BENCHES (mg : Str -> Option Value) : Tok := match mg "MOST_BENCHES" with | some (.int _ t) => t | _ => 0
def t_MOST_BREAKS (mg : Str -> Option Value) : Tok := match mg "MOST_BREAKS" with | some (.int _ t) => t | _ => 0
def t_MOST_HORIZON (mg : Str -> Option Value) : Tok := match mg "MOST_HORIZON" with | some (.int _ t) => t | _ => 0
def t_MOST_JOBS (mg : Str -> Option Value) : Tok := match mg "MOST_JOBS" with | some (.int _ t) => t | _ => 0
def t_MOST_LINKS (mg : Str -> Option Value) : Tok := match mg "MOST_LINKS" with | some (.int _ t) => t | _ => 0
def t_MOST_SETUPS (mg : Str -> Option Value) : Tok := match mg "MOST_SETUPS" with | some (.int _ t) => t | _ => 0
def t_MOST_STEPS (mg : Str -> Option Value) : Tok := match mg "MOST_STEPS" with | some (.int _ t) => t | _ => 0
def t_MOST_STOCKS (mg : Str -> Option Value) : Tok := match mg "MOST_STOCKS" with | some (.int _ t) => t | _ => 0
def t_MOST_WAYS (mg : Str -> Option Value) : Tok := match mg "MOST_WAYS" with | some (.int _ t) => t | _ => 0
structure Bn (mg : Str -> Option Value) : Prop where
  z_abs : mg "abs" = none
  z_all : mg "all" = none
  z_bool : mg "bool" = none
  z_dict : mg "dict" = none
  z_enumerate : mg "enumerate" = none
  z_int : mg "int" = none
  z_isinstance : mg "isinstance" = none
  z_len : mg "len" = none
  z_list : mg "list" = none
  z_max : mg "max" = none
  z_min : mg "min" = none
  z_range : mg "range" = none
  z_set : mg "set" = none
  z_str : mg "str" = none
  z_tuple : mg "tuple" = none
  c_LONGEST_NAME : mg "LONGEST_NAME" = some (.int 8 (t_LONGEST_NAME mg))
  c_MOST_AMOUNT : mg "MOST_AMOUNT" = some (.int 1000000 (t_MOST_AMOUNT mg))
  c_MOST_BENCHES : mg "MOST_BENCHES" = some (.int 8 (t_MOST_BENCHES mg))
  c_MOST_BREAKS : mg "MOST_BREAKS" = some (.int 10 (t_MOST_BREAKS mg))
  c_MOST_HORIZON : mg "MOST_HORIZON" = some (.int 1000000 (t_MOST_HORIZON mg))
  c_MOST_JOBS : mg "MOST_JOBS" = some (.int 40 (t_MOST_JOBS mg))
  c_MOST_LINKS : mg "MOST_LINKS" = some (.int 100 (t_MOST_LINKS mg))
  c_MOST_SETUPS : mg "MOST_SETUPS" = some (.int 100 (t_MOST_SETUPS mg))
  c_MOST_STEPS : mg "MOST_STEPS" = some (.int 40 (t_MOST_STEPS mg))
  c_MOST_STOCKS : mg "MOST_STOCKS" = some (.int 6 (t_MOST_STOCKS mg))
  c_MOST_WAYS : mg "MOST_WAYS" = some (.int 4 (t_MOST_WAYS mg))
def at_Shop : List Str := ["benches", "steps", "jobs", "setups", "links", "stocks", "horizon", "bench_by_name", "step_by_name", "setup_by_names", "job_by_step"]
end Law
end
section
set_option maxHeartbeats 4000000
namespace Law
open PySem L2 PySem.Spec PyProof.Rows
variable {Γ : Cn} {P : Program} {w : World} {K : PySem.W.Frag} {mg : Str -> Option Value} {base : Heap}
noncomputable def G__law_cell : List D -> Option D := zbO 0
    (zaE (sIf (toB (b2 ltD (vSh 1) (cF zcU (zab (vSh 0) zak)))) (zba (b2 ixD (vSh 0) (vSh 1))) zci) (zba (vC (.int 0))))
theorem sc__law_cell : FnScope ["_law_script", "_law_k"] ["_law_script", "_law_k"] (zai s__law_cell) := ⟨rfl, rfl, rfl, by decide +kernel, rfl, by decide +kernel, by decide +kernel⟩
theorem cal__law_cell (F : Dfn K mg "_law_cell" s__law_cell) (B : Bn mg)  : Cal Γ P w K mg base "_law_cell" 2 1 (G__law_cell) :=
  F.cal (k := 0) sc__law_cell (fun _ _ _ _ _ _ us hl => match us, hl with | [_, _], _ => rfl) fun f cdv A outer s H E hr =>
    (zaf (zbG (zct cd_lt (zac 1) (zaz zcE rfl B.z_len (by rfl) (zaa (zac 0) zae)) (zbg _)) (zan (zax (zar (zac 0) (zac 1)))) zaK) (zan (zax zad)))
noncomputable def G__law_digits : List D -> Option D := zbO 4
    (zaE (zbp 3 (b2 fdivD (cF absD (zab (vSh 0) zak)) (vC (.int 2)))) (zaE (sOwn 4 (szF zak)) (zaE (sFor (itE (vSh 2)) (zcs 2 (zaG (zaP 5) (zaG (zaP 6) zcr))) (sIf (orT (toB (b2 eqD (b2 zcj (vSh 0) (vC (.int 2))) (vC (.int 1)))) (toB (b2 eqD (vSh 3) (vC (.int 0))))) (zaE (zbp 3 (b2 zbo (b2 zcj (b2 zbo (vSh 3) (vSh 0)) (vC (.int 2147483629))) (vC (.int 48271)))) (zaE (zbp 3 (b2 zbo (vSh 3) (b2 mulD (b2 mulD (vC (.int 7919)) (b2 zbo (vSh 1) (vSh 5))) (b2 zbo (vSh 1) (vSh 5))))) (zaE (zbp 3 (b2 zcj (b2 mulD (vSh 3) (vSh 3)) (vC (.int 2147483587)))) (sApp 4 (b2 zcj (b2 fdivD (vSh 3) (vC (.int 16))) (vSh 6)))))) (zaE (sApp 4 (b2 zcj (vSh 3) (vSh 6))) (zbp 3 (b2 fdivD (vSh 3) (vSh 6)))))) (sFrz 4 (zba (vSh 4))))))
theorem za4 : FnScope ["_law_cell_here", "_law_k", "_law_sizes", "_law_number", "_law_found", "_law_turn", "_law_size"] ["_law_cell_here", "_law_k", "_law_sizes"] (zai zds) := ⟨rfl, rfl, rfl, by decide +kernel, rfl, by decide +kernel, by decide +kernel⟩
theorem cal__law_digits (F : Dfn K mg "_law_digits" zds) (B : Bn mg)  : Cal Γ P w K mg base "_law_digits" 3 1 (G__law_digits) :=
  F.cal (k := 0) za4 (fun _ _ _ _ _ _ us hl => match us, hl with | [_, _, _], _ => rfl) fun f cdv A outer s H E hr =>
    (zaf (zaS 3 za4.nd (de_fdiv (zaz bd_abs rfl B.z_abs (by rfl) (zaa (zac 0) zae)) zad)) (zaf (zc0 4 za4.nd (zbv zae)) (zaf (zcO PassesOwn.never rfl (zdw rfl B.z_enumerate (zac 2)) (dg_tup (n := 2) rfl (zaY (zau 5 za4.nd) (zaY (zau 6 za4.nd) zcW))) (zan (zbG (DW.dt (zcC (zct cd_eq (zbJ (zac 0) zad) zad (zbg _)) (zbY (zct cd_eq (zac 3) zad (zbg _))))) (zaf (zaS 3 za4.nd (za8 (zbJ (za8 (zac 3) (zac 0)) zad) zad)) (zaf (zaS 3 za4.nd (za8 (zac 3) (de_mul (de_mul zad (za8 (zac 1) (zac 5))) (za8 (zac 1) (zac 5))))) (zaf (zaS 3 za4.nd (zbJ (de_mul (zac 3) (zac 3)) zad)) (zan (zbt 4 (zbJ (de_fdiv (zac 3) zad) (zac 6))))))) (zaf (zbt 4 (zbJ (zac 3) (zac 6))) (zan (zaS 3 za4.nd (de_fdiv (zac 3) (zac 6)))))))) (zcL 4 (zan (zax (zac 4)))))))
noncomputable def G__law_spans : List D -> Option D := zbO 6
    (zaE (sOwn 2 (szF zak)) (zaE (zbp 3 (vC (.int 0))) (zaE (sFor (itF (vSh 0)) (zcs 2 (zaG (zaP 4) (zaG (zaP 5) zcr))) (zaE (zbp 6 (b2 zbo (vSh 3) (vSh 4))) (zaE (zbp 7 (b2 zbo (b2 zbo (vSh 6) (vC (.int 1))) (vSh 5))) (sIf (toB (b2 leD (vSh 7) (vSh 1))) (zaE (sApp 2 (zce (szF (zab (vSh 6) (zab (vSh 7) zak))))) (zbp 3 (b2 zbo (vSh 7) (vC (.int 1))))) zci)))) (sFrz 2 (zba (vSh 2))))))
theorem zbf : FnScope ["_law_row", "_law_horizon", "_law_found", "_law_free", "_law_begin", "_law_size", "_law_low", "_law_high"] ["_law_row", "_law_horizon"] (zai s__law_spans) := ⟨rfl, rfl, rfl, by decide +kernel, rfl, by decide +kernel, by decide +kernel⟩
theorem cal__law_spans (F : Dfn K mg "_law_spans" s__law_spans) (B : Bn mg)  : Cal Γ P w K mg base "_law_spans" 2 1 (G__law_spans) :=
  F.cal (k := 0) zbf (fun _ _ _ _ _ _ us hl => match us, hl with | [_, _], _ => rfl) fun f cdv A outer s H E hr =>
    (zaf (zc0 2 zbf.nd (zbv zae)) (zaf (zaS 3 zbf.nd zad) (zaf (zcO PassesOwn.never rfl (za1 (zac 0)) (dg_tup (n := 2) rfl (zaY (zau 4 zbf.nd) (zaY (zau 5 zbf.nd) zcW))) (zaf (zaS 6 zbf.nd (za8 (zac 3) (zac 4))) (zaf (zaS 7 zbf.nd (za8 (za8 (zac 6) zad) (zac 5))) (zan (zbG (zct cd_le (zac 7) (zac 1) (zbg _)) (zaf (zbt 2 (zb5 (zaa (zac 6) (zaa (zac 7) zae)))) (zan (zaS 3 zbf.nd (za8 (zac 7) zad)))) zaK))))) (zcL 2 (zan (zax (zac 2)))))))
noncomputable def G__law_name : List D -> Option D := zbO 1
    (zaE (zbp 1 (b2 ixD (vC (.str "abcdefghijklmnopqrstuvwxyz")) (b2 zcj (vSh 0) (vC (.int 26))))) (zba (b2 zbo (vSh 1) (b2 mulD (b2 ixD (vC (.str "qrstuvw")) (b2 fdivD (vSh 0) (vC (.int 26)))) (b2 zcj (vSh 0) (vC (.int 4)))))))
theorem sc__law_name : FnScope ["_law_k", "_law_letter"] ["_law_k"] (zai s__law_name) := ⟨rfl, rfl, rfl, by decide +kernel, rfl, by decide +kernel, by decide +kernel⟩
theorem cal__law_name (F : Dfn K mg "_law_name" s__law_name) (B : Bn mg)  : Cal Γ P w K mg base "_law_name" 1 1 (G__law_name) :=
  F.cal (k := 0) sc__law_name (fun _ _ _ _ _ _ us hl => match us, hl with | [_], _ => rfl) fun f cdv A outer s H E hr =>
    (zaf (zaS 1 sc__law_name.nd (zar zc1 (zbJ (zac 0) zad))) (zan (zax (za8 (zac 1) (de_mul (zar zc1 (de_fdiv (zac 0) zad)) (zbJ (zac 0) zad))))))
noncomputable def G__law_benches (zah : List D -> Option D) (zbj : List D -> Option D) (zaq : List D -> Option D) : List D -> Option D := zbO 5
    (zaE (sOwn 2 (szF zak)) (zaE (sFor (itE (vSh 0)) (zcs 2 (zaG (zaP 3) (zaG (zaP 4) zcr))) (zaE (zbp 5 (cF zah (zab (vSh 4) (zab (vSh 3) (zab (za3 (szF (zab (vC (.int 4)) (zab (vC (.int 5)) (zab (vC (.int 3)) (zab (vC (.int 7)) (zab (vC (.int 4)) (zab (vC (.int 9)) (zab (vC (.int 5)) zak))))))))) zak))))) (zaE (zbp 6 (slF (za3 (szF (zab (zce (szF (zab (b2 ixD (vSh 5) (vC (.int 1))) (zab (b2 ixD (vSh 5) (vC (.int 2))) zak)))) (zab (zce (szF (zab (b2 ixD (vSh 5) (vC (.int 3))) (zab (b2 ixD (vSh 5) (vC (.int 4))) zak)))) (zab (zce (szF (zab (b2 ixD (vSh 5) (vC (.int 5))) (zab (b2 ixD (vSh 5) (vC (.int 6))) zak)))) zak))))) pN (pS (b2 ixD (vSh 5) (vC (.int 0)))))) (sApp 2 (zce (szF (zab (cF zaq (zab (b2 zbo (vC (.int 60)) (vSh 3)) zak)) (zab (cF zbj (zab (vSh 6) (zab (vSh 1) zak))) zak)))))))) (sFrz 2 (zba (vSh 2)))))
theorem zbs : FnScope ["_law_cells", "_law_horizon", "_law_found", "_law_k", "_law_cell_here", "_law_row", "_law_spans_here"] ["_law_cells", "_law_horizon"] (zai zc4) := ⟨rfl, rfl, rfl, by decide +kernel, rfl, by decide +kernel, by decide +kernel⟩
theorem cal__law_benches {zah : List D -> Option D} {zbj : List D -> Option D} {zaq : List D -> Option D} (F : Dfn K mg "_law_benches" zc4) (B : Bn mg) (c__law_digits : Cal Γ P w K mg base "_law_digits" 3 1 zah) (c__law_spans : Cal Γ P w K mg base "_law_spans" 2 1 zbj) (c__law_name : Cal Γ P w K mg base "_law_name" 1 1 zaq) : Cal Γ P w K mg base "_law_benches" 2 2 (G__law_benches zah zbj zaq) :=
  F.cal (k := 1) zbs (fun _ _ _ _ _ _ us hl => match us, hl with | [_, _], _ => rfl) fun f cdv A outer s H E hr =>
    (zaf (zc0 2 zbs.nd (zbv zae)) (zaf (zcO PassesOwn.never rfl (zdw rfl B.z_enumerate (zac 0)) (dg_tup (n := 2) rfl (zaY (zau 3 zbs.nd) (zaY (zau 4 zbs.nd) zcW))) (zaf (zaS 5 zbs.nd (zap c__law_digits hr (by decide) rfl (zaa (zac 4) (zaa (zac 3) (zaa (DO.de (zbv (zaa zad (zaa zad (zaa zad (zaa zad (zaa zad (zaa zad (zaa zad zae))))))))) zae))) ln3)) (zaf (zaS 6 zbs.nd (zbR (DO.de (zbv (zaa (zb5 (zaa (zar (zac 5) zad) (zaa (zar (zac 5) zad) zae))) (zaa (zb5 (zaa (zar (zac 5) zad) (zaa (zar (zac 5) zad) zae))) (zaa (zb5 (zaa (zar (zac 5) zad) (zaa (zar (zac 5) zad) zae))) zae))))) zcx (zcw (zar (zac 5) zad)))) (zan (zbt 2 (zb5 (zaa (zap c__law_name hr (by decide) rfl (zaa (za8 zad (zac 3)) zae) ln1) (zaa (zap c__law_spans hr (by decide) rfl (zaa (zac 6) (zaa (zac 1) zae)) ln2) zae)))))))) (zcL 2 (zan (zax (zac 2))))))
noncomputable def G__law_steps (zah : List D -> Option D) (zaq : List D -> Option D) : List D -> Option D := zbO 5
    (zaE (sOwn 4 (szF zak)) (zaE (sFor (itE (vSh 0)) (zcs 2 (zaG (zaP 5) (zaG (zaP 6) zcr))) (zaE (zbp 7 (cF zah (zab (vSh 6) (zab (b2 zbo (vSh 5) (vC (.int 7))) (zab (za3 (szF (zab (vC (.int 3)) (zab (cF zcU (zab (vSh 1) zak)) (zab (vSh 3) (zab (cF zcU (zab (vSh 1) zak)) (zab (vSh 3) (zab (vC (.int 3)) zak)))))))) zak))))) (zaE (sOwn 8 (szF (zab (zce (szF (zab (b2 ixD (b2 ixD (vSh 1) (b2 ixD (vSh 7) (vC (.int 1)))) (vC (.int 0))) (zab (b2 zbo (vC (.int 1)) (b2 zcj (b2 ixD (vSh 7) (vC (.int 2))) (vSh 2))) zak)))) zak))) (zaE (sIf (andT (toB (b2 eqD (b2 ixD (vSh 7) (vC (.int 0))) (vC (.int 0)))) (toB (b2 neA (b2 ixD (vSh 7) (vC (.int 3))) (b2 ixD (vSh 7) (vC (.int 1)))))) (sApp 8 (zce (szF (zab (b2 ixD (b2 ixD (vSh 1) (b2 ixD (vSh 7) (vC (.int 3)))) (vC (.int 0))) (zab (b2 zbo (vC (.int 1)) (b2 zcj (b2 ixD (vSh 7) (vC (.int 4))) (vSh 2))) zak))))) zci) (sFrz 8 (sApp 4 (zce (szF (zab (cF zaq (zab (vSh 5) zak)) (zab (b2 ixD (vC (.str "pqr")) (b2 ixD (vSh 7) (vC (.int 5)))) (zab (vSh 8) zak))))))))))) (sFrz 4 (zba (vSh 4)))))
theorem zbP : FnScope ["_law_cells", "_law_benches_here", "_law_horizon", "_law_longest", "_law_found", "_law_k", "_law_cell_here", "_law_row", "_law_ways"] ["_law_cells", "_law_benches_here", "_law_horizon", "_law_longest"] (zai s__law_steps) := ⟨rfl, rfl, rfl, by decide +kernel, rfl, by decide +kernel, by decide +kernel⟩
theorem cal__law_steps {zah : List D -> Option D} {zaq : List D -> Option D} (F : Dfn K mg "_law_steps" s__law_steps) (B : Bn mg) (c__law_digits : Cal Γ P w K mg base "_law_digits" 3 1 zah) (c__law_name : Cal Γ P w K mg base "_law_name" 1 1 zaq) : Cal Γ P w K mg base "_law_steps" 4 2 (G__law_steps zah zaq) :=
  F.cal (k := 1) zbP (fun _ _ _ _ _ _ us hl => match us, hl with | [_, _, _, _], _ => rfl) fun f cdv A outer s H E hr =>
    (zaf (zc0 4 zbP.nd (zbv zae)) (zaf (zcO PassesOwn.never rfl (zdw rfl B.z_enumerate (zac 0)) (dg_tup (n := 2) rfl (zaY (zau 5 zbP.nd) (zaY (zau 6 zbP.nd) zcW))) (zaf (zaS 7 zbP.nd (zap c__law_digits hr (by decide) rfl (zaa (zac 6) (zaa (za8 (zac 5) zad) (zaa (DO.de (zbv (zaa zad (zaa (zaz zcE rfl B.z_len (by rfl) (zaa (zac 1) zae)) (zaa (zac 3) (zaa (zaz zcE rfl B.z_len (by rfl) (zaa (zac 1) zae)) (zaa (zac 3) (zaa zad zae)))))))) zae))) ln3)) (zaf (zc0 8 zbP.nd (zbv (zaa (zb5 (zaa (zar (zar (zac 1) (zar (zac 7) zad)) zad) (zaa (za8 zad (zbJ (zar (zac 7) zad) (zac 2))) zae))) zae))) (zaf (zbG (DW.dt (dw_and (zct cd_eq (zar (zac 7) zad) zad (zbg _)) (dw_and1 (zct (cd_neA (hu64 hr)) (zar (zac 7) zad) (zar (zac 7) zad) (zbg _))))) (zan (zbt 8 (zb5 (zaa (zar (zar (zac 1) (zar (zac 7) zad)) zad) (zaa (za8 zad (zbJ (zar (zac 7) zad) (zac 2))) zae))))) zaK) (zcL 8 (zan (zbt 4 (zb5 (zaa (zap c__law_name hr (by decide) rfl (zaa (zac 5) zae) ln1) (zaa (zar zc1 (zar (zac 7) zad)) (zaa (zac 8) zae))))))))))) (zcL 4 (zan (zax (zac 4))))))
noncomputable def G__law_jobs (zah : List D -> Option D) (zaq : List D -> Option D) : List D -> Option D := zbO 8
    (zaE (sOwn 3 (szF zak)) (zaE (zbp 4 (za3 (zaO (itF (vSh 1)) (zaP 0) tT (b2 ixD (vSh 0) (vC (.int 0))) [none]))) (zaE (sFor (itE (vSh 0)) (zcs 2 (zaG (zaP 5) (zaG (zaP 6) zcr))) (zaE (zbp 7 (cF zah (zab (vSh 6) (zab (b2 zbo (vSh 5) (vC (.int 17))) (zab (za3 (szF (zab (vC (.int 4)) (zab (vC (.int 3)) (zab (vC (.int 3)) (zab (vC (.int 2)) (zab (vC (.int 5)) (zab (vC (.int 7)) zak)))))))) zak))))) (zaE (zbp 8 (slF (vSh 4) pN (pS (b2 ixD (vSh 7) (vC (.int 0)))))) (zaE (zbp 4 (slF (vSh 4) (pS (b2 ixD (vSh 7) (vC (.int 0)))) pN)) (sIf (toB (b2 neA (vSh 8) (za3 (szF zak)))) (zaE (zbp 9 (cF minD (zab (vSh 2) (zab (b2 mulD (b2 ixD (vSh 7) (vC (.int 1))) (cF intD (zab (b2 eqD (b2 ixD (vSh 7) (vC (.int 2))) (vC (.int 0))) zak))) zak)))) (zaE (zbp 10 (cF maxD (zab (vC (.int 0)) (zab (b2 subD (vSh 2) (b2 mulD (b2 ixD (vSh 7) (vC (.int 4))) (cF intD (zab (b2 eqD (b2 ixD (vSh 7) (vC (.int 2))) (vC (.int 1))) zak)))) zak)))) (zaE (zbp 8 (b2 zbo (slF (vSh 8) (pS (b2 zcj (b2 ixD (vSh 7) (vC (.int 5))) (vC (.int 2)))) pN) (slF (vSh 8) pN (pS (b2 zcj (b2 ixD (vSh 7) (vC (.int 5))) (vC (.int 2))))))) (sApp 3 (zce (szF (zab (cF zaq (zab (b2 zbo (vC (.int 70)) (vSh 5)) zak)) (zab (vSh 9) (zab (vSh 10) (zab (b2 eqD (b2 ixD (vSh 7) (vC (.int 3))) (vC (.int 1))) (zab (vSh 8) zak))))))))))) zci))))) (sFrz 3 (zba (vSh 3))))))
theorem za6 : FnScope ["_law_cells", "_law_steps_here", "_law_horizon", "_law_found", "_law_left", "_law_k", "_law_cell_here", "_law_row", "_law_some", "_law_early", "_law_due_here"] ["_law_cells", "_law_steps_here", "_law_horizon"] (zai s__law_jobs) := ⟨rfl, rfl, rfl, by decide +kernel, rfl, by decide +kernel, by decide +kernel⟩
theorem cal__law_jobs {zah : List D -> Option D} {zaq : List D -> Option D} (F : Dfn K mg "_law_jobs" s__law_jobs) (B : Bn mg) (c__law_digits : Cal Γ P w K mg base "_law_digits" 3 1 zah) (c__law_name : Cal Γ P w K mg base "_law_name" 1 1 zaq) : Cal Γ P w K mg base "_law_jobs" 3 2 (G__law_jobs zah zaq) :=
  F.cal (k := 1) za6 (fun _ _ _ _ _ _ us hl => match us, hl with | [_, _, _], _ => rfl) fun f cdv A outer s H E hr =>
    (zaf (zc0 3 za6.nd (zbv zae)) (zaf (ds_lc 4 za6.nd rfl (CompScope.of rfl rfl) (FvOk.of (N' := ["_law_step"]) (fv := [none]) rfl) (za1 (zac 1)) ⟨fun _ _ _ _ _ => ⟨(zau 0 (show (["_law_step"] : List Str).Nodup by decide +kernel)), zaM, (zar (zac 0) zad)⟩⟩) (zaf (zcO PassesOwn.never rfl (zdw rfl B.z_enumerate (zac 0)) (dg_tup (n := 2) rfl (zaY (zau 5 za6.nd) (zaY (zau 6 za6.nd) zcW))) (zaf (zaS 7 za6.nd (zap c__law_digits hr (by decide) rfl (zaa (zac 6) (zaa (za8 (zac 5) zad) (zaa (DO.de (zbv (zaa zad (zaa zad (zaa zad (zaa zad (zaa zad (zaa zad zae)))))))) zae))) ln3)) (zaf (zaS 8 za6.nd (zbR (zac 4) zcx (zcw (zar (zac 7) zad)))) (zaf (zaS 4 za6.nd (zbR (zac 4) (zcw (zar (zac 7) zad)) zcx)) (zan (zbG (zct (cd_neA (hu64 hr)) (zac 8) (DO.de (zbv zae)) (zbg _)) (zaf (zaS 9 za6.nd (zaz (bd_min rfl) rfl B.z_min (by rfl) (zaa (zac 2) (zaa (de_mul (zar (zac 7) zad) (zdk td_int rfl B.z_int (by rfl) (zaa (zcD cd_eq (zar (zac 7) zad) zad (zbg _)) zae))) zae)))) (zaf (zaS 10 za6.nd (zaz (bd_max rfl) rfl B.z_max (by rfl) (zaa zad (zaa (de_sub (zac 2) (de_mul (zar (zac 7) zad) (zdk td_int rfl B.z_int (by rfl) (zaa (zcD cd_eq (zar (zac 7) zad) zad (zbg _)) zae)))) zae)))) (zaf (zaS 8 za6.nd (za8 (zbR (zac 8) (zcw (zbJ (zar (zac 7) zad) zad)) zcx) (zbR (zac 8) zcx (zcw (zbJ (zar (zac 7) zad) zad))))) (zan (zbt 3 (zb5 (zaa (zap c__law_name hr (by decide) rfl (zaa (za8 zad (zac 5)) zae) ln1) (zaa (zac 9) (zaa (zac 10) (zaa (zcD cd_eq (zar (zac 7) zad) zad (zbg _)) (zaa (zac 8) zae))))))))))) zaK)))))) (zcL 3 (zan (zax (zac 3)))))))
noncomputable def G__law_setups (zah : List D -> Option D) : List D -> Option D := zbO 5
    (zaE (sOwn 3 (szF zak)) (zaE (sFor (itE (cF zah (zab (vSh 0) (zab (vC (.int 3)) (zab (b2 mulD (za3 (szF (zab (vC (.int 4)) zak))) (vC (.int 6))) zak))))) (zcs 2 (zaG (zaP 4) (zaG (zaP 5) zcr))) (zaE (zbp 6 (b2 ixD (b2 ixD (vSh 1) (b2 zcj (vSh 4) (cF zcU (zab (vSh 1) zak)))) (vC (.int 0)))) (zaE (zbp 7 (zce (szF (zab (vSh 6) (zab (b2 ixD (vC (.str "pqr")) (b2 zcj (vSh 4) (vC (.int 3)))) (zab (b2 ixD (vC (.str "pqr")) (b2 zcj (b2 zbo (vSh 4) (vSh 5)) (vC (.int 3)))) (zab (cF minD (zab (vSh 2) (zab (vSh 5) zak))) zak))))))) (sIf (bwT 3 (andT (toB (b2 gtD (vSh 5) (vC (.int 0)))) (toB (b2 ninXD (slF (vSh 7) pN (pS (vC (.int 3)))) (za3 (zaO (itF (vSh 3)) (zaP 0) tT (slF (vSh 0) pN (pS (vC (.int 3)))) [none])))))) (sApp 3 (vSh 7)) zci)))) (sFrz 3 (zba (vSh 3)))))
theorem zbH : FnScope ["_law_cell_here", "_law_benches_here", "_law_horizon", "_law_found", "_law_k", "_law_many", "_law_bench", "_law_row"] ["_law_cell_here", "_law_benches_here", "_law_horizon"] (zai zdr) := ⟨rfl, rfl, rfl, by decide +kernel, rfl, by decide +kernel, by decide +kernel⟩
theorem cal__law_setups {zah : List D -> Option D} (F : Dfn K mg "_law_setups" zdr) (B : Bn mg) (c__law_digits : Cal Γ P w K mg base "_law_digits" 3 1 zah) : Cal Γ P w K mg base "_law_setups" 3 2 (G__law_setups zah) :=
  F.cal (k := 1) zbH (fun _ _ _ _ _ _ us hl => match us, hl with | [_, _, _], _ => rfl) fun f cdv A outer s H E hr =>
    (zaf (zc0 3 zbH.nd (zbv zae)) (zaf (zcO PassesOwn.never rfl (zdw rfl B.z_enumerate (zap c__law_digits hr (by decide) rfl (zaa (zac 0) (zaa zad (zaa (de_mul (DO.de (zbv (zaa zad zae))) zad) zae))) ln3)) (dg_tup (n := 2) rfl (zaY (zau 4 zbH.nd) (zaY (zau 5 zbH.nd) zcW))) (zaf (zaS 6 zbH.nd (zar (zar (zac 1) (zbJ (zac 4) (zaz zcE rfl B.z_len (by rfl) (zaa (zac 1) zae)))) zad)) (zaf (zaS 7 zbH.nd (zb5 (zaa (zac 6) (zaa (zar zc1 (zbJ (zac 4) zad)) (zaa (zar zc1 (zbJ (za8 (zac 4) (zac 5)) zad)) (zaa (zaz (bd_min rfl) rfl B.z_min (by rfl) (zaa (zac 2) (zaa (zac 5) zae))) zae)))))) (zan (zbG (dt_bw 3 (DW.dt (dw_and (zct cd_gt (zac 5) zad (zbg _)) (dw_and1 (zct (cd_ninX (hu66 hr)) (zbR (zac 7) zcx (zcw zad)) (DO.de (zb4 rfl (CompScope.of rfl rfl) (FvOk.of (N' := ["_law_one"]) (fv := [none]) rfl) (za1 (zac 3)) ⟨fun _ _ _ _ _ => ⟨(zau 0 (show (["_law_one"] : List Str).Nodup by decide +kernel)), zaM, (zbR (zac 0) zcx (zcw zad))⟩⟩)) (by rfl)))))) (zan (zbt 3 (zac 7))) zaK))))) (zcL 3 (zan (zax (zac 3))))))
noncomputable def G__law_links (zah : List D -> Option D) : List D -> Option D := zbO 5
    (zaE (sOwn 3 (szF zak)) (zaE (zbp 4 (cF zah (zab (vSh 0) (zab (vC (.int 5)) (zab (za3 (szF (zab (vC (.int 3)) (zab (vC (.int 9)) (zab (vC (.int 9)) (zab (vC (.int 4)) (zab (vC (.int 9)) (zab (vC (.int 9)) (zab (vC (.int 4)) zak))))))))) zak))))) (zaE (sFor (itR rng1 (zab (b2 ixD (vSh 4) (vC (.int 0))) zak)) (zaP 5) (zaE (zbp 6 (b2 ixD (b2 ixD (vSh 1) (b2 zcj (b2 ixD (vSh 4) (b2 zbo (vC (.int 1)) (b2 mulD (vC (.int 3)) (vSh 5)))) (cF zcU (zab (vSh 1) zak)))) (vC (.int 0)))) (zaE (zbp 7 (b2 ixD (b2 ixD (vSh 1) (b2 zcj (b2 ixD (vSh 4) (b2 zbo (vC (.int 2)) (b2 mulD (vC (.int 3)) (vSh 5)))) (cF zcU (zab (vSh 1) zak)))) (vC (.int 0)))) (sIf (bwT 3 (andT (toB (b2 neA (vSh 6) (vSh 7))) (toB (b2 ninXD (zce (szF (zab (vSh 6) (zab (vSh 7) zak)))) (za3 (zaO (itF (vSh 3)) (zaP 0) tT (slF (vSh 0) pN (pS (vC (.int 2)))) [none])))))) (sApp 3 (zce (szF (zab (vSh 6) (zab (vSh 7) (zab (cF minD (zab (vSh 2) (zab (b2 ixD (vSh 4) (b2 zbo (vC (.int 3)) (b2 mulD (vC (.int 3)) (vSh 5)))) zak))) zak)))))) zci)))) (sFrz 3 (zba (vSh 3))))))
theorem zbQ : FnScope ["_law_cell_here", "_law_steps_here", "_law_horizon", "_law_found", "_law_row", "_law_k", "_law_one", "_law_other"] ["_law_cell_here", "_law_steps_here", "_law_horizon"] (zai s__law_links) := ⟨rfl, rfl, rfl, by decide +kernel, rfl, by decide +kernel, by decide +kernel⟩
theorem cal__law_links {zah : List D -> Option D} (F : Dfn K mg "_law_links" s__law_links) (B : Bn mg) (c__law_digits : Cal Γ P w K mg base "_law_digits" 3 1 zah) : Cal Γ P w K mg base "_law_links" 3 2 (G__law_links zah) :=
  F.cal (k := 1) zbQ (fun _ _ _ _ _ _ us hl => match us, hl with | [_, _, _], _ => rfl) fun f cdv A outer s H E hr =>
    (zaf (zc0 3 zbQ.nd (zbv zae)) (zaf (zaS 4 zbQ.nd (zap c__law_digits hr (by decide) rfl (zaa (zac 0) (zaa zad (zaa (DO.de (zbv (zaa zad (zaa zad (zaa zad (zaa zad (zaa zad (zaa zad (zaa zad zae))))))))) zae))) ln3)) (zaf (zcO PassesOwn.never rfl (zdi rfl B.z_range (zaa (zar (zac 4) zad) zae)) (zau 5 zbQ.nd) (zaf (zaS 6 zbQ.nd (zar (zar (zac 1) (zbJ (zar (zac 4) (za8 zad (de_mul zad (zac 5)))) (zaz zcE rfl B.z_len (by rfl) (zaa (zac 1) zae)))) zad)) (zaf (zaS 7 zbQ.nd (zar (zar (zac 1) (zbJ (zar (zac 4) (za8 zad (de_mul zad (zac 5)))) (zaz zcE rfl B.z_len (by rfl) (zaa (zac 1) zae)))) zad)) (zan (zbG (dt_bw 3 (DW.dt (dw_and (zct (cd_neA (hu64 hr)) (zac 6) (zac 7) (zbg _)) (dw_and1 (zct (cd_ninX (hu66 hr)) (zb5 (zaa (zac 6) (zaa (zac 7) zae))) (DO.de (zb4 rfl (CompScope.of rfl rfl) (FvOk.of (N' := ["_law_link"]) (fv := [none]) rfl) (za1 (zac 3)) ⟨fun _ _ _ _ _ => ⟨(zau 0 (show (["_law_link"] : List Str).Nodup by decide +kernel)), zaM, (zbR (zac 0) zcx (zcw zad))⟩⟩)) (by rfl)))))) (zan (zbt 3 (zb5 (zaa (zac 6) (zaa (zac 7) (zaa (zaz (bd_min rfl) rfl B.z_min (by rfl) (zaa (zac 2) (zaa (zar (zac 4) (za8 zad (de_mul zad (zac 5)))) zae))) zae)))))) zaK))))) (zcL 3 (zan (zax (zac 3)))))))
noncomputable def G__law_stocks (zah : List D -> Option D) (zaq : List D -> Option D) : List D -> Option D := zbO 6
    (zaE (zbp 2 (cF zah (zab (vSh 0) (zab (vC (.int 9)) (zab (za3 (szF (zab (vC (.int 3)) (zab (vC (.int 4)) (zab (vC (.int 5)) (zab (vC (.int 8)) (zab (vC (.int 8)) (zab (vC (.int 4)) (zab (vC (.int 4)) zak))))))))) zak))))) (zaE (sOwn 3 (szF zak)) (zaE (sFor (itR rng1 (zab (b2 ixD (vSh 2) (vC (.int 0))) zak)) (zaP 4) (zaE (zbp 5 (b2 zbo (b2 ixD (vSh 2) (vC (.int 1))) (b2 ixD (vSh 2) (vC (.int 2))))) (zaE (zbp 6 (za3 (zaO (itE (vSh 1)) (zcs 2 (zaG (zaP 0) (zaG (zaP 1) zcr))) (toB (b2 eqD (b2 zcj (b2 fdivD (b2 zbo (b2 ixD (vSh 2) (vC (.int 3))) (vSh 3)) (b2 ixD (za3 (szF (zab (vC (.int 1)) (zab (vC (.int 2)) (zab (vC (.int 4)) zak))))) (b2 zcj (vSh 0) (vC (.int 3))))) (vC (.int 2))) (vC (.int 1)))) (zce (szF (zab (b2 ixD (vSh 1) (vC (.int 0))) (zab (b2 zbo (vC (.int 1)) (b2 ixD (vSh 2) (vC (.int 5)))) zak)))) [none, none, some 2, some 4]))) (zaE (zbp 7 (za3 (zaO (itE (vSh 1)) (zcs 2 (zaG (zaP 0) (zaG (zaP 1) zcr))) (toB (b2 eqD (b2 zcj (b2 fdivD (b2 zbo (b2 ixD (vSh 2) (vC (.int 4))) (vSh 3)) (b2 ixD (za3 (szF (zab (vC (.int 1)) (zab (vC (.int 2)) (zab (vC (.int 4)) zak))))) (b2 zcj (vSh 0) (vC (.int 3))))) (vC (.int 2))) (vC (.int 1)))) (zce (szF (zab (b2 ixD (vSh 1) (vC (.int 0))) (zab (b2 zbo (vC (.int 1)) (b2 ixD (vSh 2) (vC (.int 6)))) zak)))) [none, none, some 2, some 4]))) (sApp 3 (zce (szF (zab (cF zaq (zab (b2 zbo (vC (.int 80)) (vSh 4)) zak)) (zab (b2 ixD (vSh 2) (vC (.int 1))) (zab (vSh 5) (zab (vSh 6) (zab (vSh 7) zak)))))))))))) (sFrz 3 (zba (vSh 3))))))
theorem zbm : FnScope ["_law_cell_here", "_law_steps_here", "_law_row", "_law_found", "_law_k", "_law_room", "_law_takes", "_law_puts"] ["_law_cell_here", "_law_steps_here"] (zai zdq) := ⟨rfl, rfl, rfl, by decide +kernel, rfl, by decide +kernel, by decide +kernel⟩
theorem cal__law_stocks {zah : List D -> Option D} {zaq : List D -> Option D} (F : Dfn K mg "_law_stocks" zdq) (B : Bn mg) (c__law_digits : Cal Γ P w K mg base "_law_digits" 3 1 zah) (c__law_name : Cal Γ P w K mg base "_law_name" 1 1 zaq) : Cal Γ P w K mg base "_law_stocks" 2 2 (G__law_stocks zah zaq) :=
  F.cal (k := 1) zbm (fun _ _ _ _ _ _ us hl => match us, hl with | [_, _], _ => rfl) fun f cdv A outer s H E hr =>
    (zaf (zaS 2 zbm.nd (zap c__law_digits hr (by decide) rfl (zaa (zac 0) (zaa zad (zaa (DO.de (zbv (zaa zad (zaa zad (zaa zad (zaa zad (zaa zad (zaa zad (zaa zad zae))))))))) zae))) ln3)) (zaf (zc0 3 zbm.nd (zbv zae)) (zaf (zcO PassesOwn.never rfl (zdi rfl B.z_range (zaa (zar (zac 2) zad) zae)) (zau 4 zbm.nd) (zaf (zaS 5 zbm.nd (za8 (zar (zac 2) zad) (zar (zac 2) zad))) (zaf (ds_lc 6 zbm.nd rfl (CompScope.of rfl rfl) (FvOk.of (N' := ["_law_j", "_law_step", "_law_row", "_law_k"]) (fv := [none, none, some 2, some 4]) rfl) (zdw rfl B.z_enumerate (zac 1)) ⟨fun _ _ _ _ _ => ⟨(dg_tup (n := 2) rfl (zaY (zau 0 (show (["_law_j", "_law_step", "_law_row", "_law_k"] : List Str).Nodup by decide +kernel)) (zaY (zau 1 (show (["_law_j", "_law_step", "_law_row", "_law_k"] : List Str).Nodup by decide +kernel)) zcW))), (dts_one (zct cd_eq (zbJ (de_fdiv (za8 (zar (zac 2) zad) (zac 3)) (zar (DO.de (zbv (zaa zad (zaa zad (zaa zad zae))))) (zbJ (zac 0) zad))) zad) zad (zbg _))), (zb5 (zaa (zar (zac 1) zad) (zaa (za8 zad (zar (zac 2) zad)) zae)))⟩⟩) (zaf (ds_lc 7 zbm.nd rfl (CompScope.of rfl rfl) (FvOk.of (N' := ["_law_j", "_law_step", "_law_row", "_law_k"]) (fv := [none, none, some 2, some 4]) rfl) (zdw rfl B.z_enumerate (zac 1)) ⟨fun _ _ _ _ _ => ⟨(dg_tup (n := 2) rfl (zaY (zau 0 (show (["_law_j", "_law_step", "_law_row", "_law_k"] : List Str).Nodup by decide +kernel)) (zaY (zau 1 (show (["_law_j", "_law_step", "_law_row", "_law_k"] : List Str).Nodup by decide +kernel)) zcW))), (dts_one (zct cd_eq (zbJ (de_fdiv (za8 (zar (zac 2) zad) (zac 3)) (zar (DO.de (zbv (zaa zad (zaa zad (zaa zad zae))))) (zbJ (zac 0) zad))) zad) zad (zbg _))), (zb5 (zaa (zar (zac 1) zad) (zaa (za8 zad (zar (zac 2) zad)) zae)))⟩⟩) (zan (zbt 3 (zb5 (zaa (zap c__law_name hr (by decide) rfl (zaa (za8 zad (zac 4)) zae) ln1) (zaa (zar (zac 2) zad) (zaa (zac 5) (zaa (zac 6) (zaa (zac 7) zae)))))))))))) (zcL 3 (zan (zax (zac 3)))))))
noncomputable def G__law_lists (zay : List D -> Option D) (zbd : List D -> Option D) (zbz : List D -> Option D) (zbN : List D -> Option D) (zbk : List D -> Option D) (zbB : List D -> Option D) (zbi : List D -> Option D) : List D -> Option D := zbO 6
    (zaE (zbp 4 (cF zbd (zab (za3 (zaO (itR rng1 (zab (b2 zbo (vC (.int 1)) (b2 zcj (cF zay (zab (vSh 0) (zab (vC (.int 0)) zak))) (vC (.int 3)))) zak)) (zaP 0) tT (cF zay (zab (vSh 1) (zab (b2 zbo (vC (.int 1)) (vSh 0)) zak))) [none, some 0])) (zab (vSh 2) zak)))) (zaE (zbp 5 (cF zbz (zab (za3 (zaO (itR rng1 (zab (vSh 1) zak)) (zaP 0) tT (cF zay (zab (vSh 1) (zab (b2 zbo (vC (.int 4)) (vSh 0)) zak))) [none, some 0])) (zab (vSh 4) (zab (vSh 2) (zab (vSh 3) zak)))))) (zaE (zbp 6 (cF zbN (zab (za3 (zaO (itR rng1 (zab (vC (.int 3)) zak)) (zaP 0) tT (cF zay (zab (vSh 1) (zab (b2 zbo (vC (.int 14)) (vSh 0)) zak))) [none, some 0])) (zab (vSh 5) (zab (vSh 2) zak))))) (zaE (zbp 7 (cF zbk (zab (cF zay (zab (vSh 0) (zab (vC (.int 17)) zak))) (zab (vSh 4) (zab (vSh 2) zak))))) (zaE (zbp 8 (cF zbB (zab (cF zay (zab (vSh 0) (zab (vC (.int 18)) zak))) (zab (vSh 5) (zab (vSh 2) zak))))) (zaE (zbp 9 (cF zbi (zab (cF zay (zab (vSh 0) (zab (vC (.int 19)) zak))) (zab (vSh 5) zak)))) (zba (za3 (szF (zab (vSh 4) (zab (vSh 5) (zab (vSh 6) (zab (vSh 7) (zab (vSh 8) (zab (vSh 9) (zab (vSh 2) zak))))))))))))))))
theorem zbC : FnScope ["_law_script", "_law_many", "_law_horizon", "_law_longest", "_law_benches_here", "_law_steps_here", "_law_jobs_here", "_law_setups_here", "_law_links_here", "_law_stocks_here"] ["_law_script", "_law_many", "_law_horizon", "_law_longest"] (zai s__law_lists) := ⟨rfl, rfl, rfl, by decide +kernel, rfl, by decide +kernel, by decide +kernel⟩
theorem cal__law_lists {zay : List D -> Option D} {zbd : List D -> Option D} {zbz : List D -> Option D} {zbN : List D -> Option D} {zbk : List D -> Option D} {zbB : List D -> Option D} {zbi : List D -> Option D} (F : Dfn K mg "_law_lists" s__law_lists) (B : Bn mg) (c__law_cell : Cal Γ P w K mg base "_law_cell" 2 1 zay) (c__law_benches : Cal Γ P w K mg base "_law_benches" 2 2 zbd) (c__law_steps : Cal Γ P w K mg base "_law_steps" 4 2 zbz) (c__law_jobs : Cal Γ P w K mg base "_law_jobs" 3 2 zbN) (c__law_setups : Cal Γ P w K mg base "_law_setups" 3 2 zbk) (c__law_links : Cal Γ P w K mg base "_law_links" 3 2 zbB) (c__law_stocks : Cal Γ P w K mg base "_law_stocks" 2 2 zbi) : Cal Γ P w K mg base "_law_lists" 4 3 (G__law_lists zay zbd zbz zbN zbk zbB zbi) :=
  F.cal (k := 2) zbC (fun _ _ _ _ _ _ us hl => match us, hl with | [_, _, _, _], _ => rfl) fun f cdv A outer s H E hr =>
    (zaf (zaS 4 zbC.nd (zap c__law_benches hr (by decide) rfl (zaa (DO.de (zb4 rfl (CompScope.of rfl rfl) (FvOk.of (N' := ["_law_k", "_law_script"]) (fv := [none, some 0]) rfl) (zdi rfl B.z_range (zaa (za8 zad (zbJ (zap c__law_cell hr (by decide) rfl (zaa (zac 0) (zaa zad zae)) ln2) zad)) zae)) ⟨fun _ _ _ _ _ => ⟨(zau 0 (show (["_law_k", "_law_script"] : List Str).Nodup by decide +kernel)), zaM, (zap c__law_cell hr (by decide) rfl (zaa (zac 1) (zaa (za8 zad (zac 0)) zae)) ln2)⟩⟩)) (zaa (zac 2) zae)) ln2)) (zaf (zaS 5 zbC.nd (zap c__law_steps hr (by decide) rfl (zaa (DO.de (zb4 rfl (CompScope.of rfl rfl) (FvOk.of (N' := ["_law_k", "_law_script"]) (fv := [none, some 0]) rfl) (zdi rfl B.z_range (zaa (zac 1) zae)) ⟨fun _ _ _ _ _ => ⟨(zau 0 (show (["_law_k", "_law_script"] : List Str).Nodup by decide +kernel)), zaM, (zap c__law_cell hr (by decide) rfl (zaa (zac 1) (zaa (za8 zad (zac 0)) zae)) ln2)⟩⟩)) (zaa (zac 4) (zaa (zac 2) (zaa (zac 3) zae)))) ln4)) (zaf (zaS 6 zbC.nd (zap c__law_jobs hr (by decide) rfl (zaa (DO.de (zb4 rfl (CompScope.of rfl rfl) (FvOk.of (N' := ["_law_k", "_law_script"]) (fv := [none, some 0]) rfl) (zdi rfl B.z_range (zaa zad zae)) ⟨fun _ _ _ _ _ => ⟨(zau 0 (show (["_law_k", "_law_script"] : List Str).Nodup by decide +kernel)), zaM, (zap c__law_cell hr (by decide) rfl (zaa (zac 1) (zaa (za8 zad (zac 0)) zae)) ln2)⟩⟩)) (zaa (zac 5) (zaa (zac 2) zae))) ln3)) (zaf (zaS 7 zbC.nd (zap c__law_setups hr (by decide) rfl (zaa (zap c__law_cell hr (by decide) rfl (zaa (zac 0) (zaa zad zae)) ln2) (zaa (zac 4) (zaa (zac 2) zae))) ln3)) (zaf (zaS 8 zbC.nd (zap c__law_links hr (by decide) rfl (zaa (zap c__law_cell hr (by decide) rfl (zaa (zac 0) (zaa zad zae)) ln2) (zaa (zac 5) (zaa (zac 2) zae))) ln3)) (zaf (zaS 9 zbC.nd (zap c__law_stocks hr (by decide) rfl (zaa (zap c__law_cell hr (by decide) rfl (zaa (zac 0) (zaa zad zae)) ln2) (zaa (zac 5) zae)) ln2)) (zan (zax (DO.de (zbv (zaa (zac 4) (zaa (zac 5) (zaa (zac 6) (zaa (zac 7) (zaa (zac 8) (zaa (zac 9) (zaa (zac 2) zae)))))))))))))))))
noncomputable def G_is_whole : List D -> Option D := zbO 0
    (zba (zcZ (cF isiD (zab (vSh 0) (zab (vC (.ty "int")) zak))) (notD (cF isiD (zab (vSh 0) (zab (vC (.ty "bool")) zak))))))
theorem sc_is_whole : FnScope ["thing"] ["thing"] (zai s_is_whole) := ⟨rfl, rfl, rfl, by decide +kernel, rfl, by decide +kernel, by decide +kernel⟩
theorem cal_is_whole (F : Dfn K mg "is_whole" s_is_whole) (B : Bn mg)  : Cal Γ P w K mg base "is_whole" 1 1 (G_is_whole) :=
  F.cal (k := 0) sc_is_whole (fun _ _ _ _ _ _ us hl => match us, hl with | [_], _ => rfl) fun f cdv A outer s H E hr =>
    (zan (zax (zbZ (zaz bd_isi rfl B.z_isinstance (by rfl) (zaa (zac 0) (zaa (de_ty rfl B.z_int (by rfl)) zae))) (zcP (de_not (zaz bd_isi rfl B.z_isinstance (by rfl) (zaa (zac 0) (zaa (de_ty rfl B.z_bool (by rfl)) zae))))))))
noncomputable def G_is_within (zbS : List D -> Option D) : List D -> Option D := zbO 0
    (zba (zcZ (cF zbS (zab (vSh 0) zak)) (chD leD leD (vSh 1) (vSh 0) (vSh 2))))
theorem sc_is_within : FnScope ["thing", "least", "most"] ["thing", "least", "most"] (zai s_is_within) := ⟨rfl, rfl, rfl, by decide +kernel, rfl, by decide +kernel, by decide +kernel⟩
theorem cal_is_within {zbS : List D -> Option D} (F : Dfn K mg "is_within" s_is_within) (B : Bn mg) (c_is_whole : Cal Γ P w K mg base "is_whole" 1 1 zbS) : Cal Γ P w K mg base "is_within" 3 2 (G_is_within zbS) :=
  F.cal (k := 1) sc_is_within (fun _ _ _ _ _ _ us hl => match us, hl with | [_, _, _], _ => rfl) fun f cdv A outer s H E hr =>
    (zan (zax (zbZ (zap c_is_whole hr (by decide) rfl (zaa (zac 0) zae) ln1) (zcP (de_chain cd_le cd_le (zac 1) (zac 0) (zac 2))))))
noncomputable def G_is_tuple : List D -> Option D := zbO 0
    (zba (zcZ (cF isiD (zab (vSh 0) (zab (vC (.ty "tuple")) zak))) (b2 eqD (cF zcU (zab (vSh 0) zak)) (vSh 1))))
theorem sc_is_tuple : FnScope ["thing", "many"] ["thing", "many"] (zai s_is_tuple) := ⟨rfl, rfl, rfl, by decide +kernel, rfl, by decide +kernel, by decide +kernel⟩
theorem cal_is_tuple (F : Dfn K mg "is_tuple" s_is_tuple) (B : Bn mg)  : Cal Γ P w K mg base "is_tuple" 2 1 (G_is_tuple) :=
  F.cal (k := 0) sc_is_tuple (fun _ _ _ _ _ _ us hl => match us, hl with | [_, _], _ => rfl) fun f cdv A outer s H E hr =>
    (zan (zax (zbZ (zaz bd_isi rfl B.z_isinstance (by rfl) (zaa (zac 0) (zaa (de_ty rfl B.z_tuple (by rfl)) zae))) (zcP (zcD cd_eq (zaz zcE rfl B.z_len (by rfl) (zaa (zac 0) zae)) (zac 1) (zbg _))))))
noncomputable def G_is_break (zal : List D -> Option D) (zam : List D -> Option D) : List D -> Option D := zbO 0
    (zaE (sIf (orT (zbX (toB (cF zam (zab (vSh 0) (zab (vC (.int 2)) zak))))) (orT (zbX (toB (cF zal (zab (b2 ixD (vSh 0) (vC (.int 0))) (zab (vC (.int 0)) (zab (vSh 1) zak)))))) (zbX (toB (cF zal (zab (b2 ixD (vSh 0) (vC (.int 1))) (zab (vC (.int 0)) (zab (vSh 1) zak)))))))) (zba (vC (.bl false))) zci) (zba (b2 ltD (b2 ixD (vSh 0) (vC (.int 0))) (b2 ixD (vSh 0) (vC (.int 1))))))
theorem sc_is_break : FnScope ["row", "horizon"] ["row", "horizon"] (zai s_is_break) := ⟨rfl, rfl, rfl, by decide +kernel, rfl, by decide +kernel, by decide +kernel⟩
theorem cal_is_break {zal : List D -> Option D} {zam : List D -> Option D} (F : Dfn K mg "is_break" s_is_break) (B : Bn mg) (c_is_within : Cal Γ P w K mg base "is_within" 3 2 zal) (c_is_tuple : Cal Γ P w K mg base "is_tuple" 2 1 zam) : Cal Γ P w K mg base "is_break" 2 3 (G_is_break zal zam) :=
  F.cal (k := 2) sc_is_break (fun _ _ _ _ _ _ us hl => match us, hl with | [_, _], _ => rfl) fun f cdv A outer s H E hr =>
    (zaf (zbG (DW.dt (zcC (zaL (zaI (zap c_is_tuple hr (by decide) rfl (zaa (zac 0) (zaa zad zae)) ln2))) (zcC (zaL (zaI (zap c_is_within hr (by decide) rfl (zaa (zar (zac 0) zad) (zaa zad (zaa (zac 1) zae))) ln3))) (zbY (zaL (zaI (zap c_is_within hr (by decide) rfl (zaa (zar (zac 0) zad) (zaa zad (zaa (zac 1) zae))) ln3))))))) (zan (zax zdl)) zaK) (zan (zax (zcD cd_lt (zar (zac 0) zad) (zar (zac 0) zad) (zbg _)))))
noncomputable def G_is_list : List D -> Option D := zbO 0
    (zba (zcZ (cF isiD (zab (vSh 0) (zab (vC (.ty "list")) zak))) (chD leD leD (vSh 1) (cF zcU (zab (vSh 0) zak)) (vSh 2))))
theorem sc_is_list : FnScope ["thing", "least", "most"] ["thing", "least", "most"] (zai s_is_list) := ⟨rfl, rfl, rfl, by decide +kernel, rfl, by decide +kernel, by decide +kernel⟩
theorem cal_is_list (F : Dfn K mg "is_list" s_is_list) (B : Bn mg)  : Cal Γ P w K mg base "is_list" 3 1 (G_is_list) :=
  F.cal (k := 0) sc_is_list (fun _ _ _ _ _ _ us hl => match us, hl with | [_, _, _], _ => rfl) fun f cdv A outer s H E hr =>
    (zan (zax (zbZ (zaz bd_isi rfl B.z_isinstance (by rfl) (zaa (zac 0) (zaa (de_ty rfl B.z_list (by rfl)) zae))) (zcP (de_chain cd_le cd_le (zac 1) (zaz zcE rfl B.z_len (by rfl) (zaa (zac 0) zae)) (zac 2))))))
noncomputable def G_are_breaks (zbV : List D -> Option D) (zao : List D -> Option D) : List D -> Option D := zbO 0
    (zaE (sIf (orT (zbX (toB (cF zao (zab (vSh 0) (zab (vC (.int 0)) (zab (vC (.int 10)) zak)))))) (zbX (toB (cF allD (zab (za3 (zaO (itF (vSh 0)) (zaP 0) tT (cF zbV (zab (vSh 0) (zab (vSh 1) zak))) [none, some 1])) zak))))) (zba (vC (.bl false))) zci) (zba (cF allD (zab (za3 (zaO (itR rng2 (zab (vC (.int 1)) (zab (cF zcU (zab (vSh 0) zak)) zak))) (zaP 0) tT (b2 ltD (b2 ixD (b2 ixD (vSh 1) (b2 subD (vSh 0) (vC (.int 1)))) (vC (.int 1))) (b2 ixD (b2 ixD (vSh 1) (vSh 0)) (vC (.int 0)))) [none, some 0])) zak))))
theorem sc_are_breaks : FnScope ["breaks", "horizon"] ["breaks", "horizon"] (zai s_are_breaks) := ⟨rfl, rfl, rfl, by decide +kernel, rfl, by decide +kernel, by decide +kernel⟩
theorem cal_are_breaks {zbV : List D -> Option D} {zao : List D -> Option D} (F : Dfn K mg "are_breaks" s_are_breaks) (B : Bn mg) (c_is_break : Cal Γ P w K mg base "is_break" 2 3 zbV) (c_is_list : Cal Γ P w K mg base "is_list" 3 1 zao) : Cal Γ P w K mg base "are_breaks" 2 4 (G_are_breaks zbV zao) :=
  F.cal (k := 3) sc_are_breaks (fun _ _ _ _ _ _ us hl => match us, hl with | [_, _], _ => rfl) fun f cdv A outer s H E hr =>
    (zaf (zbG (DW.dt (zcC (zaL (zaI (zap c_is_list hr (by decide) rfl (zaa (zac 0) (zaa zad (zaa (zb7 rfl B.c_MOST_BREAKS) zae))) ln3))) (zbY (zaL (zaI (zaz (zdx rfl) rfl B.z_all (by rfl) (zaa (DO.de (zb4 rfl (CompScope.of rfl rfl) (FvOk.of (N' := ["row", "horizon"]) (fv := [none, some 1]) rfl) (za1 (zac 0)) ⟨fun _ _ _ _ _ => ⟨(zau 0 (show (["row", "horizon"] : List Str).Nodup by decide +kernel)), zaM, (zap c_is_break hr (by decide) rfl (zaa (zac 0) (zaa (zac 1) zae)) ln2)⟩⟩)) zae))))))) (zan (zax zdl)) zaK) (zan (zax (zaz (zdx rfl) rfl B.z_all (by rfl) (zaa (DO.de (zb4 rfl (CompScope.of rfl rfl) (FvOk.of (N' := ["place", "breaks"]) (fv := [none, some 0]) rfl) (di_range2 rfl B.z_range (zaa zad (zaa (zaz zcE rfl B.z_len (by rfl) (zaa (zac 0) zae)) zae))) ⟨fun _ _ _ _ _ => ⟨(zau 0 (show (["place", "breaks"] : List Str).Nodup by decide +kernel)), zaM, (zcD cd_lt (zar (zar (zac 1) (de_sub (zac 0) zad)) zad) (zar (zar (zac 1) (zac 0)) zad) (zbg _))⟩⟩)) zae)))))
noncomputable def G_is_name : List D -> Option D := zbO 0
    (zaE (sIf (orT (zbX (toB (cF isiD (zab (vSh 0) (zab (vC (.ty "str")) zak))))) (zbX (toB (chD leD leD (vC (.int 1)) (cF zcU (zab (vSh 0) zak)) (vC (.int 8)))))) (zba (vC (.bl false))) zci) (zba (cF allD (zab (za3 (zaO (itS (vSh 0)) (zaP 0) tT (chD leD leD (vC (.str "a")) (vSh 0) (vC (.str "z"))) [none])) zak))))
theorem sc_is_name : FnScope ["thing"] ["thing"] (zai s_is_name) := ⟨rfl, rfl, rfl, by decide +kernel, rfl, by decide +kernel, by decide +kernel⟩
theorem cal_is_name (F : Dfn K mg "is_name" s_is_name) (B : Bn mg)  : Cal Γ P w K mg base "is_name" 1 1 (G_is_name) :=
  F.cal (k := 0) sc_is_name (fun _ _ _ _ _ _ us hl => match us, hl with | [_], _ => rfl) fun f cdv A outer s H E hr =>
    (zaf (zbG (DW.dt (zcC (zaL (zaI (zaz bd_isi rfl B.z_isinstance (by rfl) (zaa (zac 0) (zaa (de_ty rfl B.z_str (by rfl)) zae))))) (zbY (zaL (dt_chain cd_le cd_le zad (zaz zcE rfl B.z_len (by rfl) (zaa (zac 0) zae)) (zb7 rfl B.c_LONGEST_NAME)))))) (zan (zax zdl)) zaK) (zan (zax (zaz (zdx rfl) rfl B.z_all (by rfl) (zaa (DO.de (zb4 rfl (CompScope.of rfl rfl) (FvOk.of (N' := ["sign"]) (fv := [none]) rfl) (di_str (zac 0)) ⟨fun _ _ _ _ _ => ⟨(zau 0 (show (["sign"] : List Str).Nodup by decide +kernel)), zaM, (de_chain cd_le cd_le zc1 (zac 0) zc1)⟩⟩)) zae)))))
noncomputable def G_is_bench (zby : List D -> Option D) (zav : List D -> Option D) (zam : List D -> Option D) : List D -> Option D := zbO 0
    (zba (zcZ (cF zam (zab (vSh 0) (zab (vC (.int 2)) zak))) (zcZ (cF zav (zab (b2 ixD (vSh 0) (vC (.int 0))) zak)) (cF zby (zab (b2 ixD (vSh 0) (vC (.int 1))) (zab (vSh 1) zak))))))
theorem sc_is_bench : FnScope ["row", "horizon"] ["row", "horizon"] (zai s_is_bench) := ⟨rfl, rfl, rfl, by decide +kernel, rfl, by decide +kernel, by decide +kernel⟩
theorem cal_is_bench {zby : List D -> Option D} {zav : List D -> Option D} {zam : List D -> Option D} (F : Dfn K mg "is_bench" s_is_bench) (B : Bn mg) (c_are_breaks : Cal Γ P w K mg base "are_breaks" 2 4 zby) (c_is_name : Cal Γ P w K mg base "is_name" 1 1 zav) (c_is_tuple : Cal Γ P w K mg base "is_tuple" 2 1 zam) : Cal Γ P w K mg base "is_bench" 2 5 (G_is_bench zby zav zam) :=
  F.cal (k := 4) sc_is_bench (fun _ _ _ _ _ _ us hl => match us, hl with | [_, _], _ => rfl) fun f cdv A outer s H E hr =>
    (zan (zax (zbZ (zap c_is_tuple hr (by decide) rfl (zaa (zac 0) (zaa zad zae)) ln2) (zbZ (zap c_is_name hr (by decide) rfl (zaa (zar (zac 0) zad) zae) ln1) (zcP (zap c_are_breaks hr (by decide) rfl (zaa (zar (zac 0) zad) (zaa (zac 1) zae)) ln2))))))
noncomputable def zcG : List D -> Option D := zbO 0
    (zba (b2 eqD (b1 lensetD (vSh 0)) (cF zcU (zab (vSh 0) zak))))
theorem sc_are_unlike : FnScope ["things"] ["things"] (zai s_are_unlike) := ⟨rfl, rfl, rfl, by decide +kernel, rfl, by decide +kernel, by decide +kernel⟩
theorem cal_are_unlike (F : Dfn K mg "are_unlike" s_are_unlike) (B : Bn mg)  : Cal Γ P w K mg base "are_unlike" 1 1 (zcG) :=
  F.cal (k := 0) sc_are_unlike (fun _ _ _ _ _ _ us hl => match us, hl with | [_], _ => rfl) fun f cdv A outer s H E hr =>
    (zan (zax (zcD cd_eq (de_lenset rfl (hu66 hr) rfl B.z_len rfl B.z_set (zac 0)) (zaz zcE rfl B.z_len (by rfl) (zaa (zac 0) zae)) (zbg _))))
noncomputable def G_are_benches (zbW : List D -> Option D) (zao : List D -> Option D) (zag : List D -> Option D) : List D -> Option D := zbO 0
    (zaE (sIf (orT (zbX (toB (cF zao (zab (vSh 0) (zab (vC (.int 1)) (zab (vC (.int 8)) zak)))))) (zbX (toB (cF allD (zab (za3 (zaO (itF (vSh 0)) (zaP 0) tT (cF zbW (zab (vSh 0) (zab (vSh 1) zak))) [none, some 1])) zak))))) (zba (vC (.bl false))) zci) (zba (cF zag (zab (za3 (zaO (itF (vSh 0)) (zaP 0) tT (b2 ixD (vSh 0) (vC (.int 0))) [none])) zak))))
theorem sc_are_benches : FnScope ["benches", "horizon"] ["benches", "horizon"] (zai zdo) := ⟨rfl, rfl, rfl, by decide +kernel, rfl, by decide +kernel, by decide +kernel⟩
theorem cal_are_benches {zbW : List D -> Option D} {zao : List D -> Option D} {zag : List D -> Option D} (F : Dfn K mg "are_benches" zdo) (B : Bn mg) (c_is_bench : Cal Γ P w K mg base "is_bench" 2 5 zbW) (c_is_list : Cal Γ P w K mg base "is_list" 3 1 zao) (c_are_unlike : Cal Γ P w K mg base "are_unlike" 1 1 zag) : Cal Γ P w K mg base "are_benches" 2 6 (G_are_benches zbW zao zag) :=
  F.cal (k := 5) sc_are_benches (fun _ _ _ _ _ _ us hl => match us, hl with | [_, _], _ => rfl) fun f cdv A outer s H E hr =>
    (zaf (zbG (DW.dt (zcC (zaL (zaI (zap c_is_list hr (by decide) rfl (zaa (zac 0) (zaa zad (zaa (zb7 rfl B.c_MOST_BENCHES) zae))) ln3))) (zbY (zaL (zaI (zaz (zdx rfl) rfl B.z_all (by rfl) (zaa (DO.de (zb4 rfl (CompScope.of rfl rfl) (FvOk.of (N' := ["row", "horizon"]) (fv := [none, some 1]) rfl) (za1 (zac 0)) ⟨fun _ _ _ _ _ => ⟨(zau 0 (show (["row", "horizon"] : List Str).Nodup by decide +kernel)), zaM, (zap c_is_bench hr (by decide) rfl (zaa (zac 0) (zaa (zac 1) zae)) ln2)⟩⟩)) zae))))))) (zan (zax zdl)) zaK) (zan (zax (zap c_are_unlike hr (by decide) rfl (zaa (DO.de (zb4 rfl (CompScope.of rfl rfl) (FvOk.of (N' := ["row"]) (fv := [none]) rfl) (za1 (zac 0)) ⟨fun _ _ _ _ _ => ⟨(zau 0 (show (["row"] : List Str).Nodup by decide +kernel)), zaM, (zar (zac 0) zad)⟩⟩)) zae) ln1))))
noncomputable def G_is_one_of (zav : List D -> Option D) : List D -> Option D := zbO 0
    (zba (zcZ (cF zav (zab (vSh 0) zak)) (b2 inXD (vSh 0) (vSh 1))))
theorem sc_is_one_of : FnScope ["thing", "names"] ["thing", "names"] (zai s_is_one_of) := ⟨rfl, rfl, rfl, by decide +kernel, rfl, by decide +kernel, by decide +kernel⟩
theorem cal_is_one_of {zav : List D -> Option D} (F : Dfn K mg "is_one_of" s_is_one_of) (B : Bn mg) (c_is_name : Cal Γ P w K mg base "is_name" 1 1 zav) : Cal Γ P w K mg base "is_one_of" 2 2 (G_is_one_of zav) :=
  F.cal (k := 1) sc_is_one_of (fun _ _ _ _ _ _ us hl => match us, hl with | [_, _], _ => rfl) fun f cdv A outer s H E hr =>
    (zan (zax (zbZ (zap c_is_name hr (by decide) rfl (zaa (zac 0) zae) ln1) (zcP (zcD (cd_inX (hu66 hr)) (zac 0) (zac 1) (by rfl))))))
noncomputable def G_is_way (zal : List D -> Option D) (zas : List D -> Option D) (zam : List D -> Option D) : List D -> Option D := zbO 0
    (zba (zcZ (cF zam (zab (vSh 0) (zab (vC (.int 2)) zak))) (zcZ (cF zas (zab (b2 ixD (vSh 0) (vC (.int 0))) (zab (vSh 1) zak))) (cF zal (zab (b2 ixD (vSh 0) (vC (.int 1))) (zab (vC (.int 1)) (zab (vSh 2) zak)))))))
theorem sc_is_way : FnScope ["row", "bench_names", "horizon"] ["row", "bench_names", "horizon"] (zai s_is_way) := ⟨rfl, rfl, rfl, by decide +kernel, rfl, by decide +kernel, by decide +kernel⟩
theorem cal_is_way {zal : List D -> Option D} {zas : List D -> Option D} {zam : List D -> Option D} (F : Dfn K mg "is_way" s_is_way) (B : Bn mg) (c_is_within : Cal Γ P w K mg base "is_within" 3 2 zal) (c_is_one_of : Cal Γ P w K mg base "is_one_of" 2 2 zas) (c_is_tuple : Cal Γ P w K mg base "is_tuple" 2 1 zam) : Cal Γ P w K mg base "is_way" 3 3 (G_is_way zal zas zam) :=
  F.cal (k := 2) sc_is_way (fun _ _ _ _ _ _ us hl => match us, hl with | [_, _, _], _ => rfl) fun f cdv A outer s H E hr =>
    (zan (zax (zbZ (zap c_is_tuple hr (by decide) rfl (zaa (zac 0) (zaa zad zae)) ln2) (zbZ (zap c_is_one_of hr (by decide) rfl (zaa (zar (zac 0) zad) (zaa (zac 1) zae)) ln2) (zcP (zap c_is_within hr (by decide) rfl (zaa (zar (zac 0) zad) (zaa zad (zaa (zac 2) zae))) ln3))))))
noncomputable def G_are_ways (zcT : List D -> Option D) (zao : List D -> Option D) (zag : List D -> Option D) : List D -> Option D := zbO 0
    (zaE (sIf (orT (zbX (toB (cF zao (zab (vSh 0) (zab (vC (.int 1)) (zab (vC (.int 4)) zak)))))) (zbX (toB (cF allD (zab (za3 (zaO (itF (vSh 0)) (zaP 0) tT (cF zcT (zab (vSh 0) (zab (vSh 1) (zab (vSh 2) zak)))) [none, some 1, some 2])) zak))))) (zba (vC (.bl false))) zci) (zba (cF zag (zab (za3 (zaO (itF (vSh 0)) (zaP 0) tT (b2 ixD (vSh 0) (vC (.int 0))) [none])) zak))))
theorem sc_are_ways : FnScope ["ways", "bench_names", "horizon"] ["ways", "bench_names", "horizon"] (zai s_are_ways) := ⟨rfl, rfl, rfl, by decide +kernel, rfl, by decide +kernel, by decide +kernel⟩
theorem cal_are_ways {zcT : List D -> Option D} {zao : List D -> Option D} {zag : List D -> Option D} (F : Dfn K mg "are_ways" s_are_ways) (B : Bn mg) (c_is_way : Cal Γ P w K mg base "is_way" 3 3 zcT) (c_is_list : Cal Γ P w K mg base "is_list" 3 1 zao) (c_are_unlike : Cal Γ P w K mg base "are_unlike" 1 1 zag) : Cal Γ P w K mg base "are_ways" 3 4 (G_are_ways zcT zao zag) :=
  F.cal (k := 3) sc_are_ways (fun _ _ _ _ _ _ us hl => match us, hl with | [_, _, _], _ => rfl) fun f cdv A outer s H E hr =>
    (zaf (zbG (DW.dt (zcC (zaL (zaI (zap c_is_list hr (by decide) rfl (zaa (zac 0) (zaa zad (zaa (zb7 rfl B.c_MOST_WAYS) zae))) ln3))) (zbY (zaL (zaI (zaz (zdx rfl) rfl B.z_all (by rfl) (zaa (DO.de (zb4 rfl (CompScope.of rfl rfl) (FvOk.of (N' := ["row", "bench_names", "horizon"]) (fv := [none, some 1, some 2]) rfl) (za1 (zac 0)) ⟨fun _ _ _ _ _ => ⟨(zau 0 (show (["row", "bench_names", "horizon"] : List Str).Nodup by decide +kernel)), zaM, (zap c_is_way hr (by decide) rfl (zaa (zac 0) (zaa (zac 1) (zaa (zac 2) zae))) ln3)⟩⟩)) zae))))))) (zan (zax zdl)) zaK) (zan (zax (zap c_are_unlike hr (by decide) rfl (zaa (DO.de (zb4 rfl (CompScope.of rfl rfl) (FvOk.of (N' := ["row"]) (fv := [none]) rfl) (za1 (zac 0)) ⟨fun _ _ _ _ _ => ⟨(zau 0 (show (["row"] : List Str).Nodup by decide +kernel)), zaM, (zar (zac 0) zad)⟩⟩)) zae) ln1))))
noncomputable def G_is_step (zav : List D -> Option D) (zam : List D -> Option D) (zcf : List D -> Option D) : List D -> Option D := zbO 0
    (zaE (sIf (orT (zbX (toB (cF zam (zab (vSh 0) (zab (vC (.int 3)) zak))))) (orT (zbX (toB (cF zav (zab (b2 ixD (vSh 0) (vC (.int 0))) zak)))) (zbX (toB (cF zav (zab (b2 ixD (vSh 0) (vC (.int 1))) zak)))))) (zba (vC (.bl false))) zci) (zba (cF zcf (zab (b2 ixD (vSh 0) (vC (.int 2))) (zab (vSh 1) (zab (vSh 2) zak))))))
theorem sc_is_step : FnScope ["row", "bench_names", "horizon"] ["row", "bench_names", "horizon"] (zai s_is_step) := ⟨rfl, rfl, rfl, by decide +kernel, rfl, by decide +kernel, by decide +kernel⟩
theorem cal_is_step {zav : List D -> Option D} {zam : List D -> Option D} {zcf : List D -> Option D} (F : Dfn K mg "is_step" s_is_step) (B : Bn mg) (c_is_name : Cal Γ P w K mg base "is_name" 1 1 zav) (c_is_tuple : Cal Γ P w K mg base "is_tuple" 2 1 zam) (c_are_ways : Cal Γ P w K mg base "are_ways" 3 4 zcf) : Cal Γ P w K mg base "is_step" 3 5 (G_is_step zav zam zcf) :=
  F.cal (k := 4) sc_is_step (fun _ _ _ _ _ _ us hl => match us, hl with | [_, _, _], _ => rfl) fun f cdv A outer s H E hr =>
    (zaf (zbG (DW.dt (zcC (zaL (zaI (zap c_is_tuple hr (by decide) rfl (zaa (zac 0) (zaa zad zae)) ln2))) (zcC (zaL (zaI (zap c_is_name hr (by decide) rfl (zaa (zar (zac 0) zad) zae) ln1))) (zbY (zaL (zaI (zap c_is_name hr (by decide) rfl (zaa (zar (zac 0) zad) zae) ln1))))))) (zan (zax zdl)) zaK) (zan (zax (zap c_are_ways hr (by decide) rfl (zaa (zar (zac 0) zad) (zaa (zac 1) (zaa (zac 2) zae))) ln3))))
noncomputable def G_are_steps (zcp : List D -> Option D) (zao : List D -> Option D) (zag : List D -> Option D) : List D -> Option D := zbO 0
    (zaE (sIf (orT (zbX (toB (cF zao (zab (vSh 0) (zab (vC (.int 1)) (zab (vC (.int 40)) zak)))))) (zbX (toB (cF allD (zab (za3 (zaO (itF (vSh 0)) (zaP 0) tT (cF zcp (zab (vSh 0) (zab (vSh 1) (zab (vSh 2) zak)))) [none, some 1, some 2])) zak))))) (zba (vC (.bl false))) zci) (zba (cF zag (zab (za3 (zaO (itF (vSh 0)) (zaP 0) tT (b2 ixD (vSh 0) (vC (.int 0))) [none])) zak))))
theorem sc_are_steps : FnScope ["steps", "bench_names", "horizon"] ["steps", "bench_names", "horizon"] (zai s_are_steps) := ⟨rfl, rfl, rfl, by decide +kernel, rfl, by decide +kernel, by decide +kernel⟩
theorem cal_are_steps {zcp : List D -> Option D} {zao : List D -> Option D} {zag : List D -> Option D} (F : Dfn K mg "are_steps" s_are_steps) (B : Bn mg) (c_is_step : Cal Γ P w K mg base "is_step" 3 5 zcp) (c_is_list : Cal Γ P w K mg base "is_list" 3 1 zao) (c_are_unlike : Cal Γ P w K mg base "are_unlike" 1 1 zag) : Cal Γ P w K mg base "are_steps" 3 6 (G_are_steps zcp zao zag) :=
  F.cal (k := 5) sc_are_steps (fun _ _ _ _ _ _ us hl => match us, hl with | [_, _, _], _ => rfl) fun f cdv A outer s H E hr =>
    (zaf (zbG (DW.dt (zcC (zaL (zaI (zap c_is_list hr (by decide) rfl (zaa (zac 0) (zaa zad (zaa (zb7 rfl B.c_MOST_STEPS) zae))) ln3))) (zbY (zaL (zaI (zaz (zdx rfl) rfl B.z_all (by rfl) (zaa (DO.de (zb4 rfl (CompScope.of rfl rfl) (FvOk.of (N' := ["row", "bench_names", "horizon"]) (fv := [none, some 1, some 2]) rfl) (za1 (zac 0)) ⟨fun _ _ _ _ _ => ⟨(zau 0 (show (["row", "bench_names", "horizon"] : List Str).Nodup by decide +kernel)), zaM, (zap c_is_step hr (by decide) rfl (zaa (zac 0) (zaa (zac 1) (zaa (zac 2) zae))) ln3)⟩⟩)) zae))))))) (zan (zax zdl)) zaK) (zan (zax (zap c_are_unlike hr (by decide) rfl (zaa (DO.de (zb4 rfl (CompScope.of rfl rfl) (FvOk.of (N' := ["row"]) (fv := [none]) rfl) (za1 (zac 0)) ⟨fun _ _ _ _ _ => ⟨(zau 0 (show (["row"] : List Str).Nodup by decide +kernel)), zaM, (zar (zac 0) zad)⟩⟩)) zae) ln1))))
noncomputable def G_is_job (zav : List D -> Option D) (zam : List D -> Option D) (zal : List D -> Option D) (zas : List D -> Option D) (zao : List D -> Option D) : List D -> Option D := zbO 0
    (zaE (sIf (orT (zbX (toB (cF zam (zab (vSh 0) (zab (vC (.int 5)) zak))))) (orT (zbX (toB (cF zav (zab (b2 ixD (vSh 0) (vC (.int 0))) zak)))) (zbX (toB (cF isiD (zab (b2 ixD (vSh 0) (vC (.int 3))) (zab (vC (.ty "bool")) zak))))))) (zba (vC (.bl false))) zci) (zaE (sIf (orT (zbX (toB (cF zal (zab (b2 ixD (vSh 0) (vC (.int 1))) (zab (vC (.int 0)) (zab (vSh 2) zak)))))) (zbX (toB (cF zal (zab (b2 ixD (vSh 0) (vC (.int 2))) (zab (vC (.int 0)) (zab (vSh 2) zak))))))) (zba (vC (.bl false))) zci) (zba (zcZ (cF zao (zab (b2 ixD (vSh 0) (vC (.int 4))) (zab (vC (.int 1)) (zab (cF zcU (zab (vSh 1) zak)) zak)))) (cF allD (zab (za3 (zaO (itF (b2 ixD (vSh 0) (vC (.int 4)))) (zaP 0) tT (cF zas (zab (vSh 0) (zab (vSh 1) zak))) [none, some 1])) zak))))))
theorem sc_is_job : FnScope ["row", "step_names", "horizon"] ["row", "step_names", "horizon"] (zai s_is_job) := ⟨rfl, rfl, rfl, by decide +kernel, rfl, by decide +kernel, by decide +kernel⟩
theorem cal_is_job {zav : List D -> Option D} {zam : List D -> Option D} {zal : List D -> Option D} {zas : List D -> Option D} {zao : List D -> Option D} (F : Dfn K mg "is_job" s_is_job) (B : Bn mg) (c_is_name : Cal Γ P w K mg base "is_name" 1 1 zav) (c_is_tuple : Cal Γ P w K mg base "is_tuple" 2 1 zam) (c_is_within : Cal Γ P w K mg base "is_within" 3 2 zal) (c_is_one_of : Cal Γ P w K mg base "is_one_of" 2 2 zas) (c_is_list : Cal Γ P w K mg base "is_list" 3 1 zao) : Cal Γ P w K mg base "is_job" 3 3 (G_is_job zav zam zal zas zao) :=
  F.cal (k := 2) sc_is_job (fun _ _ _ _ _ _ us hl => match us, hl with | [_, _, _], _ => rfl) fun f cdv A outer s H E hr =>
    (zaf (zbG (DW.dt (zcC (zaL (zaI (zap c_is_tuple hr (by decide) rfl (zaa (zac 0) (zaa zad zae)) ln2))) (zcC (zaL (zaI (zap c_is_name hr (by decide) rfl (zaa (zar (zac 0) zad) zae) ln1))) (zbY (zaL (zaI (zaz bd_isi rfl B.z_isinstance (by rfl) (zaa (zar (zac 0) zad) (zaa (de_ty rfl B.z_bool (by rfl)) zae))))))))) (zan (zax zdl)) zaK) (zaf (zbG (DW.dt (zcC (zaL (zaI (zap c_is_within hr (by decide) rfl (zaa (zar (zac 0) zad) (zaa zad (zaa (zac 2) zae))) ln3))) (zbY (zaL (zaI (zap c_is_within hr (by decide) rfl (zaa (zar (zac 0) zad) (zaa zad (zaa (zac 2) zae))) ln3)))))) (zan (zax zdl)) zaK) (zan (zax (zbZ (zap c_is_list hr (by decide) rfl (zaa (zar (zac 0) zad) (zaa zad (zaa (zaz zcE rfl B.z_len (by rfl) (zaa (zac 1) zae)) zae))) ln3) (zcP (zaz (zdx rfl) rfl B.z_all (by rfl) (zaa (DO.de (zb4 rfl (CompScope.of rfl rfl) (FvOk.of (N' := ["name", "step_names"]) (fv := [none, some 1]) rfl) (za1 (zar (zac 0) zad)) ⟨fun _ _ _ _ _ => ⟨(zau 0 (show (["name", "step_names"] : List Str).Nodup by decide +kernel)), zaM, (zap c_is_one_of hr (by decide) rfl (zaa (zac 0) (zaa (zac 1) zae)) ln2)⟩⟩)) zae))))))))
noncomputable def G_are_jobs (zc3 : List D -> Option D) (zao : List D -> Option D) (zag : List D -> Option D) : List D -> Option D := zbO 2
    (zaE (sIf (orT (zbX (toB (cF zao (zab (vSh 0) (zab (vC (.int 0)) (zab (vC (.int 40)) zak)))))) (zbX (toB (cF allD (zab (za3 (zaO (itF (vSh 0)) (zaP 0) tT (cF zc3 (zab (vSh 0) (zab (vSh 1) (zab (vSh 2) zak)))) [none, some 1, some 2])) zak))))) (zba (vC (.bl false))) zci) (zaE (sOwn 3 (szF zak)) (zaE (sFor (itF (vSh 0)) (zaP 4) (sExt 3 (b2 ixD (vSh 4) (vC (.int 4))))) (sFrz 3 (zba (zcZ (cF zag (zab (za3 (zaO (itF (vSh 0)) (zaP 0) tT (b2 ixD (vSh 0) (vC (.int 0))) [none])) zak)) (cF zag (zab (vSh 3) zak))))))))
theorem sc_are_jobs : FnScope ["jobs", "step_names", "horizon", "members", "row"] ["jobs", "step_names", "horizon"] (zai s_are_jobs) := ⟨rfl, rfl, rfl, by decide +kernel, rfl, by decide +kernel, by decide +kernel⟩
theorem cal_are_jobs {zc3 : List D -> Option D} {zao : List D -> Option D} {zag : List D -> Option D} (F : Dfn K mg "are_jobs" s_are_jobs) (B : Bn mg) (c_is_job : Cal Γ P w K mg base "is_job" 3 3 zc3) (c_is_list : Cal Γ P w K mg base "is_list" 3 1 zao) (c_are_unlike : Cal Γ P w K mg base "are_unlike" 1 1 zag) : Cal Γ P w K mg base "are_jobs" 3 4 (G_are_jobs zc3 zao zag) :=
  F.cal (k := 3) sc_are_jobs (fun _ _ _ _ _ _ us hl => match us, hl with | [_, _, _], _ => rfl) fun f cdv A outer s H E hr =>
    (zaf (zbG (DW.dt (zcC (zaL (zaI (zap c_is_list hr (by decide) rfl (zaa (zac 0) (zaa zad (zaa (zb7 rfl B.c_MOST_JOBS) zae))) ln3))) (zbY (zaL (zaI (zaz (zdx rfl) rfl B.z_all (by rfl) (zaa (DO.de (zb4 rfl (CompScope.of rfl rfl) (FvOk.of (N' := ["row", "step_names", "horizon"]) (fv := [none, some 1, some 2]) rfl) (za1 (zac 0)) ⟨fun _ _ _ _ _ => ⟨(zau 0 (show (["row", "step_names", "horizon"] : List Str).Nodup by decide +kernel)), zaM, (zap c_is_job hr (by decide) rfl (zaa (zac 0) (zaa (zac 1) (zaa (zac 2) zae))) ln3)⟩⟩)) zae))))))) (zan (zax zdl)) zaK) (zaf (zc0 3 sc_are_jobs.nd (zbv zae)) (zaf (zcO PassesOwn.never rfl (za1 (zac 0)) (zau 4 sc_are_jobs.nd) (zan (ds_extend 3 (zar (zac 4) zad)))) (zcL 3 (zan (zax (zbZ (zap c_are_unlike hr (by decide) rfl (zaa (DO.de (zb4 rfl (CompScope.of rfl rfl) (FvOk.of (N' := ["row"]) (fv := [none]) rfl) (za1 (zac 0)) ⟨fun _ _ _ _ _ => ⟨(zau 0 (show (["row"] : List Str).Nodup by decide +kernel)), zaM, (zar (zac 0) zad)⟩⟩)) zae) ln1) (zcP (zap c_are_unlike hr (by decide) rfl (zaa (zac 3) zae) ln1)))))))))
noncomputable def G_is_setup (zas : List D -> Option D) (zam : List D -> Option D) (zal : List D -> Option D) (zav : List D -> Option D) : List D -> Option D := zbO 0
    (zaE (sIf (orT (zbX (toB (cF zam (zab (vSh 0) (zab (vC (.int 4)) zak))))) (zbX (toB (cF zas (zab (b2 ixD (vSh 0) (vC (.int 0))) (zab (vSh 1) zak)))))) (zba (vC (.bl false))) zci) (zba (zcZ (cF zav (zab (b2 ixD (vSh 0) (vC (.int 1))) zak)) (zcZ (cF zav (zab (b2 ixD (vSh 0) (vC (.int 2))) zak)) (cF zal (zab (b2 ixD (vSh 0) (vC (.int 3))) (zab (vC (.int 1)) (zab (vSh 2) zak))))))))
theorem sc_is_setup : FnScope ["row", "bench_names", "horizon"] ["row", "bench_names", "horizon"] (zai s_is_setup) := ⟨rfl, rfl, rfl, by decide +kernel, rfl, by decide +kernel, by decide +kernel⟩
theorem cal_is_setup {zas : List D -> Option D} {zam : List D -> Option D} {zal : List D -> Option D} {zav : List D -> Option D} (F : Dfn K mg "is_setup" s_is_setup) (B : Bn mg) (c_is_one_of : Cal Γ P w K mg base "is_one_of" 2 2 zas) (c_is_tuple : Cal Γ P w K mg base "is_tuple" 2 1 zam) (c_is_within : Cal Γ P w K mg base "is_within" 3 2 zal) (c_is_name : Cal Γ P w K mg base "is_name" 1 1 zav) : Cal Γ P w K mg base "is_setup" 3 3 (G_is_setup zas zam zal zav) :=
  F.cal (k := 2) sc_is_setup (fun _ _ _ _ _ _ us hl => match us, hl with | [_, _, _], _ => rfl) fun f cdv A outer s H E hr =>
    (zaf (zbG (DW.dt (zcC (zaL (zaI (zap c_is_tuple hr (by decide) rfl (zaa (zac 0) (zaa zad zae)) ln2))) (zbY (zaL (zaI (zap c_is_one_of hr (by decide) rfl (zaa (zar (zac 0) zad) (zaa (zac 1) zae)) ln2)))))) (zan (zax zdl)) zaK) (zan (zax (zbZ (zap c_is_name hr (by decide) rfl (zaa (zar (zac 0) zad) zae) ln1) (zbZ (zap c_is_name hr (by decide) rfl (zaa (zar (zac 0) zad) zae) ln1) (zcP (zap c_is_within hr (by decide) rfl (zaa (zar (zac 0) zad) (zaa zad (zaa (zac 2) zae))) ln3)))))))
noncomputable def G_are_setups (zbU : List D -> Option D) (zao : List D -> Option D) (zag : List D -> Option D) : List D -> Option D := zbO 0
    (zaE (sIf (orT (zbX (toB (cF zao (zab (vSh 0) (zab (vC (.int 0)) (zab (vC (.int 100)) zak)))))) (zbX (toB (cF allD (zab (za3 (zaO (itF (vSh 0)) (zaP 0) tT (cF zbU (zab (vSh 0) (zab (vSh 1) (zab (vSh 2) zak)))) [none, some 1, some 2])) zak))))) (zba (vC (.bl false))) zci) (zba (cF zag (zab (za3 (zaO (itF (vSh 0)) (zaP 0) tT (slF (vSh 0) pN (pS (vC (.int 3)))) [none])) zak))))
theorem sc_are_setups : FnScope ["setups", "bench_names", "horizon"] ["setups", "bench_names", "horizon"] (zai s_are_setups) := ⟨rfl, rfl, rfl, by decide +kernel, rfl, by decide +kernel, by decide +kernel⟩
theorem cal_are_setups {zbU : List D -> Option D} {zao : List D -> Option D} {zag : List D -> Option D} (F : Dfn K mg "are_setups" s_are_setups) (B : Bn mg) (c_is_setup : Cal Γ P w K mg base "is_setup" 3 3 zbU) (c_is_list : Cal Γ P w K mg base "is_list" 3 1 zao) (c_are_unlike : Cal Γ P w K mg base "are_unlike" 1 1 zag) : Cal Γ P w K mg base "are_setups" 3 4 (G_are_setups zbU zao zag) :=
  F.cal (k := 3) sc_are_setups (fun _ _ _ _ _ _ us hl => match us, hl with | [_, _, _], _ => rfl) fun f cdv A outer s H E hr =>
    (zaf (zbG (DW.dt (zcC (zaL (zaI (zap c_is_list hr (by decide) rfl (zaa (zac 0) (zaa zad (zaa (zb7 rfl B.c_MOST_SETUPS) zae))) ln3))) (zbY (zaL (zaI (zaz (zdx rfl) rfl B.z_all (by rfl) (zaa (DO.de (zb4 rfl (CompScope.of rfl rfl) (FvOk.of (N' := ["row", "bench_names", "horizon"]) (fv := [none, some 1, some 2]) rfl) (za1 (zac 0)) ⟨fun _ _ _ _ _ => ⟨(zau 0 (show (["row", "bench_names", "horizon"] : List Str).Nodup by decide +kernel)), zaM, (zap c_is_setup hr (by decide) rfl (zaa (zac 0) (zaa (zac 1) (zaa (zac 2) zae))) ln3)⟩⟩)) zae))))))) (zan (zax zdl)) zaK) (zan (zax (zap c_are_unlike hr (by decide) rfl (zaa (DO.de (zb4 rfl (CompScope.of rfl rfl) (FvOk.of (N' := ["row"]) (fv := [none]) rfl) (za1 (zac 0)) ⟨fun _ _ _ _ _ => ⟨(zau 0 (show (["row"] : List Str).Nodup by decide +kernel)), zaM, (zbR (zac 0) zcx (zcw zad))⟩⟩)) zae) ln1))))
noncomputable def G_is_link (zas : List D -> Option D) (zam : List D -> Option D) (zal : List D -> Option D) : List D -> Option D := zbO 0
    (zaE (sIf (orT (zbX (toB (cF zam (zab (vSh 0) (zab (vC (.int 3)) zak))))) (orT (zbX (toB (cF zas (zab (b2 ixD (vSh 0) (vC (.int 0))) (zab (vSh 1) zak))))) (zbX (toB (cF zas (zab (b2 ixD (vSh 0) (vC (.int 1))) (zab (vSh 1) zak))))))) (zba (vC (.bl false))) zci) (zba (zcZ (b2 neA (b2 ixD (vSh 0) (vC (.int 0))) (b2 ixD (vSh 0) (vC (.int 1)))) (cF zal (zab (b2 ixD (vSh 0) (vC (.int 2))) (zab (vC (.int 0)) (zab (vSh 2) zak)))))))
theorem sc_is_link : FnScope ["row", "step_names", "horizon"] ["row", "step_names", "horizon"] (zai s_is_link) := ⟨rfl, rfl, rfl, by decide +kernel, rfl, by decide +kernel, by decide +kernel⟩
theorem cal_is_link {zas : List D -> Option D} {zam : List D -> Option D} {zal : List D -> Option D} (F : Dfn K mg "is_link" s_is_link) (B : Bn mg) (c_is_one_of : Cal Γ P w K mg base "is_one_of" 2 2 zas) (c_is_tuple : Cal Γ P w K mg base "is_tuple" 2 1 zam) (c_is_within : Cal Γ P w K mg base "is_within" 3 2 zal) : Cal Γ P w K mg base "is_link" 3 3 (G_is_link zas zam zal) :=
  F.cal (k := 2) sc_is_link (fun _ _ _ _ _ _ us hl => match us, hl with | [_, _, _], _ => rfl) fun f cdv A outer s H E hr =>
    (zaf (zbG (DW.dt (zcC (zaL (zaI (zap c_is_tuple hr (by decide) rfl (zaa (zac 0) (zaa zad zae)) ln2))) (zcC (zaL (zaI (zap c_is_one_of hr (by decide) rfl (zaa (zar (zac 0) zad) (zaa (zac 1) zae)) ln2))) (zbY (zaL (zaI (zap c_is_one_of hr (by decide) rfl (zaa (zar (zac 0) zad) (zaa (zac 1) zae)) ln2))))))) (zan (zax zdl)) zaK) (zan (zax (zbZ (zcD (cd_neA (hu64 hr)) (zar (zac 0) zad) (zar (zac 0) zad) (zbg _)) (zcP (zap c_is_within hr (by decide) rfl (zaa (zar (zac 0) zad) (zaa zad (zaa (zac 2) zae))) ln3))))))
noncomputable def G_are_links (zcq : List D -> Option D) (zao : List D -> Option D) (zag : List D -> Option D) : List D -> Option D := zbO 0
    (zaE (sIf (orT (zbX (toB (cF zao (zab (vSh 0) (zab (vC (.int 0)) (zab (vC (.int 100)) zak)))))) (zbX (toB (cF allD (zab (za3 (zaO (itF (vSh 0)) (zaP 0) tT (cF zcq (zab (vSh 0) (zab (vSh 1) (zab (vSh 2) zak)))) [none, some 1, some 2])) zak))))) (zba (vC (.bl false))) zci) (zba (cF zag (zab (za3 (zaO (itF (vSh 0)) (zaP 0) tT (slF (vSh 0) pN (pS (vC (.int 2)))) [none])) zak))))
theorem sc_are_links : FnScope ["links", "step_names", "horizon"] ["links", "step_names", "horizon"] (zai s_are_links) := ⟨rfl, rfl, rfl, by decide +kernel, rfl, by decide +kernel, by decide +kernel⟩
theorem cal_are_links {zcq : List D -> Option D} {zao : List D -> Option D} {zag : List D -> Option D} (F : Dfn K mg "are_links" s_are_links) (B : Bn mg) (c_is_link : Cal Γ P w K mg base "is_link" 3 3 zcq) (c_is_list : Cal Γ P w K mg base "is_list" 3 1 zao) (c_are_unlike : Cal Γ P w K mg base "are_unlike" 1 1 zag) : Cal Γ P w K mg base "are_links" 3 4 (G_are_links zcq zao zag) :=
  F.cal (k := 3) sc_are_links (fun _ _ _ _ _ _ us hl => match us, hl with | [_, _, _], _ => rfl) fun f cdv A outer s H E hr =>
    (zaf (zbG (DW.dt (zcC (zaL (zaI (zap c_is_list hr (by decide) rfl (zaa (zac 0) (zaa zad (zaa (zb7 rfl B.c_MOST_LINKS) zae))) ln3))) (zbY (zaL (zaI (zaz (zdx rfl) rfl B.z_all (by rfl) (zaa (DO.de (zb4 rfl (CompScope.of rfl rfl) (FvOk.of (N' := ["row", "step_names", "horizon"]) (fv := [none, some 1, some 2]) rfl) (za1 (zac 0)) ⟨fun _ _ _ _ _ => ⟨(zau 0 (show (["row", "step_names", "horizon"] : List Str).Nodup by decide +kernel)), zaM, (zap c_is_link hr (by decide) rfl (zaa (zac 0) (zaa (zac 1) (zaa (zac 2) zae))) ln3)⟩⟩)) zae))))))) (zan (zax zdl)) zaK) (zan (zax (zap c_are_unlike hr (by decide) rfl (zaa (DO.de (zb4 rfl (CompScope.of rfl rfl) (FvOk.of (N' := ["row"]) (fv := [none]) rfl) (za1 (zac 0)) ⟨fun _ _ _ _ _ => ⟨(zau 0 (show (["row"] : List Str).Nodup by decide +kernel)), zaM, (zbR (zac 0) zcx (zcw zad))⟩⟩)) zae) ln1))))
noncomputable def G_is_amount (zal : List D -> Option D) (zas : List D -> Option D) (zam : List D -> Option D) : List D -> Option D := zbO 0
    (zba (zcZ (cF zam (zab (vSh 0) (zab (vC (.int 2)) zak))) (zcZ (cF zas (zab (b2 ixD (vSh 0) (vC (.int 0))) (zab (vSh 1) zak))) (cF zal (zab (b2 ixD (vSh 0) (vC (.int 1))) (zab (vC (.int 1)) (zab (vC (.int 1000000)) zak)))))))
theorem sc_is_amount : FnScope ["row", "step_names"] ["row", "step_names"] (zai s_is_amount) := ⟨rfl, rfl, rfl, by decide +kernel, rfl, by decide +kernel, by decide +kernel⟩
theorem cal_is_amount {zal : List D -> Option D} {zas : List D -> Option D} {zam : List D -> Option D} (F : Dfn K mg "is_amount" s_is_amount) (B : Bn mg) (c_is_within : Cal Γ P w K mg base "is_within" 3 2 zal) (c_is_one_of : Cal Γ P w K mg base "is_one_of" 2 2 zas) (c_is_tuple : Cal Γ P w K mg base "is_tuple" 2 1 zam) : Cal Γ P w K mg base "is_amount" 2 3 (G_is_amount zal zas zam) :=
  F.cal (k := 2) sc_is_amount (fun _ _ _ _ _ _ us hl => match us, hl with | [_, _], _ => rfl) fun f cdv A outer s H E hr =>
    (zan (zax (zbZ (zap c_is_tuple hr (by decide) rfl (zaa (zac 0) (zaa zad zae)) ln2) (zbZ (zap c_is_one_of hr (by decide) rfl (zaa (zar (zac 0) zad) (zaa (zac 1) zae)) ln2) (zcP (zap c_is_within hr (by decide) rfl (zaa (zar (zac 0) zad) (zaa zad (zaa (zb7 rfl B.c_MOST_AMOUNT) zae))) ln3))))))
noncomputable def G_are_amounts (zbE : List D -> Option D) (zao : List D -> Option D) (zag : List D -> Option D) : List D -> Option D := zbO 0
    (zaE (sIf (orT (zbX (toB (cF zao (zab (vSh 0) (zab (vC (.int 0)) (zab (cF zcU (zab (vSh 1) zak)) zak)))))) (zbX (toB (cF allD (zab (za3 (zaO (itF (vSh 0)) (zaP 0) tT (cF zbE (zab (vSh 0) (zab (vSh 1) zak))) [none, some 1])) zak))))) (zba (vC (.bl false))) zci) (zba (cF zag (zab (za3 (zaO (itF (vSh 0)) (zaP 0) tT (b2 ixD (vSh 0) (vC (.int 0))) [none])) zak))))
theorem sc_are_amounts : FnScope ["rows", "step_names"] ["rows", "step_names"] (zai zdp) := ⟨rfl, rfl, rfl, by decide +kernel, rfl, by decide +kernel, by decide +kernel⟩
theorem cal_are_amounts {zbE : List D -> Option D} {zao : List D -> Option D} {zag : List D -> Option D} (F : Dfn K mg "are_amounts" zdp) (B : Bn mg) (c_is_amount : Cal Γ P w K mg base "is_amount" 2 3 zbE) (c_is_list : Cal Γ P w K mg base "is_list" 3 1 zao) (c_are_unlike : Cal Γ P w K mg base "are_unlike" 1 1 zag) : Cal Γ P w K mg base "are_amounts" 2 4 (G_are_amounts zbE zao zag) :=
  F.cal (k := 3) sc_are_amounts (fun _ _ _ _ _ _ us hl => match us, hl with | [_, _], _ => rfl) fun f cdv A outer s H E hr =>
    (zaf (zbG (DW.dt (zcC (zaL (zaI (zap c_is_list hr (by decide) rfl (zaa (zac 0) (zaa zad (zaa (zaz zcE rfl B.z_len (by rfl) (zaa (zac 1) zae)) zae))) ln3))) (zbY (zaL (zaI (zaz (zdx rfl) rfl B.z_all (by rfl) (zaa (DO.de (zb4 rfl (CompScope.of rfl rfl) (FvOk.of (N' := ["row", "step_names"]) (fv := [none, some 1]) rfl) (za1 (zac 0)) ⟨fun _ _ _ _ _ => ⟨(zau 0 (show (["row", "step_names"] : List Str).Nodup by decide +kernel)), zaM, (zap c_is_amount hr (by decide) rfl (zaa (zac 0) (zaa (zac 1) zae)) ln2)⟩⟩)) zae))))))) (zan (zax zdl)) zaK) (zan (zax (zap c_are_unlike hr (by decide) rfl (zaa (DO.de (zb4 rfl (CompScope.of rfl rfl) (FvOk.of (N' := ["row"]) (fv := [none]) rfl) (za1 (zac 0)) ⟨fun _ _ _ _ _ => ⟨(zau 0 (show (["row"] : List Str).Nodup by decide +kernel)), zaM, (zar (zac 0) zad)⟩⟩)) zae) ln1))))
noncomputable def G_is_stock (zav : List D -> Option D) (zam : List D -> Option D) (zal : List D -> Option D) (zbb : List D -> Option D) : List D -> Option D := zbO 0
    (zaE (sIf (orT (zbX (toB (cF zam (zab (vSh 0) (zab (vC (.int 5)) zak))))) (zbX (toB (cF zav (zab (b2 ixD (vSh 0) (vC (.int 0))) zak))))) (zba (vC (.bl false))) zci) (zaE (sIf (orT (zbX (toB (cF zal (zab (b2 ixD (vSh 0) (vC (.int 2))) (zab (vC (.int 0)) (zab (vC (.int 1000000)) zak)))))) (zbX (toB (cF zal (zab (b2 ixD (vSh 0) (vC (.int 1))) (zab (vC (.int 0)) (zab (b2 ixD (vSh 0) (vC (.int 2))) zak))))))) (zba (vC (.bl false))) zci) (zba (zcZ (cF zbb (zab (b2 ixD (vSh 0) (vC (.int 3))) (zab (vSh 1) zak))) (cF zbb (zab (b2 ixD (vSh 0) (vC (.int 4))) (zab (vSh 1) zak)))))))
theorem sc_is_stock : FnScope ["row", "step_names"] ["row", "step_names"] (zai s_is_stock) := ⟨rfl, rfl, rfl, by decide +kernel, rfl, by decide +kernel, by decide +kernel⟩
theorem cal_is_stock {zav : List D -> Option D} {zam : List D -> Option D} {zal : List D -> Option D} {zbb : List D -> Option D} (F : Dfn K mg "is_stock" s_is_stock) (B : Bn mg) (c_is_name : Cal Γ P w K mg base "is_name" 1 1 zav) (c_is_tuple : Cal Γ P w K mg base "is_tuple" 2 1 zam) (c_is_within : Cal Γ P w K mg base "is_within" 3 2 zal) (c_are_amounts : Cal Γ P w K mg base "are_amounts" 2 4 zbb) : Cal Γ P w K mg base "is_stock" 2 5 (G_is_stock zav zam zal zbb) :=
  F.cal (k := 4) sc_is_stock (fun _ _ _ _ _ _ us hl => match us, hl with | [_, _], _ => rfl) fun f cdv A outer s H E hr =>
    (zaf (zbG (DW.dt (zcC (zaL (zaI (zap c_is_tuple hr (by decide) rfl (zaa (zac 0) (zaa zad zae)) ln2))) (zbY (zaL (zaI (zap c_is_name hr (by decide) rfl (zaa (zar (zac 0) zad) zae) ln1)))))) (zan (zax zdl)) zaK) (zaf (zbG (DW.dt (zcC (zaL (zaI (zap c_is_within hr (by decide) rfl (zaa (zar (zac 0) zad) (zaa zad (zaa (zb7 rfl B.c_MOST_AMOUNT) zae))) ln3))) (zbY (zaL (zaI (zap c_is_within hr (by decide) rfl (zaa (zar (zac 0) zad) (zaa zad (zaa (zar (zac 0) zad) zae))) ln3)))))) (zan (zax zdl)) zaK) (zan (zax (zbZ (zap c_are_amounts hr (by decide) rfl (zaa (zar (zac 0) zad) (zaa (zac 1) zae)) ln2) (zcP (zap c_are_amounts hr (by decide) rfl (zaa (zar (zac 0) zad) (zaa (zac 1) zae)) ln2)))))))
noncomputable def G_are_stocks (zbT : List D -> Option D) (zao : List D -> Option D) (zag : List D -> Option D) : List D -> Option D := zbO 0
    (zaE (sIf (orT (zbX (toB (cF zao (zab (vSh 0) (zab (vC (.int 0)) (zab (vC (.int 6)) zak)))))) (zbX (toB (cF allD (zab (za3 (zaO (itF (vSh 0)) (zaP 0) tT (cF zbT (zab (vSh 0) (zab (vSh 1) zak))) [none, some 1])) zak))))) (zba (vC (.bl false))) zci) (zba (cF zag (zab (za3 (zaO (itF (vSh 0)) (zaP 0) tT (b2 ixD (vSh 0) (vC (.int 0))) [none])) zak))))
theorem sc_are_stocks : FnScope ["stocks", "step_names"] ["stocks", "step_names"] (zai s_are_stocks) := ⟨rfl, rfl, rfl, by decide +kernel, rfl, by decide +kernel, by decide +kernel⟩
theorem cal_are_stocks {zbT : List D -> Option D} {zao : List D -> Option D} {zag : List D -> Option D} (F : Dfn K mg "are_stocks" s_are_stocks) (B : Bn mg) (c_is_stock : Cal Γ P w K mg base "is_stock" 2 5 zbT) (c_is_list : Cal Γ P w K mg base "is_list" 3 1 zao) (c_are_unlike : Cal Γ P w K mg base "are_unlike" 1 1 zag) : Cal Γ P w K mg base "are_stocks" 2 6 (G_are_stocks zbT zao zag) :=
  F.cal (k := 5) sc_are_stocks (fun _ _ _ _ _ _ us hl => match us, hl with | [_, _], _ => rfl) fun f cdv A outer s H E hr =>
    (zaf (zbG (DW.dt (zcC (zaL (zaI (zap c_is_list hr (by decide) rfl (zaa (zac 0) (zaa zad (zaa (zb7 rfl B.c_MOST_STOCKS) zae))) ln3))) (zbY (zaL (zaI (zaz (zdx rfl) rfl B.z_all (by rfl) (zaa (DO.de (zb4 rfl (CompScope.of rfl rfl) (FvOk.of (N' := ["row", "step_names"]) (fv := [none, some 1]) rfl) (za1 (zac 0)) ⟨fun _ _ _ _ _ => ⟨(zau 0 (show (["row", "step_names"] : List Str).Nodup by decide +kernel)), zaM, (zap c_is_stock hr (by decide) rfl (zaa (zac 0) (zaa (zac 1) zae)) ln2)⟩⟩)) zae))))))) (zan (zax zdl)) zaK) (zan (zax (zap c_are_unlike hr (by decide) rfl (zaa (DO.de (zb4 rfl (CompScope.of rfl rfl) (FvOk.of (N' := ["row"]) (fv := [none]) rfl) (za1 (zac 0)) ⟨fun _ _ _ _ _ => ⟨(zau 0 (show (["row"] : List Str).Nodup by decide +kernel)), zaM, (zar (zac 0) zad)⟩⟩)) zae) ln1))))
noncomputable def zdy (zal : List D -> Option D) (zbh : List D -> Option D) (zbK : List D -> Option D) (zcg : List D -> Option D) (zbx : List D -> Option D) (zbL : List D -> Option D) (zbw : List D -> Option D) : List D -> Option D := zbO 2
    (zaE (sIf (zbX (toB (cF zal (zab (vSh 6) (zab (vC (.int 1)) (zab (vC (.int 1000000)) zak)))))) (zba (vC (.str "horizon"))) zci) (zaE (sIf (zbX (toB (cF zbh (zab (vSh 0) (zab (vSh 6) zak))))) (zba (vC (.str "benches"))) zci) (zaE (zbp 7 (za3 (zaO (itF (vSh 0)) (zaP 0) tT (b2 ixD (vSh 0) (vC (.int 0))) [none]))) (zaE (sIf (zbX (toB (cF zbK (zab (vSh 1) (zab (vSh 7) (zab (vSh 6) zak)))))) (zba (vC (.str "steps"))) zci) (zaE (zbp 8 (za3 (zaO (itF (vSh 1)) (zaP 0) tT (b2 ixD (vSh 0) (vC (.int 0))) [none]))) (zaE (sIf (zbX (toB (cF zcg (zab (vSh 2) (zab (vSh 8) (zab (vSh 6) zak)))))) (zba (vC (.str "jobs"))) zci) (zaE (sIf (zbX (toB (cF zbx (zab (vSh 3) (zab (vSh 7) (zab (vSh 6) zak)))))) (zba (vC (.str "setups"))) zci) (zaE (sIf (zbX (toB (cF zbL (zab (vSh 4) (zab (vSh 8) (zab (vSh 6) zak)))))) (zba (vC (.str "links"))) zci) (zaE (sIf (zbX (toB (cF zbw (zab (vSh 5) (zab (vSh 8) zak))))) (zba (vC (.str "stocks"))) zci) (zba (vC .non)))))))))))
theorem zcu : FnScope ["benches", "steps", "jobs", "setups", "links", "stocks", "horizon", "bench_names", "step_names"] ["benches", "steps", "jobs", "setups", "links", "stocks", "horizon"] (zai zcJ) := ⟨rfl, rfl, rfl, by decide +kernel, rfl, by decide +kernel, by decide +kernel⟩
theorem cal_first_bad_part {zal : List D -> Option D} {zbh : List D -> Option D} {zbK : List D -> Option D} {zcg : List D -> Option D} {zbx : List D -> Option D} {zbL : List D -> Option D} {zbw : List D -> Option D} (F : Dfn K mg "first_bad_part" zcJ) (B : Bn mg) (c_is_within : Cal Γ P w K mg base "is_within" 3 2 zal) (c_are_benches : Cal Γ P w K mg base "are_benches" 2 6 zbh) (c_are_steps : Cal Γ P w K mg base "are_steps" 3 6 zbK) (c_are_jobs : Cal Γ P w K mg base "are_jobs" 3 4 zcg) (c_are_setups : Cal Γ P w K mg base "are_setups" 3 4 zbx) (c_are_links : Cal Γ P w K mg base "are_links" 3 4 zbL) (c_are_stocks : Cal Γ P w K mg base "are_stocks" 2 6 zbw) : Cal Γ P w K mg base "first_bad_part" 7 7 (zdy zal zbh zbK zcg zbx zbL zbw) :=
  F.cal (k := 6) zcu (fun _ _ _ _ _ _ us hl => match us, hl with | [_, _, _, _, _, _, _], _ => rfl) fun f cdv A outer s H E hr =>
    (zaf (zbG (zaL (zaI (zap c_is_within hr (by decide) rfl (zaa (zac 6) (zaa zad (zaa (zb7 rfl B.c_MOST_HORIZON) zae))) ln3))) (zan (zax zc1)) zaK) (zaf (zbG (zaL (zaI (zap c_are_benches hr (by decide) rfl (zaa (zac 0) (zaa (zac 6) zae)) ln2))) (zan (zax zc1)) zaK) (zaf (ds_lc 7 zcu.nd rfl (CompScope.of rfl rfl) (FvOk.of (N' := ["row"]) (fv := [none]) rfl) (za1 (zac 0)) ⟨fun _ _ _ _ _ => ⟨(zau 0 (show (["row"] : List Str).Nodup by decide +kernel)), zaM, (zar (zac 0) zad)⟩⟩) (zaf (zbG (zaL (zaI (zap c_are_steps hr (by decide) rfl (zaa (zac 1) (zaa (zac 7) (zaa (zac 6) zae))) ln3))) (zan (zax zc1)) zaK) (zaf (ds_lc 8 zcu.nd rfl (CompScope.of rfl rfl) (FvOk.of (N' := ["row"]) (fv := [none]) rfl) (za1 (zac 1)) ⟨fun _ _ _ _ _ => ⟨(zau 0 (show (["row"] : List Str).Nodup by decide +kernel)), zaM, (zar (zac 0) zad)⟩⟩) (zaf (zbG (zaL (zaI (zap c_are_jobs hr (by decide) rfl (zaa (zac 2) (zaa (zac 8) (zaa (zac 6) zae))) ln3))) (zan (zax zc1)) zaK) (zaf (zbG (zaL (zaI (zap c_are_setups hr (by decide) rfl (zaa (zac 3) (zaa (zac 7) (zaa (zac 6) zae))) ln3))) (zan (zax zc1)) zaK) (zaf (zbG (zaL (zaI (zap c_are_links hr (by decide) rfl (zaa (zac 4) (zaa (zac 8) (zaa (zac 6) zae))) ln3))) (zan (zax zc1)) zaK) (zaf (zbG (zaL (zaI (zap c_are_stocks hr (by decide) rfl (zaa (zac 5) (zaa (zac 8) zae)) ln2))) (zan (zax zc1)) zaK) (zan (zax de_non)))))))))))
noncomputable def zdc (zaR : List D -> Option D) : List D -> Option D := zbO 0
    (zaE (sIf (toB (cF isiD (zab (vSh 0) (zab (vC (.ty "list")) zak)))) (zba (za3 (zaO (itF (vSh 0)) (zaP 0) tT (cF zaR (zab (vSh 0) zak)) [none]))) zci) (zaE (sIf (toB (cF isiD (zab (vSh 0) (zab (vC (.ty "tuple")) zak)))) (zba (cF tupleD (zab (za3 (zaO (itF (vSh 0)) (zaP 0) tT (cF zaR (zab (vSh 0) zak)) [none])) zak))) zci) (zba (vSh 0))))
theorem sc_fresh : FnScope ["thing"] ["thing"] (zai s_fresh) := ⟨rfl, rfl, rfl, by decide +kernel, rfl, by decide +kernel, by decide +kernel⟩
theorem cal_fresh {k : Nat} {zaR : List D -> Option D} (F : Dfn K mg "fresh" s_fresh) (B : Bn mg) (c_fresh : Cal Γ P w K mg base "fresh" 1 k zaR) : Cal Γ P w K mg base "fresh" 1 (k + 1) (zdc zaR) :=
  F.cal (k := k) sc_fresh (fun _ _ _ _ _ _ us hl => match us, hl with | [_], _ => rfl) fun f cdv A outer s H E hr =>
    (zaf (zbG (zaI (zaz bd_isi rfl B.z_isinstance (by rfl) (zaa (zac 0) (zaa (de_ty rfl B.z_list (by rfl)) zae)))) (zan (zax (DO.de (zb4 rfl (CompScope.of rfl rfl) (FvOk.of (N' := ["part"]) (fv := [none]) rfl) (za1 (zac 0)) ⟨fun _ _ _ _ _ => ⟨(zau 0 (show (["part"] : List Str).Nodup by decide +kernel)), zaM, (zap c_fresh hr (Nat.le_refl _) rfl (zaa (zac 0) zae) ln1)⟩⟩)))) zaK) (zaf (zbG (zaI (zaz bd_isi rfl B.z_isinstance (by rfl) (zaa (zac 0) (zaa (de_ty rfl B.z_tuple (by rfl)) zae)))) (zan (zax (zdk td_tuple rfl B.z_tuple (by rfl) (zaa (DO.de (zb4 rfl (CompScope.of rfl rfl) (FvOk.of (N' := ["part"]) (fv := [none]) rfl) (za1 (zac 0)) ⟨fun _ _ _ _ _ => ⟨(zau 0 (show (["part"] : List Str).Nodup by decide +kernel)), zaM, (zap c_fresh hr (Nat.le_refl _) rfl (zaa (zac 0) zae) ln1)⟩⟩)) zae)))) zaK) (zan (zax (zac 0)))))
noncomputable def G_Shop___init__ (zaW : List D -> Option D) (zaR : List D -> Option D) : List D -> Option D := runI 3 "Shop"
    (zaE (zbp 8 (cF zaW (zab (vSh 1) (zab (vSh 2) (zab (vSh 3) (zab (vSh 4) (zab (vSh 5) (zab (vSh 6) (zab (vSh 7) zak))))))))) (zaE (sIf (toB (b2 isNotD (vSh 8) (vC .non))) sNo zci) (zaE (sOfld "Shop" "benches" 0 (cF zaR (zab (vSh 1) zak))) (zaE (sOfld "Shop" "steps" 0 (cF zaR (zab (vSh 2) zak))) (zaE (sOfld "Shop" "jobs" 0 (cF zaR (zab (vSh 3) zak))) (zaE (sOfld "Shop" "setups" 0 (cF zaR (zab (vSh 4) zak))) (zaE (sOfld "Shop" "links" 0 (cF zaR (zab (vSh 5) zak))) (zaE (sOfld "Shop" "stocks" 0 (cF zaR (zab (vSh 6) zak))) (zaE (sOfld "Shop" "horizon" 0 (vSh 7)) (zaE (sOfld "Shop" "bench_by_name" 0 (cF dictKD (zab (za3 (zaO (itF (ofldF "Shop" "benches" 0)) (zaP 0) tT (zce (szF (zab (b2 ixD (vSh 0) (vC (.int 0))) (zab (vSh 0) zak)))) [none])) zak))) (zaE (sOfld "Shop" "step_by_name" 0 (cF dictKD (zab (za3 (zaO (itF (ofldF "Shop" "steps" 0)) (zaP 0) tT (zce (szF (zab (b2 ixD (vSh 0) (vC (.int 0))) (zab (vSh 0) zak)))) [none])) zak))) (zaE (sOfld "Shop" "setup_by_names" 0 (cF dictTD (zab (za3 (zaO (itF (ofldF "Shop" "setups" 0)) (zaP 0) tT (zce (szF (zab (slF (vSh 0) pN (pS (vC (.int 3)))) (zab (b2 ixD (vSh 0) (vC (.int 3))) zak)))) [none])) zak))) (zaE (sOfd "Shop" "job_by_step" 0) (sFor (itF (ofldF "Shop" "jobs" 0)) (zaP 9) (sFor (itF (b2 ixD (vSh 9) (vC (.int 4)))) (zaP 10) (zc6 "Shop" "job_by_step" 0 (vSh 10) (vSh 9)))))))))))))))))
theorem zb6 : FnScope ["self", "benches", "steps", "jobs", "setups", "links", "stocks", "horizon", "part", "row", "step"] ["self", "benches", "steps", "jobs", "setups", "links", "stocks", "horizon"] (zai zcV) := ⟨rfl, rfl, rfl, by decide +kernel, rfl, by decide +kernel, by decide +kernel⟩
theorem cal_Shop___init__ {zaW : List D -> Option D} {zaR : List D -> Option D} {C : Addr} (O : ClsOk Γ K mg "Shop" C) (F : DfnM K C "Shop" "__init__" "Shop.__init__" zcV) (B : Bn mg) (c_first_bad_part : Cal Γ P w K mg base "first_bad_part" 7 7 zaW) (c_fresh : Cal Γ P w K mg base "fresh" 1 8 zaR) (cf_Shop : CF Γ K "Shop" at_Shop) : CalI Γ P w K mg base "Shop" 7 9 (G_Shop___init__ zaW zaR) :=
  DfnM.calI (k := 8) O F zb6 (fun _ _ _ _ _ _ us hl => match us, hl with | [_, _, _, _, _, _, _, _], _ => rfl) fun f y cdv A outer s H E hr =>
    (zaf (zaS 8 zb6.nd (zap (c_first_bad_part.re y) hr (by decide) rfl (zaa (zac 1) (zaa (zac 2) (zaa (zac 3) (zaa (zac 4) (zaa (zac 5) (zaa (zac 6) (zaa (zac 7) zae))))))) ln7)) (zaf (zbG (zct cd_isNot (zac 8) de_non (zbg _)) (zan ds_no) zaK) (zaf (zc9 0 (cf_Shop.re y) (.head _) (zap (c_fresh.re y) hr (by decide) rfl (zaa (zac 1) zae) ln1)) (zaf (zc9 0 (cf_Shop.re y) (.tail _ (.head _)) (zap (c_fresh.re y) hr (by decide) rfl (zaa (zac 2) zae) ln1)) (zaf (zc9 0 (cf_Shop.re y) (.tail _ (.tail _ (.head _))) (zap (c_fresh.re y) hr (by decide) rfl (zaa (zac 3) zae) ln1)) (zaf (zc9 0 (cf_Shop.re y) (.tail _ (.tail _ (.tail _ (.head _)))) (zap (c_fresh.re y) hr (by decide) rfl (zaa (zac 4) zae) ln1)) (zaf (zc9 0 (cf_Shop.re y) (.tail _ (.tail _ (.tail _ (.tail _ (.head _))))) (zap (c_fresh.re y) hr (by decide) rfl (zaa (zac 5) zae) ln1)) (zaf (zc9 0 (cf_Shop.re y) (.tail _ (.tail _ (.tail _ (.tail _ (.tail _ (.head _)))))) (zap (c_fresh.re y) hr (by decide) rfl (zaa (zac 6) zae) ln1)) (zaf (zc9 0 (cf_Shop.re y) (.tail _ (.tail _ (.tail _ (.tail _ (.tail _ (.tail _ (.head _))))))) (zac 7)) (zaf (zc9 0 (cf_Shop.re y) (.tail _ (.tail _ (.tail _ (.tail _ (.tail _ (.tail _ (.tail _ (.head _)))))))) (zdk (td_dictK rfl (hu66 hr)) rfl B.z_dict (by rfl) (zaa (DO.de (zb4 rfl (CompScope.of rfl rfl) (FvOk.of (N' := ["row"]) (fv := [none]) rfl) (za1 (de_ofld 0 (cf_Shop.re y) (.head _))) ⟨fun _ _ _ _ _ => ⟨(zau 0 (show (["row"] : List Str).Nodup by decide +kernel)), zaM, (zb5 (zaa (zar (zac 0) zad) (zaa (zac 0) zae)))⟩⟩)) zae))) (zaf (zc9 0 (cf_Shop.re y) (.tail _ (.tail _ (.tail _ (.tail _ (.tail _ (.tail _ (.tail _ (.tail _ (.head _))))))))) (zdk (td_dictK rfl (hu66 hr)) rfl B.z_dict (by rfl) (zaa (DO.de (zb4 rfl (CompScope.of rfl rfl) (FvOk.of (N' := ["row"]) (fv := [none]) rfl) (za1 (de_ofld 0 (cf_Shop.re y) (.tail _ (.head _)))) ⟨fun _ _ _ _ _ => ⟨(zau 0 (show (["row"] : List Str).Nodup by decide +kernel)), zaM, (zb5 (zaa (zar (zac 0) zad) (zaa (zac 0) zae)))⟩⟩)) zae))) (zaf (zc9 0 (cf_Shop.re y) (.tail _ (.tail _ (.tail _ (.tail _ (.tail _ (.tail _ (.tail _ (.tail _ (.tail _ (.head _)))))))))) (zdk (td_dictT rfl (hu66 hr)) rfl B.z_dict (by rfl) (zaa (DO.de (zb4 rfl (CompScope.of rfl rfl) (FvOk.of (N' := ["row"]) (fv := [none]) rfl) (za1 (de_ofld 0 (cf_Shop.re y) (.tail _ (.tail _ (.tail _ (.head _)))))) ⟨fun _ _ _ _ _ => ⟨(zau 0 (show (["row"] : List Str).Nodup by decide +kernel)), zaM, (zb5 (zaa (zbR (zac 0) zcx (zcw zad)) (zaa (zar (zac 0) zad) zae)))⟩⟩)) zae))) (zaf (ds_ofd 0 (cf_Shop.re y) (.tail _ (.tail _ (.tail _ (.tail _ (.tail _ (.tail _ (.tail _ (.tail _ (.tail _ (.tail _ (.head _)))))))))))) (zan (zcO PassesOwn.never rfl (za1 (de_ofld 0 (cf_Shop.re y) (.tail _ (.tail _ (.head _))))) (zau 9 zb6.nd) (zan (zcO PassesOwn.never rfl (za1 (zar (zac 9) zad)) (zau 10 zb6.nd) (zan (ds_ofdPut 0 (hu66 hr) (cf_Shop.re y) (.tail _ (.tail _ (.tail _ (.tail _ (.tail _ (.tail _ (.tail _ (.tail _ (.tail _ (.tail _ (.head _))))))))))) (zac 10) (zac 9))))))))))))))))))))
noncomputable def G__law_shop (za7 : List D -> Option D) : List D -> Option D := zbO 0
    (zba (cF za7 (zab (b2 ixD (vSh 0) (vC (.int 0))) (zab (b2 ixD (vSh 0) (vC (.int 1))) (zab (b2 ixD (vSh 0) (vC (.int 2))) (zab (b2 ixD (vSh 0) (vC (.int 3))) (zab (b2 ixD (vSh 0) (vC (.int 4))) (zab (b2 ixD (vSh 0) (vC (.int 5))) (zab (b2 ixD (vSh 0) (vC (.int 6))) zak)))))))))
theorem sc__law_shop : FnScope ["_law_lists_here"] ["_law_lists_here"] (zai s__law_shop) := ⟨rfl, rfl, rfl, by decide +kernel, rfl, by decide +kernel, by decide +kernel⟩
theorem cal__law_shop {za7 : List D -> Option D} (F : Dfn K mg "_law_shop" s__law_shop) (B : Bn mg) (c_Shop___init__ : CalI Γ P w K mg base "Shop" 7 9 za7) : Cal Γ P w K mg base "_law_shop" 1 11 (G__law_shop za7) :=
  F.cal (k := 10) sc__law_shop (fun _ _ _ _ _ _ us hl => match us, hl with | [_], _ => rfl) fun f cdv A outer s H E hr =>
    (zan (zax (de_make c_Shop___init__ hr (by decide) rfl (zaa (zar (zac 0) zad) (zaa (zar (zac 0) zad) (zaa (zar (zac 0) zad) (zaa (zar (zac 0) zad) (zaa (zar (zac 0) zad) (zaa (zar (zac 0) zad) (zaa (zar (zac 0) zad) zae))))))) ln7)))
noncomputable def G__law_due : List D -> Option D := zbO 6
    (zaE (sOwn 1 (szF zak)) (zaE (sFor (itE (b2 ixD (vSh 0) (vC (.int 1)))) (zcs 2 (zaG (zaP 2) (zaG (zaP 3) zcr))) (sFor (itF (slF (b2 ixD (vSh 0) (vC (.int 1))) (pS (b2 zbo (vSh 2) (vC (.int 1)))) pN)) (zaP 4) (zaE (zbp 5 (za3 (zaO (itF (b2 ixD (vSh 0) (vC (.int 2)))) (zaP 0) (andT (toB (b2 inXD (b2 ixD (vSh 1) (vC (.int 0))) (b2 ixD (vSh 0) (vC (.int 4))))) (toB (b2 inXD (b2 ixD (vSh 2) (vC (.int 0))) (b2 ixD (vSh 0) (vC (.int 4)))))) (vSh 0) [none, some 3, some 4]))) (zaE (zbp 6 (zcZ (b2 eqD (cF zcU (zab (b2 ixD (vSh 3) (vC (.int 2))) zak)) (vC (.int 1))) (zcZ (b2 eqD (cF zcU (zab (b2 ixD (vSh 4) (vC (.int 2))) zak)) (vC (.int 1))) (b2 eqA (b2 ixD (b2 ixD (b2 ixD (vSh 3) (vC (.int 2))) (vC (.int 0))) (vC (.int 0))) (b2 ixD (b2 ixD (b2 ixD (vSh 4) (vC (.int 2))) (vC (.int 0))) (vC (.int 0))))))) (sIf (orT (toB (b2 neA (vSh 5) (za3 (szF zak)))) (toB (vSh 6))) (sApp 1 (zce (szF (zab (b2 ixD (vSh 3) (vC (.int 0))) (zab (b2 ixD (vSh 4) (vC (.int 0))) zak))))) zci))))) (sFrz 1 (zba (vSh 1)))))
theorem zcc : FnScope ["_law_lists_here", "_law_due_here", "_law_k", "_law_one", "_law_other", "_law_jobs_here", "_law_alone"] ["_law_lists_here"] (zai s__law_due) := ⟨rfl, rfl, rfl, by decide +kernel, rfl, by decide +kernel, by decide +kernel⟩
theorem cal__law_due (F : Dfn K mg "_law_due" s__law_due) (B : Bn mg)  : Cal Γ P w K mg base "_law_due" 1 1 (G__law_due) :=
  F.cal (k := 0) zcc (fun _ _ _ _ _ _ us hl => match us, hl with | [_], _ => rfl) fun f cdv A outer s H E hr =>
    (zaf (zc0 1 zcc.nd (zbv zae)) (zaf (zcO PassesOwn.never rfl (zdw rfl B.z_enumerate (zar (zac 0) zad)) (dg_tup (n := 2) rfl (zaY (zau 2 zcc.nd) (zaY (zau 3 zcc.nd) zcW))) (zan (zcO PassesOwn.never rfl (za1 (zbR (zar (zac 0) zad) (zcw (za8 (zac 2) zad)) zcx)) (zau 4 zcc.nd) (zaf (ds_lc 5 zcc.nd rfl (CompScope.of rfl rfl) (FvOk.of (N' := ["_law_job", "_law_one", "_law_other"]) (fv := [none, some 3, some 4]) rfl) (za1 (zar (zac 0) zad)) ⟨fun _ _ _ _ _ => ⟨(zau 0 (show (["_law_job", "_law_one", "_law_other"] : List Str).Nodup by decide +kernel)), (dts_one (DW.dt (dw_and (zct (cd_inX (hu66 hr)) (zar (zac 1) zad) (zar (zac 0) zad) (by rfl)) (dw_and1 (zct (cd_inX (hu66 hr)) (zar (zac 2) zad) (zar (zac 0) zad) (by rfl)))))), (zac 0)⟩⟩) (zaf (zaS 6 zcc.nd (zbZ (zcD cd_eq (zaz zcE rfl B.z_len (by rfl) (zaa (zar (zac 3) zad) zae)) zad (zbg _)) (zbZ (zcD cd_eq (zaz zcE rfl B.z_len (by rfl) (zaa (zar (zac 4) zad) zae)) zad (zbg _)) (zcP (zcD (cd_eqA (hu64 hr)) (zar (zar (zar (zac 3) zad) zad) zad) (zar (zar (zar (zac 4) zad) zad) zad) (zbg _)))))) (zan (zbG (DW.dt (zcC (zct (cd_neA (hu64 hr)) (zac 5) (DO.de (zbv zae)) (zbg _)) (zbY (zaI (zac 6))))) (zan (zbt 1 (zb5 (zaa (zar (zac 3) zad) (zaa (zar (zac 4) zad) zae))))) zaK))))))) (zcL 1 (zan (zax (zac 1))))))
noncomputable def zdm : List D -> Option D := zbO 0
    (zba (za3 (zaO (itF (fldF "Shop" "steps" (vSh 0))) (zaP 0) tT (b2 ixD (vSh 0) (vC (.int 0))) [none])))
theorem sc_Shop_step_names : FnScope ["self"] ["self"] (zai zcv) := ⟨rfl, rfl, rfl, by decide +kernel, rfl, by decide +kernel, by decide +kernel⟩
theorem cal_Shop_step_names {C : Addr} (O : ClsOk Γ K mg "Shop" C) (F : DfnM K C "Shop" "step_names" "Shop.step_names" zcv) (B : Bn mg) (cf_Shop : CF Γ K "Shop" at_Shop) : CalM Γ P w K mg base "Shop" "step_names" 1 1 (zdm) :=
  DfnM.cal (k := 0) O F sc_Shop_step_names (fun _ _ _ _ _ _ us hl => match us, hl with | [_], _ => rfl) fun f cdv A outer s H E hr =>
    (zan (zax (DO.de (zb4 rfl (CompScope.of rfl rfl) (FvOk.of (N' := ["row"]) (fv := [none]) rfl) (za1 (de_fld cf_Shop (.tail _ (.head _)) (zac 0))) ⟨fun _ _ _ _ _ => ⟨(zau 0 (show (["row"] : List Str).Nodup by decide +kernel)), zaM, (zar (zac 0) zad)⟩⟩))))
noncomputable def G_pairs_of : List D -> Option D := zbO 3
    (zaE (sOwn 1 (szF zak)) (zaE (sFor (itE (vSh 0)) (zcs 2 (zaG (zaP 2) (zaG (zaP 3) zcr))) (sExt 1 (za3 (zaO (itF (slF (vSh 0) (pS (b2 zbo (vSh 2) (vC (.int 1)))) pN)) (zaP 0) tT (zce (szF (zab (vSh 1) (zab (vSh 0) zak)))) [none, some 3])))) (sFrz 1 (zba (vSh 1)))))
theorem zdn : FnScope ["things", "pairs", "place", "one"] ["things"] (zai s_pairs_of) := ⟨rfl, rfl, rfl, by decide +kernel, rfl, by decide +kernel, by decide +kernel⟩
theorem cal_pairs_of (F : Dfn K mg "pairs_of" s_pairs_of) (B : Bn mg)  : Cal Γ P w K mg base "pairs_of" 1 1 (G_pairs_of) :=
  F.cal (k := 0) zdn (fun _ _ _ _ _ _ us hl => match us, hl with | [_], _ => rfl) fun f cdv A outer s H E hr =>
    (zaf (zc0 1 zdn.nd (zbv zae)) (zaf (zcO PassesOwn.never rfl (zdw rfl B.z_enumerate (zac 0)) (dg_tup (n := 2) rfl (zaY (zau 2 zdn.nd) (zaY (zau 3 zdn.nd) zcW))) (zan (ds_extend 1 (DO.de (zb4 rfl (CompScope.of rfl rfl) (FvOk.of (N' := ["other", "one"]) (fv := [none, some 3]) rfl) (za1 (zbR (zac 0) (zcw (za8 (zac 2) zad)) zcx)) ⟨fun _ _ _ _ _ => ⟨(zau 0 (show (["other", "one"] : List Str).Nodup by decide +kernel)), zaM, (zb5 (zaa (zac 1) (zaa (zac 0) zae)))⟩⟩))))) (zcL 1 (zan (zax (zac 1))))))
noncomputable def G_Shop_ways_of (zaR : List D -> Option D) : List D -> Option D := zbO 0
    (zba (cF zaR (zab (b2 ixD (b2 dgetD (fldF "Shop" "step_by_name" (vSh 0)) (vSh 1)) (vC (.int 2))) zak)))
theorem sc_Shop_ways_of : FnScope ["self", "step"] ["self", "step"] (zai zc5) := ⟨rfl, rfl, rfl, by decide +kernel, rfl, by decide +kernel, by decide +kernel⟩
theorem cal_Shop_ways_of {zaR : List D -> Option D} {C : Addr} (O : ClsOk Γ K mg "Shop" C) (F : DfnM K C "Shop" "ways_of" "Shop.ways_of" zc5) (B : Bn mg) (c_fresh : Cal Γ P w K mg base "fresh" 1 8 zaR) (cf_Shop : CF Γ K "Shop" at_Shop) : CalM Γ P w K mg base "Shop" "ways_of" 2 9 (G_Shop_ways_of zaR) :=
  DfnM.cal (k := 8) O F sc_Shop_ways_of (fun _ _ _ _ _ _ us hl => match us, hl with | [_, _], _ => rfl) fun f cdv A outer s H E hr =>
    (zan (zax (zap c_fresh hr (by decide) rfl (zaa (zar (de_dget (hu66 hr) (de_fld cf_Shop (.tail _ (.tail _ (.tail _ (.tail _ (.tail _ (.tail _ (.tail _ (.tail _ (.head _))))))))) (zac 0)) (zac 1)) zad) zae) ln1)))
noncomputable def zco (za5 : List D -> Option D) : List D -> Option D := zbO 2
    (zaE (zbp 3 (methF "Shop" "ways_of" za5 (vSh 0) (zab (vSh 1) zak))) (zaE (zbp 4 (methF "Shop" "ways_of" za5 (vSh 0) (zab (vSh 2) zak))) (zba (zcZ (b2 eqD (cF zcU (zab (vSh 3) zak)) (vC (.int 1))) (zcZ (b2 eqD (cF zcU (zab (vSh 4) zak)) (vC (.int 1))) (b2 eqA (b2 ixD (b2 ixD (vSh 3) (vC (.int 0))) (vC (.int 0))) (b2 ixD (b2 ixD (vSh 4) (vC (.int 0))) (vC (.int 0)))))))))
theorem zbr : FnScope ["shop", "one", "other", "ways", "others"] ["shop", "one", "other"] (zai zbD) := ⟨rfl, rfl, rfl, by decide +kernel, rfl, by decide +kernel, by decide +kernel⟩
theorem zda {za5 : List D -> Option D} (F : Dfn K mg "share_their_one_bench" zbD) (B : Bn mg) (c_Shop_ways_of : CalM Γ P w K mg base "Shop" "ways_of" 2 9 za5) : Cal Γ P w K mg base "share_their_one_bench" 3 10 (zco za5) :=
  F.cal (k := 9) zbr (fun _ _ _ _ _ _ us hl => match us, hl with | [_, _, _], _ => rfl) fun f cdv A outer s H E hr =>
    (zaf (zaS 3 zbr.nd (de_meth c_Shop_ways_of hr (by decide) (zac 0) (zaa (zac 1) zae) ln1)) (zaf (zaS 4 zbr.nd (de_meth c_Shop_ways_of hr (by decide) (zac 0) (zaa (zac 2) zae) ln1)) (zan (zax (zbZ (zcD cd_eq (zaz zcE rfl B.z_len (by rfl) (zaa (zac 3) zae)) zad (zbg _)) (zbZ (zcD cd_eq (zaz zcE rfl B.z_len (by rfl) (zaa (zac 4) zae)) zad (zbg _)) (zcP (zcD (cd_eqA (hu64 hr)) (zar (zar (zac 3) zad) zad) (zar (zar (zac 4) zad) zad) (zbg _)))))))))
noncomputable def G_Shop_job_of (zaR : List D -> Option D) : List D -> Option D := zbO 0
    (zba (cF zaR (zab (b2 dget1D (fldF "Shop" "job_by_step" (vSh 0)) (vSh 1)) zak)))
theorem sc_Shop_job_of : FnScope ["self", "step"] ["self", "step"] (zai zdt) := ⟨rfl, rfl, rfl, by decide +kernel, rfl, by decide +kernel, by decide +kernel⟩
theorem cal_Shop_job_of {zaR : List D -> Option D} {C : Addr} (O : ClsOk Γ K mg "Shop" C) (F : DfnM K C "Shop" "job_of" "Shop.job_of" zdt) (B : Bn mg) (c_fresh : Cal Γ P w K mg base "fresh" 1 8 zaR) (cf_Shop : CF Γ K "Shop" at_Shop) : CalM Γ P w K mg base "Shop" "job_of" 2 9 (G_Shop_job_of zaR) :=
  DfnM.cal (k := 8) O F sc_Shop_job_of (fun _ _ _ _ _ _ us hl => match us, hl with | [_, _], _ => rfl) fun f cdv A outer s H E hr =>
    (zan (zax (zap c_fresh hr (by decide) rfl (zaa (de_dget1 (hu66 hr) (de_fld cf_Shop (.tail _ (.tail _ (.tail _ (.tail _ (.tail _ (.tail _ (.tail _ (.tail _ (.tail _ (.tail _ (.head _))))))))))) (zac 0)) (zac 1)) zae) ln1)))
noncomputable def zdz (zbl : List D -> Option D) : List D -> Option D := zbO 1
    (zaE (zbp 3 (methF "Shop" "job_of" zbl (vSh 0) (zab (vSh 1) zak))) (zba (zcZ (b2 isNotD (vSh 3) (vC .non)) (b2 inXD (vSh 2) (b2 ixD (vSh 3) (vC (.int 4)))))))
theorem zdd : FnScope ["shop", "one", "other", "job"] ["shop", "one", "other"] (zai zcK) := ⟨rfl, rfl, rfl, by decide +kernel, rfl, by decide +kernel, by decide +kernel⟩
theorem cal_are_of_one_job {zbl : List D -> Option D} (F : Dfn K mg "are_of_one_job" zcK) (B : Bn mg) (c_Shop_job_of : CalM Γ P w K mg base "Shop" "job_of" 2 9 zbl) : Cal Γ P w K mg base "are_of_one_job" 3 10 (zdz zbl) :=
  F.cal (k := 9) zdd (fun _ _ _ _ _ _ us hl => match us, hl with | [_, _, _], _ => rfl) fun f cdv A outer s H E hr =>
    (zaf (zaS 3 zdd.nd (de_meth c_Shop_job_of hr (by decide) (zac 0) (zaa (zac 1) zae) ln1)) (zan (zax (zbZ (zcD cd_isNot (zac 3) de_non (zbg _)) (zcP (zcD (cd_inX (hu66 hr)) (zac 2) (zar (zac 3) zad) (by rfl)))))))
noncomputable def G_sure_pairs (zaJ : List D -> Option D) (zbI : List D -> Option D) (zaA : List D -> Option D) (zaN : List D -> Option D) : List D -> Option (List D) := runO 3
    (zaE (sOwn 1 (szF zak)) (zaE (sFor (itF (cF zbI (zab (methF "Shop" "step_names" zaJ (vSh 0) zak) zak))) (zcs 2 (zaG (zaP 2) (zaG (zaP 3) zcr))) (sIf (orT (toB (cF zaN (zab (vSh 0) (zab (vSh 2) (zab (vSh 3) zak))))) (toB (cF zaA (zab (vSh 0) (zab (vSh 2) (zab (vSh 3) zak)))))) (sApp 1 (zce (szF (zab (vSh 2) (zab (vSh 3) zak))))) zci)) (sRetO 1)))
theorem zcQ : FnScope ["shop", "pairs", "one", "other"] ["shop"] (zai s_sure_pairs) := ⟨rfl, rfl, rfl, by decide +kernel, rfl, by decide +kernel, by decide +kernel⟩
theorem cal_sure_pairs {zaJ : List D -> Option D} {zbI : List D -> Option D} {zaA : List D -> Option D} {zaN : List D -> Option D} (F : Dfn K mg "sure_pairs" s_sure_pairs) (B : Bn mg) (c_Shop_step_names : CalM Γ P w K mg base "Shop" "step_names" 1 1 zaJ) (c_pairs_of : Cal Γ P w K mg base "pairs_of" 1 1 zbI) (c_share_their_one_bench : Cal Γ P w K mg base "share_their_one_bench" 3 10 zaA) (c_are_of_one_job : Cal Γ P w K mg base "are_of_one_job" 3 10 zaN) : CalO Γ P w K mg base "sure_pairs" 1 11 (G_sure_pairs zaJ zbI zaA zaN) :=
  F.calO (k := 10) zcQ (fun _ _ _ _ _ _ us hl => match us, hl with | [_], _ => rfl) fun f cdv A outer s H E hr =>
    (zaf (zc0 1 zcQ.nd (zbv zae)) (zaf (zcO PassesOwn.never rfl (za1 (zap c_pairs_of hr (by decide) rfl (zaa (de_meth0 c_Shop_step_names hr (by decide) (zac 0)) zae) ln1)) (dg_tup (n := 2) rfl (zaY (zau 2 zcQ.nd) (zaY (zau 3 zcQ.nd) zcW))) (zan (zbG (DW.dt (zcC (zaI (zap c_are_of_one_job hr (by decide) rfl (zaa (zac 0) (zaa (zac 2) (zaa (zac 3) zae))) ln3)) (zbY (zaI (zap c_share_their_one_bench hr (by decide) rfl (zaa (zac 0) (zaa (zac 2) (zaa (zac 3) zae))) ln3))))) (zan (zbt 1 (zb5 (zaa (zac 2) (zaa (zac 3) zae))))) zaK))) (zan (ds_retO 1))))
noncomputable def G_law (zay : List D -> Option D) (zbA : List D -> Option D) (zbM : List D -> Option D) (zch : List D -> Option D) (zbc : List D -> Option (List D)) : List D -> Option D := zbO 6
    (zaE (zbp 1 (b2 ixD (za3 (szF (zab (vC (.int 9)) (zab (vC (.int 40)) (zab (b2 powD (vC (.int 10)) (vC (.int 6))) zak))))) (b2 zcj (cF zay (zab (vSh 0) (zab (vC (.int 21)) zak))) (vC (.int 3))))) (zaE (zbp 2 (cF zbA (zab (vSh 0) (zab (b2 zbo (vC (.int 1)) (b2 zcj (cF zay (zab (vSh 0) (zab (vC (.int 22)) zak))) (vC (.int 10)))) (zab (vSh 1) (zab (vC (.int 7)) zak)))))) (zaE (zbp 3 (cF zbM (zab (vSh 2) zak))) (zaE (zbp 4 (cF zch (zab (vSh 2) zak))) (zaE (sFor (itR rng1 (zab (vC (.int 2)) zak)) (zaP 5) (zaE (sOwn 6 (cFO zbc (zab (vSh 3) zak))) (zaE (sIf (bwT 6 (orT (zbX (toB (cF isiD (zab (vSh 6) (zab (vC (.ty "list")) zak))))) (toB (b2 neA (vSh 6) (vSh 4))))) (zba (vC (.bl false))) zci) (sApp 6 (vC .non))))) (zba (vC (.bl true))))))))
theorem sc_law : FnScope ["_law_script", "_law_horizon", "_law_lists_here", "_law_shop_here", "_law_due_here", "_law_turn", "_law_found"] ["_law_script"] (zai s_law) := ⟨rfl, rfl, rfl, by decide +kernel, rfl, by decide +kernel, by decide +kernel⟩
theorem bod_law {zay : List D -> Option D} {zbA : List D -> Option D} {zbM : List D -> Option D} {zch : List D -> Option D} {zbc : List D -> Option (List D)} (B : Bn mg) (c__law_cell : Cal Γ P w K mg base "_law_cell" 2 1 zay) (c__law_lists : Cal Γ P w K mg base "_law_lists" 4 3 zbA) (c__law_shop : Cal Γ P w K mg base "_law_shop" 1 11 zbM) (c__law_due : Cal Γ P w K mg base "_law_due" 1 1 zch) (c_sure_pairs : CalO Γ P w K mg base "sure_pairs" 1 11 zbc) (f : Addr) (cdv : Value) (A : Around) (outer : List Env) (s : Shared) (H : Hp) (E : XK) (hr : Room 11 (A.deeper (envOfC "law" (zai s_law) s.heap.objs.size f cdv))) : DSs Γ (cxOf CX0 P w K mg base ["_law_script", "_law_horizon", "_law_lists_here", "_law_shop_here", "_law_due_here", "_law_turn", "_law_found"] "law" (zai s_law) f cdv A outer s H E).nox (zbe s_law)
    (zaE (zbp 1 (b2 ixD (za3 (szF (zab (vC (.int 9)) (zab (vC (.int 40)) (zab (b2 powD (vC (.int 10)) (vC (.int 6))) zak))))) (b2 zcj (cF zay (zab (vSh 0) (zab (vC (.int 21)) zak))) (vC (.int 3))))) (zaE (zbp 2 (cF zbA (zab (vSh 0) (zab (b2 zbo (vC (.int 1)) (b2 zcj (cF zay (zab (vSh 0) (zab (vC (.int 22)) zak))) (vC (.int 10)))) (zab (vSh 1) (zab (vC (.int 7)) zak)))))) (zaE (zbp 3 (cF zbM (zab (vSh 2) zak))) (zaE (zbp 4 (cF zch (zab (vSh 2) zak))) (zaE (sFor (itR rng1 (zab (vC (.int 2)) zak)) (zaP 5) (zaE (sOwn 6 (cFO zbc (zab (vSh 3) zak))) (zaE (sIf (bwT 6 (orT (zbX (toB (cF isiD (zab (vSh 6) (zab (vC (.ty "list")) zak))))) (toB (b2 neA (vSh 6) (vSh 4))))) (zba (vC (.bl false))) zci) (sApp 6 (vC .non))))) (zba (vC (.bl true)))))))) :=
    (zaf (zaS 1 sc_law.nd (zar (DO.de (zbv (zaa zad (zaa zad (zaa (de_pow zad zad) zae))))) (zbJ (zap c__law_cell hr (by decide) rfl (zaa (zac 0) (zaa zad zae)) ln2) zad))) (zaf (zaS 2 sc_law.nd (zap c__law_lists hr (by decide) rfl (zaa (zac 0) (zaa (za8 zad (zbJ (zap c__law_cell hr (by decide) rfl (zaa (zac 0) (zaa zad zae)) ln2) zad)) (zaa (zac 1) (zaa zad zae)))) ln4)) (zaf (zaS 3 sc_law.nd (zap c__law_shop hr (by decide) rfl (zaa (zac 2) zae) ln1)) (zaf (zaS 4 sc_law.nd (zap c__law_due hr (by decide) rfl (zaa (zac 2) zae) ln1)) (zaf (zcO PassesOwn.never rfl (zdi rfl B.z_range (zaa zad zae)) (zau 5 sc_law.nd) (zaf (zc0 6 sc_law.nd (do_cal c_sure_pairs hr (by decide) rfl (zaa (zac 3) zae) ln1)) (zaf (zbG (dt_bw 6 (DW.dt (zcC (zaL (zaI (zaz bd_isi rfl B.z_isinstance (by rfl) (zaa (zac 6) (zaa (de_ty rfl B.z_list (by rfl)) zae))))) (zbY (zct (cd_neA (hu64 hr)) (zac 6) (zac 4) (zbg _)))))) (zan (zax zdl)) zaK) (zan (zbt 6 de_non))))) (zan (zax zdl)))))))
end Law
end
section
namespace Law
open PySem L2 PySem.Spec PyProof.Rows
noncomputable def zay : List D -> Option D := G__law_cell
noncomputable def zah : List D -> Option D := G__law_digits
noncomputable def zbj : List D -> Option D := G__law_spans
noncomputable def zaq : List D -> Option D := G__law_name
noncomputable def zbd : List D -> Option D := G__law_benches zah zbj zaq
noncomputable def zbz : List D -> Option D := G__law_steps zah zaq
noncomputable def zbN : List D -> Option D := G__law_jobs zah zaq
noncomputable def zbk : List D -> Option D := G__law_setups zah
noncomputable def zbB : List D -> Option D := G__law_links zah
noncomputable def zbi : List D -> Option D := G__law_stocks zah zaq
noncomputable def zbA : List D -> Option D := G__law_lists zay zbd zbz zbN zbk zbB zbi
noncomputable def zbS : List D -> Option D := G_is_whole
noncomputable def zal : List D -> Option D := G_is_within zbS
noncomputable def zam : List D -> Option D := G_is_tuple
noncomputable def zbV : List D -> Option D := G_is_break zal zam
noncomputable def zao : List D -> Option D := G_is_list
noncomputable def zby : List D -> Option D := G_are_breaks zbV zao
noncomputable def zav : List D -> Option D := G_is_name
noncomputable def zbW : List D -> Option D := G_is_bench zby zav zam
noncomputable def zag : List D -> Option D := zcG
noncomputable def zbh : List D -> Option D := G_are_benches zbW zao zag
noncomputable def zas : List D -> Option D := G_is_one_of zav
noncomputable def zcT : List D -> Option D := G_is_way zal zas zam
noncomputable def zcf : List D -> Option D := G_are_ways zcT zao zag
noncomputable def zcp : List D -> Option D := G_is_step zav zam zcf
noncomputable def zbK : List D -> Option D := G_are_steps zcp zao zag
noncomputable def zc3 : List D -> Option D := G_is_job zav zam zal zas zao
noncomputable def zcg : List D -> Option D := G_are_jobs zc3 zao zag
noncomputable def zbU : List D -> Option D := G_is_setup zas zam zal zav
noncomputable def zbx : List D -> Option D := G_are_setups zbU zao zag
noncomputable def zcq : List D -> Option D := G_is_link zas zam zal
noncomputable def zbL : List D -> Option D := G_are_links zcq zao zag
noncomputable def zbE : List D -> Option D := G_is_amount zal zas zam
noncomputable def zbb : List D -> Option D := G_are_amounts zbE zao zag
noncomputable def zbT : List D -> Option D := G_is_stock zav zam zal zbb
noncomputable def zbw : List D -> Option D := G_are_stocks zbT zao zag
noncomputable def zaW : List D -> Option D := zdy zal zbh zbK zcg zbx zbL zbw
noncomputable def zdb : Nat -> List D -> Option D
  | 0 => fun _ => none
  | n + 1 => zdc (zdb n)
noncomputable def zaR : List D -> Option D := zdb 8
noncomputable def za7 : List D -> Option D := G_Shop___init__ zaW zaR
noncomputable def zbM : List D -> Option D := G__law_shop za7
noncomputable def zch : List D -> Option D := G__law_due
noncomputable def zaJ : List D -> Option D := zdm
noncomputable def zbI : List D -> Option D := G_pairs_of
noncomputable def za5 : List D -> Option D := G_Shop_ways_of zaR
noncomputable def zaA : List D -> Option D := zco za5
noncomputable def zbl : List D -> Option D := G_Shop_job_of zaR
noncomputable def zaN : List D -> Option D := zdz zbl
noncomputable def zbc : List D -> Option (List D) := G_sure_pairs zaJ zbI zaA zaN
noncomputable def F_law : List D -> Option D := G_law zay zbA zbM zch zbc
end Law
end
section
namespace Law
open PySem L2
theorem i2 : isiT "int" "int" = some true := rfl
theorem i3 : isiT "int" "bool" = some false := rfl
theorem i5 : isiT "bool" "bool" = some true := rfl
theorem k1 : isiT "list" "list" = some true := rfl
theorem k2 : isiT "tuple" "list" = some false := rfl
theorem k3 : isiT "tuple" "tuple" = some true := rfl
theorem k4 : isiT "str" "list" = some false := rfl
theorem k5 : isiT "str" "tuple" = some false := rfl
theorem k6 : isiT "int" "list" = some false := rfl
theorem k7 : isiT "int" "tuple" = some false := rfl
theorem k8 : isiT "bool" "list" = some false := rfl
theorem k9 : isiT "bool" "tuple" = some false := rfl
theorem k10 : isiT "NoneType" "list" = some false := rfl
theorem k11 : isiT "NoneType" "tuple" = some false := rfl
theorem sz1 : (1 <= sizeLine) = True := by simp [sizeLine]
theorem sz2 : (1 + 1 <= sizeLine) = True := by simp [sizeLine]
theorem sz3 : (1 + 1 + 1 <= sizeLine) = True := by simp [sizeLine]
theorem sz4 : (1 + 1 + 1 + 1 <= sizeLine) = True := by simp [sizeLine]
theorem sz5 : (1 + 1 + 1 + 1 + 1 <= sizeLine) = True := by simp [sizeLine]
theorem sz6 : (1 + 1 + 1 + 1 + 1 + 1 <= sizeLine) = True := by simp [sizeLine]
theorem sz7 : (1 + 1 + 1 + 1 + 1 + 1 + 1 <= sizeLine) = True := by simp [sizeLine]
section
variable {x0 x1 x2 x3 x4 : D} {r : List D}
theorem atI_nat {α : Type} (l : List α) (n : Nat) : atI l (n : Int) = l[n]? := by
  unfold atI ixN
  rw [if_pos (by omega)]
  by_cases h : n < l.length
  · rw [if_pos (by omega)]; simp
  · rw [if_neg (by omega)]; simp; omega
theorem ixD0 : ixD (.tup (x0 :: r)) (.int 0) = some x0 := atI_nat _ 0
theorem ixD1 : ixD (.tup (x0 :: x1 :: r)) (.int 1) = some x1 := atI_nat _ 1
theorem ixD2 : ixD (.tup (x0 :: x1 :: x2 :: r)) (.int 2) = some x2 := atI_nat _ 2
theorem ixD3 : ixD (.tup (x0 :: x1 :: x2 :: x3 :: r)) (.int 3) = some x3 := atI_nat _ 3
theorem ixD4 : ixD (.tup (x0 :: x1 :: x2 :: x3 :: x4 :: r)) (.int 4) = some x4 := atI_nat _ 4
end
theorem comp0 {fe : FE} {r : za2} {f : D -> D} : ∀ {xs : List D} {a : Option Slot}, (∀ x ∈ xs, fe (some (.sh x) :: r) = some (f x)) -> compL (zaP 0) tT fe xs (a :: r) = some (xs.map f)
  | [], _, _ => rfl
  | x :: xs, a, h => by
    have h1 := h x List.mem_cons_self
    have ih := comp0 (xs := xs) (a := some (.sh x)) fun y hy => h y (List.mem_cons_of_mem _ hy)
    simp only [compL, zaP, List.set_cons_zero, Option.bind_some, tT, if_true, h1, ih, Option.map_some, List.map_cons]
theorem bls_all : ∀ {l : List D}, (∀ x ∈ l, x = .bl true) -> ∃ bs : List Bool, blsD l = some bs /\ bs.all id = true
  | [], _ => ⟨[], rfl, rfl⟩
  | x :: r, h => by
    obtain ⟨bs, h1, h2⟩ := bls_all (l := r) fun y hy => h y (List.mem_cons_of_mem _ hy)
    have hx := h x List.mem_cons_self
    subst hx
    exact ⟨true :: bs, by simp [blsD, h1], by simpa using h2⟩
theorem zb8 {fi : FA} {fe : FE} {fv : List (Option Nat)} {ρ r : za2} {a : Option Slot} {xs : List D} (h1 : fi ρ = some xs) (h2 : xs.length <= sizeLine) (h3 : fvEnv fv ρ = a :: r) (h : ∀ x ∈ xs, fe (some (.sh x) :: r) = some (.bl true)) :
    cF allD (zab (za3 (zaO fi (zaP 0) tT fe fv)) zak) ρ = some (.bl true) := by
  have c := comp0 (a := a) (f := fun _ => .bl true) h
  obtain ⟨bs, e1, e2⟩ := bls_all (l := xs.map fun _ => D.bl true) (by simp)
  simp only [cF, zab, zak, za3, zaO, h1, Option.bind_some, if_pos h2, h3, c, Option.map_some, allD, e1]
  simpa using e2
theorem zbF {fi : FA} {fe : FE} {fv : List (Option Nat)} {ρ r : za2} {a : Option Slot} {xs : List D} {f : D -> D} (h1 : fi ρ = some xs) (h2 : xs.length <= sizeLine) (h3 : fvEnv fv ρ = a :: r) (h : ∀ x ∈ xs, fe (some (.sh x) :: r) = some (f x)) :
    za3 (zaO fi (zaP 0) tT fe fv) ρ = some (.lst (xs.map f)) := by
  simp only [za3, zaO, h1, Option.bind_some, if_pos h2, h3, comp0 (a := a) h, Option.map_some]
theorem zb2 {gg : FG} {body : FS} {xs : List D} {ρ : za2} (I : Nat -> za2 -> Prop) (h0 : I 0 ρ) (hs : ∀ i x ρ, xs[i]? = some x -> I i ρ -> ∃ ρ1 ρ2, gg x ρ = some ρ1 /\ body ρ1 = some (.nx, ρ2) /\ I (i + 1) ρ2) :
    ∃ ρ', forL gg body xs ρ = some (.nx, ρ') /\ I xs.length ρ' := by
  have key : ∀ (ys : List D) (k : Nat) (ρ : za2), xs.drop k = ys -> I k ρ -> ∃ ρ', forL gg body ys ρ = some (.nx, ρ') /\ I (k + ys.length) ρ' := by
    intro ys
    induction ys with
    | nil => intro k ρ _ hk; exact ⟨ρ, rfl, hk⟩
    | cons y r ih =>
      intro k ρ hd hk
      have hy : xs[k]? = some y := by
        have : (xs.drop k)[0]? = some y := by rw [hd]; rfl
        simpa using this
      obtain ⟨ρ1, ρ2, h1, h2, h3⟩ := hs k y ρ hy hk
      have hd' : xs.drop (k + 1) = r := by rw [← List.drop_drop, hd]; rfl
      obtain ⟨ρ', h4, h5⟩ := ih (k + 1) ρ2 hd' h3
      refine ⟨ρ', ?_, by rw [List.length_cons]; rwa [show k + 1 + r.length = k + (r.length + 1) by omega] at h5⟩
      simp only [forL, h1, Option.bind_some, h2, h4]
  obtain ⟨ρ', h1, h2⟩ := key xs 0 ρ rfl h0
  exact ⟨ρ', h1, by rwa [Nat.zero_add] at h2⟩
theorem big62 : (2 : Int) ^ 62 = 4611686018427387904 := by decide +kernel
theorem rng2_ok {i j : Int} (h : 0 <= i /\ i <= 1000000 /\ 0 <= j /\ j <= 1000000) : rng2 [.int i, .int j] = some ((List.range (j - i).toNat).map fun k : Nat => D.int (i + k)) := by
  unfold rng2
  rw [big62]
  exact if_pos ⟨by omega, by omega, by omega, by omega⟩
theorem rng1_ok {j : Int} (h : 0 <= j /\ j <= 1000000) : rng1 [.int j] = some ((List.range j.toNat).map fun i : Nat => D.int (0 + i)) := by
  unfold rng1
  rw [big62]
  exact if_pos ⟨by omega, by omega⟩
theorem itR_of {g : List D -> Option (List D)} {fr : FA} {ρ : za2} {ds r : List D} (h1 : fr ρ = some ds) (h2 : g ds = some r) : itR g fr ρ = some r := by
  unfold itR; rw [h1]; exact h2
theorem zaw {g : D -> D -> Option D} {fa fb : FE} {ρ : za2} {x y z : D} (h1 : fa ρ = some x) (h2 : fb ρ = some y) (h3 : g x y = some z) : b2 g fa fb ρ = some z := by
  unfold b2; rw [h1, Option.bind_some, h2, Option.bind_some]; exact h3
theorem zaT {g : List D -> Option D} {fr : FA} {ρ : za2} {ds : List D} {z : D} (h1 : fr ρ = some ds) (h2 : g ds = some z) : cF g fr ρ = some z := by
  unfold cF; rw [h1]; exact h2
theorem zaj {f : FE} {fr : FA} {ρ : za2} {d : D} {ds : List D} (h1 : f ρ = some d) (h2 : fr ρ = some ds) : zab f fr ρ = some (d :: ds) := by
  unfold zab; rw [h1, Option.bind_some, h2]; rfl
theorem zaD {ρ : za2} : zak ρ = some [] := rfl
theorem run_of {n : Nat} {g : FS} {ds : List D} {d : D} {ρ' : za2} (h : g (ds.map (fun d => some (Slot.sh d)) ++ List.replicate n none) = some (.rt d, ρ')) : zbO n g ds = some d := by
  unfold zbO; rw [h]; rfl
theorem za0 {n : Nat} {g : FS} {ds : List D} {d : D} (ρ : za2) {ρ' : za2} (e : ds.map (fun d => some (Slot.sh d)) ++ List.replicate n none = ρ) (h : g ρ = some (.rt d, ρ')) : zbO n g ds = some d := by
  subst e; exact run_of h
theorem zaU {f : FE} {ρ : za2} {d : D} (h : f ρ = some d) : zba f ρ = some (.rt d, ρ) := by unfold zba; rw [h]; rfl
theorem zaZ {f : FE} {ρ : za2} {b : Bool} (h : f ρ = some (.bl b)) : toB f ρ = some b := by unfold toB; rw [h]; rfl
theorem guard1 {A : FE} {X E : FS} {ρ : za2} (hA : A ρ = some (.bl true)) : zaE (sIf (zbX (toB A)) X zci) E ρ = E ρ := by
  simp only [zaE, sIf, zbX, zaZ hA, Option.map_some, Option.bind_some, Bool.not_true, Bool.false_eq_true, if_false, zci]
theorem guard2 {A B : FE} {X E : FS} {ρ : za2} (hA : A ρ = some (.bl true)) (hB : B ρ = some (.bl true)) : zaE (sIf (orT (zbX (toB A)) (zbX (toB B))) X zci) E ρ = E ρ := by
  simp only [zaE, sIf, orT, zbX, zaZ hA, zaZ hB, Option.map_some, Option.bind_some, Bool.not_true, Bool.false_eq_true, if_false, zci]
theorem guard3 {A B C : FE} {X E : FS} {ρ : za2} (hA : A ρ = some (.bl true)) (hB : B ρ = some (.bl true)) (hC : C ρ = some (.bl true)) : zaE (sIf (orT (zbX (toB A)) (orT (zbX (toB B)) (zbX (toB C)))) X zci) E ρ = E ρ := by
  simp only [zaE, sIf, orT, zbX, zaZ hA, zaZ hB, zaZ hC, Option.map_some, Option.bind_some, Bool.not_true, Bool.false_eq_true, if_false, zci]
theorem and_of {A B : FE} {ρ : za2} (hA : A ρ = some (.bl true)) (hB : B ρ = some (.bl true)) : zcZ A B ρ = some (.bl true) := by
  simp only [zcZ, hA, hB, Option.bind_some]
theorem zaF {i : Nat} {f : FE} {g : FS} {ρ : za2} {d : D} (h : f ρ = some d) : zaE (zbp i f) g ρ = g (ρ.set i (some (.sh d))) := by
  simp only [zaE, zbp, h, Option.map_some, Option.bind_some]
theorem whole_int (i : Int) : zbS [.int i] = some (.bl true) := by
  simp only [zbS, G_is_whole, zbO, zba, zcZ, notD, cF, zab, zak, vSh, vC, isiD, tyD, List.map_cons, List.map_nil, List.cons_append, List.nil_append, List.replicate, List.getElem?_cons_zero, Option.bind_some, Option.map_some, Bool.not_false, i2, i3]
theorem zbq (i a b : Int) (h : a <= i /\ i <= b) : zal [.int i, .int a, .int b] = some (.bl true) := by
  simp only [zal, G_is_within, whole_int, zbO, zba, zcZ, cF, zab, zak, vSh, chD, leD, List.map_cons, List.map_nil, List.cons_append, List.nil_append, List.replicate, List.getElem?_cons_zero, List.getElem?_cons_succ, Option.bind_some, Option.map_some, decide_eq_true h.1, decide_eq_true h.2]
theorem zc8 (l : List D) (a b : Int) (h : a <= l.length /\ (l.length : Int) <= b) : zao [.lst l, .int a, .int b] = some (.bl true) := by
  simp only [zao, G_is_list, zbO, zba, zcZ, cF, zab, zak, vSh, vC, chD, isiD, tyD, zcU, leD, List.map_cons, List.map_nil, List.cons_append, List.nil_append, List.replicate, List.getElem?_cons_zero, List.getElem?_cons_succ, Option.bind_some, Option.map_some, k1, decide_eq_true h.1, decide_eq_true h.2]
theorem tuple_ok (l : List D) (n : Int) (h : (l.length : Int) = n) : zam [.tup l, .int n] = some (.bl true) := by
  simp only [zam, G_is_tuple, zbO, zba, zcZ, cF, zab, zak, vSh, vC, b2, isiD, tyD, zcU, eqD, eqS, List.map_cons, List.map_nil, List.cons_append, List.nil_append, List.replicate, List.getElem?_cons_zero, List.getElem?_cons_succ, Option.bind_some, Option.map_some, k3, decide_eq_true h]
section
variable {a b c d e : D}
theorem tup2 : zam [.tup [a, b], .int 2] = some (.bl true) := tuple_ok _ _ rfl
theorem tup3 : zam [.tup [a, b, c], .int 3] = some (.bl true) := tuple_ok _ _ rfl
theorem tup4 : zam [.tup [a, b, c, d], .int 4] = some (.bl true) := tuple_ok _ _ rfl
theorem tup5 : zam [.tup [a, b, c, d, e], .int 5] = some (.bl true) := tuple_ok _ _ rfl
end
def dIv (p : Int × Int) : D := .tup [.int p.1, .int p.2]
theorem break_ok (p : Int × Int) (h : Int) (h1 : 0 <= p.1) (h2 : p.1 < p.2) (h3 : p.2 <= h) : zbV [dIv p, .int h] = some (.bl true) := by
  simp only [zbV, G_is_break, dIv, zbO, zaE, sIf, zba, zci, orT, zbX, toB, cF, zab, zak, vSh, vC, b2, ltD, ixD0, ixD1, List.map_cons, List.map_nil, List.cons_append, List.nil_append, List.replicate, List.getElem?_cons_zero, List.getElem?_cons_succ, Option.bind_some, Option.map_some, if_false, Bool.not_true, Bool.false_eq_true, tup2, zbq p.1 0 h ⟨h1, by omega⟩, zbq p.2 0 h ⟨by omega, h3⟩, decide_eq_true h2]
def az (c : Nat) : Bool := !ltS ⟨#[c]⟩ "a" && !ltS "z" ⟨#[c]⟩
theorem az_le {c : Nat} (h : az c = true) : c <= 122 := by
  have z : ("z" : Str) = ⟨#[122]⟩ := by decide +kernel
  unfold az ltS at h
  rw [z] at h
  simp only [Bool.and_eq_true, Bool.not_eq_true', decide_eq_false_iff_not] at h
  have h2 := h.2
  rcases Nat.lt_or_ge 122 c with q | q
  · exact absurd (show ([122] : List Nat) < [c] from List.Lex.rel q) h2
  · exact q
theorem chain_az (c : Nat) (r : za2) : chD leD leD (vC (.str "a")) (vSh 0) (vC (.str "z")) (some (.sh (.str ⟨#[c]⟩)) :: r) = some (.bl (az c)) := by
  simp only [chD, vC, vSh, List.getElem?_cons_zero, Option.bind_some, leD, az]
  cases ltS ⟨#[c]⟩ "a" <;> simp
def zaQ (x : Str) : Bool := decide (1 <= x.length) && decide (x.length <= 8) && x.cps.toList.all az
theorem nameB_len {x : Str} (h : zaQ x = true) : 1 <= x.length /\ x.length <= 8 := by
  unfold zaQ at h
  simp only [Bool.and_eq_true, decide_eq_true_eq] at h
  exact h.1
theorem nameB_az {x : Str} (h : zaQ x = true) : ∀ c ∈ x.cps.toList, az c = true := by
  unfold zaQ at h
  simp only [Bool.and_eq_true, List.all_eq_true] at h
  exact h.2
theorem name_ok {x : Str} (h : zaQ x = true) : zav [.str x] = some (.bl true) := by
  obtain ⟨h1, h2⟩ := nameB_len h
  have hz : x.length <= sizeLine := by unfold sizeLine; omega
  have hl : (x.cps.toList.map fun c => D.str ⟨#[c]⟩).length <= sizeLine := by simpa [Str.length] using hz
  have e1 : decide ((1 : Int) <= (x.length : Nat)) = true := decide_eq_true (by omega)
  have e2 : decide (((x.length : Nat) : Int) <= 8) = true := decide_eq_true (by omega)
  have ha := zb8 (fi := itS (vSh 0)) (fe := chD leD leD (vC (.str "a")) (vSh 0) (vC (.str "z"))) (fv := [none]) (ρ := [some (.sh (.str x))]) (r := []) (a := none) (xs := x.cps.toList.map fun c => D.str ⟨#[c]⟩)
    (by simp [itS, vSh, signsD]) hl rfl (fun y hy => by
      obtain ⟨c, hc, rfl⟩ := List.mem_map.mp hy
      rw [chain_az, nameB_az h c hc])
  refine run_of (ρ' := [some (.sh (.str x))]) ((guard2 ?_ ?_).trans (zaU ha))
  · rfl
  · show chD leD leD (vC (.int 1)) (cF zcU (zab (vSh 0) zak)) (vC (.int 8)) [some (.sh (.str x))] = _
    simp only [cF, zab, zak, vSh, vC, chD, zcU, leD, List.getElem?_cons_zero, Option.bind_some, Option.map_some, if_pos hz, e1, e2]
theorem strOk_of {x : Str} (h : zaQ x = true) : PyData.strOk x = true := by
  unfold PyData.strOk
  rw [Array.all_eq_true']
  intro c hc
  have := az_le (nameB_az h c (by simpa using hc))
  exact decide_eq_true (by omega)
theorem pd_strs : ∀ (ns : List Str), pdDs (ns.map D.str) = some (ns.map PyData.str)
  | [] => by simp [pdDs]
  | x :: r => by simp [pdDs, pdD, pd_strs r]
theorem lay_strs : ∀ {ns : List Str}, (∀ x ∈ ns, zaQ x = true) -> PyData.canLayAll0 (ns.map PyData.str) = true
  | [], _ => by simp [PyData.canLayAll0]
  | x :: r, h => by
    simp only [List.map_cons, PyData.canLayAll0, PyData.canLay0, strOk_of (h x List.mem_cons_self), Bool.true_and]
    exact lay_strs fun y hy => h y (List.mem_cons_of_mem _ hy)
theorem any_strs (x : Str) : ∀ (ns : List Str), ((ns.map PyData.str).any fun z => PyData.eqv z (.str x)) = decide (x ∈ ns)
  | [] => by simp
  | y :: r => by
    have ih := any_strs x r
    rw [List.map_cons, List.any_cons, ih]
    simp only [PyData.eqv]
    by_cases e : y = x
    · subst e; simp
    · have : x ≠ y := fun z => e z.symm
      simp [e, this]
theorem in_strs {x : Str} {ns : List Str} (hx : zaQ x = true) (hn : ∀ y ∈ ns, zaQ y = true) : inXD (.str x) (.lst (ns.map D.str)) = some (.bl (decide (x ∈ ns))) := by
  have sh : SeqAt.shaped (.str x) = true := by simp [SeqAt.shaped, PyData.canLay0, strOk_of hx, PyData.depth]
  simp only [inXD, inX, pdD, pd_strs, Option.map_some, Option.bind_some, sh, lay_strs hn, and_self, if_true, any_strs]
theorem zde {x : Str} {ns : List Str} (hx : x ∈ ns) (hn : ∀ y ∈ ns, zaQ y = true) : zas [.str x, .lst (ns.map D.str)] = some (.bl true) := by
  simp only [zas, G_is_one_of, zbO, zba, zcZ, cF, zab, zak, vSh, b2, List.map_cons, List.map_nil, List.cons_append, List.nil_append, List.replicate, List.getElem?_cons_zero, List.getElem?_cons_succ, Option.bind_some, Option.map_some, name_ok (hn x hx), in_strs (hn x hx) hn, decide_eq_true hx]
theorem dd_nodup {κ : Type} [DecidableEq κ] {l : List κ} (h : l.Nodup) : ST.dd l = l := by
  have key : ∀ (l a : List κ), (a ++ l).Nodup -> l.foldl (fun a k => if k ∈ a then a else a ++ [k]) a = a ++ l := by
    intro l
    induction l with
    | nil => intro a _; simp
    | cons x r ih =>
      intro a hn
      have hx : x ∉ a := by
        intro z
        rw [List.nodup_append] at hn
        exact hn.2.2 x z x List.mem_cons_self rfl
      rw [List.foldl_cons, if_neg hx, ih (a ++ [x]) (by simpa using hn)]
      simp
  simpa [ST.dd] using key l [] (by simpa using h)
theorem dkeys_strs : ∀ (ns : List Str), dkeys (ns.map D.str) = some (ns.map Sum.inr)
  | [] => by simp [dkeys]
  | x :: r => by simp [dkeys, dkey, dkeys_strs r]
theorem zcb {ns : List Str} (h : ns.Nodup) (hl : ns.length <= 300) : zag [.lst (ns.map D.str)] = some (.bl true) := by
  have hd : (ns.map (Sum.inr : Str -> Key)).Nodup := List.Pairwise.map _ (fun a b hab z => hab (Sum.inr.inj z)) h
  simp only [zag, zcG, zbO, zba, cF, zab, zak, vSh, b1, b2, zcU, eqD, eqS, List.map_cons, List.map_nil, List.cons_append, List.nil_append, List.replicate, List.getElem?_cons_zero, Option.bind_some, Option.map_some, lensetD, List.length_map, if_pos hl, dkeys_strs, dd_nodup hd]
  simp
theorem tupKeys_strs : ∀ (ts : List (List Str)), tupKeys (ts.map fun t => .tup (t.map D.str)) = some (ts.map fun t => t.map Sum.inr)
  | [] => by simp [tupKeys]
  | t :: r => by simp [tupKeys, dkeys_strs, tupKeys_strs r]
theorem unlike_tups {ts : List (List Str)} (h : ts.Nodup) (hl : ts.length <= 300) : zag [.lst (ts.map fun t => .tup (t.map D.str))] = some (.bl true) := by
  have inj : ∀ a b : List Str, a.map (Sum.inr : Str -> Key) = b.map Sum.inr -> a = b := fun a b z => (List.map_inj_right (fun x y q => Sum.inr.inj q)).mp z
  have hd : (ts.map fun t => t.map (Sum.inr : Str -> Key)).Nodup := List.Pairwise.map _ (fun a b hab z => hab (inj a b z)) h
  cases ts with
  | nil => simp only [zag, zcG, zbO, zba, cF, zab, zak, vSh, b1, b2, zcU, eqD, eqS, List.map_cons, List.map_nil, List.cons_append, List.nil_append, List.replicate, List.getElem?_cons_zero, Option.bind_some, Option.map_some, List.length_nil, lensetD, dkeys, ST.dd]; simp
  | cons t r =>
    have e : dkeys ((t :: r).map fun t => D.tup (t.map D.str)) = none := by simp [dkeys, dkey]
    simp only [zag, zcG, zbO, zba, b2, b1, vSh, List.map_cons, List.map_nil, List.cons_append, List.nil_append, List.replicate, List.getElem?_cons_zero, Option.bind_some, lensetD, cF, zab, zak, zcU, Option.map_some]
    rw [if_pos (by simpa using hl)]
    have e' := e
    rw [List.map_cons] at e'
    rw [e']
    have t' := tupKeys_strs (t :: r)
    rw [List.map_cons] at t'
    rw [t']
    rw [Option.map_some, dd_nodup hd]
    simp [eqD, eqS]
end Law
end
section
namespace Law
open PySem L2
structure BenchT where
  nm : Str
  br : List (Int × Int)
structure StepT where
  nm : Str
  kd : Str
  ws : List (Str × Int)
structure JobT where
  nm : Str
  ea : Int
  du : Int
  od : Bool
  ms : List Str
structure SetT where
  b : Str
  p : Str
  q : Str
  n : Int
structure LinkT where
  a : Str
  b : Str
  g : Int
structure StockT where
  nm : Str
  lo : Int
  hi : Int
  tk : List (Str × Int)
  pt : List (Str × Int)
def dW (w : Str × Int) : D := .tup [.str w.1, .int w.2]
def zaV (b : BenchT) : D := .tup [.str b.nm, .lst (b.br.map dIv)]
def zaC (s : StepT) : D := .tup [.str s.nm, .str s.kd, .lst (s.ws.map dW)]
def zbu (j : JobT) : D := .tup [.str j.nm, .int j.ea, .int j.du, .bl j.od, .lst (j.ms.map D.str)]
def dSet (u : SetT) : D := .tup [.str u.b, .str u.p, .str u.q, .int u.n]
def zcM (l : LinkT) : D := .tup [.str l.a, .str l.b, .int l.g]
def zb0 (k : StockT) : D := .tup [.str k.nm, .int k.lo, .int k.hi, .lst (k.tk.map dW), .lst (k.pt.map dW)]
structure GoodB (h : Int) (b : BenchT) : Prop where
  nm : zaQ b.nm = true
  len : b.br.length <= 10
  iv : ∀ p ∈ b.br, 0 <= p.1 /\ p.1 < p.2 /\ p.2 <= h
  gap : ∀ (i : Nat) p q, b.br[i]? = some p -> b.br[i + 1]? = some q -> p.2 < q.1
structure GoodS (bn : List Str) (h : Int) (s : StepT) : Prop where
  nm : zaQ s.nm = true
  kd : zaQ s.kd = true
  l1 : 1 <= s.ws.length
  l4 : s.ws.length <= 4
  ws : ∀ w ∈ s.ws, w.1 ∈ bn /\ 1 <= w.2 /\ w.2 <= h
  nd : (s.ws.map (·.1)).Nodup
structure GoodJ (sn : List Str) (h : Int) (j : JobT) : Prop where
  nm : zaQ j.nm = true
  ea : 0 <= j.ea /\ j.ea <= h
  du : 0 <= j.du /\ j.du <= h
  l1 : 1 <= j.ms.length
  ln : j.ms.length <= sn.length
  ms : ∀ m ∈ j.ms, m ∈ sn
structure GoodU (bn : List Str) (h : Int) (u : SetT) : Prop where
  b : u.b ∈ bn
  p : zaQ u.p = true
  q : zaQ u.q = true
  n : 1 <= u.n /\ u.n <= h
structure GoodL (sn : List Str) (h : Int) (l : LinkT) : Prop where
  a : l.a ∈ sn
  b : l.b ∈ sn
  ne : l.a ≠ l.b
  g : 0 <= l.g /\ l.g <= h
structure GoodA (sn : List Str) (am : List (Str × Int)) : Prop where
  ln : am.length <= sn.length
  ws : ∀ w ∈ am, w.1 ∈ sn /\ 1 <= w.2 /\ w.2 <= 1000000
  nd : (am.map (·.1)).Nodup
structure GoodK (sn : List Str) (k : StockT) : Prop where
  nm : zaQ k.nm = true
  lo : 0 <= k.lo /\ k.lo <= k.hi
  hi : 0 <= k.hi /\ k.hi <= 1000000
  tk : GoodA sn k.tk
  pt : GoodA sn k.pt
structure Good (bs : List BenchT) (ss : List StepT) (js : List JobT) (us : List SetT) (ls : List LinkT) (ks : List StockT) (hz : Int) : Prop where
  hh : 1 <= hz /\ hz <= 1000000
  bl : 1 <= bs.length /\ bs.length <= 8
  b : ∀ x ∈ bs, GoodB hz x
  bn : (bs.map (·.nm)).Nodup
  sl : 1 <= ss.length /\ ss.length <= 40
  s : ∀ x ∈ ss, GoodS (bs.map (·.nm)) hz x
  sn : (ss.map (·.nm)).Nodup
  jl : js.length <= 40
  j : ∀ x ∈ js, GoodJ (ss.map (·.nm)) hz x
  jn : (js.map (·.nm)).Nodup
  jm : (js.flatMap (·.ms)).Nodup
  ul : us.length <= 100
  u : ∀ x ∈ us, GoodU (bs.map (·.nm)) hz x
  un : (us.map fun u => [u.b, u.p, u.q]).Nodup
  ll : ls.length <= 100
  l : ∀ x ∈ ls, GoodL (ss.map (·.nm)) hz x
  ln : (ls.map fun l => [l.a, l.b]).Nodup
  kl : ks.length <= 6
  k : ∀ x ∈ ks, GoodK (ss.map (·.nm)) x
  kn : (ks.map (·.nm)).Nodup
theorem ixL (l : List D) (n : Nat) : ixD (.lst l) (.int (n : Int)) = l[n]? := atI_nat l n
theorem szN {n k : Nat} (h : n <= k) (hk : k <= 1000) : n <= sizeLine := by unfold sizeLine; omega
section
variable {h : Int} {bn sn : List Str}
theorem gap_ok {br : List (Int × Int)} (len : br.length <= 10) (gap : ∀ (i : Nat) p q, br[i]? = some p -> br[i + 1]? = some q -> p.2 < q.1) :
    cF allD (zab (za3 (zaO (itR rng2 (zab (vC (.int 1)) (zab (cF zcU (zab (vSh 0) zak)) zak))) (zaP 0) tT (b2 ltD (b2 ixD (b2 ixD (vSh 1) (b2 subD (vSh 0) (vC (.int 1)))) (vC (.int 1))) (b2 ixD (b2 ixD (vSh 1) (vSh 0)) (vC (.int 0)))) [none, some 0])) zak) [some (.sh (.lst (br.map dIv))), some (.sh (.int h))] = some (.bl true) := by
  have e0 : itR rng2 (zab (vC (.int 1)) (zab (cF zcU (zab (vSh 0) zak)) zak)) [some (.sh (.lst (br.map dIv))), some (.sh (.int h))] = some ((List.range (((br.map dIv).length : Int) - 1).toNat).map fun k : Nat => D.int (1 + k)) := by
    exact itR_of rfl (rng2_ok (i := 1) (j := ((br.map dIv).length : Nat)) (by rw [List.length_map]; omega))
  refine zb8 (r := [some (.sh (.lst (br.map dIv)))]) (a := none) e0 ?_ rfl fun x hx => ?_
  · simp only [List.length_map, List.length_range]
    exact szN (k := 10) (by omega) (by decide)
  · obtain ⟨k, hk, rfl⟩ := List.mem_map.mp hx
    rw [List.mem_range, List.length_map] at hk
    have hk1 : k < br.length := by omega
    have hk2 : k + 1 < br.length := by omega
    have e1 : br[k]? = some br[k] := by simp [hk1]
    have e2 : br[k + 1]? = some br[k + 1] := by simp [hk2]
    have g := gap k _ _ e1 e2
    have a1 : ixD (.lst (br.map dIv)) (.int (1 + (k : Int) - 1)) = some (dIv br[k]) := by
      have : (1 + (k : Int) - 1) = ((k : Nat) : Int) := by omega
      rw [this, ixL, List.getElem?_map, e1]; rfl
    have a2 : ixD (.lst (br.map dIv)) (.int (1 + (k : Int))) = some (dIv br[k + 1]) := by
      have : (1 + (k : Int)) = ((k + 1 : Nat) : Int) := by omega
      rw [this, ixL, List.getElem?_map, e2]; rfl
    simp only [vSh, vC, b2, ltD, subD, List.getElem?_cons_zero, List.getElem?_cons_succ, Option.bind_some, a1, a2]
    simp only [dIv, ixD0, ixD1, Option.bind_some, decide_eq_true g]
theorem breaks_ok {br : List (Int × Int)} (len : br.length <= 10) (iv : ∀ p ∈ br, 0 <= p.1 /\ p.1 < p.2 /\ p.2 <= h) (gap : ∀ (i : Nat) p q, br[i]? = some p -> br[i + 1]? = some q -> p.2 < q.1) :
    zby [.lst (br.map dIv), .int h] = some (.bl true) := by
  refine za0 [some (.sh (.lst (br.map dIv))), some (.sh (.int h))] rfl ((guard2 ?_ (zb8 (r := [some (.sh (.int h))]) (a := none) (xs := br.map dIv) rfl (by rw [List.length_map]; exact szN len (by decide)) rfl fun x hx => ?_)).trans (zaU (gap_ok len gap)))
  · exact zc8 _ 0 10 ⟨by omega, by rw [List.length_map]; omega⟩
  · obtain ⟨p, hp, rfl⟩ := List.mem_map.mp hx
    obtain ⟨h1, h2, h3⟩ := iv p hp
    exact break_ok p h h1 h2 h3
theorem bench_ok {b : BenchT} (g : GoodB h b) : zbW [zaV b, .int h] = some (.bl true) := by
  simp only [zbW, G_is_bench, zaV, zbO, zba, zcZ, cF, zab, zak, vSh, vC, b2, ixD0, ixD1, List.map_cons, List.map_nil, List.cons_append, List.nil_append, List.replicate, List.getElem?_cons_zero, List.getElem?_cons_succ, Option.bind_some, Option.map_some, tup2, name_ok g.nm, breaks_ok g.len g.iv g.gap]
theorem zcR {α : Type} {f : α -> D} {nm : α -> Str} {xs : List α} {i : Nat} {ρ : za2} {fv : List (Option Nat)} (hf : ∀ x, ∃ r, f x = .tup (.str (nm x) :: r)) (h1 : vSh i ρ = some (.lst (xs.map f))) (h2 : xs.length <= sizeLine) (h3 : fvEnv fv ρ = [none]) :
    za3 (zaO (itF (vSh i)) (zaP 0) tT (b2 ixD (vSh 0) (vC (.int 0))) fv) ρ = some (.lst ((xs.map nm).map D.str)) := by
  have hc := zbF (fi := itF (vSh i)) (fe := b2 ixD (vSh 0) (vC (.int 0))) (fv := fv) (ρ := ρ) (r := []) (a := none) (xs := xs.map f) (f := fun d => match d with | .tup (x :: _) => x | _ => .non) (by unfold itF; rw [h1]; rfl) (by rw [List.length_map]; exact h2) h3 (fun x hx => by
    obtain ⟨y, _, rfl⟩ := List.mem_map.mp hx
    obtain ⟨r, e⟩ := hf y
    simp only [b2, vSh, vC, List.getElem?_cons_zero, Option.bind_some, e, ixD0])
  rw [hc]
  congr 2
  rw [List.map_map, List.map_map]
  refine List.map_congr_left fun x _ => ?_
  obtain ⟨r, e⟩ := hf x
  simp [e]
theorem benches_ok {bs : List BenchT} (l1 : 1 <= bs.length) (l8 : bs.length <= 8) (g : ∀ x ∈ bs, GoodB h x) (nd : (bs.map (·.nm)).Nodup) : zbh [.lst (bs.map zaV), .int h] = some (.bl true) := by
  refine za0 [some (.sh (.lst (bs.map zaV))), some (.sh (.int h))] rfl ((guard2 ?_ (zb8 (r := [some (.sh (.int h))]) (a := none) (xs := bs.map zaV) rfl (by rw [List.length_map]; exact szN l8 (by decide)) rfl fun x hx => ?_)).trans (zaU ?_))
  · exact zc8 _ 1 8 ⟨by rw [List.length_map]; omega, by rw [List.length_map]; omega⟩
  · obtain ⟨p, hp, rfl⟩ := List.mem_map.mp hx
    exact bench_ok (g p hp)
  · have := zcR (i := 0) (fv := [none]) (ρ := [some (.sh (.lst (bs.map zaV))), some (.sh (.int h))]) (f := zaV) (nm := (·.nm)) (xs := bs) (fun x => ⟨_, rfl⟩) rfl (szN l8 (by decide)) rfl
    simp only [cF, zab, zak, this, Option.bind_some, Option.map_some]
    exact zcb nd (by rw [List.length_map]; omega)
theorem way_ok {w : Str × Int} (hb : ∀ y ∈ bn, zaQ y = true) (g : w.1 ∈ bn /\ 1 <= w.2 /\ w.2 <= h) : zcT [dW w, .lst (bn.map D.str), .int h] = some (.bl true) := by
  simp only [zcT, G_is_way, dW, zbO, zba, zcZ, cF, zab, zak, vSh, vC, b2, ixD0, ixD1, List.map_cons, List.map_nil, List.cons_append, List.nil_append, List.replicate, List.getElem?_cons_zero, List.getElem?_cons_succ, Option.bind_some, Option.map_some, tup2, zde g.1 hb, zbq w.2 1 h g.2]
theorem ways_ok {ws : List (Str × Int)} (hb : ∀ y ∈ bn, zaQ y = true) (l1 : 1 <= ws.length) (l4 : ws.length <= 4) (g : ∀ w ∈ ws, w.1 ∈ bn /\ 1 <= w.2 /\ w.2 <= h) (nd : (ws.map (·.1)).Nodup) : zcf [.lst (ws.map dW), .lst (bn.map D.str), .int h] = some (.bl true) := by
  refine za0 [some (.sh (.lst (ws.map dW))), some (.sh (.lst (bn.map D.str))), some (.sh (.int h))] rfl ((guard2 ?_ (zb8 (r := [some (.sh (.lst (bn.map D.str))), some (.sh (.int h))]) (a := none) (xs := ws.map dW) rfl (by rw [List.length_map]; exact szN l4 (by decide)) rfl fun x hx => ?_)).trans (zaU ?_))
  · exact zc8 _ 1 4 ⟨by rw [List.length_map]; omega, by rw [List.length_map]; omega⟩
  · obtain ⟨p, hp, rfl⟩ := List.mem_map.mp hx
    exact way_ok hb (g p hp)
  · have := zcR (i := 0) (fv := [none]) (ρ := [some (.sh (.lst (ws.map dW))), some (.sh (.lst (bn.map D.str))), some (.sh (.int h))]) (f := dW) (nm := (·.1)) (xs := ws) (fun x => ⟨_, rfl⟩) rfl (szN l4 (by decide)) rfl
    simp only [cF, zab, zak, this, Option.bind_some, Option.map_some]
    exact zcb nd (by rw [List.length_map]; omega)
theorem step_ok {s : StepT} (hb : ∀ y ∈ bn, zaQ y = true) (g : GoodS bn h s) : zcp [zaC s, .lst (bn.map D.str), .int h] = some (.bl true) := by
  simp only [zcp, G_is_step, zaC, zbO, zaE, sIf, zba, zci, orT, zbX, toB, cF, zab, zak, vSh, vC, b2, ixD0, ixD1, ixD2, List.map_cons, List.map_nil, List.cons_append, List.nil_append, List.replicate, List.getElem?_cons_zero, List.getElem?_cons_succ, Option.bind_some, Option.map_some, if_false, Bool.not_true, Bool.false_eq_true, tup3, name_ok g.nm, name_ok g.kd, ways_ok hb g.l1 g.l4 g.ws g.nd]
theorem steps_ok {ss : List StepT} (hb : ∀ y ∈ bn, zaQ y = true) (l1 : 1 <= ss.length) (l4 : ss.length <= 40) (g : ∀ s ∈ ss, GoodS bn h s) (nd : (ss.map (·.nm)).Nodup) : zbK [.lst (ss.map zaC), .lst (bn.map D.str), .int h] = some (.bl true) := by
  refine za0 [some (.sh (.lst (ss.map zaC))), some (.sh (.lst (bn.map D.str))), some (.sh (.int h))] rfl ((guard2 ?_ (zb8 (r := [some (.sh (.lst (bn.map D.str))), some (.sh (.int h))]) (a := none) (xs := ss.map zaC) rfl (by rw [List.length_map]; exact szN l4 (by decide)) rfl fun x hx => ?_)).trans (zaU ?_))
  · exact zc8 _ 1 40 ⟨by rw [List.length_map]; omega, by rw [List.length_map]; omega⟩
  · obtain ⟨p, hp, rfl⟩ := List.mem_map.mp hx
    exact step_ok hb (g p hp)
  · have := zcR (i := 0) (fv := [none]) (ρ := [some (.sh (.lst (ss.map zaC))), some (.sh (.lst (bn.map D.str))), some (.sh (.int h))]) (f := zaC) (nm := (·.nm)) (xs := ss) (fun x => ⟨_, rfl⟩) rfl (szN l4 (by decide)) rfl
    simp only [cF, zab, zak, this, Option.bind_some, Option.map_some]
    exact zcb nd (by rw [List.length_map]; omega)
end
end Law
end
section
namespace Law
open PySem L2
theorem neA_str (a b : Str) : neA (.str a) (.str b) = some (.bl (!decide (a = b))) := rfl
theorem eqA_str (a b : Str) : eqA (.str a) (.str b) = some (.bl (decide (a = b))) := rfl
theorem cut3 {a b c d : D} : sliceD none (some 3) (.tup [a, b, c, d]) = some (.tup [a, b, c]) := rfl
theorem cut2 {a b c : D} : sliceD none (some 2) (.tup [a, b, c]) = some (.tup [a, b]) := rfl
theorem flat_len {α β : Type} {f : α -> List β} {m : Nat} : ∀ {l : List α}, (∀ x ∈ l, (f x).length <= m) -> (l.flatMap f).length <= l.length * m
  | [], _ => by simp
  | x :: r, h => by
    have h1 := h x List.mem_cons_self
    have h2 := flat_len (l := r) fun y hy => h y (List.mem_cons_of_mem _ hy)
    rw [List.flatMap_cons, List.length_append, List.length_cons, Nat.succ_mul]
    omega
section
variable {h : Int} {bn sn : List Str}
theorem job_ok {j : JobT} (hs : ∀ y ∈ sn, zaQ y = true) (hl : sn.length <= 40) (g : GoodJ sn h j) : zc3 [zbu j, .lst (sn.map D.str), .int h] = some (.bl true) := by
  refine za0 [some (.sh (zbu j)), some (.sh (.lst (sn.map D.str))), some (.sh (.int h))] rfl ((guard3 ?_ ?_ ?_).trans ((guard2 ?_ ?_).trans (zaU (and_of ?_ (zb8 (r := [some (.sh (.lst (sn.map D.str)))]) (a := none) (xs := j.ms.map D.str) ?_ ?_ rfl fun x hx => ?_)))))
  · exact tup5
  · simp only [zbu, cF, zab, zak, vSh, vC, b2, ixD0, List.getElem?_cons_zero, Option.bind_some, Option.map_some, name_ok g.nm]
  · simp only [zbu, cF, zab, zak, vSh, vC, b2, isiD, tyD, ixD3, List.getElem?_cons_zero, Option.bind_some, Option.map_some, i5]
  · simp only [zbu, cF, zab, zak, vSh, vC, b2, ixD1, List.getElem?_cons_zero, List.getElem?_cons_succ, Option.bind_some, Option.map_some, zbq _ 0 h g.ea]
  · simp only [zbu, cF, zab, zak, vSh, vC, b2, ixD2, List.getElem?_cons_zero, List.getElem?_cons_succ, Option.bind_some, Option.map_some, zbq _ 0 h g.du]
  · simp only [zbu, cF, zab, zak, vSh, vC, b2, zcU, ixD4, List.getElem?_cons_zero, List.getElem?_cons_succ, Option.bind_some, Option.map_some]
    exact zc8 _ _ _ ⟨by rw [List.length_map]; have := g.l1; omega, by rw [List.length_map, List.length_map]; have := g.ln; omega⟩
  · simp only [zbu, vSh, vC, b2, itF, itemsD, ixD4, List.getElem?_cons_zero, Option.bind_some]
  · rw [List.length_map]; exact szN (Nat.le_trans g.ln hl) (by decide)
  · obtain ⟨m, hm, rfl⟩ := List.mem_map.mp hx
    simp only [cF, zab, zak, vSh, List.getElem?_cons_zero, List.getElem?_cons_succ, Option.bind_some, Option.map_some, zde (g.ms m hm) hs]
theorem members_ok {js : List JobT} {S H : Option Slot} (hl : js.length <= 40) (g : ∀ j ∈ js, j.ms.length <= 40) :
    ∃ z, forL (zaP 4) (sExt 3 (b2 ixD (vSh 4) (vC (.int 4)))) (js.map zbu) [some (.sh (.lst (js.map zbu))), S, H, some (.own []), none] = some (.nx, [some (.sh (.lst (js.map zbu))), S, H, some (.own ((js.flatMap (·.ms)).map D.str)), z]) := by
  obtain ⟨ρ', h1, z, h2⟩ := zb2 (gg := zaP 4) (body := sExt 3 (b2 ixD (vSh 4) (vC (.int 4)))) (xs := js.map zbu) (ρ := [some (.sh (.lst (js.map zbu))), S, H, some (.own []), none])
    (fun i ρ => ∃ z, ρ = [some (.sh (.lst (js.map zbu))), S, H, some (.own (((js.take i).flatMap (·.ms)).map D.str)), z]) ⟨none, by simp⟩ (fun i x ρ hx hI => by
      obtain ⟨z, rfl⟩ := hI
      rw [List.getElem?_map] at hx
      obtain ⟨j, hj, rfl⟩ := Option.map_eq_some_iff.mp hx
      have hm : j ∈ js := List.mem_of_getElem? hj
      have t1 : ((js.take i).flatMap (·.ms)).length <= (js.take i).length * 40 := flat_len fun y hy => g y (List.mem_of_mem_take hy)
      have t2 : (js.take i).length <= 40 := by rw [List.length_take]; omega
      have t3 := g j hm
      have tk : js.take (i + 1) = js.take i ++ [j] := by rw [List.take_add_one, hj]; rfl
      have sz : (((js.take i).flatMap (·.ms)).map D.str).length + (j.ms.map D.str).length <= sizeLine := by
        rw [List.length_map, List.length_map]; unfold sizeLine; omega
      refine ⟨_, [some (.sh (.lst (js.map zbu))), S, H, some (.own (((js.take (i + 1)).flatMap (·.ms)).map D.str)), some (.sh (zbu j))], rfl, ?_, _, rfl⟩
      have e : b2 ixD (vSh 4) (vC (.int 4)) [some (.sh (.lst (js.map zbu))), S, H, some (.own (((js.take i).flatMap (·.ms)).map D.str)), some (.sh (zbu j))] = some (.lst (j.ms.map D.str)) := by
        simp only [zbu, vSh, vC, b2, ixD4, List.getElem?_cons_zero, List.getElem?_cons_succ, Option.bind_some]
      simp only [sExt, List.set_cons_zero, List.set_cons_succ, List.getElem?_cons_zero, List.getElem?_cons_succ, e, Option.bind_some, if_pos sz, tk]
      simp)
  refine ⟨z, ?_⟩
  rw [h1, h2, List.length_map, List.take_length]
theorem jobs_ok {js : List JobT} (hs : ∀ y ∈ sn, zaQ y = true) (hl : sn.length <= 40) (l4 : js.length <= 40) (g : ∀ j ∈ js, GoodJ sn h j) (nd : (js.map (·.nm)).Nodup) (nm : (js.flatMap (·.ms)).Nodup) (ml : (js.flatMap (·.ms)).length <= 300) : zcg [.lst (js.map zbu), .lst (sn.map D.str), .int h] = some (.bl true) := by
  obtain ⟨z, hz⟩ := members_ok (js := js) (S := some (.sh (.lst (sn.map D.str)))) (H := some (.sh (.int h))) l4 fun j hj => Nat.le_trans (g j hj).ln hl
  refine za0 [some (.sh (.lst (js.map zbu))), some (.sh (.lst (sn.map D.str))), some (.sh (.int h)), none, none] (ρ' := [some (.sh (.lst (js.map zbu))), some (.sh (.lst (sn.map D.str))), some (.sh (.int h)), some (.sh (.lst ((js.flatMap (·.ms)).map D.str))), z]) rfl ((guard2 ?_ (zb8 (r := [some (.sh (.lst (sn.map D.str))), some (.sh (.int h))]) (a := none) (xs := js.map zbu) rfl (by rw [List.length_map]; exact szN l4 (by decide)) rfl fun x hx => ?_)).trans ?_)
  · exact zc8 _ 0 40 ⟨by omega, by rw [List.length_map]; omega⟩
  · obtain ⟨p, hp, rfl⟩ := List.mem_map.mp hx
    simp only [cF, zab, zak, vSh, List.getElem?_cons_zero, List.getElem?_cons_succ, Option.bind_some, Option.map_some, job_ok hs hl (g p hp)]
  · have nn := zcR (i := 0) (fv := [none]) (ρ := [some (.sh (.lst (js.map zbu))), some (.sh (.lst (sn.map D.str))), some (.sh (.int h)), some (.sh (.lst ((js.flatMap (·.ms)).map D.str))), z]) (f := zbu) (nm := (·.nm)) (xs := js) (fun x => ⟨_, rfl⟩) rfl (szN l4 (by decide)) rfl
    have u1 : cF zag (zab (za3 (zaO (itF (vSh 0)) (zaP 0) tT (b2 ixD (vSh 0) (vC (.int 0))) [none])) zak) [some (.sh (.lst (js.map zbu))), some (.sh (.lst (sn.map D.str))), some (.sh (.int h)), some (.sh (.lst ((js.flatMap (·.ms)).map D.str))), z] = some (.bl true) :=
      zaT (zaj nn zaD) (zcb nd (by rw [List.length_map]; omega))
    have u2 : cF zag (zab (vSh 3) zak) [some (.sh (.lst (js.map zbu))), some (.sh (.lst (sn.map D.str))), some (.sh (.int h)), some (.sh (.lst ((js.flatMap (·.ms)).map D.str))), z] = some (.bl true) :=
      zaT (zaj rfl zaD) (zcb nm ml)
    have r := zaU (and_of u1 u2)
    have z0 : (0 <= sizeLine) = True := by simp
    simp only [zaE, sOwn, szF, zak, Option.bind_some, Option.map_some, List.length_nil, z0, if_true, List.set_cons_zero, List.set_cons_succ, sFor, itF, vSh, List.getElem?_cons_zero, itemsD]
    rw [hz]
    simp only [Option.bind_some, sFrz, List.getElem?_cons_zero, List.getElem?_cons_succ, List.set_cons_zero, List.set_cons_succ]
    exact r
theorem setup_ok {u : SetT} (hb : ∀ y ∈ bn, zaQ y = true) (g : GoodU bn h u) : zbU [dSet u, .lst (bn.map D.str), .int h] = some (.bl true) := by
  simp only [zbU, G_is_setup, dSet, zbO, zaE, sIf, zba, zci, zcZ, orT, zbX, toB, cF, zab, zak, vSh, vC, b2, ixD0, ixD1, ixD2, ixD3, List.map_cons, List.map_nil, List.cons_append, List.nil_append, List.replicate, List.getElem?_cons_zero, List.getElem?_cons_succ, Option.bind_some, Option.map_some, if_false, Bool.not_true, Bool.false_eq_true, tup4, zde g.b hb, name_ok g.p, name_ok g.q, zbq _ 1 h g.n]
theorem setups_ok {us : List SetT} (hb : ∀ y ∈ bn, zaQ y = true) (l4 : us.length <= 100) (g : ∀ u ∈ us, GoodU bn h u) (nd : (us.map fun u => [u.b, u.p, u.q]).Nodup) : zbx [.lst (us.map dSet), .lst (bn.map D.str), .int h] = some (.bl true) := by
  refine za0 [some (.sh (.lst (us.map dSet))), some (.sh (.lst (bn.map D.str))), some (.sh (.int h))] rfl ((guard2 ?_ (zb8 (r := [some (.sh (.lst (bn.map D.str))), some (.sh (.int h))]) (a := none) (xs := us.map dSet) rfl (by rw [List.length_map]; exact szN l4 (by decide)) rfl fun x hx => ?_)).trans (zaU (zaT (zaj (zbF (r := []) (a := none) (xs := us.map dSet) (f := fun d => match d with | .tup [a, b, c, d] => .tup [a, b, c] | _ => .non) rfl (by rw [List.length_map]; exact szN l4 (by decide)) rfl fun x hx => ?_) zaD) ?_)))
  · exact zc8 _ 0 100 ⟨by omega, by rw [List.length_map]; omega⟩
  · obtain ⟨p, hp, rfl⟩ := List.mem_map.mp hx
    simp only [cF, zab, zak, vSh, List.getElem?_cons_zero, List.getElem?_cons_succ, Option.bind_some, Option.map_some, setup_ok hb (g p hp)]
  · obtain ⟨p, hp, rfl⟩ := List.mem_map.mp hx
    simp only [vSh, vC, slF, pN, pS, List.getElem?_cons_zero, Option.bind_some, dSet, cut3]
  · have := unlike_tups nd (by rw [List.length_map]; omega)
    rw [List.map_map] at this ⊢
    exact this
theorem link_ok {l : LinkT} (hs : ∀ y ∈ sn, zaQ y = true) (g : GoodL sn h l) : zcq [zcM l, .lst (sn.map D.str), .int h] = some (.bl true) := by
  have := g.ne
  simp only [zcq, G_is_link, zcM, zbO, zaE, sIf, zba, zci, zcZ, orT, zbX, toB, cF, zab, zak, vSh, vC, b2, ixD0, ixD1, ixD2, List.map_cons, List.map_nil, List.cons_append, List.nil_append, List.replicate, List.getElem?_cons_zero, List.getElem?_cons_succ, Option.bind_some, Option.map_some, if_false, Bool.not_true, Bool.not_false, Bool.false_eq_true, tup3, zde g.a hs, zde g.b hs, neA_str, decide_eq_false g.ne, zbq _ 0 h g.g]
theorem links_ok {ls : List LinkT} (hs : ∀ y ∈ sn, zaQ y = true) (l4 : ls.length <= 100) (g : ∀ l ∈ ls, GoodL sn h l) (nd : (ls.map fun l => [l.a, l.b]).Nodup) : zbL [.lst (ls.map zcM), .lst (sn.map D.str), .int h] = some (.bl true) := by
  refine za0 [some (.sh (.lst (ls.map zcM))), some (.sh (.lst (sn.map D.str))), some (.sh (.int h))] rfl ((guard2 ?_ (zb8 (r := [some (.sh (.lst (sn.map D.str))), some (.sh (.int h))]) (a := none) (xs := ls.map zcM) rfl (by rw [List.length_map]; exact szN l4 (by decide)) rfl fun x hx => ?_)).trans (zaU (zaT (zaj (zbF (r := []) (a := none) (xs := ls.map zcM) (f := fun d => match d with | .tup [a, b, c] => .tup [a, b] | _ => .non) rfl (by rw [List.length_map]; exact szN l4 (by decide)) rfl fun x hx => ?_) zaD) ?_)))
  · exact zc8 _ 0 100 ⟨by omega, by rw [List.length_map]; omega⟩
  · obtain ⟨p, hp, rfl⟩ := List.mem_map.mp hx
    simp only [cF, zab, zak, vSh, List.getElem?_cons_zero, List.getElem?_cons_succ, Option.bind_some, Option.map_some, link_ok hs (g p hp)]
  · obtain ⟨p, hp, rfl⟩ := List.mem_map.mp hx
    simp only [vSh, vC, slF, pN, pS, List.getElem?_cons_zero, Option.bind_some, zcM, cut2]
  · have := unlike_tups nd (by rw [List.length_map]; omega)
    rw [List.map_map] at this ⊢
    exact this
theorem amount_ok {w : Str × Int} (hs : ∀ y ∈ sn, zaQ y = true) (g : w.1 ∈ sn /\ 1 <= w.2 /\ w.2 <= 1000000) : zbE [dW w, .lst (sn.map D.str)] = some (.bl true) := by
  simp only [zbE, G_is_amount, dW, zbO, zba, zcZ, cF, zab, zak, vSh, vC, b2, ixD0, ixD1, List.map_cons, List.map_nil, List.cons_append, List.nil_append, List.replicate, List.getElem?_cons_zero, List.getElem?_cons_succ, Option.bind_some, Option.map_some, tup2, zde g.1 hs, zbq w.2 1 1000000 g.2]
theorem amounts_ok {ws : List (Str × Int)} (hs : ∀ y ∈ sn, zaQ y = true) (hl : sn.length <= 40) (g : GoodA sn ws) : zbb [.lst (ws.map dW), .lst (sn.map D.str)] = some (.bl true) := by
  have l4 : ws.length <= 40 := Nat.le_trans g.ln hl
  refine za0 [some (.sh (.lst (ws.map dW))), some (.sh (.lst (sn.map D.str)))] rfl ((guard2 ?_ (zb8 (r := [some (.sh (.lst (sn.map D.str)))]) (a := none) (xs := ws.map dW) rfl (by rw [List.length_map]; exact szN l4 (by decide)) rfl fun x hx => ?_)).trans (zaU ?_))
  · have e := zc8 (ws.map dW) 0 ((sn.map D.str).length : Nat) ⟨by omega, by rw [List.length_map, List.length_map]; have := g.ln; omega⟩
    simp only [cF, zab, zak, vSh, vC, zcU, List.getElem?_cons_zero, List.getElem?_cons_succ, Option.bind_some, Option.map_some]
    exact e
  · obtain ⟨p, hp, rfl⟩ := List.mem_map.mp hx
    simp only [cF, zab, zak, vSh, List.getElem?_cons_zero, List.getElem?_cons_succ, Option.bind_some, Option.map_some, amount_ok hs (g.ws p hp)]
  · have := zcR (i := 0) (fv := [none]) (ρ := [some (.sh (.lst (ws.map dW))), some (.sh (.lst (sn.map D.str)))]) (f := dW) (nm := (·.1)) (xs := ws) (fun x => ⟨_, rfl⟩) rfl (szN l4 (by decide)) rfl
    exact zaT (zaj this zaD) (zcb g.nd (by rw [List.length_map]; omega))
theorem stock_ok {k : StockT} (hs : ∀ y ∈ sn, zaQ y = true) (hl : sn.length <= 40) (g : GoodK sn k) : zbT [zb0 k, .lst (sn.map D.str)] = some (.bl true) := by
  simp only [zbT, G_is_stock, zb0, zbO, zaE, sIf, zba, zci, zcZ, orT, zbX, toB, cF, zab, zak, vSh, vC, b2, ixD0, ixD1, ixD2, ixD3, ixD4, List.map_cons, List.map_nil, List.cons_append, List.nil_append, List.replicate, List.getElem?_cons_zero, List.getElem?_cons_succ, Option.bind_some, Option.map_some, if_false, Bool.not_true, Bool.false_eq_true, tup5, name_ok g.nm, zbq _ 0 1000000 g.hi, zbq _ 0 _ g.lo, amounts_ok hs hl g.tk, amounts_ok hs hl g.pt]
theorem stocks_ok {ks : List StockT} (hs : ∀ y ∈ sn, zaQ y = true) (hl : sn.length <= 40) (l4 : ks.length <= 6) (g : ∀ k ∈ ks, GoodK sn k) (nd : (ks.map (·.nm)).Nodup) : zbw [.lst (ks.map zb0), .lst (sn.map D.str)] = some (.bl true) := by
  refine za0 [some (.sh (.lst (ks.map zb0))), some (.sh (.lst (sn.map D.str)))] rfl ((guard2 ?_ (zb8 (r := [some (.sh (.lst (sn.map D.str)))]) (a := none) (xs := ks.map zb0) rfl (by rw [List.length_map]; exact szN l4 (by decide)) rfl fun x hx => ?_)).trans (zaU ?_))
  · exact zc8 _ 0 6 ⟨by omega, by rw [List.length_map]; omega⟩
  · obtain ⟨p, hp, rfl⟩ := List.mem_map.mp hx
    simp only [cF, zab, zak, vSh, List.getElem?_cons_zero, List.getElem?_cons_succ, Option.bind_some, Option.map_some, stock_ok hs hl (g p hp)]
  · have := zcR (i := 0) (fv := [none]) (ρ := [some (.sh (.lst (ks.map zb0))), some (.sh (.lst (sn.map D.str)))]) (f := zb0) (nm := (·.nm)) (xs := ks) (fun x => ⟨_, rfl⟩) rfl (szN l4 (by decide)) rfl
    exact zaT (zaj this zaD) (zcb nd (by rw [List.length_map]; omega))
end
section
variable {bs : List BenchT} {ss : List StepT} {js : List JobT} {us : List SetT} {ls : List LinkT} {ks : List StockT} {h : Int}
theorem Good.bnn (g : Good bs ss js us ls ks h) : ∀ y ∈ bs.map (·.nm), zaQ y = true := fun y hy => by
  obtain ⟨b, hb, rfl⟩ := List.mem_map.mp hy
  exact (g.b b hb).nm
theorem Good.snn (g : Good bs ss js us ls ks h) : ∀ y ∈ ss.map (·.nm), zaQ y = true := fun y hy => by
  obtain ⟨b, hb, rfl⟩ := List.mem_map.mp hy
  exact (g.s b hb).nm
theorem part_none (g : Good bs ss js us ls ks h) (ml : (js.flatMap (·.ms)).length <= 300) : zaW [.lst (bs.map zaV), .lst (ss.map zaC), .lst (js.map zbu), .lst (us.map dSet), .lst (ls.map zcM), .lst (ks.map zb0), .int h] = some .non := by
  have hb := g.bnn
  have hs := g.snn
  have hl : (ss.map (·.nm)).length <= 40 := by rw [List.length_map]; exact g.sl.2
  have n1 : ∀ z : Option Slot, za3 (zaO (itF (vSh 0)) (zaP 0) tT (b2 ixD (vSh 0) (vC (.int 0))) [none]) [some (.sh (.lst (bs.map zaV))), some (.sh (.lst (ss.map zaC))), some (.sh (.lst (js.map zbu))), some (.sh (.lst (us.map dSet))), some (.sh (.lst (ls.map zcM))), some (.sh (.lst (ks.map zb0))), some (.sh (.int h)), none, none] = some (.lst ((bs.map (·.nm)).map D.str)) := fun z =>
    zcR (f := zaV) (nm := (·.nm)) (xs := bs) (fun x => ⟨_, rfl⟩) rfl (szN g.bl.2 (by decide)) rfl
  have n2 : za3 (zaO (itF (vSh 1)) (zaP 0) tT (b2 ixD (vSh 0) (vC (.int 0))) [none]) [some (.sh (.lst (bs.map zaV))), some (.sh (.lst (ss.map zaC))), some (.sh (.lst (js.map zbu))), some (.sh (.lst (us.map dSet))), some (.sh (.lst (ls.map zcM))), some (.sh (.lst (ks.map zb0))), some (.sh (.int h)), some (.sh (.lst ((bs.map (·.nm)).map D.str))), none] = some (.lst ((ss.map (·.nm)).map D.str)) :=
    zcR (f := zaC) (nm := (·.nm)) (xs := ss) (fun x => ⟨_, rfl⟩) rfl (szN g.sl.2 (by decide)) rfl
  refine za0 [some (.sh (.lst (bs.map zaV))), some (.sh (.lst (ss.map zaC))), some (.sh (.lst (js.map zbu))), some (.sh (.lst (us.map dSet))), some (.sh (.lst (ls.map zcM))), some (.sh (.lst (ks.map zb0))), some (.sh (.int h)), none, none] rfl ((guard1 ?_).trans ((guard1 ?_).trans ((zaF (n1 none)).trans ((guard1 ?_).trans ((zaF n2).trans ((guard1 ?_).trans ((guard1 ?_).trans ((guard1 ?_).trans ((guard1 ?_).trans (zaU rfl))))))))))
  · exact zbq h 1 1000000 g.hh
  · exact benches_ok g.bl.1 g.bl.2 g.b g.bn
  · exact steps_ok hb g.sl.1 g.sl.2 g.s g.sn
  · exact jobs_ok hs hl g.jl g.j g.jn g.jm ml
  · exact setups_ok hb g.ul g.u g.un
  · exact links_ok hs g.ll g.l g.ln
  · exact stocks_ok hs hl g.kl g.k g.kn
end
end Law
end
section
namespace Law
open PySem L2
def Pl : Nat -> D -> Prop
  | 0, _ => False
  | n + 1, .lst l => l.length <= sizeLine /\ ∀ x ∈ l, Pl n x
  | n + 1, .tup l => l.length <= sizeLine /\ ∀ x ∈ l, Pl n x
  | _ + 1, .non => True
  | _ + 1, .bl _ => True
  | _ + 1, .int _ => True
  | _ + 1, .str _ => True
  | _ + 1, _ => False
theorem zcI {ft : FT} {X E : FS} {ρ : za2} (h : ft ρ = some false) : zaE (sIf ft X zci) E ρ = E ρ := by
  simp only [zaE, sIf, h, Option.bind_some, Bool.false_eq_true, if_false, zci]
theorem take_of {ft : FT} {A B E : FS} {ρ ρ' : za2} {d : D} (h : ft ρ = some true) (h2 : A ρ = some (.rt d, ρ')) : zaE (sIf ft A B) E ρ = some (.rt d, ρ') := by
  simp only [zaE, sIf, h, Option.bind_some, if_true, h2]
theorem fresh_ok : ∀ (n : Nat) (d : D), Pl n d -> zdb n [d] = some d
  | 0, _, h => h.elim
  | n + 1, .lst l, h => by
    refine za0 [some (.sh (.lst l))] rfl (take_of (zaZ (b := true) ?_) (zaU ?_))
    · simp only [cF, zab, zak, vSh, vC, isiD, tyD, List.getElem?_cons_zero, Option.bind_some, Option.map_some, k1]
    · have := zbF (fi := itF (vSh 0)) (fe := cF (zdb n) (zab (vSh 0) zak)) (fv := [none]) (ρ := [some (.sh (.lst l))]) (r := []) (a := none) (xs := l) (f := fun x => x) rfl h.1 rfl (fun x hx => by simp only [cF, zab, zak, vSh, List.getElem?_cons_zero, Option.bind_some, Option.map_some, fresh_ok n x (h.2 x hx)])
      rw [List.map_id'] at this
      exact this
  | n + 1, .tup l, h => by
    refine za0 [some (.sh (.tup l))] rfl ((zcI (zaZ (b := false) ?_)).trans (take_of (zaZ (b := true) ?_) (zaU (zaT (zaj (d := .lst l) ?_ zaD) rfl))))
    · simp only [cF, zab, zak, vSh, vC, isiD, tyD, List.getElem?_cons_zero, Option.bind_some, Option.map_some, k2]
    · simp only [cF, zab, zak, vSh, vC, isiD, tyD, List.getElem?_cons_zero, Option.bind_some, Option.map_some, k3]
    · have := zbF (fi := itF (vSh 0)) (fe := cF (zdb n) (zab (vSh 0) zak)) (fv := [none]) (ρ := [some (.sh (.tup l))]) (r := []) (a := none) (xs := l) (f := fun x => x) rfl h.1 rfl (fun x hx => by simp only [cF, zab, zak, vSh, List.getElem?_cons_zero, Option.bind_some, Option.map_some, fresh_ok n x (h.2 x hx)])
      rw [List.map_id'] at this
      exact this
  | n + 1, .non, h => by
    show zdc (zdb n) [.non] = some .non
    unfold zdc
    refine za0 [some (.sh .non)] rfl ((zcI (zaZ (b := false) ?_)).trans ((zcI (zaZ (b := false) ?_)).trans (zaU (f := vSh 0) rfl))) <;> simp only [cF, zab, zak, vSh, vC, isiD, tyD, List.getElem?_cons_zero, Option.bind_some, Option.map_some, k10, k11]
  | n + 1, .bl b, h => by
    show zdc (zdb n) [.bl b] = some (.bl b)
    unfold zdc
    refine za0 [some (.sh (.bl b))] rfl ((zcI (zaZ (b := false) ?_)).trans ((zcI (zaZ (b := false) ?_)).trans (zaU (f := vSh 0) rfl))) <;> simp only [cF, zab, zak, vSh, vC, isiD, tyD, List.getElem?_cons_zero, Option.bind_some, Option.map_some, k8, k9]
  | n + 1, .int b, h => by
    show zdc (zdb n) [.int b] = some (.int b)
    unfold zdc
    refine za0 [some (.sh (.int b))] rfl ((zcI (zaZ (b := false) ?_)).trans ((zcI (zaZ (b := false) ?_)).trans (zaU (f := vSh 0) rfl))) <;> simp only [cF, zab, zak, vSh, vC, isiD, tyD, List.getElem?_cons_zero, Option.bind_some, Option.map_some, k6, k7]
  | n + 1, .str b, h => by
    show zdc (zdb n) [.str b] = some (.str b)
    unfold zdc
    refine za0 [some (.sh (.str b))] rfl ((zcI (zaZ (b := false) ?_)).trans ((zcI (zaZ (b := false) ?_)).trans (zaU (f := vSh 0) rfl))) <;> simp only [cF, zab, zak, vSh, vC, isiD, tyD, List.getElem?_cons_zero, Option.bind_some, Option.map_some, k4, k4, k5]
theorem fresh8 {d : D} (h : Pl 8 d) : zaR [d] = some d := fresh_ok 8 d h
theorem pl_lst {n : Nat} {α : Type} {f : α -> D} {xs : List α} (hl : xs.length <= 1000) (h : ∀ x ∈ xs, Pl n (f x)) : Pl (n + 1) (.lst (xs.map f)) :=
  ⟨by rw [List.length_map]; exact szN hl (by decide), fun x hx => by
    obtain ⟨y, hy, rfl⟩ := List.mem_map.mp hx
    exact h y hy⟩
theorem pl_str {n : Nat} {xs : List Str} (hl : xs.length <= 1000) : Pl (n + 2) (.lst (xs.map D.str)) := pl_lst hl fun x _ => (trivial : Pl (n + 1) (.str x))
theorem pl_w {n : Nat} {xs : List (Str × Int)} (hl : xs.length <= 1000) : Pl (n + 3) (.lst (xs.map dW)) := pl_lst hl fun x _ => ⟨by simp [sizeLine], by
  intro y hy
  simp only [List.mem_cons, List.not_mem_nil, or_false] at hy
  rcases hy with rfl | rfl <;> trivial⟩
theorem pl_bench {n : Nat} {h : Int} {b : BenchT} (g : GoodB h b) : Pl (n + 4) (zaV b) := ⟨by simp [sizeLine], by
  intro y hy
  simp only [List.mem_cons, List.not_mem_nil, or_false] at hy
  rcases hy with rfl | rfl
  · trivial
  · exact pl_lst (by have := g.len; omega) fun x _ => ⟨by simp [sizeLine], by
      intro y hy
      simp only [List.mem_cons, List.not_mem_nil, or_false] at hy
      rcases hy with rfl | rfl <;> trivial⟩⟩
theorem pl_step {n : Nat} {bn : List Str} {h : Int} {s : StepT} (g : GoodS bn h s) : Pl (n + 4) (zaC s) := ⟨by simp [sizeLine], by
  intro y hy
  simp only [List.mem_cons, List.not_mem_nil, or_false] at hy
  rcases hy with rfl | rfl | rfl
  · trivial
  · trivial
  · exact pl_w (by have := g.l4; omega)⟩
theorem pl_job {n : Nat} {sn : List Str} {h : Int} {j : JobT} (hl : sn.length <= 40) (g : GoodJ sn h j) : Pl (n + 3) (zbu j) := ⟨by simp [sizeLine], by
  intro y hy
  simp only [List.mem_cons, List.not_mem_nil, or_false] at hy
  rcases hy with rfl | rfl | rfl | rfl | rfl
  · trivial
  · trivial
  · trivial
  · trivial
  · exact pl_str (by have := g.ln; omega)⟩
theorem pl_set {n : Nat} {u : SetT} : Pl (n + 2) (dSet u) := ⟨by simp [sizeLine], by
  intro y hy
  simp only [List.mem_cons, List.not_mem_nil, or_false] at hy
  rcases hy with rfl | rfl | rfl | rfl <;> trivial⟩
theorem pl_link {n : Nat} {u : LinkT} : Pl (n + 2) (zcM u) := ⟨by simp [sizeLine], by
  intro y hy
  simp only [List.mem_cons, List.not_mem_nil, or_false] at hy
  rcases hy with rfl | rfl | rfl <;> trivial⟩
theorem pl_stock {n : Nat} {sn : List Str} {k : StockT} (hl : sn.length <= 40) (g : GoodK sn k) : Pl (n + 4) (zb0 k) := ⟨by simp [sizeLine], by
  intro y hy
  simp only [List.mem_cons, List.not_mem_nil, or_false] at hy
  rcases hy with rfl | rfl | rfl | rfl | rfl
  · trivial
  · trivial
  · trivial
  · exact pl_w (by have := g.tk.ln; omega)
  · exact pl_w (by have := g.pt.ln; omega)⟩
theorem pairsK_map {α : Type} {nm : α -> Str} {f : α -> D} : ∀ (xs : List α), pairsK (xs.map fun x => .tup [.str (nm x), f x]) = some (xs.map fun x => (.inr (nm x), f x))
  | [] => rfl
  | x :: r => by simp only [List.map_cons, pairsK, dkey, Option.bind_some, pairsK_map r, Option.map_some]
theorem pairsT_map {α : Type} {t : α -> List Str} {f : α -> D} : ∀ (xs : List α), pairsT (xs.map fun x => .tup [.tup ((t x).map D.str), f x]) = some (xs.map fun x => ((t x).map Sum.inr, f x))
  | [] => rfl
  | x :: r => by simp only [List.map_cons, pairsT, dkeys_strs, Option.bind_some, pairsT_map r, Option.map_some]
theorem mrgD_nodup {κ : Type} [DecidableEq κ] {ps : List (κ × D)} (h : (ps.map (·.1)).Nodup) : mrgD ps = ps := by
  have key : ∀ (l a : List (κ × D)), ((a ++ l).map (·.1)).Nodup -> l.foldl (fun acc kv => putG acc kv.1 kv.2) a = a ++ l := by
    intro l
    induction l with
    | nil => intro a _; simp
    | cons x r ih =>
      intro a hn
      have hx : (a.any fun kv => decide (kv.1 = x.1)) = false := by
        rw [List.any_eq_false]
        intro y hy z
        rw [List.map_append, List.nodup_append] at hn
        exact hn.2.2 y.1 (List.mem_map_of_mem hy) x.1 (by simp) (of_decide_eq_true z)
      rw [List.foldl_cons]
      have e : putG a x.1 x.2 = a ++ [x] := by
        unfold putG
        rw [hx]
        rfl
      rw [e, ih (a ++ [x]) (by simpa using hn)]
      simp
  simpa [mrgD] using key ps [] (by simpa using h)
theorem look_nth {β : Type} : ∀ {fs : List (Str × β)} {i : Nat} {k : Str} {d : β}, (fs.map (·.1)).Nodup -> fs[i]? = some (k, d) -> fs.lookup k = some d
  | [], i, k, d, _, h => by simp at h
  | (a, b) :: r, 0, k, d, _, h => by
    simp only [List.getElem?_cons_zero, Option.some.injEq, Prod.mk.injEq] at h
    obtain ⟨rfl, rfl⟩ := h
    simp [List.lookup]
  | (a, b) :: r, i + 1, k, d, nd, h => by
    rw [List.getElem?_cons_succ] at h
    rw [List.map_cons, List.nodup_cons] at nd
    have ne : k ≠ a := by
      intro z
      subst z
      exact nd.1 (List.mem_map_of_mem (f := (·.1)) (List.mem_of_getElem? h))
    have hb : (k == a) = false := by simpa using ne
    simp only [List.lookup, hb]
    exact look_nth nd.2 h
theorem look_no {β : Type} : ∀ {fs : List (Str × β)} {k : Str}, k ∉ fs.map (·.1) -> fs.lookup k = none
  | [], _, _ => rfl
  | (a, b) :: r, k, h => by
    rw [List.map_cons, List.mem_cons, not_or] at h
    have hb : (k == a) = false := by simpa using h.1
    simp only [List.lookup, hb]
    exact look_no h.2
end Law
end
section
namespace Law
open PySem L2
def putJ (j : JobT) (acc : List (Key × D)) (m : Str) : List (Key × D) := putG acc (.inr m) (zbu j)
def jkv (js : List JobT) : List (Key × D) := js.foldl (fun acc j => j.ms.foldl (putJ j) acc) []
theorem putG_len {κ : Type} [DecidableEq κ] (kvs : List (κ × D)) (k : κ) (v : D) : (putG kvs k v).length <= kvs.length + 1 := by
  unfold putG
  split
  · rw [List.length_map]; omega
  · rw [List.length_append]; simp
theorem inner_len (j : JobT) : ∀ (ms : List Str) (acc : List (Key × D)), (ms.foldl (putJ j) acc).length <= acc.length + ms.length
  | [], acc => by simp
  | m :: r, acc => by
    rw [List.foldl_cons]
    have h1 := inner_len j r (putJ j acc m)
    have h2 : (putJ j acc m).length <= acc.length + 1 := putG_len _ _ _
    rw [List.length_cons]; omega
theorem jkv_len {m : Nat} : ∀ {js : List JobT} (acc : List (Key × D)), (∀ j ∈ js, j.ms.length <= m) -> (js.foldl (fun acc j => j.ms.foldl (putJ j) acc) acc).length <= acc.length + js.length * m
  | [], acc, _ => by simp
  | j :: r, acc, h => by
    rw [List.foldl_cons]
    have h1 := jkv_len (js := r) (j.ms.foldl (putJ j) acc) fun y hy => h y (List.mem_cons_of_mem _ hy)
    have h2 := inner_len j j.ms acc
    have h3 := h j List.mem_cons_self
    rw [List.length_cons, Nat.succ_mul]; omega
def fs10 (bs : List BenchT) (ss : List StepT) (js : List JobT) (us : List SetT) (ls : List LinkT) (ks : List StockT) (h : Int) : List (Str × D) :=
  [("benches", .lst (bs.map zaV)), ("steps", .lst (ss.map zaC)), ("jobs", .lst (js.map zbu)), ("setups", .lst (us.map dSet)), ("links", .lst (ls.map zcM)), ("stocks", .lst (ks.map zb0)), ("horizon", .int h),
   ("bench_by_name", .dk (bs.map fun b => (.inr b.nm, zaV b))), ("step_by_name", .dk (ss.map fun s => (.inr s.nm, zaC s))), ("setup_by_names", .dt (us.map fun u => ([u.b, u.p, u.q].map Sum.inr, .int u.n)))]
def fs11 (bs : List BenchT) (ss : List StepT) (js : List JobT) (us : List SetT) (ls : List LinkT) (ks : List StockT) (h : Int) : List (Str × D) := fs10 bs ss js us ls ks h ++ [(("job_by_step" : Str), D.dk (jkv js))]
def zcz (bs : List BenchT) (ss : List StepT) (js : List JobT) (us : List SetT) (ls : List LinkT) (ks : List StockT) (h : Int) : D := .ins "Shop" (fs11 bs ss js us ls ks h)
def keys11 : List Str := ["benches", "steps", "jobs", "setups", "links", "stocks", "horizon", "bench_by_name", "step_by_name", "setup_by_names", "job_by_step"]
theorem keys_nd : keys11.Nodup := by decide +kernel
theorem nd_take {α : Type} {l : List α} (h : l.Nodup) (n : Nat) : (l.take n).Nodup := List.Sublist.nodup (List.take_sublist n l) h
section
variable {fs : List (Str × D)} {f : Str} {fv : FE} {r : za2} {g : FS} {d : D}
theorem zc7 (n : Nat) (hk : keys11[n]? = some f) (hf : fs.map (·.1) = keys11.take n) (h : fv (some (.obj "Shop" fs) :: r) = some d) : zaE (sOfld "Shop" f 0 fv) g (some (.obj "Shop" fs) :: r) = g (some (.obj "Shop" (fs ++ [(f, d)])) :: r) := by
  have hno : fs.lookup f = none := look_no (by
    rw [hf]
    intro z
    obtain ⟨i, hi⟩ := List.getElem?_of_mem z
    have hin : i < n := by
      rcases Nat.lt_or_ge i n with q | q
      · exact q
      · rw [List.getElem?_eq_none (by rw [List.length_take]; omega)] at hi; cases hi
    rw [List.getElem?_take_of_lt hin] at hi
    have := (List.getElem?_inj (List.getElem?_eq_some_iff.mp hi).1 keys_nd).mp (hi.trans hk.symm)
    omega)
  have hlen : fs.length < 100 := by
    have := congrArg List.length hf
    rw [List.length_map, List.length_take] at this
    have k : keys11.length = 11 := rfl
    omega
  simp only [zaE, sOfld, h, Option.bind_some, List.getElem?_cons_zero, hno, hlen, and_self, if_true, List.set_cons_zero]
theorem ofldF_of (n i : Nat) (hf : fs.map (·.1) = keys11.take n) (h : fs[i]? = some (f, d)) : ofldF "Shop" f 0 (some (.obj "Shop" fs) :: r) = some d := by
  have e : fs.lookup f = some d := look_nth (by rw [hf]; exact nd_take keys_nd n) h
  show (if some ("Shop" : Str) = some ("Shop" : Str) then fs.lookup f else none) = some d
  rw [if_pos rfl, e]
end
theorem dict_of {α : Type} {f : α -> D} {nm : α -> Str} {xs : List α} {fo : FE} {ρ : za2} (hf : ∀ x, ∃ r, f x = .tup (.str (nm x) :: r)) (h1 : fo ρ = some (.lst (xs.map f))) (h2 : xs.length <= 1000) (nd : (xs.map nm).Nodup) :
    cF dictKD (zab (za3 (zaO (itF fo) (zaP 0) tT (zce (szF (zab (b2 ixD (vSh 0) (vC (.int 0))) (zab (vSh 0) zak)))) [none])) zak) ρ = some (.dk (xs.map fun x => (.inr (nm x), f x))) := by
  have hc := zbF (fi := itF fo) (fe := zce (szF (zab (b2 ixD (vSh 0) (vC (.int 0))) (zab (vSh 0) zak)))) (fv := [none]) (ρ := ρ) (r := []) (a := none) (xs := xs.map f) (f := fun d => .tup [match d with | .tup (x :: _) => x | _ => .non, d]) (by unfold itF; rw [h1]; rfl) (by rw [List.length_map]; exact szN h2 (by decide)) rfl (fun x hx => by
    obtain ⟨y, _, rfl⟩ := List.mem_map.mp hx
    obtain ⟨r, e⟩ := hf y
    simp only [zab, zak, vSh, vC, b2, zce, szF, ixD0, List.getElem?_cons_zero, Option.bind_some, Option.map_some, if_true, List.length_cons, List.length_nil, Nat.zero_add, sz2, e])
  have e : (xs.map f).map (fun d => D.tup [match d with | .tup (x :: _) => x | _ => .non, d]) = xs.map fun x => .tup [.str (nm x), f x] := by
    rw [List.map_map]
    refine List.map_congr_left fun x _ => ?_
    obtain ⟨r, e⟩ := hf x
    simp [e]
  rw [e] at hc
  have kn : ((xs.map fun x => ((.inr (nm x) : Key), f x)).map (·.1)).Nodup := by
    rw [List.map_map]
    have := List.Pairwise.map (S := fun a b : Key => a ≠ b) (Sum.inr : Str -> Key) (fun a b hab z => hab (Sum.inr.inj z)) nd
    rw [List.map_map] at this
    exact this
  refine zaT (zaj hc zaD) ?_
  show (if _ then _ else _) = _
  rw [if_pos (by rw [List.length_map]; exact h2), pairsK_map, Option.map_some, mrgD_nodup kn]
theorem dictT_of {us : List SetT} {fo : FE} {ρ : za2} (h1 : fo ρ = some (.lst (us.map dSet))) (h2 : us.length <= 1000) (nd : (us.map fun u => [u.b, u.p, u.q]).Nodup) :
    cF dictTD (zab (za3 (zaO (itF fo) (zaP 0) tT (zce (szF (zab (slF (vSh 0) pN (pS (vC (.int 3)))) (zab (b2 ixD (vSh 0) (vC (.int 3))) zak)))) [none])) zak) ρ = some (.dt (us.map fun u => ([u.b, u.p, u.q].map Sum.inr, .int u.n))) := by
  have hc := zbF (fi := itF fo) (fe := zce (szF (zab (slF (vSh 0) pN (pS (vC (.int 3)))) (zab (b2 ixD (vSh 0) (vC (.int 3))) zak)))) (fv := [none]) (ρ := ρ) (r := []) (a := none) (xs := us.map dSet) (f := fun d => match d with | .tup [a, b, c, d] => .tup [.tup [a, b, c], d] | _ => .non) (by unfold itF; rw [h1]; rfl) (by rw [List.length_map]; exact szN h2 (by decide)) rfl (fun x hx => by
    obtain ⟨y, _, rfl⟩ := List.mem_map.mp hx
    simp only [zab, zak, vSh, vC, b2, zce, szF, slF, pN, pS, ixD3, List.getElem?_cons_zero, Option.bind_some, Option.map_some, if_true, List.length_cons, List.length_nil, Nat.zero_add, sz2, dSet, cut3])
  rw [List.map_map] at hc
  have kn : ((us.map fun u => ([u.b, u.p, u.q].map (Sum.inr : Str -> Key), D.int u.n)).map (·.1)).Nodup := by
    rw [List.map_map]
    have inj : ∀ a b : List Str, a.map (Sum.inr : Str -> Key) = b.map Sum.inr -> a = b := fun a b z => (List.map_inj_right (fun x y q => Sum.inr.inj q)).mp z
    have := List.Pairwise.map (S := fun a b : List Key => a ≠ b) (List.map (Sum.inr : Str -> Key)) (fun a b hab z => hab (inj a b z)) nd
    rw [List.map_map] at this
    exact this
  refine zaT (zaj hc zaD) ?_
  show (if _ then _ else _) = _
  have e := pairsT_map (t := fun u : SetT => [u.b, u.p, u.q]) (f := fun u => .int u.n) us
  rw [if_pos (by rw [List.length_map]; exact h2)]
  have e2 : pairsT (us.map ((fun d => match d with | .tup [a, b, c, d] => D.tup [.tup [a, b, c], d] | _ => .non) ∘ dSet)) = some (us.map fun u => ([u.b, u.p, u.q].map Sum.inr, .int u.n)) := e
  rw [e2, Option.map_some, mrgD_nodup kn]
section
variable {bs : List BenchT} {ss : List StepT} {js : List JobT} {us : List SetT} {ls : List LinkT} {ks : List StockT} {h : Int}
theorem fs10_keys : (fs10 bs ss js us ls ks h).map (·.1) = keys11.take 10 := rfl
theorem fs11_keys : (fs11 bs ss js us ls ks h).map (·.1) = keys11 := rfl
abbrev r9 (bs : List BenchT) (ss : List StepT) (js : List JobT) (us : List SetT) (ls : List LinkT) (ks : List StockT) (h : Int) (a b : Option Slot) : za2 := [some (.sh (.lst (bs.map zaV))), some (.sh (.lst (ss.map zaC))), some (.sh (.lst (js.map zbu))), some (.sh (.lst (us.map dSet))), some (.sh (.lst (ls.map zcM))), some (.sh (.lst (ks.map zb0))), some (.sh (.int h)), some (.sh .non), a, b]
abbrev ob (bs : List BenchT) (ss : List StepT) (js : List JobT) (us : List SetT) (ls : List LinkT) (ks : List StockT) (h : Int) (kvs : List (Key × D)) : Option Slot := some (.objd "Shop" (fs10 bs ss js us ls ks h) "job_by_step" kvs)
theorem put_ok {j : JobT} {m : Str} {kvs : List (Key × D)} (hl : kvs.length < 100000) : zc6 "Shop" "job_by_step" 0 (vSh 10) (vSh 9) (ob bs ss js us ls ks h kvs :: r9 bs ss js us ls ks h (some (.sh (zbu j))) (some (.sh (.str m)))) = some (.nx, ob bs ss js us ls ks h (putJ j kvs m) :: r9 bs ss js us ls ks h (some (.sh (zbu j))) (some (.sh (.str m)))) := by
  have hno : (fs10 bs ss js us ls ks h).lookup ("job_by_step" : Str) = none := look_no (by rw [fs10_keys]; decide +kernel)
  simp only [zc6, vSh, List.getElem?_cons_zero, List.getElem?_cons_succ, Option.bind_some, dkey, hno, hl, and_self, if_true, List.set_cons_zero, putJ]
theorem inner_ok {j : JobT} {acc : List (Key × D)} {z : Option Slot} (hl : acc.length + j.ms.length < 100000) : ∃ z', sFor (itF (b2 ixD (vSh 9) (vC (.int 4)))) (zaP 10) (zc6 "Shop" "job_by_step" 0 (vSh 10) (vSh 9)) (ob bs ss js us ls ks h acc :: r9 bs ss js us ls ks h (some (.sh (zbu j))) z) = some (.nx, ob bs ss js us ls ks h (j.ms.foldl (putJ j) acc) :: r9 bs ss js us ls ks h (some (.sh (zbu j))) z') := by
  obtain ⟨ρ', h1, z', h2⟩ := zb2 (gg := zaP 10) (body := zc6 "Shop" "job_by_step" 0 (vSh 10) (vSh 9)) (xs := j.ms.map D.str) (ρ := ob bs ss js us ls ks h acc :: r9 bs ss js us ls ks h (some (.sh (zbu j))) z)
    (fun i ρ => ∃ z, ρ = ob bs ss js us ls ks h ((j.ms.take i).foldl (putJ j) acc) :: r9 bs ss js us ls ks h (some (.sh (zbu j))) z) ⟨z, by simp⟩ (fun i x ρ hx hI => by
      obtain ⟨z, rfl⟩ := hI
      rw [List.getElem?_map] at hx
      obtain ⟨m, hm, rfl⟩ := Option.map_eq_some_iff.mp hx
      have tk : j.ms.take (i + 1) = j.ms.take i ++ [m] := by rw [List.take_add_one, hm]; rfl
      have hlen := inner_len j (j.ms.take i) acc
      rw [List.length_take] at hlen
      refine ⟨_, _, rfl, put_ok (by omega), some (.sh (.str m)), ?_⟩
      rw [tk, List.foldl_append]; rfl)
  refine ⟨z', ?_⟩
  have e : itF (b2 ixD (vSh 9) (vC (.int 4))) (ob bs ss js us ls ks h acc :: r9 bs ss js us ls ks h (some (.sh (zbu j))) z) = some (j.ms.map D.str) := by
    simp only [vSh, vC, b2, itF, itemsD, ixD4, List.getElem?_cons_zero, List.getElem?_cons_succ, Option.bind_some, zbu]
  unfold sFor
  rw [e, Option.bind_some, h1, h2, List.length_map, List.take_length]
theorem outer_ok (hj : js.length <= 40) (hm : ∀ j ∈ js, j.ms.length <= 40) : ∃ z z', forL (zaP 9) (sFor (itF (b2 ixD (vSh 9) (vC (.int 4)))) (zaP 10) (zc6 "Shop" "job_by_step" 0 (vSh 10) (vSh 9))) (js.map zbu) (ob bs ss js us ls ks h [] :: r9 bs ss js us ls ks h none none) = some (.nx, ob bs ss js us ls ks h (jkv js) :: r9 bs ss js us ls ks h z z') := by
  obtain ⟨ρ', h1, z, z', h2⟩ := zb2 (gg := zaP 9) (body := sFor (itF (b2 ixD (vSh 9) (vC (.int 4)))) (zaP 10) (zc6 "Shop" "job_by_step" 0 (vSh 10) (vSh 9))) (xs := js.map zbu) (ρ := ob bs ss js us ls ks h [] :: r9 bs ss js us ls ks h none none)
    (fun i ρ => ∃ z z', ρ = ob bs ss js us ls ks h (jkv (js.take i)) :: r9 bs ss js us ls ks h z z') ⟨none, none, by simp [jkv]⟩ (fun i x ρ hx hI => by
      obtain ⟨z, z', rfl⟩ := hI
      rw [List.getElem?_map] at hx
      obtain ⟨j, hjm, rfl⟩ := Option.map_eq_some_iff.mp hx
      have tk : js.take (i + 1) = js.take i ++ [j] := by rw [List.take_add_one, hjm]; rfl
      have hlen := jkv_len (m := 40) (js := js.take i) [] fun y hy => hm y (List.mem_of_mem_take hy)
      rw [List.length_take, List.length_nil] at hlen
      have h4 := hm j (List.mem_of_getElem? hjm)
      obtain ⟨w, hw⟩ := inner_ok (bs := bs) (ss := ss) (js := js) (us := us) (ls := ls) (ks := ks) (h := h) (j := j) (acc := jkv (js.take i)) (z := z') (by unfold jkv; omega)
      refine ⟨_, _, rfl, hw, some (.sh (zbu j)), w, ?_⟩
      rw [tk]
      unfold jkv
      rw [List.foldl_append]; rfl)
  refine ⟨z, z', ?_⟩
  rw [h1, h2, List.length_map, List.take_length]
theorem init_ok (g : Good bs ss js us ls ks h) (ml : (js.flatMap (·.ms)).length <= 300) : za7 [.lst (bs.map zaV), .lst (ss.map zaC), .lst (js.map zbu), .lst (us.map dSet), .lst (ls.map zcM), .lst (ks.map zb0), .int h] = some (zcz bs ss js us ls ks h) := by
  have hl : (ss.map (·.nm)).length <= 40 := by rw [List.length_map]; exact g.sl.2
  have f1 := fresh8 (d := .lst (bs.map zaV)) (pl_lst (by have := g.bl.2; omega) fun x hx => pl_bench (g.b x hx))
  have f2 := fresh8 (d := .lst (ss.map zaC)) (pl_lst (by have := g.sl.2; omega) fun x hx => pl_step (g.s x hx))
  have f3 := fresh8 (d := .lst (js.map zbu)) (pl_lst (by have := g.jl; omega) fun x hx => pl_job hl (g.j x hx))
  have f4 := fresh8 (d := .lst (us.map dSet)) (pl_lst (by have := g.ul; omega) fun x hx => pl_set)
  have f5 := fresh8 (d := .lst (ls.map zcM)) (pl_lst (by have := g.ll; omega) fun x hx => pl_link)
  have f6 := fresh8 (d := .lst (ks.map zb0)) (pl_lst (by have := g.kl; omega) fun x hx => pl_stock hl (g.k x hx))
  obtain ⟨z, z', ho⟩ := outer_ok (bs := bs) (ss := ss) (us := us) (ls := ls) (ks := ks) (h := h) g.jl fun j hj => Nat.le_trans (g.j j hj).ln hl
  have key : ∀ (G : FS) (ρ' : za2), G (some (.obj "Shop" []) :: [some (.sh (.lst (bs.map zaV))), some (.sh (.lst (ss.map zaC))), some (.sh (.lst (js.map zbu))), some (.sh (.lst (us.map dSet))), some (.sh (.lst (ls.map zcM))), some (.sh (.lst (ks.map zb0))), some (.sh (.int h)), none, none, none]) = some (.nx, ob bs ss js us ls ks h (jkv js) :: ρ') ->
      runI 3 "Shop" G [.lst (bs.map zaV), .lst (ss.map zaC), .lst (js.map zbu), .lst (us.map dSet), .lst (ls.map zcM), .lst (ks.map zb0), .int h] = some (zcz bs ss js us ls ks h) := fun G ρ' e => by
    unfold runI
    show (G (some (.obj "Shop" []) :: [some (.sh (.lst (bs.map zaV))), some (.sh (.lst (ss.map zaC))), some (.sh (.lst (js.map zbu))), some (.sh (.lst (us.map dSet))), some (.sh (.lst (ls.map zcM))), some (.sh (.lst (ks.map zb0))), some (.sh (.int h)), none, none, none])).bind _ = _
    rw [e]
    rfl
  refine key _ (r9 bs ss js us ls ks h z z') ((zaF (zaT rfl (part_none g ml))).trans ?_)
  show zaE _ _ (some (.obj "Shop" []) :: r9 bs ss js us ls ks h none none) = _
  refine (zcI (zaZ (b := false) rfl)).trans ?_
  refine (zc7 0 rfl rfl (zaT rfl f1)).trans ?_
  refine (zc7 1 rfl rfl (zaT rfl f2)).trans ?_
  refine (zc7 2 rfl rfl (zaT rfl f3)).trans ?_
  refine (zc7 3 rfl rfl (zaT rfl f4)).trans ?_
  refine (zc7 4 rfl rfl (zaT rfl f5)).trans ?_
  refine (zc7 5 rfl rfl (zaT rfl f6)).trans ?_
  refine (zc7 6 rfl rfl (d := .int h) rfl).trans ?_
  refine (zc7 7 rfl rfl (dict_of (f := zaV) (nm := (·.nm)) (xs := bs) (fun x => ⟨_, rfl⟩) (ofldF_of 7 0 rfl rfl) (by have := g.bl.2; omega) g.bn)).trans ?_
  refine (zc7 8 rfl rfl (dict_of (f := zaC) (nm := (·.nm)) (xs := ss) (fun x => ⟨_, rfl⟩) (ofldF_of 8 1 rfl rfl) (by have := g.sl.2; omega) g.sn)).trans ?_
  refine (zc7 9 rfl rfl (dictT_of (us := us) (ofldF_of 9 3 rfl rfl) (by have := g.ul; omega) g.un)).trans ?_
  have hno : (fs10 bs ss js us ls ks h).lookup ("job_by_step" : Str) = none := look_no (by rw [fs10_keys]; decide +kernel)
  have hle : (fs10 bs ss js us ls ks h).length < 100 := by simp [fs10]
  have e1 : sOfd "Shop" "job_by_step" 0 (some (.obj "Shop" (fs10 bs ss js us ls ks h)) :: r9 bs ss js us ls ks h none none) = some (.nx, ob bs ss js us ls ks h [] :: r9 bs ss js us ls ks h none none) := by
    simp only [sOfd, List.getElem?_cons_zero, hno, hle, and_self, if_true, List.set_cons_zero]
  have e2 : itF (ofldF "Shop" "jobs" 0) (ob bs ss js us ls ks h [] :: r9 bs ss js us ls ks h none none) = some (js.map zbu) := by
    have lk : (fs10 bs ss js us ls ks h).lookup ("jobs" : Str) = some (.lst (js.map zbu)) := look_nth (i := 2) (by rw [fs10_keys]; exact nd_take keys_nd 10) rfl
    have n1 : ("jobs" : Str) ≠ "job_by_step" := by decide +kernel
    have e : ofldF "Shop" "jobs" 0 (ob bs ss js us ls ks h [] :: r9 bs ss js us ls ks h none none) = some (.lst (js.map zbu)) := by
      show (if some ("Shop" : Str) = some ("Shop" : Str) then (if ("jobs" : Str) = "job_by_step" then none else (fs10 bs ss js us ls ks h).lookup ("jobs" : Str)) else none) = _
      rw [if_pos rfl, if_neg n1, lk]
    unfold itF
    rw [e]; rfl
  show zaE (sOfd "Shop" "job_by_step" 0) (sFor (itF (ofldF "Shop" "jobs" 0)) (zaP 9) (sFor (itF (b2 ixD (vSh 9) (vC (.int 4)))) (zaP 10) (zc6 "Shop" "job_by_step" 0 (vSh 10) (vSh 9)))) (some (.obj "Shop" (fs10 bs ss js us ls ks h)) :: r9 bs ss js us ls ks h none none) = _
  unfold zaE
  rw [e1, Option.bind_some]
  show sFor _ _ _ _ = _
  unfold sFor
  rw [e2, Option.bind_some]
  exact ho
end
end Law
end
section
namespace Law
open PySem L2
theorem if_of {ft : FT} {g g' : FS} {ρ : za2} {b : Bool} (h : ft ρ = some b) : sIf ft g g' ρ = if b = true then g ρ else g' ρ := by unfold sIf; rw [h]; rfl
theorem zcN {g g' : FS} {ρ ρ1 : za2} (h : g ρ = some (.nx, ρ1)) : zaE g g' ρ = g' ρ1 := by unfold zaE; rw [h]; rfl
theorem set_last {i : Nat} {f : FE} {ρ : za2} {d : D} (h : f ρ = some d) : zbp i f ρ = some (.nx, ρ.set i (some (.sh d))) := by unfold zbp; rw [h]; rfl
theorem app_of {i : Nat} {f : FE} {ρ : za2} {ds : List D} {d : D} (h1 : ρ[i]? = some (some (.own ds))) (h2 : f ρ = some d) (h3 : ds.length < sizeLine) : sApp i f ρ = some (.nx, ρ.set i (some (.own (ds ++ [d])))) := by
  unfold sApp
  rw [h1]
  show (f ρ).bind _ = _
  rw [h2, Option.bind_some, if_pos h3]
theorem own_of {i : Nat} {g : FS} {ρ : za2} : zaE (sOwn i (szF zak)) g ρ = g (ρ.set i (some (.own []))) := by
  have z0 : (0 <= sizeLine) = True := by simp
  simp only [zaE, sOwn, szF, zak, Option.bind_some, Option.map_some, List.length_nil, z0, if_true]
theorem frz_of {i : Nat} {g : FS} {ρ : za2} {ds : List D} (h1 : ρ[i]? = some (some (.own ds))) : sFrz i g ρ = g (ρ.set i (some (.sh (.lst ds)))) := by unfold sFrz; rw [h1]
theorem zdg {fi : FA} {gg : FG} {body : FS} {ρ : za2} {xs : List D} (h : fi ρ = some xs) : sFor fi gg body ρ = forL gg body xs ρ := by unfold sFor; rw [h]; rfl
theorem zck {a b : Int} (h : 0 < b) : zcj (.int a) (.int b) = some (.int (a % b)) := if_pos h
theorem fdiv_of {a b : Int} (h : 0 < b /\ b < 1073741824) : fdivD (.int a) (.int b) = some (.int (a / b)) := if_pos h
theorem big64 : (2 : Int) ^ 64 = 18446744073709551616 := by decide +kernel
theorem mul_of {a b : Int} (h : (-1000000000000 < a /\ a < 1000000000000) \/ (-1000000000000 < b /\ b < 1000000000000)) : mulD (.int a) (.int b) = some (.int (a * b)) := by
  show (if _ then _ else _) = _
  rw [big64]
  exact if_pos (by omega)
theorem cell_ok (ns : List Int) (k : Nat) : zay [.scr ns, .int (k : Int)] = some (.int (ns.getD k 0)) := by
  have e : toB (b2 ltD (vSh 1) (cF zcU (zab (vSh 0) zak))) [some (.sh (.scr ns)), some (.sh (.int k))] = some (decide (k < ns.length)) := by
    simp only [toB, cF, zab, zak, vSh, b2, zcU, ltD, List.getElem?_cons_zero, List.getElem?_cons_succ, Option.bind_some, Option.map_some]
    congr 1
    exact decide_eq_decide.mpr (by omega)
  by_cases h : k < ns.length
  · refine za0 [some (.sh (.scr ns)), some (.sh (.int k))] rfl (take_of (e.trans (by rw [decide_eq_true h])) (zaU ?_))
    show (atI ns (k : Int)).map D.int = _
    rw [atI_nat]
    simp [List.getD, h]
  · refine za0 [some (.sh (.scr ns)), some (.sh (.int k))] rfl ((zcI (e.trans (by rw [decide_eq_false h]))).trans (zaU ?_))
    have : ns.getD k 0 = 0 := by simp [List.getD, Nat.le_of_not_lt h]
    rw [this]
    rfl
abbrev dE (c : Int) (k : Nat) (sz : List Int) (n : Int) (ds : List Int) (a b : Option Slot) : za2 := [some (.sh (.int c)), some (.sh (.int k)), some (.sh (.lst (sz.map D.int))), some (.sh (.int n)), some (.own (ds.map D.int)), a, b]
def digBody : FS := sIf (orT (toB (b2 eqD (b2 zcj (vSh 0) (vC (.int 2))) (vC (.int 1)))) (toB (b2 eqD (vSh 3) (vC (.int 0))))) (zaE (zbp 3 (b2 zbo (b2 zcj (b2 zbo (vSh 3) (vSh 0)) (vC (.int 2147483629))) (vC (.int 48271)))) (zaE (zbp 3 (b2 zbo (vSh 3) (b2 mulD (b2 mulD (vC (.int 7919)) (b2 zbo (vSh 1) (vSh 5))) (b2 zbo (vSh 1) (vSh 5))))) (zaE (zbp 3 (b2 zcj (b2 mulD (vSh 3) (vSh 3)) (vC (.int 2147483587)))) (sApp 4 (b2 zcj (b2 fdivD (vSh 3) (vC (.int 16))) (vSh 6)))))) (zaE (sApp 4 (b2 zcj (vSh 3) (vSh 6))) (zbp 3 (b2 fdivD (vSh 3) (vSh 6))))
theorem dig_turn {c n s : Int} {k t : Nat} {sz ds : List Int} (hk : k <= 1000) (ht : t <= 100) (hs : 0 < s /\ s < 1073741824) (hl : ds.length <= 100) : ∃ n' d, digBody (dE c k sz n ds (some (.sh (.int t))) (some (.sh (.int s)))) = some (.nx, dE c k sz n' (ds ++ [d]) (some (.sh (.int t))) (some (.sh (.int s)))) /\ 0 <= d /\ d < s := by
  have e1 : toB (b2 eqD (b2 zcj (vSh 0) (vC (.int 2))) (vC (.int 1))) (dE c k sz n ds (some (.sh (.int t))) (some (.sh (.int s)))) = some (decide (c % 2 = 1)) :=
    zaZ (zaw (zaw rfl rfl (zck (by decide))) rfl rfl)
  have e2 : toB (b2 eqD (vSh 3) (vC (.int 0))) (dE c k sz n ds (some (.sh (.int t))) (some (.sh (.int s)))) = some (decide (n = 0)) := zaZ (zaw rfl rfl rfl)
  have e3 : orT (toB (b2 eqD (b2 zcj (vSh 0) (vC (.int 2))) (vC (.int 1)))) (toB (b2 eqD (vSh 3) (vC (.int 0)))) (dE c k sz n ds (some (.sh (.int t))) (some (.sh (.int s)))) = some (decide (c % 2 = 1) || decide (n = 0)) := by
    unfold orT
    rw [e1, Option.bind_some, e2]
    cases decide (c % 2 = 1) <;> rfl
  have hsz : (ds.map D.int).length < sizeLine := by rw [List.length_map]; unfold sizeLine; omega
  unfold digBody
  rw [if_of e3]
  split
  · have q1 : 0 <= (n + c) % 2147483629 := Int.emod_nonneg _ (by decide)
    have q2 : (n + c) % 2147483629 < 2147483629 := Int.emod_lt_of_pos _ (by decide)
    have q3 : 0 <= (k : Int) + t /\ (k : Int) + t <= 1100 := by omega
    have q4 : 0 <= 7919 * ((k : Int) + t) * ((k : Int) + t) := Int.mul_nonneg (by omega) q3.1
    have q5 : 7919 * ((k : Int) + t) * ((k : Int) + t) <= 7919 * 1100 * 1100 := Int.mul_le_mul (by omega) q3.2 q3.1 (by decide)
    let n2 : Int := (n + c) % 2147483629 + 48271 + 7919 * ((k : Int) + t) * ((k : Int) + t)
    refine ⟨n2 * n2 % 2147483587, n2 * n2 % 2147483587 / 16 % s, (zaF (zaw (zaw (zaw rfl rfl rfl) rfl (zck (by decide))) rfl rfl)).trans ((zaF (zaw rfl (zaw (zaw rfl (zaw rfl rfl rfl) (mul_of (.inl (by decide)))) (zaw rfl rfl rfl) (mul_of (.inr (by omega)))) rfl)).trans ((zaF (zaw (zaw rfl rfl (mul_of (.inl (by omega)))) rfl (zck (by decide)))).trans (app_of rfl (zaw (zaw rfl rfl (fdiv_of (by decide))) rfl (zck hs.1)) hsz))) |>.trans ?_, Int.emod_nonneg _ (by omega), Int.emod_lt_of_pos _ hs.1⟩
    simp [dE]
    exact ⟨rfl, rfl⟩
  · refine ⟨n / s, n % s, (zcN (app_of rfl (zaw rfl rfl (zck hs.1)) hsz)).trans (set_last (zaw rfl rfl (fdiv_of hs))) |>.trans ?_, Int.emod_nonneg _ (by omega), Int.emod_lt_of_pos _ hs.1⟩
    simp [dE]
theorem zdv {xs : List D} {i : Nat} {d : D} (h : (xs.mapIdx fun i d => D.tup [.int i, d])[i]? = some d) : ∃ x, xs[i]? = some x /\ d = .tup [.int i, x] := by
  rw [List.getElem?_mapIdx] at h
  obtain ⟨x, hx, rfl⟩ := Option.map_eq_some_iff.mp h
  exact ⟨x, hx, rfl⟩
theorem zdh (c : Int) (k : Nat) (hk : k <= 1000) (sz : List Int) (hs : ∀ s ∈ sz, 0 < s /\ s < 1073741824) (hl : sz.length <= 100) :
    ∃ ds : List Int, zah [.int c, .int (k : Int), .lst (sz.map D.int)] = some (.lst (ds.map D.int)) /\ ds.length = sz.length /\ ∀ (i : Nat) s, sz[i]? = some s -> ∃ d, ds[i]? = some d /\ 0 <= d /\ d < s := by
  obtain ⟨n0, hn0⟩ : ∃ n0 : Int, b2 fdivD (cF absD (zab (vSh 0) zak)) (vC (.int 2)) [some (.sh (.int c)), some (.sh (.int k)), some (.sh (.lst (sz.map D.int))), none, none, none, none] = some (.int n0) := ⟨_, zaw (zaT (zaj rfl zaD) rfl) rfl (fdiv_of (by decide))⟩
  obtain ⟨ρ', h1, n, ds, a, b, h2, h3, h4⟩ := zb2 (gg := zcs 2 (zaG (zaP 5) (zaG (zaP 6) zcr))) (body := digBody) (xs := (sz.map D.int).mapIdx fun i d => D.tup [.int i, d]) (ρ := dE c k sz n0 [] none none)
    (fun i ρ => ∃ n ds a b, ρ = dE c k sz n ds a b /\ ds.length = i /\ ∀ (j : Nat) s, j < i -> sz[j]? = some s -> ∃ d, ds[j]? = some d /\ 0 <= d /\ d < s) ⟨n0, [], none, none, rfl, rfl, fun j s hj => by omega⟩ (fun i x ρ hx hI => by
      obtain ⟨n, ds, a, b, rfl, hlen, hb⟩ := hI
      obtain ⟨y, hy, rfl⟩ := zdv hx
      rw [List.getElem?_map] at hy
      obtain ⟨s, hsi, rfl⟩ := Option.map_eq_some_iff.mp hy
      have hi : i < sz.length := (List.getElem?_eq_some_iff.mp hsi).1
      obtain ⟨n', d, e1, e2, e3⟩ := dig_turn (c := c) (n := n) (k := k) (t := i) (sz := sz) (ds := ds) hk (by omega) (hs s (List.mem_of_getElem? hsi)) (by omega)
      refine ⟨_, _, rfl, e1, n', ds ++ [d], _, _, rfl, by rw [List.length_append, hlen]; rfl, fun j s' hj hs' => ?_⟩
      by_cases hji : j = i
      · subst hji
        rw [hsi] at hs'
        cases hs'
        exact ⟨d, by rw [List.getElem?_append_right (by omega), hlen, Nat.sub_self]; rfl, e2, e3⟩
      · obtain ⟨d', q1, q2⟩ := hb j s' (by omega) hs'
        exact ⟨d', by rw [List.getElem?_append_left (by omega)]; exact q1, q2⟩)
  rw [List.length_mapIdx, List.length_map] at h3 h4
  refine ⟨ds, ?_, h3, fun i s hi => h4 i s (List.getElem?_eq_some_iff.mp hi).1 hi⟩
  refine za0 [some (.sh (.int c)), some (.sh (.int k)), some (.sh (.lst (sz.map D.int))), none, none, none, none] rfl ((zaF hn0).trans (own_of.trans ((zcN ((zdg (xs := (sz.map D.int).mapIdx fun i d => D.tup [.int i, d]) rfl).trans (h1.trans (by rw [h2])))).trans ((frz_of rfl).trans (zaU (f := vSh 4) rfl)))))
end Law
end
section
namespace Law
open PySem L2
noncomputable def nm (k : Nat) : Str := match zaq [.int (k : Int)] with
  | some (.str x) => x
  | _ => ⟨#[]⟩
noncomputable def isNm (k : Nat) : Bool := match zaq [.int (k : Int)] with
  | some (.str x) => zaQ x
  | _ => false
theorem nm_all : ∀ k, k < 90 -> isNm k = true := by decide +kernel
theorem nm_ok {k : Nat} (h : k < 90) : zaq [.int (k : Int)] = some (.str (nm k)) /\ zaQ (nm k) = true := by
  have := nm_all k h
  unfold isNm at this
  unfold nm
  split at this
  · rename_i x e
    rw [e]
    exact ⟨rfl, this⟩
  · cases this
theorem nm_inj1 : ∀ i, i < 10 -> ∀ j, j < 10 -> nm i = nm j -> i = j := by decide +kernel
theorem nm_inj2 : ∀ i, i < 3 -> ∀ j, j < 3 -> nm (60 + i) = nm (60 + j) -> i = j := by decide +kernel
theorem nm_inj3 : ∀ i, i < 3 -> ∀ j, j < 3 -> nm (70 + i) = nm (70 + j) -> i = j := by decide +kernel
theorem nm_inj4 : ∀ i, i < 3 -> ∀ j, j < 3 -> nm (80 + i) = nm (80 + j) -> i = j := by decide +kernel
def pqr (i : Nat) : Str := if i = 0 then "p" else if i = 1 then "q" else "r"
theorem pqr_ok : ∀ i, i < 3 -> zaQ (pqr i) = true := by decide +kernel
theorem pqr_at {i : Int} (h0 : 0 <= i) (h : i < 3) : ixD (.str "pqr") (.int i) = some (.str (pqr i.toNat)) := by
  have : i = 0 \/ i = 1 \/ i = 2 := by omega
  rcases this with rfl | rfl | rfl <;> rfl
theorem cut_hi {xs : List D} {d : Int} (h : 0 <= d) : sliceD none (some d) (.lst xs) = some (.lst (xs.take d.toNat)) := by
  show some (D.lst (cutL xs none (some d))) = _
  unfold cutL HT.sIx
  simp only
  rw [if_neg (by omega), List.drop_zero, Nat.sub_zero]
  congr 2
  rw [Nat.min_def]
  split
  · rfl
  · rw [List.take_of_length_le (Nat.le_refl _), List.take_of_length_le (by omega)]
theorem cut_lo {xs : List D} {d : Int} (h : 0 <= d) : sliceD (some d) none (.lst xs) = some (.lst (xs.drop d.toNat)) := by
  show some (D.lst (cutL xs (some d) none)) = _
  unfold cutL HT.sIx
  simp only
  rw [if_neg (by omega)]
  congr 2
  rw [Nat.min_def]
  split
  · rw [List.take_of_length_le (by rw [List.length_drop]; omega)]
  · rw [List.drop_of_length_le (Nat.le_refl _), List.drop_of_length_le (by omega)]; simp
theorem sl_hi {f : FE} {g : FE} {ρ : za2} {xs : List D} {d : Int} (h1 : f ρ = some (.lst xs)) (h2 : g ρ = some (.int d)) (h : 0 <= d) : slF f pN (pS g) ρ = some (.lst (xs.take d.toNat)) := by
  unfold slF pN pS
  rw [h1, h2]
  exact cut_hi h
theorem sl_lo {f : FE} {g : FE} {ρ : za2} {xs : List D} {d : Int} (h1 : f ρ = some (.lst xs)) (h2 : g ρ = some (.int d)) (h : 0 <= d) : slF f (pS g) pN ρ = some (.lst (xs.drop d.toNat)) := by
  unfold slF pN pS
  rw [h1, h2]
  exact cut_lo h
structure GoodI (h : Int) (br : List (Int × Int)) : Prop where
  iv : ∀ p ∈ br, 0 <= p.1 /\ p.1 < p.2 /\ p.2 <= h
  gap : ∀ (i : Nat) p q, br[i]? = some p -> br[i + 1]? = some q -> p.2 < q.1
abbrev sE (rs : List (Int × Int)) (h : Int) (br : List (Int × Int)) (f : Int) (a b c d : Option Slot) : za2 := [some (.sh (.lst (rs.map dIv))), some (.sh (.int h)), some (.own (br.map dIv)), some (.sh (.int f)), a, b, c, d]
def spBody : FS := zaE (zbp 6 (b2 zbo (vSh 3) (vSh 4))) (zaE (zbp 7 (b2 zbo (b2 zbo (vSh 6) (vC (.int 1))) (vSh 5))) (sIf (toB (b2 leD (vSh 7) (vSh 1))) (zaE (sApp 2 (zce (szF (zab (vSh 6) (zab (vSh 7) zak))))) (zbp 3 (b2 zbo (vSh 7) (vC (.int 1))))) zci))
theorem zcH {f g : FE} {ρ : za2} {x y : D} (h1 : f ρ = some x) (h2 : g ρ = some y) : zce (szF (zab f (zab g zak))) ρ = some (.tup [x, y]) := by
  simp only [zce, szF, zab, zak, h1, h2, Option.bind_some, Option.map_some, List.length_cons, List.length_nil, Nat.zero_add, sz2, if_true]
theorem tup3_of {f g e : FE} {ρ : za2} {x y z : D} (h1 : f ρ = some x) (h2 : g ρ = some y) (h3 : e ρ = some z) : zce (szF (zab f (zab g (zab e zak)))) ρ = some (.tup [x, y, z]) := by
  simp only [zce, szF, zab, zak, h1, h2, h3, Option.bind_some, Option.map_some, List.length_cons, List.length_nil, Nat.zero_add, sz3, if_true]
theorem tup4_of {f g e a : FE} {ρ : za2} {x y z w : D} (h1 : f ρ = some x) (h2 : g ρ = some y) (h3 : e ρ = some z) (h4 : a ρ = some w) : zce (szF (zab f (zab g (zab e (zab a zak))))) ρ = some (.tup [x, y, z, w]) := by
  simp only [zce, szF, zab, zak, h1, h2, h3, h4, Option.bind_some, Option.map_some, List.length_cons, List.length_nil, Nat.zero_add, sz4, if_true]
theorem tup5_of {f g e a b : FE} {ρ : za2} {x y z w u : D} (h1 : f ρ = some x) (h2 : g ρ = some y) (h3 : e ρ = some z) (h4 : a ρ = some w) (h5 : b ρ = some u) : zce (szF (zab f (zab g (zab e (zab a (zab b zak)))))) ρ = some (.tup [x, y, z, w, u]) := by
  simp only [zce, szF, zab, zak, h1, h2, h3, h4, h5, Option.bind_some, Option.map_some, List.length_cons, List.length_nil, Nat.zero_add, sz5, if_true]
theorem spans_ok (rs : List (Int × Int)) (h : Int) (hr : ∀ p ∈ rs, 0 <= p.1 /\ 0 <= p.2) (hl : rs.length <= 3) : ∃ br : List (Int × Int), zbj [.lst (rs.map dIv), .int h] = some (.lst (br.map dIv)) /\ br.length <= rs.length /\ GoodI h br := by
  obtain ⟨ρ', h1, br, f, a, b, c, d, h2, h3, h4, h5, h6⟩ := zb2 (gg := zcs 2 (zaG (zaP 4) (zaG (zaP 5) zcr))) (body := spBody) (xs := rs.map dIv) (ρ := sE rs h [] 0 none none none none)
    (fun i ρ => ∃ br f a b c d, ρ = sE rs h br f a b c d /\ br.length <= i /\ GoodI h br /\ 0 <= f /\ ∀ p ∈ br, p.2 < f) ⟨[], 0, none, none, none, none, rfl, Nat.le_refl _, ⟨fun p hp => (by cases hp), fun i p q hp => (by simp at hp)⟩, Int.le_refl _, fun p hp => (by cases hp)⟩ (fun i x ρ hx hI => by
      obtain ⟨br, f, a, b, c, d, rfl, hlen, hg, hf, hlt⟩ := hI
      rw [List.getElem?_map] at hx
      obtain ⟨p, hp, rfl⟩ := Option.map_eq_some_iff.mp hx
      obtain ⟨p1, p2⟩ := hr p (List.mem_of_getElem? hp)
      have hi : i < rs.length := (List.getElem?_eq_some_iff.mp hp).1
      have hsz : (br.map dIv).length < sizeLine := by rw [List.length_map]; unfold sizeLine; omega
      have pre : ∀ ρ2, (sIf (toB (b2 leD (vSh 7) (vSh 1))) (zaE (sApp 2 (zce (szF (zab (vSh 6) (zab (vSh 7) zak))))) (zbp 3 (b2 zbo (vSh 7) (vC (.int 1))))) zci) (sE rs h br f (some (.sh (.int p.1))) (some (.sh (.int p.2))) (some (.sh (.int (f + p.1)))) (some (.sh (.int (f + p.1 + 1 + p.2))))) = some (.nx, ρ2) -> spBody (sE rs h br f (some (.sh (.int p.1))) (some (.sh (.int p.2))) c d) = some (.nx, ρ2) := fun ρ2 q =>
        (zaF (zaw rfl rfl rfl)).trans ((zaF (zaw (zaw rfl rfl rfl) rfl rfl)).trans q)
      have e : toB (b2 leD (vSh 7) (vSh 1)) (sE rs h br f (some (.sh (.int p.1))) (some (.sh (.int p.2))) (some (.sh (.int (f + p.1)))) (some (.sh (.int (f + p.1 + 1 + p.2))))) = some (decide (f + p.1 + 1 + p.2 <= h)) := zaZ (zaw rfl rfl rfl)
      by_cases hh : f + p.1 + 1 + p.2 <= h
      · rw [decide_eq_true hh] at e
        refine ⟨_, _, rfl, pre _ ((if_of e).trans ((if_pos rfl).trans ((zcN (app_of rfl (zcH rfl rfl) hsz)).trans (set_last (zaw rfl rfl rfl))))), br ++ [(f + p.1, f + p.1 + 1 + p.2)], f + p.1 + 1 + p.2 + 1, some (.sh (.int p.1)), some (.sh (.int p.2)), some (.sh (.int (f + p.1))), some (.sh (.int (f + p.1 + 1 + p.2))), ?_, ?_, ⟨fun q hq => ?_, fun j q q' hq hq' => ?_⟩, by omega, fun q hq => ?_⟩
        · simp [sE, dIv]
        · rw [List.length_append]; simp; omega
        · rcases List.mem_append.mp hq with z | z
          · exact hg.iv q z
          · rw [List.mem_singleton.mp z]; exact ⟨by omega, by omega, hh⟩
        · have hj : j + 1 < br.length + 1 := by
            have := (List.getElem?_eq_some_iff.mp hq').1
            simpa using this
          rw [List.getElem?_append_left (by omega)] at hq
          by_cases hj2 : j + 1 < br.length
          · rw [List.getElem?_append_left hj2] at hq'
            exact hg.gap j q q' hq hq'
          · rw [List.getElem?_append_right (by omega), show j + 1 - br.length = 0 by omega] at hq'
            cases hq'
            have := hlt q (List.mem_of_getElem? hq)
            show q.2 < f + p.1
            omega
        · rcases List.mem_append.mp hq with z | z
          · have := hlt q z; omega
          · rw [List.mem_singleton.mp z]; show f + p.1 + 1 + p.2 < _; omega
      · rw [decide_eq_false hh] at e
        exact ⟨_, _, rfl, pre _ ((if_of e).trans rfl), br, f, _, _, _, _, rfl, by omega, hg, hf, hlt⟩)
  rw [List.length_map] at h3
  refine ⟨br, za0 [some (.sh (.lst (rs.map dIv))), some (.sh (.int h)), none, none, none, none, none, none] rfl (own_of.trans ((zaF (d := .int 0) rfl).trans ((zcN ((zdg (xs := rs.map dIv) rfl).trans (h1.trans (by rw [h2])))).trans ((frz_of rfl).trans (zaU (f := vSh 2) rfl))))), h3, h4⟩
theorem app_map {α : Type} {g : α -> D} {xs : List α} {x : α} {i : Nat} {f : FE} {ρ : za2} (h1 : ρ[i]? = some (some (.own (xs.map g)))) (h2 : f ρ = some (g x)) (h3 : xs.length <= 1000) : sApp i f ρ = some (.nx, ρ.set i (some (.own ((xs ++ [x]).map g)))) := by
  rw [app_of h1 h2 (by rw [List.length_map]; unfold sizeLine; omega), List.map_append]; rfl
theorem lst3_of {f g e : FE} {ρ : za2} {x y z : D} (h1 : f ρ = some x) (h2 : g ρ = some y) (h3 : e ρ = some z) : za3 (szF (zab f (zab g (zab e zak)))) ρ = some (.lst [x, y, z]) := by
  simp only [za3, szF, zab, zak, h1, h2, h3, Option.bind_some, Option.map_some, List.length_cons, List.length_nil, Nat.zero_add, sz3, if_true]
theorem zcd {f : FE} {ρ : za2} {ds : List Int} {n : Nat} {d : Int} (h1 : f ρ = some (.lst (ds.map D.int))) (h2 : ds[n]? = some d) : b2 ixD f (vC (.int (n : Int))) ρ = some (.int d) :=
  zaw h1 rfl (by rw [ixL, List.getElem?_map, h2]; rfl)
structure BenchAt (h : Int) (i : Nat) (b : BenchT) : Prop where
  nm : b.nm = nm (60 + i)
  len : b.br.length <= 3
  good : GoodI h b.br
abbrev bE (cs : List Int) (h : Int) (bs : List BenchT) (a b c d : Option Slot) : za2 := [some (.sh (.lst (cs.map D.int))), some (.sh (.int h)), some (.own (bs.map zaV)), a, b, c, d]
def bnSz : FE := za3 (szF (zab (vC (.int 4)) (zab (vC (.int 5)) (zab (vC (.int 3)) (zab (vC (.int 7)) (zab (vC (.int 4)) (zab (vC (.int 9)) (zab (vC (.int 5)) zak))))))))
theorem bnSz_ok (ρ : za2) : bnSz ρ = some (.lst (([4, 5, 3, 7, 4, 9, 5] : List Int).map D.int)) := rfl
noncomputable def bnBody : FS := zaE (zbp 5 (cF zah (zab (vSh 4) (zab (vSh 3) (zab bnSz zak))))) (zaE (zbp 6 (slF (za3 (szF (zab (zce (szF (zab (b2 ixD (vSh 5) (vC (.int 1))) (zab (b2 ixD (vSh 5) (vC (.int 2))) zak)))) (zab (zce (szF (zab (b2 ixD (vSh 5) (vC (.int 3))) (zab (b2 ixD (vSh 5) (vC (.int 4))) zak)))) (zab (zce (szF (zab (b2 ixD (vSh 5) (vC (.int 5))) (zab (b2 ixD (vSh 5) (vC (.int 6))) zak)))) zak))))) pN (pS (b2 ixD (vSh 5) (vC (.int 0)))))) (sApp 2 (zce (szF (zab (cF zaq (zab (b2 zbo (vC (.int 60)) (vSh 3)) zak)) (zab (cF zbj (zab (vSh 6) (zab (vSh 1) zak))) zak))))))
theorem bn_turn {cs : List Int} {h c : Int} {bs : List BenchT} {i : Nat} {y z : Option Slot} (hi : i < 3) (hl : bs.length <= 3) : ∃ b u v, bnBody (bE cs h bs (some (.sh (.int i))) (some (.sh (.int c))) y z) = some (.nx, bE cs h (bs ++ [b]) (some (.sh (.int i))) (some (.sh (.int c))) u v) /\ BenchAt h i b := by
  obtain ⟨ds, e, hd, hb⟩ := zdh c i (by omega) [4, 5, 3, 7, 4, 9, 5] (by decide) (by decide)
  obtain ⟨d0, q0, p0, _⟩ := hb 0 4 rfl
  obtain ⟨d1, q1, p1, _⟩ := hb 1 5 rfl
  obtain ⟨d2, q2, p2, _⟩ := hb 2 3 rfl
  obtain ⟨d3, q3, p3, _⟩ := hb 3 7 rfl
  obtain ⟨d4, q4, p4, _⟩ := hb 4 4 rfl
  obtain ⟨d5, q5, p5, _⟩ := hb 5 9 rfl
  obtain ⟨d6, q6, p6, _⟩ := hb 6 5 rfl
  have hrs : ∀ p ∈ ([(d1, d2), (d3, d4), (d5, d6)] : List (Int × Int)).take d0.toNat, 0 <= p.1 /\ 0 <= p.2 := fun p hp => by
    have := List.mem_of_mem_take hp
    simp only [List.mem_cons, List.not_mem_nil, or_false] at this
    rcases this with rfl | rfl | rfl
    · exact ⟨p1, p2⟩
    · exact ⟨p3, p4⟩
    · exact ⟨p5, p6⟩
  obtain ⟨br, es, hbl, hbg⟩ := spans_ok (([(d1, d2), (d3, d4), (d5, d6)] : List (Int × Int)).take d0.toNat) h hrs (by rw [List.length_take]; simp; omega)
  have hn := (nm_ok (k := 60 + i) (by omega)).1
  have hn' : zaq [.int (60 + (i : Int))] = some (.str (nm (60 + i))) := by
    rw [← hn]; congr 2
  refine ⟨⟨nm (60 + i), br⟩, _, _, (zaF (d := .lst (ds.map D.int)) (zaT (zaj rfl (zaj rfl (zaj (bnSz_ok _) zaD))) e)).trans ((zaF (d := .lst ((([(d1, d2), (d3, d4), (d5, d6)] : List (Int × Int)).take d0.toNat).map dIv)) ?_).trans (app_map rfl (zcH (zaT (zaj (zaw rfl rfl rfl) zaD) hn') (zaT (zaj rfl (zaj rfl zaD)) es)) (by omega))), rfl, by rw [List.length_take] at hbl; simp at hbl; show br.length <= 3; omega, hbg⟩
  rw [List.map_take]
  exact sl_hi (xs := [dIv (d1, d2), dIv (d3, d4), dIv (d5, d6)]) (lst3_of (zcH (zcd rfl q1) (zcd rfl q2)) (zcH (zcd rfl q3) (zcd rfl q4)) (zcH (zcd rfl q5) (zcd rfl q6))) (zcd rfl q0) p0
theorem lbenches_ok (cs : List Int) (h : Int) (hl : cs.length <= 3) : ∃ bs : List BenchT, zbd [.lst (cs.map D.int), .int h] = some (.lst (bs.map zaV)) /\ bs.length = cs.length /\ ∀ (i : Nat) b, bs[i]? = some b -> BenchAt h i b := by
  obtain ⟨ρ', h1, bs, a, b, c, d, h2, h3, h4⟩ := zb2 (gg := zcs 2 (zaG (zaP 3) (zaG (zaP 4) zcr))) (body := bnBody) (xs := (cs.map D.int).mapIdx fun i d => D.tup [.int i, d]) (ρ := bE cs h [] none none none none)
    (fun i ρ => ∃ bs a b c d, ρ = bE cs h bs a b c d /\ bs.length = i /\ ∀ (j : Nat) b, bs[j]? = some b -> BenchAt h j b) ⟨[], none, none, none, none, rfl, rfl, fun j b hj => (by simp at hj)⟩ (fun i x ρ hx hI => by
      obtain ⟨bs, a, b, c, d, rfl, hlen, hb⟩ := hI
      obtain ⟨y, hy, rfl⟩ := zdv hx
      rw [List.getElem?_map] at hy
      obtain ⟨s, hsi, rfl⟩ := Option.map_eq_some_iff.mp hy
      have hi : i < cs.length := (List.getElem?_eq_some_iff.mp hsi).1
      obtain ⟨b', u, v, e1, e2⟩ := bn_turn (cs := cs) (h := h) (c := s) (bs := bs) (i := i) (y := c) (z := d) (by omega) (by omega)
      refine ⟨_, _, rfl, e1, bs ++ [b'], _, _, _, _, rfl, by rw [List.length_append, hlen]; rfl, fun j b'' hj => ?_⟩
      by_cases hji : j < bs.length
      · rw [List.getElem?_append_left hji] at hj
        exact hb j b'' hj
      · have hl2 := (List.getElem?_eq_some_iff.mp hj).1
        rw [List.length_append, List.length_singleton] at hl2
        rw [List.getElem?_append_right (by omega), show j - bs.length = 0 by omega] at hj
        cases hj
        rw [show j = i by omega]
        exact e2)
  rw [List.length_mapIdx, List.length_map] at h3
  exact ⟨bs, za0 [some (.sh (.lst (cs.map D.int))), some (.sh (.int h)), none, none, none, none, none] rfl (own_of.trans ((zcN ((zdg (xs := (cs.map D.int).mapIdx fun i d => D.tup [.int i, d]) rfl).trans (h1.trans (by rw [h2])))).trans ((frz_of rfl).trans (zaU (f := vSh 2) rfl)))), h3, h4⟩
end Law
end
section
namespace Law
open PySem L2
def bnm (bs : List BenchT) (i : Nat) : Str := (bs.map (·.nm)).getD i ⟨#[]⟩
theorem bnm_mem {bs : List BenchT} {i : Nat} (h : i < bs.length) : bnm bs i ∈ bs.map (·.nm) := by
  unfold bnm
  rw [List.getD_eq_getElem?_getD, List.getElem?_map, List.getElem?_eq_getElem h]
  exact List.mem_map_of_mem (List.getElem_mem h)
theorem bench_at {bs : List BenchT} {ρ : za2} {f g : FE} {d : Int} (h1 : f ρ = some (.lst (bs.map zaV))) (h2 : g ρ = some (.int d)) (h3 : 0 <= d) (h4 : d < bs.length) : b2 ixD (b2 ixD f g) (vC (.int 0)) ρ = some (.str (bnm bs d.toNat)) := by
  obtain ⟨n, rfl⟩ := Int.eq_ofNat_of_zero_le h3
  have hd : n < bs.length := by omega
  have e : ixD (.lst (bs.map zaV)) (.int (n : Int)) = some (zaV bs[n]) := by
    rw [ixL, List.getElem?_map, List.getElem?_eq_getElem hd]
    rfl
  refine zaw (zaw h1 h2 e) rfl ?_
  show ixD (.tup _) (.int 0) = _
  rw [ixD0]
  unfold bnm
  rw [Int.toNat_natCast, List.getD_eq_getElem?_getD, List.getElem?_map, List.getElem?_eq_getElem hd]
  rfl
structure StepAt (bn : List Str) (h : Int) (i : Nat) (s : StepT) : Prop where
  nm : s.nm = nm i
  good : GoodS bn h s
abbrev tE (cs : List Int) (bs : List BenchT) (h lo : Int) (ss : List StepT) (a b c d : Option Slot) : za2 := [some (.sh (.lst (cs.map D.int))), some (.sh (.lst (bs.map zaV))), some (.sh (.int h)), some (.sh (.int lo)), some (.own (ss.map zaC)), a, b, c, d]
theorem lst1_of {f : FE} {ρ : za2} {x : D} (h1 : f ρ = some x) : szF (zab f zak) ρ = some [x] := by
  simp only [szF, zab, zak, h1, Option.bind_some, Option.map_some, List.length_cons, List.length_nil, Nat.zero_add, sz1, if_true]
theorem lst6_of {f g e a b c : FE} {ρ : za2} {x y z w u v : D} (h1 : f ρ = some x) (h2 : g ρ = some y) (h3 : e ρ = some z) (h4 : a ρ = some w) (h5 : b ρ = some u) (h6 : c ρ = some v) : za3 (szF (zab f (zab g (zab e (zab a (zab b (zab c zak))))))) ρ = some (.lst [x, y, z, w, u, v]) := by
  simp only [za3, szF, zab, zak, h1, h2, h3, h4, h5, h6, Option.bind_some, Option.map_some, List.length_cons, List.length_nil, Nat.zero_add, sz6, if_true]
theorem lst7_of {f g e a b c d : FE} {ρ : za2} {x y z w u v t : D} (h1 : f ρ = some x) (h2 : g ρ = some y) (h3 : e ρ = some z) (h4 : a ρ = some w) (h5 : b ρ = some u) (h6 : c ρ = some v) (h7 : d ρ = some t) : za3 (szF (zab f (zab g (zab e (zab a (zab b (zab c (zab d zak)))))))) ρ = some (.lst [x, y, z, w, u, v, t]) := by
  simp only [za3, szF, zab, zak, h1, h2, h3, h4, h5, h6, h7, Option.bind_some, Option.map_some, List.length_cons, List.length_nil, Nat.zero_add, sz7, if_true]
theorem ownF_of {i : Nat} {fr : FA} {g : FS} {ρ : za2} {ds : List D} (h : fr ρ = some ds) : zaE (sOwn i fr) g ρ = g (ρ.set i (some (.own ds))) := by
  simp only [zaE, sOwn, h, Option.map_some, Option.bind_some]
theorem andT_of {f g : FT} {ρ : za2} {a b : Bool} (h1 : f ρ = some a) (h2 : g ρ = some b) : andT f g ρ = some (a && b) := by
  unfold andT; rw [h1, Option.bind_some, h2]; cases a <;> rfl
theorem mod_rng (a : Int) {h : Int} (hh : 1 <= h) : 1 <= 1 + a % h /\ 1 + a % h <= h := by
  have h1 := Int.emod_nonneg a (show h ≠ 0 by omega)
  have h2 := Int.emod_lt_of_pos a (show 0 < h by omega)
  omega
noncomputable def stBody : FS := (zaE (zbp 7 (cF zah (zab (vSh 6) (zab (b2 zbo (vSh 5) (vC (.int 7))) (zab (za3 (szF (zab (vC (.int 3)) (zab (cF zcU (zab (vSh 1) zak)) (zab (vSh 3) (zab (cF zcU (zab (vSh 1) zak)) (zab (vSh 3) (zab (vC (.int 3)) zak)))))))) zak))))) (zaE (sOwn 8 (szF (zab (zce (szF (zab (b2 ixD (b2 ixD (vSh 1) (b2 ixD (vSh 7) (vC (.int 1)))) (vC (.int 0))) (zab (b2 zbo (vC (.int 1)) (b2 zcj (b2 ixD (vSh 7) (vC (.int 2))) (vSh 2))) zak)))) zak))) (zaE (sIf (andT (toB (b2 eqD (b2 ixD (vSh 7) (vC (.int 0))) (vC (.int 0)))) (toB (b2 neA (b2 ixD (vSh 7) (vC (.int 3))) (b2 ixD (vSh 7) (vC (.int 1)))))) (sApp 8 (zce (szF (zab (b2 ixD (b2 ixD (vSh 1) (b2 ixD (vSh 7) (vC (.int 3)))) (vC (.int 0))) (zab (b2 zbo (vC (.int 1)) (b2 zcj (b2 ixD (vSh 7) (vC (.int 4))) (vSh 2))) zak))))) zci) (sFrz 8 (sApp 4 (zce (szF (zab (cF zaq (zab (vSh 5) zak)) (zab (b2 ixD (vC (.str "pqr")) (b2 ixD (vSh 7) (vC (.int 5)))) (zab (vSh 8) zak))))))))))
theorem st_turn {cs : List Int} {h lo c : Int} {bs : List BenchT} {ss : List StepT} {i : Nat} {y z : Option Slot} (hh : 1 <= h) (hlo : 0 < lo /\ lo < 1000) (hi : i < 10) (hb : 1 <= bs.length /\ bs.length <= 3) (bnd : (bs.map (·.nm)).Nodup) (hl : ss.length <= 10) :
    ∃ s u v, stBody (tE cs bs h lo ss (some (.sh (.int i))) (some (.sh (.int c))) y z) = some (.nx, tE cs bs h lo (ss ++ [s]) (some (.sh (.int i))) (some (.sh (.int c))) u v) /\ StepAt (bs.map (·.nm)) h i s := by
  obtain ⟨ds, e, hd, hbd⟩ := zdh c (i + 7) (by omega) [3, (bs.length : Int), lo, (bs.length : Int), lo, 3] (by
    intro s hs
    simp only [List.mem_cons, List.not_mem_nil, or_false] at hs
    rcases hs with rfl | rfl | rfl | rfl | rfl | rfl <;> omega) (by simp)
  obtain ⟨d0, q0, p0, _⟩ := hbd 0 3 rfl
  obtain ⟨d1, q1, p1, r1⟩ := hbd 1 _ rfl
  obtain ⟨d2, q2, p2, _⟩ := hbd 2 _ rfl
  obtain ⟨d3, q3, p3, r3⟩ := hbd 3 _ rfl
  obtain ⟨d4, q4, p4, _⟩ := hbd 4 _ rfl
  obtain ⟨d5, q5, p5, r5⟩ := hbd 5 3 rfl
  obtain ⟨hn, hnb⟩ := nm_ok (k := i) (by omega)
  have w1 : (bnm bs d1.toNat) ∈ bs.map (·.nm) := bnm_mem (by omega)
  have w3 : (bnm bs d3.toNat) ∈ bs.map (·.nm) := bnm_mem (by omega)
  have bm : ∀ a b : Nat, a < bs.length -> b < bs.length -> bnm bs a = bnm bs b -> a = b := fun a b ha hb' hab => by
    unfold bnm at hab
    rw [List.getD_eq_getElem?_getD, List.getD_eq_getElem?_getD, List.getElem?_eq_getElem (by simpa using ha), List.getElem?_eq_getElem (by simpa using hb')] at hab
    exact (List.getElem_inj bnd).mp hab
  let W1 : Str × Int := (bnm bs d1.toNat, 1 + d2 % h)
  let W3 : Str × Int := (bnm bs d3.toNat, 1 + d4 % h)
  have e7 : ((i : Int) + 7) = ((i + 7 : Nat) : Int) := by omega
  have eD : cF zah (zab (vSh 6) (zab (b2 zbo (vSh 5) (vC (.int 7))) (zab (za3 (szF (zab (vC (.int 3)) (zab (cF zcU (zab (vSh 1) zak)) (zab (vSh 3) (zab (cF zcU (zab (vSh 1) zak)) (zab (vSh 3) (zab (vC (.int 3)) zak)))))))) zak))) (tE cs bs h lo ss (some (.sh (.int i))) (some (.sh (.int c))) y z) = some (.lst (ds.map D.int)) := by
    refine zaT (zaj (d := .int c) rfl (zaj (d := .int ((i : Int) + 7)) (zaw rfl rfl rfl) (zaj (lst6_of rfl (y := .int (bs.length : Nat)) ?_ rfl (w := .int (bs.length : Nat)) ?_ rfl rfl) zaD))) (by rw [e7]; exact e) <;>
    · refine zaT (zaj rfl zaD) ?_
      show some (D.int _) = _
      rw [List.length_map]
  have fin : ∀ (ws : List (Str × Int)), GoodS (bs.map (·.nm)) h ⟨nm i, pqr d5.toNat, ws⟩ -> sFrz 8 (sApp 4 (zce (szF (zab (cF zaq (zab (vSh 5) zak)) (zab (b2 ixD (vC (.str "pqr")) (b2 ixD (vSh 7) (vC (.int 5)))) (zab (vSh 8) zak)))))) (tE cs bs h lo ss (some (.sh (.int i))) (some (.sh (.int c))) (some (.sh (.lst (ds.map D.int)))) (some (.own (ws.map dW)))) = some (.nx, tE cs bs h lo (ss ++ [⟨nm i, pqr d5.toNat, ws⟩]) (some (.sh (.int i))) (some (.sh (.int c))) (some (.sh (.lst (ds.map D.int)))) (some (.sh (.lst (ws.map dW))))) := fun ws _ =>
    (frz_of rfl).trans (app_map rfl (tup3_of (zaT (zaj rfl zaD) hn) (zaw rfl (zcd rfl q5) (pqr_at p5 r5)) rfl) (by omega))
  have eW : ∀ Z, szF (zab (zce (szF (zab (b2 ixD (b2 ixD (vSh 1) (b2 ixD (vSh 7) (vC (.int 1)))) (vC (.int 0))) (zab (b2 zbo (vC (.int 1)) (b2 zcj (b2 ixD (vSh 7) (vC (.int 2))) (vSh 2))) zak)))) zak) (tE cs bs h lo ss (some (.sh (.int i))) (some (.sh (.int c))) (some (.sh (.lst (ds.map D.int)))) Z) = some ([W1].map dW) := fun Z =>
    lst1_of (zcH (bench_at rfl (zcd rfl q1) p1 (by omega)) (zaw rfl (zaw (zcd rfl q2) rfl (zck (by omega))) rfl))
  have eT : ∀ Z, andT (toB (b2 eqD (b2 ixD (vSh 7) (vC (.int 0))) (vC (.int 0)))) (toB (b2 neA (b2 ixD (vSh 7) (vC (.int 3))) (b2 ixD (vSh 7) (vC (.int 1))))) (tE cs bs h lo ss (some (.sh (.int i))) (some (.sh (.int c))) (some (.sh (.lst (ds.map D.int)))) Z) = some (decide (d0 = 0) && !decide (d3 = d1)) := fun Z =>
    andT_of (zaZ (zaw (zcd rfl q0) rfl rfl)) (zaZ (zaw (zcd rfl q3) (zcd rfl q1) rfl))
  have g1 : GoodS (bs.map (·.nm)) h ⟨nm i, pqr d5.toNat, [W1]⟩ := ⟨hnb, pqr_ok _ (by omega), by simp, by simp, fun w hw => by
    rw [List.mem_singleton.mp hw]
    exact ⟨w1, mod_rng d2 hh⟩, by simp⟩
  by_cases ht : (decide (d0 = 0) && !decide (d3 = d1)) = true
  · have hne : d3 ≠ d1 := by
      simp only [Bool.and_eq_true, Bool.not_eq_true', decide_eq_false_iff_not] at ht
      exact ht.2
    have g2 : GoodS (bs.map (·.nm)) h ⟨nm i, pqr d5.toNat, [W1] ++ [W3]⟩ := ⟨hnb, pqr_ok _ (by omega), by simp, by simp, fun w hw => by
      rcases List.mem_append.mp hw with q | q
      · rw [List.mem_singleton.mp q]; exact ⟨w1, mod_rng d2 hh⟩
      · rw [List.mem_singleton.mp q]; exact ⟨w3, mod_rng d4 hh⟩, by
      show [bnm bs d1.toNat, bnm bs d3.toNat].Nodup
      rw [List.nodup_cons]
      refine ⟨fun q => ?_, by simp⟩
      have := bm _ _ (by omega) (by omega) (List.mem_singleton.mp q)
      omega⟩
    exact ⟨_, _, _, (zaF eD).trans ((ownF_of (eW z)).trans ((zcN ((if_of (eT _)).trans ((if_pos ht).trans (app_map (x := W3) rfl (zcH (bench_at rfl (zcd rfl q3) p3 (by omega)) (zaw rfl (zaw (zcd rfl q4) rfl (zck (by omega))) rfl)) (by simp))))).trans (fin _ g2))), rfl, g2⟩
  · exact ⟨_, _, _, (zaF eD).trans ((ownF_of (eW z)).trans ((zcN ((if_of (eT _)).trans ((if_neg ht).trans rfl))).trans (fin _ g1))), rfl, g1⟩
theorem lsteps_ok (cs : List Int) (bs : List BenchT) (h lo : Int) (hh : 1 <= h) (hlo : 0 < lo /\ lo < 1000) (hl : cs.length <= 10) (hb : 1 <= bs.length /\ bs.length <= 3) (bnd : (bs.map (·.nm)).Nodup) : ∃ ss : List StepT, zbz [.lst (cs.map D.int), .lst (bs.map zaV), .int h, .int lo] = some (.lst (ss.map zaC)) /\ ss.length = cs.length /\ ∀ (i : Nat) s, ss[i]? = some s -> StepAt (bs.map (·.nm)) h i s := by
  obtain ⟨ρ', h1, ss, a, b, c, d, h2, h3, h4⟩ := zb2 (gg := zcs 2 (zaG (zaP 5) (zaG (zaP 6) zcr))) (body := stBody) (xs := (cs.map D.int).mapIdx fun i d => D.tup [.int i, d]) (ρ := tE cs bs h lo [] none none none none)
    (fun i ρ => ∃ ss a b c d, ρ = tE cs bs h lo ss a b c d /\ ss.length = i /\ ∀ (j : Nat) s, ss[j]? = some s -> StepAt (bs.map (·.nm)) h j s) ⟨[], none, none, none, none, rfl, rfl, fun j b hj => (by simp at hj)⟩ (fun i x ρ hx hI => by
      obtain ⟨ss, a, b, c, d, rfl, hlen, hb'⟩ := hI
      obtain ⟨y, hy, rfl⟩ := zdv hx
      rw [List.getElem?_map] at hy
      obtain ⟨s, hsi, rfl⟩ := Option.map_eq_some_iff.mp hy
      have hi : i < cs.length := (List.getElem?_eq_some_iff.mp hsi).1
      obtain ⟨s', u, v, e1, e2⟩ := st_turn (cs := cs) (h := h) (lo := lo) (c := s) (bs := bs) (ss := ss) (i := i) (y := c) (z := d) hh hlo (by omega) hb bnd (by omega)
      refine ⟨_, _, rfl, e1, ss ++ [s'], _, _, _, _, rfl, by rw [List.length_append, hlen]; rfl, fun j b'' hj => ?_⟩
      by_cases hji : j < ss.length
      · rw [List.getElem?_append_left hji] at hj
        exact hb' j b'' hj
      · have hl2 := (List.getElem?_eq_some_iff.mp hj).1
        rw [List.length_append, List.length_singleton] at hl2
        rw [List.getElem?_append_right (by omega), show j - ss.length = 0 by omega] at hj
        cases hj
        rw [show j = i by omega]
        exact e2)
  rw [List.length_mapIdx, List.length_map] at h3
  exact ⟨ss, za0 [some (.sh (.lst (cs.map D.int))), some (.sh (.lst (bs.map zaV))), some (.sh (.int h)), some (.sh (.int lo)), none, none, none, none, none] rfl (own_of.trans ((zcN ((zdg (xs := (cs.map D.int).mapIdx fun i d => D.tup [.int i, d]) rfl).trans (h1.trans (by rw [h2])))).trans ((frz_of rfl).trans (zaU (f := vSh 4) rfl)))), h3, h4⟩
end Law
end
section
namespace Law
open PySem L2
theorem zdj : ∀ (ns : List Str), PyData.depthAll (ns.map PyData.str) = 0
  | [] => by simp [PyData.depthAll]
  | x :: r => by simp [PyData.depthAll, PyData.depth, zdj r]
theorem shaped_strs {ns : List Str} (h : ∀ x ∈ ns, zaQ x = true) : SeqAt.shaped (.list (ns.map PyData.str)) = true := by
  simp [SeqAt.shaped, PyData.canLay0, lay_strs h, PyData.depth, zdj]
theorem neA_nil {ns : List Str} (h : ∀ x ∈ ns, zaQ x = true) : neA (.lst (ns.map D.str)) (.lst []) = some (.bl (!ns.isEmpty)) := by
  have e0 : neA (.lst (ns.map D.str)) (.lst []) = neXD (.lst (ns.map D.str)) (.lst []) := rfl
  have s1 := shaped_strs h
  have s2 : SeqAt.shaped (.list []) = true := by simp [SeqAt.shaped, PyData.canLay0, PyData.canLayAll0, PyData.depth, PyData.depthAll]
  have p1 : pdD (.lst (ns.map D.str)) = some (.list (ns.map PyData.str)) := by simp [pdD, pd_strs]
  have p2 : pdD (.lst []) = some (.list []) := by simp [pdD, pdDs]
  have q : PyData.eqv (.list (ns.map PyData.str)) (.list []) = ns.isEmpty := by
    cases ns <;> simp [PyData.eqv, PyData.eqvAll]
  rw [e0]
  unfold neXD eqX
  rw [p1, p2, Option.bind_some, Option.bind_some, if_pos ⟨s1, s2⟩, q]
  rfl
abbrev jE (cs : List Int) (ss : List StepT) (h : Int) (js : List JobT) (lf : List Str) (a b c d e f : Option Slot) : za2 := [some (.sh (.lst (cs.map D.int))), some (.sh (.lst (ss.map zaC))), some (.sh (.int h)), some (.own (js.map zbu)), some (.sh (.lst (lf.map D.str))), a, b, c, d, e, f]
structure JInv (sn : List Str) (h : Int) (i : Nat) (js : List JobT) (lf : List Str) : Prop where
  len : js.length <= i
  nd : (js.flatMap (·.ms) ++ lf).Nodup
  sub : ∀ x ∈ js.flatMap (·.ms) ++ lf, x ∈ sn
  ll : lf.length <= sn.length
  good : ∀ j ∈ js, GoodJ sn h j
  nmd : (js.map (·.nm)).Nodup
  nmk : ∀ j ∈ js, ∃ k, k < i /\ j.nm = nm (70 + k)
noncomputable def jbBody : FS := (zaE (zbp 7 (cF zah (zab (vSh 6) (zab (b2 zbo (vSh 5) (vC (.int 17))) (zab (za3 (szF (zab (vC (.int 4)) (zab (vC (.int 3)) (zab (vC (.int 3)) (zab (vC (.int 2)) (zab (vC (.int 5)) (zab (vC (.int 7)) zak)))))))) zak))))) (zaE (zbp 8 (slF (vSh 4) pN (pS (b2 ixD (vSh 7) (vC (.int 0)))))) (zaE (zbp 4 (slF (vSh 4) (pS (b2 ixD (vSh 7) (vC (.int 0)))) pN)) (sIf (toB (b2 neA (vSh 8) (za3 (szF zak)))) (zaE (zbp 9 (cF minD (zab (vSh 2) (zab (b2 mulD (b2 ixD (vSh 7) (vC (.int 1))) (cF intD (zab (b2 eqD (b2 ixD (vSh 7) (vC (.int 2))) (vC (.int 0))) zak))) zak)))) (zaE (zbp 10 (cF maxD (zab (vC (.int 0)) (zab (b2 subD (vSh 2) (b2 mulD (b2 ixD (vSh 7) (vC (.int 4))) (cF intD (zab (b2 eqD (b2 ixD (vSh 7) (vC (.int 2))) (vC (.int 1))) zak)))) zak)))) (zaE (zbp 8 (b2 zbo (slF (vSh 8) (pS (b2 zcj (b2 ixD (vSh 7) (vC (.int 5))) (vC (.int 2)))) pN) (slF (vSh 8) pN (pS (b2 zcj (b2 ixD (vSh 7) (vC (.int 5))) (vC (.int 2))))))) (sApp 3 (zce (szF (zab (cF zaq (zab (b2 zbo (vC (.int 70)) (vSh 5)) zak)) (zab (vSh 9) (zab (vSh 10) (zab (b2 eqD (b2 ixD (vSh 7) (vC (.int 3))) (vC (.int 1))) (zab (vSh 8) zak))))))))))) zci))))
theorem min_rng {h a : Int} (hh : 1 <= h) (ha : 0 <= a) : ∃ m, minD [.int h, .int a] = some (.int m) /\ 0 <= m /\ m <= h := by
  refine ⟨_, rfl, ?_, ?_⟩
  · omega
  · omega
theorem max_rng {h a : Int} (hh : 1 <= h) (ha : a <= h) : ∃ m, maxD [.int 0, .int a] = some (.int m) /\ 0 <= m /\ m <= h := by
  refine ⟨_, rfl, ?_, ?_⟩
  · omega
  · omega
theorem flag_of {f : FE} {ρ : za2} {a c : Int} (h : f ρ = some (.int a)) : ∃ b : Int, cF intD (zab (b2 eqD f (vC (.int c))) zak) ρ = some (.int b) /\ 0 <= b /\ b <= 1 := by
  refine ⟨if decide (a = c) = true then 1 else 0, zaT (zaj (zaw h rfl rfl) zaD) rfl, ?_, ?_⟩ <;> split <;> decide
theorem jb_turn {cs : List Int} {h c : Int} {ss : List StepT} {js : List JobT} {lf : List Str} {i : Nat} {y z w v : Option Slot} (hh : 1 <= h) (hi : i < 3) (hs : ∀ x ∈ ss.map (·.nm), zaQ x = true) (I : JInv (ss.map (·.nm)) h i js lf) (hsl : ss.length <= 40) :
    ∃ js' lf' y' z' w' v', jbBody (jE cs ss h js lf (some (.sh (.int i))) (some (.sh (.int c))) y z w v) = some (.nx, jE cs ss h js' lf' (some (.sh (.int i))) (some (.sh (.int c))) y' z' w' v') /\ JInv (ss.map (·.nm)) h (i + 1) js' lf' := by
  obtain ⟨ds, e, hd, hbd⟩ := zdh c (i + 17) (by omega) [4, 3, 3, 2, 5, 7] (by decide) (by decide)
  obtain ⟨d0, q0, p0, r0⟩ := hbd 0 4 rfl
  obtain ⟨d1, q1, p1, _⟩ := hbd 1 3 rfl
  obtain ⟨d2, q2, p2, _⟩ := hbd 2 3 rfl
  obtain ⟨d3, q3, p3, _⟩ := hbd 3 2 rfl
  obtain ⟨d4, q4, p4, _⟩ := hbd 4 5 rfl
  obtain ⟨d5, q5, p5, _⟩ := hbd 5 7 rfl
  have hn := (nm_ok (k := 70 + i) (by omega)).1
  have hnb := (nm_ok (k := 70 + i) (by omega)).2
  have hn' : zaq [.int (70 + (i : Int))] = some (.str (nm (70 + i))) := by rw [← hn]; congr 2
  have e17 : ((i : Int) + 17) = ((i + 17 : Nat) : Int) := by omega
  generalize hsm : lf.take d0.toNat = sm
  generalize hlf : lf.drop d0.toNat = lf'
  have hlf2 : lf = sm ++ lf' := by rw [← hsm, ← hlf, List.take_append_drop]
  have hslen : sm.length <= 3 := by rw [← hsm, List.length_take]; omega
  have hsml : sm.length + lf'.length = lf.length := by rw [hlf2, List.length_append]
  have hsn : ∀ x ∈ sm, zaQ x = true := fun x hx => hs x (I.sub x (List.mem_append_right _ (by rw [hlf2]; exact List.mem_append_left _ hx)))
  have eD : cF zah (zab (vSh 6) (zab (b2 zbo (vSh 5) (vC (.int 17))) (zab (za3 (szF (zab (vC (.int 4)) (zab (vC (.int 3)) (zab (vC (.int 3)) (zab (vC (.int 2)) (zab (vC (.int 5)) (zab (vC (.int 7)) zak)))))))) zak))) (jE cs ss h js lf (some (.sh (.int i))) (some (.sh (.int c))) y z w v) = some (.lst (ds.map D.int)) :=
    zaT (zaj (d := .int c) rfl (zaj (d := .int ((i : Int) + 17)) (zaw rfl rfl rfl) (zaj (lst6_of rfl rfl rfl rfl rfl rfl) zaD))) (by rw [e17]; exact e)
  have e8 : slF (vSh 4) pN (pS (b2 ixD (vSh 7) (vC (.int 0)))) (jE cs ss h js lf (some (.sh (.int i))) (some (.sh (.int c))) (some (.sh (.lst (ds.map D.int)))) z w v) = some (.lst (sm.map D.str)) := by
    rw [← hsm, List.map_take]
    exact sl_hi rfl (zcd rfl q0) p0
  have e4 : slF (vSh 4) (pS (b2 ixD (vSh 7) (vC (.int 0)))) pN (jE cs ss h js lf (some (.sh (.int i))) (some (.sh (.int c))) (some (.sh (.lst (ds.map D.int)))) (some (.sh (.lst (sm.map D.str)))) w v) = some (.lst (lf'.map D.str)) := by
    rw [← hlf, List.map_drop]
    exact sl_lo rfl (zcd rfl q0) p0
  have eT : toB (b2 neA (vSh 8) (za3 (szF zak))) (jE cs ss h js lf' (some (.sh (.int i))) (some (.sh (.int c))) (some (.sh (.lst (ds.map D.int)))) (some (.sh (.lst (sm.map D.str)))) w v) = some (!sm.isEmpty) := zaZ (zaw rfl (y := .lst []) rfl (neA_nil hsn))
  by_cases hem : sm.isEmpty = true
  · have hsm0 : sm = [] := List.isEmpty_iff.mp hem
    rw [hem] at eT
    refine ⟨js, lf', _, _, _, _, (zaF eD).trans ((zaF e8).trans ((zaF e4).trans ((if_of eT).trans rfl))), ⟨by have := I.len; omega, ?_, ?_, by have := I.ll; omega, I.good, I.nmd, fun j hj => ?_⟩⟩
    · have := I.nd; rw [hlf2, hsm0] at this; exact this
    · have := I.sub; rw [hlf2, hsm0] at this; exact this
    · obtain ⟨k, h1, h2⟩ := I.nmk j hj
      exact ⟨k, by omega, h2⟩
  · have hem' : sm.isEmpty = false := by simpa using hem
    rw [hem'] at eT
    have hs1 : 1 <= sm.length := by
      cases sm with
      | nil => simp at hem
      | cons a b => simp
    obtain ⟨b1, f1, f2, f3⟩ := flag_of (c := 0) (f := b2 ixD (vSh 7) (vC (.int 2))) (ρ := jE cs ss h js lf' (some (.sh (.int i))) (some (.sh (.int c))) (some (.sh (.lst (ds.map D.int)))) (some (.sh (.lst (sm.map D.str)))) w v) (zcd rfl q2)
    obtain ⟨ea, m1, m2, m3⟩ := min_rng (h := h) (a := d1 * b1) hh (Int.mul_nonneg p1 f2)
    have e9 : cF minD (zab (vSh 2) (zab (b2 mulD (b2 ixD (vSh 7) (vC (.int 1))) (cF intD (zab (b2 eqD (b2 ixD (vSh 7) (vC (.int 2))) (vC (.int 0))) zak))) zak)) (jE cs ss h js lf' (some (.sh (.int i))) (some (.sh (.int c))) (some (.sh (.lst (ds.map D.int)))) (some (.sh (.lst (sm.map D.str)))) w v) = some (.int ea) :=
      zaT (zaj rfl (zaj (zaw (zcd rfl q1) f1 (mul_of (.inr (by omega)))) zaD)) m1
    obtain ⟨b2', f4, f5, f6⟩ := flag_of (c := 1) (f := b2 ixD (vSh 7) (vC (.int 2))) (ρ := jE cs ss h js lf' (some (.sh (.int i))) (some (.sh (.int c))) (some (.sh (.lst (ds.map D.int)))) (some (.sh (.lst (sm.map D.str)))) (some (.sh (.int ea))) v) (zcd rfl q2)
    obtain ⟨du, n1, n2, n3⟩ := max_rng (h := h) (a := h - d4 * b2') hh (by have := Int.mul_nonneg p4 f5; omega)
    have e10 : cF maxD (zab (vC (.int 0)) (zab (b2 subD (vSh 2) (b2 mulD (b2 ixD (vSh 7) (vC (.int 4))) (cF intD (zab (b2 eqD (b2 ixD (vSh 7) (vC (.int 2))) (vC (.int 1))) zak)))) zak)) (jE cs ss h js lf' (some (.sh (.int i))) (some (.sh (.int c))) (some (.sh (.lst (ds.map D.int)))) (some (.sh (.lst (sm.map D.str)))) (some (.sh (.int ea))) v) = some (.int du) :=
      zaT (zaj rfl (zaj (zaw rfl (zaw (zcd rfl q4) f4 (mul_of (.inr (by omega)))) rfl) zaD)) n1
    have t0 : 0 <= d5 % 2 := Int.emod_nonneg _ (by decide)
    generalize htt : (d5 % 2).toNat = t
    have hrl : (sm.drop t ++ sm.take t).length = sm.length := by rw [List.length_append, List.length_drop, List.length_take]; omega
    have e8' : b2 zbo (slF (vSh 8) (pS (b2 zcj (b2 ixD (vSh 7) (vC (.int 5))) (vC (.int 2)))) pN) (slF (vSh 8) pN (pS (b2 zcj (b2 ixD (vSh 7) (vC (.int 5))) (vC (.int 2))))) (jE cs ss h js lf' (some (.sh (.int i))) (some (.sh (.int c))) (some (.sh (.lst (ds.map D.int)))) (some (.sh (.lst (sm.map D.str)))) (some (.sh (.int ea))) (some (.sh (.int du)))) = some (.lst ((sm.drop t ++ sm.take t).map D.str)) := by
      refine zaw (sl_lo rfl (zaw (zcd rfl q5) rfl (zck (by decide))) t0) (sl_hi rfl (zaw (zcd rfl q5) rfl (zck (by decide))) t0) ?_
      show (if _ then _ else _) = _
      rw [if_pos, htt, List.map_append, List.map_drop, List.map_take]
      rw [List.length_drop, List.length_take, List.length_map]; unfold sizeLine; omega
    let J : JobT := ⟨nm (70 + i), ea, du, decide (d3 = 1), sm.drop t ++ sm.take t⟩
    have perm : (sm.drop t ++ sm.take t).Perm sm := (List.perm_append_comm).trans (by rw [List.take_append_drop])
    have pa : ((js ++ [J]).flatMap (·.ms) ++ lf').Perm (js.flatMap (·.ms) ++ lf) := by
      rw [List.flatMap_append, hlf2, List.append_assoc]
      refine List.Perm.append_left _ ?_
      rw [List.flatMap_singleton]
      exact List.Perm.append_right _ perm
    refine ⟨js ++ [J], lf', _, _, _, _, (zaF eD).trans ((zaF e8).trans ((zaF e4).trans ((if_of eT).trans ((if_pos rfl).trans ((zaF e9).trans ((zaF e10).trans ((zaF e8').trans (app_map rfl (tup5_of (zaT (zaj (zaw rfl rfl rfl) zaD) hn') rfl rfl (zaw (zcd rfl q3) rfl rfl) rfl) (by have := I.len; omega))))))))), ⟨?_, ?_, ?_, ?_, ?_, ?_, ?_⟩⟩
    · rw [List.length_append]; have := I.len; simp; omega
    · exact (pa.nodup_iff).mpr I.nd
    · exact fun x hx => I.sub x (pa.mem_iff.mp hx)
    · have := I.ll; omega
    · intro j hj
      rcases List.mem_append.mp hj with q | q
      · exact I.good j q
      · rw [List.mem_singleton.mp q]
        refine ⟨hnb, ⟨m2, m3⟩, ⟨n2, n3⟩, by show 1 <= (sm.drop t ++ sm.take t).length; omega, by show (sm.drop t ++ sm.take t).length <= _; have := I.ll; omega, fun m hm => ?_⟩
        exact I.sub m (List.mem_append_right _ (by rw [hlf2]; exact List.mem_append_left _ (perm.mem_iff.mp hm)))
    · rw [List.map_append, List.nodup_append]
      refine ⟨I.nmd, by simp, fun a ha b hb hab => ?_⟩
      obtain ⟨j, hj, rfl⟩ := List.mem_map.mp ha
      obtain ⟨k, hk, hk2⟩ := I.nmk j hj
      have hb' : b = nm (70 + i) := by simpa using hb
      have := nm_inj3 k (by omega) i hi (hk2.symm.trans (hab.trans hb'))
      omega
    · intro j hj
      rcases List.mem_append.mp hj with q | q
      · obtain ⟨k, h1, h2⟩ := I.nmk j q
        exact ⟨k, by omega, h2⟩
      · rw [List.mem_singleton.mp q]; exact ⟨i, by omega, rfl⟩
theorem ljobs_ok (cs : List Int) (ss : List StepT) (h : Int) (hh : 1 <= h) (hl : cs.length <= 3) (hsl : ss.length <= 40) (hs : ∀ x ∈ ss.map (·.nm), zaQ x = true) (snd : (ss.map (·.nm)).Nodup) : ∃ js : List JobT, zbN [.lst (cs.map D.int), .lst (ss.map zaC), .int h] = some (.lst (js.map zbu)) /\ js.length <= 3 /\ (∀ j ∈ js, GoodJ (ss.map (·.nm)) h j) /\ (js.map (·.nm)).Nodup /\ (js.flatMap (·.ms)).Nodup := by
  obtain ⟨ρ', h1, js, lf, a, b, c, d, e, f, h2, h3⟩ := zb2 (gg := zcs 2 (zaG (zaP 5) (zaG (zaP 6) zcr))) (body := jbBody) (xs := (cs.map D.int).mapIdx fun i d => D.tup [.int i, d]) (ρ := jE cs ss h [] (ss.map (·.nm)) none none none none none none)
    (fun i ρ => ∃ js lf a b c d e f, ρ = jE cs ss h js lf a b c d e f /\ JInv (ss.map (·.nm)) h i js lf) ⟨[], ss.map (·.nm), none, none, none, none, none, none, rfl, ⟨Nat.le_refl _, by simpa using snd, fun x hx => (by simpa using hx), Nat.le_refl _, fun j hj => (by cases hj), by simp, fun j hj => (by cases hj)⟩⟩ (fun i x ρ hx hI => by
      obtain ⟨js, lf, a, b, c, d, e, f, rfl, I⟩ := hI
      obtain ⟨y, hy, rfl⟩ := zdv hx
      rw [List.getElem?_map] at hy
      obtain ⟨s, hsi, rfl⟩ := Option.map_eq_some_iff.mp hy
      have hi : i < cs.length := (List.getElem?_eq_some_iff.mp hsi).1
      obtain ⟨js', lf', y', z', w', v', e1, e2⟩ := jb_turn (cs := cs) (h := h) (c := s) (ss := ss) (js := js) (lf := lf) (i := i) (y := c) (z := d) (w := e) (v := f) hh (by omega) hs I hsl
      exact ⟨_, _, rfl, e1, js', lf', _, _, _, _, _, _, rfl, e2⟩)
  rw [List.length_mapIdx, List.length_map] at h3
  have nn := zcR (i := 1) (fv := [none]) (ρ := [some (.sh (.lst (cs.map D.int))), some (.sh (.lst (ss.map zaC))), some (.sh (.int h)), some (.own []), none, none, none, none, none, none, none]) (f := zaC) (nm := (·.nm)) (xs := ss) (fun x => ⟨_, rfl⟩) rfl (szN hsl (by decide)) rfl
  refine ⟨js, za0 [some (.sh (.lst (cs.map D.int))), some (.sh (.lst (ss.map zaC))), some (.sh (.int h)), none, none, none, none, none, none, none, none] rfl (own_of.trans ((zaF nn).trans ((zcN ((zdg (xs := (cs.map D.int).mapIdx fun i d => D.tup [.int i, d]) rfl).trans (h1.trans (by rw [h2])))).trans ((frz_of rfl).trans (zaU (f := vSh 3) rfl))))), Nat.le_trans h3.len hl, h3.good, h3.nmd, ?_⟩
  exact (List.nodup_append.mp h3.nd).1
end Law
end
section
namespace Law
open PySem L2
theorem pd_tup (t : List Str) : pdD (.tup (t.map D.str)) = some (.tuple (t.map PyData.str)) := by simp [pdD, pd_strs]
theorem pd_tups : ∀ (ts : List (List Str)), pdDs (ts.map fun t => .tup (t.map D.str)) = some (ts.map fun t => .tuple (t.map PyData.str))
  | [] => by simp [pdDs]
  | t :: r => by simp [pdDs, pd_tup, pd_tups r]
theorem lay_tups : ∀ {ts : List (List Str)}, (∀ t ∈ ts, ∀ x ∈ t, zaQ x = true) -> PyData.canLayAll0 (ts.map fun t => .tuple (t.map PyData.str)) = true
  | [], _ => by simp [PyData.canLayAll0]
  | t :: r, h => by
    simp only [List.map_cons, PyData.canLayAll0, PyData.canLay0, lay_strs (h t List.mem_cons_self), Bool.true_and]
    exact lay_tups fun y hy => h y (List.mem_cons_of_mem _ hy)
theorem eqv_strs : ∀ (a b : List Str), PyData.eqvAll (a.map PyData.str) (b.map PyData.str) = decide (a = b)
  | [], [] => by simp [PyData.eqvAll]
  | [], _ :: _ => by simp [PyData.eqvAll]
  | _ :: _, [] => by simp [PyData.eqvAll]
  | x :: r, y :: t => by
    simp only [List.map_cons, PyData.eqvAll, PyData.eqv, eqv_strs r t]
    by_cases e : x = y
    · subst e; simp
    · simp [e]
theorem any_tups (t : List Str) : ∀ (ts : List (List Str)), ((ts.map fun t => PyData.tuple (t.map PyData.str)).any fun z => PyData.eqv z (.tuple (t.map PyData.str))) = decide (t ∈ ts)
  | [] => by simp
  | y :: r => by
    rw [List.map_cons, List.any_cons, any_tups t r]
    simp only [PyData.eqv, eqv_strs]
    by_cases e : y = t
    · subst e; simp
    · have : t ≠ y := fun z => e z.symm
      simp [e, this]
theorem nin_tups {t : List Str} {ts : List (List Str)} (hx : ∀ x ∈ t, zaQ x = true) (hn : ∀ y ∈ ts, ∀ x ∈ y, zaQ x = true) : ninXD (.tup (t.map D.str)) (.lst (ts.map fun t => .tup (t.map D.str))) = some (.bl (!decide (t ∈ ts))) := by
  have sh : SeqAt.shaped (.tuple (t.map PyData.str)) = true := by simp [SeqAt.shaped, PyData.canLay0, lay_strs hx, PyData.depth, zdj]
  have p1 : pdD (.lst (ts.map fun t => .tup (t.map D.str))) = some (.list (ts.map fun t => .tuple (t.map PyData.str))) := by simp [pdD, pd_tups]
  unfold ninXD inX
  rw [pd_tup, p1, Option.bind_some, Option.bind_some]
  simp only [sh, lay_tups hn, and_self, if_true, any_tups, Option.map_some]
theorem row_at {α : Type} {f : α -> D} {nm : α -> Str} {xs : List α} {ρ : za2} {fo g : FE} {d : Int} (hf : ∀ x, ∃ r, f x = .tup (.str (nm x) :: r)) (h1 : fo ρ = some (.lst (xs.map f))) (h2 : g ρ = some (.int d)) (h3 : 0 <= d) (h4 : d < xs.length) : ∃ x ∈ xs, b2 ixD (b2 ixD fo g) (vC (.int 0)) ρ = some (.str (nm x)) := by
  obtain ⟨n, rfl⟩ := Int.eq_ofNat_of_zero_le h3
  have hd : n < xs.length := by omega
  refine ⟨xs[n], List.getElem_mem hd, zaw (zaw h1 h2 (show ixD _ (.int (n : Int)) = some (f xs[n]) by rw [ixL, List.getElem?_map, List.getElem?_eq_getElem hd]; rfl)) rfl ?_⟩
  obtain ⟨r, e⟩ := hf xs[n]
  rw [e, ixD0]
theorem ix_at {f g : FE} {ρ : za2} {ds : List Int} {n : Nat} {m d : Int} (h1 : f ρ = some (.lst (ds.map D.int))) (h2 : g ρ = some (.int m)) (hm : m = (n : Int)) (h3 : ds[n]? = some d) : b2 ixD f g ρ = some (.int d) :=
  zaw h1 h2 (by rw [hm, ixL, List.getElem?_map, h3]; rfl)
theorem len_of {f : FE} {ρ : za2} {l : List D} (h : f ρ = some (.lst l)) : cF zcU (zab f zak) ρ = some (.int (l.length : Nat)) := zaT (zaj h zaD) rfl
theorem bw_of {i : Nat} {ft : FT} {ρ : za2} {ds : List D} {b : Bool} (h1 : ρ[i]? = some (some (.own ds))) (h2 : ft (ρ.set i (some (.sh (.lst ds)))) = some b) : bwT i ft ρ = some b := by
  unfold bwT; rw [h1]; exact h2
theorem mulD_lst {x : List D} {j : Int} (h : -(2 ^ 63) <= j /\ j < 2 ^ 63 /\ x.length * j.toNat <= sizeLine) : mulD (.lst x) (.int j) = some (.lst (List.replicate j.toNat x).flatten) := if_pos h
theorem mul46 : mulD (.lst [.int 4]) (.int 6) = some (.lst (([4, 4, 4, 4, 4, 4] : List Int).map D.int)) := mulD_lst (x := [.int 4]) (j := 6) (by decide)
structure UInv (bn : List Str) (h : Int) (i : Nat) (us : List SetT) : Prop where
  len : us.length <= i
  good : ∀ u ∈ us, GoodU bn h u
  nd : (us.map fun u => [u.b, u.p, u.q]).Nodup
abbrev uE (c : Int) (bs : List BenchT) (h : Int) (us : List SetT) (a b d e : Option Slot) : za2 := [some (.sh (.int c)), some (.sh (.lst (bs.map zaV))), some (.sh (.int h)), some (.own (us.map dSet)), a, b, d, e]
def suBody : FS := (zaE (zbp 6 (b2 ixD (b2 ixD (vSh 1) (b2 zcj (vSh 4) (cF zcU (zab (vSh 1) zak)))) (vC (.int 0)))) (zaE (zbp 7 (zce (szF (zab (vSh 6) (zab (b2 ixD (vC (.str "pqr")) (b2 zcj (vSh 4) (vC (.int 3)))) (zab (b2 ixD (vC (.str "pqr")) (b2 zcj (b2 zbo (vSh 4) (vSh 5)) (vC (.int 3)))) (zab (cF minD (zab (vSh 2) (zab (vSh 5) zak))) zak))))))) (sIf (bwT 3 (andT (toB (b2 gtD (vSh 5) (vC (.int 0)))) (toB (b2 ninXD (slF (vSh 7) pN (pS (vC (.int 3)))) (za3 (zaO (itF (vSh 3)) (zaP 0) tT (slF (vSh 0) pN (pS (vC (.int 3)))) [none])))))) (sApp 3 (vSh 7)) zci)))
theorem su_turn {c h m : Int} {bs : List BenchT} {us : List SetT} {i : Nat} {y z : Option Slot} (hh : 1 <= h) (hm : 0 <= m) (hi : i < 6) (hb : 1 <= bs.length) (hbn : ∀ x ∈ bs.map (·.nm), zaQ x = true) (I : UInv (bs.map (·.nm)) h i us) :
    ∃ us' y' z', suBody (uE c bs h us (some (.sh (.int i))) (some (.sh (.int m))) y z) = some (.nx, uE c bs h us' (some (.sh (.int i))) (some (.sh (.int m))) y' z') /\ UInv (bs.map (·.nm)) h (i + 1) us' := by
  have k0 : 0 <= (i : Int) % (bs.length : Nat) := Int.emod_nonneg _ (by omega)
  have k1 : (i : Int) % (bs.length : Nat) < (bs.length : Nat) := Int.emod_lt_of_pos _ (by omega)
  obtain ⟨b, hbm, e6⟩ := row_at (f := zaV) (nm := (·.nm)) (xs := bs) (ρ := uE c bs h us (some (.sh (.int i))) (some (.sh (.int m))) y z) (fo := vSh 1) (g := b2 zcj (vSh 4) (cF zcU (zab (vSh 1) zak))) (d := (i : Int) % (bs.length : Nat)) (fun x => ⟨_, rfl⟩) rfl (zaw rfl (len_of rfl) (by rw [List.length_map]; exact zck (by omega))) k0 k1
  have t0 : 0 <= (i : Int) % 3 := Int.emod_nonneg _ (by decide)
  have t1 : (i : Int) % 3 < 3 := Int.emod_lt_of_pos _ (by decide)
  have s0 : 0 <= ((i : Int) + m) % 3 := Int.emod_nonneg _ (by decide)
  have s1 : ((i : Int) + m) % 3 < 3 := Int.emod_lt_of_pos _ (by decide)
  let U : SetT := ⟨b.nm, pqr ((i : Int) % 3).toNat, pqr (((i : Int) + m) % 3).toNat, if m < h then m else h⟩
  have e7 : zce (szF (zab (vSh 6) (zab (b2 ixD (vC (.str "pqr")) (b2 zcj (vSh 4) (vC (.int 3)))) (zab (b2 ixD (vC (.str "pqr")) (b2 zcj (b2 zbo (vSh 4) (vSh 5)) (vC (.int 3)))) (zab (cF minD (zab (vSh 2) (zab (vSh 5) zak))) zak))))) (uE c bs h us (some (.sh (.int i))) (some (.sh (.int m))) (some (.sh (.str b.nm))) z) = some (dSet U) :=
    tup4_of rfl (zaw rfl (zaw rfl rfl (zck (by decide))) (pqr_at t0 t1)) (zaw rfl (zaw (zaw rfl rfl rfl) rfl (zck (by decide))) (pqr_at s0 s1)) (zaT (zaj rfl (zaj rfl zaD)) rfl)
  have nU : ∀ x ∈ [U.b, U.p, U.q], zaQ x = true := fun x hx => by
    simp only [List.mem_cons, List.not_mem_nil, or_false] at hx
    rcases hx with rfl | rfl | rfl
    · exact hbn _ (List.mem_map_of_mem hbm)
    · exact pqr_ok _ (by omega)
    · exact pqr_ok _ (by omega)
  have nA : ∀ y ∈ us.map (fun u => [u.b, u.p, u.q]), ∀ x ∈ y, zaQ x = true := fun y hy x hx => by
    obtain ⟨u, hu, rfl⟩ := List.mem_map.mp hy
    have g := I.good u hu
    simp only [List.mem_cons, List.not_mem_nil, or_false] at hx
    rcases hx with rfl | rfl | rfl
    · exact hbn _ g.b
    · exact g.p
    · exact g.q
  have hul : us.length <= 6 := Nat.le_trans I.len (by omega)
  have eL : za3 (zaO (itF (vSh 3)) (zaP 0) tT (slF (vSh 0) pN (pS (vC (.int 3)))) [none]) [some (.sh (.int c)), some (.sh (.lst (bs.map zaV))), some (.sh (.int h)), some (.sh (.lst (us.map dSet))), some (.sh (.int i)), some (.sh (.int m)), some (.sh (.str b.nm)), some (.sh (dSet U))] = some (.lst ((us.map fun u => [u.b, u.p, u.q]).map fun t => .tup (t.map D.str))) := by
    rw [List.map_map]
    refine (zbF (r := []) (a := none) (xs := us.map dSet) (f := fun d => match d with | .tup [a, b, c, d] => .tup [a, b, c] | _ => .non) rfl (by rw [List.length_map]; exact szN hul (by decide)) rfl fun x hx => ?_).trans ?_
    · obtain ⟨p, hp, rfl⟩ := List.mem_map.mp hx
      simp only [vSh, vC, slF, pN, pS, List.getElem?_cons_zero, Option.bind_some, dSet, cut3]
    · rw [List.map_map]; rfl
  have eT : bwT 3 (andT (toB (b2 gtD (vSh 5) (vC (.int 0)))) (toB (b2 ninXD (slF (vSh 7) pN (pS (vC (.int 3)))) (za3 (zaO (itF (vSh 3)) (zaP 0) tT (slF (vSh 0) pN (pS (vC (.int 3)))) [none]))))) (uE c bs h us (some (.sh (.int i))) (some (.sh (.int m))) (some (.sh (.str b.nm))) (some (.sh (dSet U)))) = some (decide (0 < m) && !decide ([U.b, U.p, U.q] ∈ us.map fun u => [u.b, u.p, u.q])) :=
    bw_of rfl (andT_of (zaZ (zaw rfl rfl rfl)) (zaZ (zaw (x := .tup ([U.b, U.p, U.q].map D.str)) rfl eL (nin_tups nU nA))))
  by_cases ht : (decide (0 < m) && !decide ([U.b, U.p, U.q] ∈ us.map fun u => [u.b, u.p, u.q])) = true
  · have hq : 0 < m /\ [U.b, U.p, U.q] ∉ us.map fun u => [u.b, u.p, u.q] := by simpa using ht
    refine ⟨us ++ [U], _, _, (zaF e6).trans ((zaF e7).trans ((if_of eT).trans ((if_pos ht).trans (app_map (x := U) rfl rfl (by omega))))), ⟨?_, ?_, ?_⟩⟩
    · rw [List.length_append]; have := I.len; simp; omega
    · intro u hu
      rcases List.mem_append.mp hu with q | q
      · exact I.good u q
      · rw [List.mem_singleton.mp q]
        refine ⟨List.mem_map_of_mem hbm, pqr_ok _ (by omega), pqr_ok _ (by omega), ?_, ?_⟩
        · show 1 <= if m < h then m else h
          split <;> omega
        · show (if m < h then m else h) <= h
          split <;> omega
    · rw [List.map_append, List.nodup_append]
      refine ⟨I.nd, by simp, fun a ha b' hb' hab => ?_⟩
      have : b' = [U.b, U.p, U.q] := by simpa using hb'
      rw [hab, this] at ha
      exact hq.2 ha
  · exact ⟨us, _, _, (zaF e6).trans ((zaF e7).trans ((if_of eT).trans ((if_neg ht).trans rfl))), ⟨by have := I.len; omega, I.good, I.nd⟩⟩
theorem lsetups_ok (c : Int) (bs : List BenchT) (h : Int) (hh : 1 <= h) (hb : 1 <= bs.length) (hbn : ∀ x ∈ bs.map (·.nm), zaQ x = true) : ∃ us : List SetT, zbk [.int c, .lst (bs.map zaV), .int h] = some (.lst (us.map dSet)) /\ us.length <= 6 /\ (∀ u ∈ us, GoodU (bs.map (·.nm)) h u) /\ (us.map fun u => [u.b, u.p, u.q]).Nodup := by
  obtain ⟨ds, e, hd, hbd⟩ := zdh c 3 (by omega) [4, 4, 4, 4, 4, 4] (by decide) (by decide)
  have eM : b2 mulD (za3 (szF (zab (vC (.int 4)) zak))) (vC (.int 6)) (uE c bs h [] none none none none) = some (.lst (([4, 4, 4, 4, 4, 4] : List Int).map D.int)) :=
    zaw (x := .lst [.int 4]) (y := .int 6) rfl rfl mul46
  have hd6 : ds.length = 6 := hd
  obtain ⟨ρ', h1, us, a, b, d, f, h2, h3⟩ := zb2 (gg := zcs 2 (zaG (zaP 4) (zaG (zaP 5) zcr))) (body := suBody) (xs := (ds.map D.int).mapIdx fun i d => D.tup [.int i, d]) (ρ := uE c bs h [] none none none none)
    (fun i ρ => ∃ us a b d e, ρ = uE c bs h us a b d e /\ UInv (bs.map (·.nm)) h i us) ⟨[], none, none, none, none, rfl, ⟨Nat.le_refl _, fun j hj => (by cases hj), by simp⟩⟩ (fun i x ρ hx hI => by
      obtain ⟨us, a, b, d, e, rfl, I⟩ := hI
      obtain ⟨y, hy, rfl⟩ := zdv hx
      rw [List.getElem?_map] at hy
      obtain ⟨s, hsi, rfl⟩ := Option.map_eq_some_iff.mp hy
      have hi : i < ds.length := (List.getElem?_eq_some_iff.mp hsi).1
      have hs0 : 0 <= s := by
        have h6 : i < 6 := by omega
        have : ([4, 4, 4, 4, 4, 4] : List Int)[i]? = some 4 := by
          have : i = 0 \/ i = 1 \/ i = 2 \/ i = 3 \/ i = 4 \/ i = 5 := by omega
          rcases this with rfl | rfl | rfl | rfl | rfl | rfl <;> rfl
        obtain ⟨d, q1, q2, _⟩ := hbd i 4 this
        rw [hsi] at q1
        cases q1
        exact q2
      obtain ⟨us', y', z', e1, e2⟩ := su_turn (c := c) (h := h) (m := s) (bs := bs) (us := us) (i := i) (y := d) (z := e) hh hs0 (by omega) hb hbn I
      exact ⟨_, _, rfl, e1, us', _, _, _, _, rfl, e2⟩)
  rw [List.length_mapIdx, List.length_map] at h3
  have eI : itE (cF zah (zab (vSh 0) (zab (vC (.int 3)) (zab (b2 mulD (za3 (szF (zab (vC (.int 4)) zak))) (vC (.int 6))) zak)))) (uE c bs h [] none none none none) = some ((ds.map D.int).mapIdx fun i d => D.tup [.int i, d]) := by
    have : cF zah (zab (vSh 0) (zab (vC (.int 3)) (zab (b2 mulD (za3 (szF (zab (vC (.int 4)) zak))) (vC (.int 6))) zak))) (uE c bs h [] none none none none) = some (.lst (ds.map D.int)) := zaT (zaj rfl (zaj rfl (zaj eM zaD))) e
    unfold itE
    rw [this]; rfl
  exact ⟨us, za0 [some (.sh (.int c)), some (.sh (.lst (bs.map zaV))), some (.sh (.int h)), none, none, none, none, none] rfl (own_of.trans ((zcN ((zdg eI).trans (h1.trans (by rw [h2])))).trans ((frz_of rfl).trans (zaU (f := vSh 3) rfl)))), by have := h3.len; omega, h3.good, h3.nd⟩
structure LInv (sn : List Str) (h : Int) (i : Nat) (ls : List LinkT) : Prop where
  len : ls.length <= i
  good : ∀ l ∈ ls, GoodL sn h l
  nd : (ls.map fun l => [l.a, l.b]).Nodup
abbrev lE (c : Int) (ss : List StepT) (h : Int) (ls : List LinkT) (ds : List Int) (a b d : Option Slot) : za2 := [some (.sh (.int c)), some (.sh (.lst (ss.map zaC))), some (.sh (.int h)), some (.own (ls.map zcM)), some (.sh (.lst (ds.map D.int))), a, b, d]
def lkBody : FS := (zaE (zbp 6 (b2 ixD (b2 ixD (vSh 1) (b2 zcj (b2 ixD (vSh 4) (b2 zbo (vC (.int 1)) (b2 mulD (vC (.int 3)) (vSh 5)))) (cF zcU (zab (vSh 1) zak)))) (vC (.int 0)))) (zaE (zbp 7 (b2 ixD (b2 ixD (vSh 1) (b2 zcj (b2 ixD (vSh 4) (b2 zbo (vC (.int 2)) (b2 mulD (vC (.int 3)) (vSh 5)))) (cF zcU (zab (vSh 1) zak)))) (vC (.int 0)))) (sIf (bwT 3 (andT (toB (b2 neA (vSh 6) (vSh 7))) (toB (b2 ninXD (zce (szF (zab (vSh 6) (zab (vSh 7) zak)))) (za3 (zaO (itF (vSh 3)) (zaP 0) tT (slF (vSh 0) pN (pS (vC (.int 2)))) [none])))))) (sApp 3 (zce (szF (zab (vSh 6) (zab (vSh 7) (zab (cF minD (zab (vSh 2) (zab (b2 ixD (vSh 4) (b2 zbo (vC (.int 3)) (b2 mulD (vC (.int 3)) (vSh 5)))) zak))) zak)))))) zci)))
theorem lk_turn {c h : Int} {ss : List StepT} {ls : List LinkT} {ds : List Int} {i : Nat} {y z : Option Slot} (hh : 1 <= h) (hi : i < 2) (hs1 : 1 <= ss.length) (hsn : ∀ x ∈ ss.map (·.nm), zaQ x = true) (hds : ∀ j, j < 7 -> ∃ d, ds[j]? = some d /\ 0 <= d) (I : LInv (ss.map (·.nm)) h i ls) :
    ∃ ls' y' z', lkBody (lE c ss h ls ds (some (.sh (.int (0 + (i : Int))))) y z) = some (.nx, lE c ss h ls' ds (some (.sh (.int (0 + (i : Int))))) y' z') /\ LInv (ss.map (·.nm)) h (i + 1) ls' := by
  obtain ⟨x1, q1, p1⟩ := hds (1 + 3 * i) (by omega)
  obtain ⟨x2, q2, p2⟩ := hds (2 + 3 * i) (by omega)
  obtain ⟨x3, q3, p3⟩ := hds (3 + 3 * i) (by omega)
  have ixs : ∀ (n : Nat) (y z : Option Slot) (lst : List D) (x : Int) (k : Int), k = (n : Int) -> ds[n + 3 * i]? = some x -> ∀ s3 : Option Slot, b2 ixD (vSh 4) (b2 zbo (vC (.int k)) (b2 mulD (vC (.int 3)) (vSh 5))) [some (.sh (.int c)), some (.sh (.lst (ss.map zaC))), some (.sh (.int h)), s3, some (.sh (.lst (ds.map D.int))), some (.sh (.int (0 + (i : Int)))), y, z] = some (.int x) := fun n y z _ x k hk hx s3 =>
    ix_at (n := n + 3 * i) rfl (zaw rfl (zaw rfl rfl (mul_of (.inl (by decide)))) rfl) (by omega) hx
  have m1 : ∀ x : Int, 0 <= x % (ss.length : Nat) /\ x % (ss.length : Nat) < (ss.length : Nat) := fun x => ⟨Int.emod_nonneg _ (by omega), Int.emod_lt_of_pos _ (by omega)⟩
  obtain ⟨sa, ha, e6⟩ := row_at (f := zaC) (nm := (·.nm)) (xs := ss) (ρ := lE c ss h ls ds (some (.sh (.int (0 + (i : Int))))) y z) (fo := vSh 1) (g := b2 zcj (b2 ixD (vSh 4) (b2 zbo (vC (.int 1)) (b2 mulD (vC (.int 3)) (vSh 5)))) (cF zcU (zab (vSh 1) zak))) (d := x1 % (ss.length : Nat)) (fun x => ⟨_, rfl⟩) rfl (zaw (ixs 1 y z [] x1 1 rfl q1 _) (len_of rfl) (by rw [List.length_map]; exact zck (by omega))) (m1 x1).1 (m1 x1).2
  obtain ⟨sb, hb, e7⟩ := row_at (f := zaC) (nm := (·.nm)) (xs := ss) (ρ := lE c ss h ls ds (some (.sh (.int (0 + (i : Int))))) (some (.sh (.str sa.nm))) z) (fo := vSh 1) (g := b2 zcj (b2 ixD (vSh 4) (b2 zbo (vC (.int 2)) (b2 mulD (vC (.int 3)) (vSh 5)))) (cF zcU (zab (vSh 1) zak))) (d := x2 % (ss.length : Nat)) (fun x => ⟨_, rfl⟩) rfl (zaw (ixs 2 _ z [] x2 2 rfl q2 _) (len_of rfl) (by rw [List.length_map]; exact zck (by omega))) (m1 x2).1 (m1 x2).2
  let U : LinkT := ⟨sa.nm, sb.nm, if x3 < h then x3 else h⟩
  have nU : ∀ x ∈ [U.a, U.b], zaQ x = true := fun x hx => by
    simp only [List.mem_cons, List.not_mem_nil, or_false] at hx
    rcases hx with rfl | rfl
    · exact hsn _ (List.mem_map_of_mem ha)
    · exact hsn _ (List.mem_map_of_mem hb)
  have nA : ∀ y ∈ ls.map (fun l => [l.a, l.b]), ∀ x ∈ y, zaQ x = true := fun y hy x hx => by
    obtain ⟨u, hu, rfl⟩ := List.mem_map.mp hy
    have g := I.good u hu
    simp only [List.mem_cons, List.not_mem_nil, or_false] at hx
    rcases hx with rfl | rfl
    · exact hsn _ g.a
    · exact hsn _ g.b
  have hul : ls.length <= 2 := Nat.le_trans I.len (by omega)
  have eL : za3 (zaO (itF (vSh 3)) (zaP 0) tT (slF (vSh 0) pN (pS (vC (.int 2)))) [none]) [some (.sh (.int c)), some (.sh (.lst (ss.map zaC))), some (.sh (.int h)), some (.sh (.lst (ls.map zcM))), some (.sh (.lst (ds.map D.int))), some (.sh (.int (0 + (i : Int)))), some (.sh (.str sa.nm)), some (.sh (.str sb.nm))] = some (.lst ((ls.map fun l => [l.a, l.b]).map fun t => .tup (t.map D.str))) := by
    rw [List.map_map]
    refine (zbF (r := []) (a := none) (xs := ls.map zcM) (f := fun d => match d with | .tup [a, b, c] => .tup [a, b] | _ => .non) rfl (by rw [List.length_map]; exact szN hul (by decide)) rfl fun x hx => ?_).trans ?_
    · obtain ⟨p, hp, rfl⟩ := List.mem_map.mp hx
      simp only [vSh, vC, slF, pN, pS, List.getElem?_cons_zero, Option.bind_some, zcM, cut2]
    · rw [List.map_map]; rfl
  have eT : bwT 3 (andT (toB (b2 neA (vSh 6) (vSh 7))) (toB (b2 ninXD (zce (szF (zab (vSh 6) (zab (vSh 7) zak)))) (za3 (zaO (itF (vSh 3)) (zaP 0) tT (slF (vSh 0) pN (pS (vC (.int 2)))) [none]))))) (lE c ss h ls ds (some (.sh (.int (0 + (i : Int))))) (some (.sh (.str sa.nm))) (some (.sh (.str sb.nm)))) = some ((!decide (sa.nm = sb.nm)) && !decide ([U.a, U.b] ∈ ls.map fun l => [l.a, l.b])) :=
    bw_of rfl (andT_of (zaZ (zaw rfl rfl (neA_str _ _))) (zaZ (zaw (x := .tup ([U.a, U.b].map D.str)) (zcH rfl rfl) eL (nin_tups nU nA))))
  by_cases ht : ((!decide (sa.nm = sb.nm)) && !decide ([U.a, U.b] ∈ ls.map fun l => [l.a, l.b])) = true
  · have hq : sa.nm ≠ sb.nm /\ [U.a, U.b] ∉ ls.map fun l => [l.a, l.b] := by simpa using ht
    refine ⟨ls ++ [U], _, _, (zaF e6).trans ((zaF e7).trans ((if_of eT).trans ((if_pos ht).trans (app_map (x := U) rfl (tup3_of rfl rfl (zaT (zaj rfl (zaj (ixs 3 _ _ [] x3 3 rfl q3 _) zaD)) rfl)) (by omega))))), ⟨?_, ?_, ?_⟩⟩
    · rw [List.length_append]; have := I.len; simp; omega
    · intro u hu
      rcases List.mem_append.mp hu with q | q
      · exact I.good u q
      · rw [List.mem_singleton.mp q]
        refine ⟨List.mem_map_of_mem ha, List.mem_map_of_mem hb, hq.1, ?_, ?_⟩
        · show 0 <= if x3 < h then x3 else h
          split <;> omega
        · show (if x3 < h then x3 else h) <= h
          split <;> omega
    · rw [List.map_append, List.nodup_append]
      refine ⟨I.nd, by simp, fun a ha b' hb' hab => ?_⟩
      have : b' = [U.a, U.b] := by simpa using hb'
      rw [hab, this] at ha
      exact hq.2 ha
  · exact ⟨ls, _, _, (zaF e6).trans ((zaF e7).trans ((if_of eT).trans ((if_neg ht).trans rfl))), ⟨by have := I.len; omega, I.good, I.nd⟩⟩
theorem rng_get {n i : Nat} {x : D} (h : ((List.range n).map fun k : Nat => D.int (0 + k))[i]? = some x) : i < n /\ x = .int (0 + (i : Int)) := by
  rw [List.getElem?_map] at h
  obtain ⟨k, hk, rfl⟩ := Option.map_eq_some_iff.mp h
  rw [List.getElem?_eq_some_iff] at hk
  obtain ⟨h1, h2⟩ := hk
  rw [List.length_range] at h1
  rw [List.getElem_range] at h2
  subst h2
  exact ⟨h1, rfl⟩
theorem llinks_ok (c : Int) (ss : List StepT) (h : Int) (hh : 1 <= h) (hs1 : 1 <= ss.length) (hsn : ∀ x ∈ ss.map (·.nm), zaQ x = true) : ∃ ls : List LinkT, zbB [.int c, .lst (ss.map zaC), .int h] = some (.lst (ls.map zcM)) /\ ls.length <= 2 /\ (∀ l ∈ ls, GoodL (ss.map (·.nm)) h l) /\ (ls.map fun l => [l.a, l.b]).Nodup := by
  obtain ⟨ds, e, hd, hbd⟩ := zdh c 5 (by omega) [3, 9, 9, 4, 9, 9, 4] (by decide) (by decide)
  have hds : ∀ j, j < 7 -> ∃ d, ds[j]? = some d /\ 0 <= d := fun j hj => by
    have : ∃ s, ([3, 9, 9, 4, 9, 9, 4] : List Int)[j]? = some s := ⟨_, List.getElem?_eq_getElem (by simpa using hj)⟩
    obtain ⟨s, hs⟩ := this
    obtain ⟨d, q1, q2, _⟩ := hbd j s hs
    exact ⟨d, q1, q2⟩
  obtain ⟨d0, q0, p0, r0⟩ := hbd 0 3 rfl
  obtain ⟨ρ', h1, ls, a, b, d, h2, h3⟩ := zb2 (gg := zaP 5) (body := lkBody) (xs := (List.range d0.toNat).map fun k : Nat => D.int (0 + k)) (ρ := lE c ss h [] ds none none none)
    (fun i ρ => ∃ ls a b d, ρ = lE c ss h ls ds a b d /\ LInv (ss.map (·.nm)) h i ls) ⟨[], none, none, none, rfl, ⟨Nat.le_refl _, fun j hj => (by cases hj), by simp⟩⟩ (fun i x ρ hx hI => by
      obtain ⟨ls, a, b, d, rfl, I⟩ := hI
      obtain ⟨hi, rfl⟩ := rng_get hx
      obtain ⟨ls', y', z', e1, e2⟩ := lk_turn (c := c) (h := h) (ss := ss) (ls := ls) (ds := ds) (i := i) (y := b) (z := d) hh (by omega) hs1 hsn hds I
      exact ⟨_, _, rfl, e1, ls', _, _, _, rfl, e2⟩)
  rw [List.length_map, List.length_range] at h3
  have eS : cF zah (zab (vSh 0) (zab (vC (.int 5)) (zab (za3 (szF (zab (vC (.int 3)) (zab (vC (.int 9)) (zab (vC (.int 9)) (zab (vC (.int 4)) (zab (vC (.int 9)) (zab (vC (.int 9)) (zab (vC (.int 4)) zak))))))))) zak))) [some (.sh (.int c)), some (.sh (.lst (ss.map zaC))), some (.sh (.int h)), some (.own []), none, none, none, none] = some (.lst (ds.map D.int)) :=
    zaT (zaj rfl (zaj rfl (zaj (lst7_of rfl rfl rfl rfl rfl rfl rfl) zaD))) e
  have eI : itR rng1 (zab (b2 ixD (vSh 4) (vC (.int 0))) zak) (lE c ss h [] ds none none none) = some ((List.range d0.toNat).map fun k : Nat => D.int (0 + k)) := itR_of (zaj (zcd (n := 0) rfl q0) zaD) (rng1_ok ⟨p0, by omega⟩)
  exact ⟨ls, za0 [some (.sh (.int c)), some (.sh (.lst (ss.map zaC))), some (.sh (.int h)), none, none, none, none, none] rfl (own_of.trans ((zaF eS).trans ((zcN ((zdg eI).trans (h1.trans (by rw [h2])))).trans ((frz_of rfl).trans (zaU (f := vSh 3) rfl))))), by have := h3.len; omega, h3.good, h3.nd⟩
end Law
end
section
namespace Law
open PySem L2
theorem comp_en {ft : FT} {fe : FE} {r : za2} {v : Int} (ht : ∀ (j : Nat) (s : StepT), ∃ q : Bool, ft (some (.sh (.int (j : Int))) :: some (.sh (zaC s)) :: r) = some q) (he : ∀ (j : Nat) (s : StepT), fe (some (.sh (.int (j : Int))) :: some (.sh (zaC s)) :: r) = some (dW (s.nm, v))) :
    ∀ (ss : List StepT) (F : Nat -> Nat) (a b : Option Slot), ∃ sub : List StepT, sub.Sublist ss /\ compL (zcs 2 (zaG (zaP 0) (zaG (zaP 1) zcr))) ft fe ((ss.map zaC).mapIdx fun i d => D.tup [.int (F i : Nat), d]) (a :: b :: r) = some (sub.map fun s => dW (s.nm, v))
  | [], _, _, _ => ⟨[], .slnil, rfl⟩
  | s :: ss, F, a, b => by
    obtain ⟨sub, h1, h2⟩ := comp_en ht he ss (fun i => F (i + 1)) (some (.sh (.int (F 0 : Nat)))) (some (.sh (zaC s)))
    obtain ⟨q, hq⟩ := ht (F 0) s
    have e0 : zcs 2 (zaG (zaP 0) (zaG (zaP 1) zcr)) (.tup [.int (F 0 : Nat), zaC s]) (a :: b :: r) = some (some (.sh (.int (F 0 : Nat))) :: some (.sh (zaC s)) :: r) := rfl
    rw [List.map_cons, List.mapIdx_cons]
    cases q with
    | true =>
      refine ⟨s :: sub, h1.cons_cons s, ?_⟩
      simp only [compL, e0, Option.bind_some, hq, if_true, he, h2, Option.map_some, List.map_cons]
    | false =>
      refine ⟨sub, h1.cons s, ?_⟩
      simp only [compL, e0, Option.bind_some, hq, Bool.false_eq_true, if_false, h2]
def tkT (n : Int) : FT := toB (b2 eqD (b2 zcj (b2 fdivD (b2 zbo (b2 ixD (vSh 2) (vC (.int n))) (vSh 3)) (b2 ixD (za3 (szF (zab (vC (.int 1)) (zab (vC (.int 2)) (zab (vC (.int 4)) zak))))) (b2 zcj (vSh 0) (vC (.int 3))))) (vC (.int 2))) (vC (.int 1)))
def tkE (n : Int) : FE := zce (szF (zab (b2 ixD (vSh 1) (vC (.int 0))) (zab (b2 zbo (vC (.int 1)) (b2 ixD (vSh 2) (vC (.int n)))) zak)))
def tkC (n m : Int) : FE := za3 (zaO (itE (vSh 1)) (zcs 2 (zaG (zaP 0) (zaG (zaP 1) zcr))) (tkT n) (tkE m) [none, none, some 2, some 4])
abbrev kE (c : Int) (ss : List StepT) (ds : List Int) (ks : List StockT) (k a b d : Option Slot) : za2 := [some (.sh (.int c)), some (.sh (.lst (ss.map zaC))), some (.sh (.lst (ds.map D.int))), some (.own (ks.map zb0)), k, a, b, d]
theorem takes_ok {c k : Int} {ss : List StepT} {ds : List Int} {ks : List StockT} {a b d : Option Slot} {n m : Nat} {x v : Int} (hl : ss.length <= 40) (hn : ds[n]? = some x) (hm : ds[m]? = some v) :
    ∃ sub : List StepT, sub.Sublist ss /\ tkC (n : Int) (m : Int) (kE c ss ds ks (some (.sh (.int k))) a b d) = some (.lst ((sub.map fun s => (s.nm, 1 + v)).map dW)) := by
  have ht : ∀ (j : Nat) (s : StepT), ∃ q : Bool, tkT (n : Int) (some (.sh (.int (j : Int))) :: some (.sh (zaC s)) :: [some (.sh (.lst (ds.map D.int))), some (.sh (.int k))]) = some q := fun j s => by
    have m0 : 0 <= (j : Int) % 3 := Int.emod_nonneg _ (by decide)
    have m1 : (j : Int) % 3 < 3 := Int.emod_lt_of_pos _ (by decide)
    obtain ⟨w, hw, hw1⟩ : ∃ w : Int, ixD (.lst [.int 1, .int 2, .int 4]) (.int ((j : Int) % 3)) = some (.int w) /\ (0 < w /\ w < 1073741824) := by
      have : (j : Int) % 3 = 0 \/ (j : Int) % 3 = 1 \/ (j : Int) % 3 = 2 := by omega
      rcases this with z | z | z <;> rw [z]
      · exact ⟨1, rfl, by decide⟩
      · exact ⟨2, rfl, by decide⟩
      · exact ⟨4, rfl, by decide⟩
    exact ⟨_, zaZ (zaw (zaw (zaw (zaw (zcd rfl hn) rfl rfl) (zaw (lst3_of rfl rfl rfl) (zaw rfl rfl (zck (by decide))) hw) (fdiv_of hw1)) rfl (zck (by decide))) rfl rfl)⟩
  have he : ∀ (j : Nat) (s : StepT), tkE (m : Int) (some (.sh (.int (j : Int))) :: some (.sh (zaC s)) :: [some (.sh (.lst (ds.map D.int))), some (.sh (.int k))]) = some (dW (s.nm, 1 + v)) := fun j s =>
    zcH (zaw rfl rfl ixD0) (zaw rfl (zcd rfl hm) rfl)
  obtain ⟨sub, h1, h2⟩ := comp_en ht he ss (fun i => i) none none
  refine ⟨sub, h1, ?_⟩
  have e1 : itE (vSh 1) (kE c ss ds ks (some (.sh (.int k))) a b d) = some ((ss.map zaC).mapIdx fun i d => D.tup [.int i, d]) := rfl
  have e2 : fvEnv [none, none, some 2, some 4] (kE c ss ds ks (some (.sh (.int k))) a b d) = none :: none :: [some (.sh (.lst (ds.map D.int))), some (.sh (.int k))] := rfl
  unfold tkC za3 zaO
  rw [e1, Option.bind_some, if_pos (by rw [List.length_mapIdx, List.length_map]; exact szN hl (by decide)), e2, h2, Option.map_some, List.map_map]
  rfl
theorem goodA_sub {ss sub : List StepT} {v : Int} (h : sub.Sublist ss) (nd : (ss.map (·.nm)).Nodup) (hv : 1 <= v /\ v <= 1000000) : GoodA (ss.map (·.nm)) (sub.map fun s => (s.nm, v)) := by
  refine ⟨by rw [List.length_map, List.length_map]; exact h.length_le, fun w hw => ?_, ?_⟩
  · obtain ⟨s, hs, rfl⟩ := List.mem_map.mp hw
    exact ⟨List.mem_map_of_mem (h.subset hs), hv⟩
  · rw [List.map_map]
    exact List.Sublist.nodup (h.map (·.nm)) nd
structure KInv (sn : List Str) (i : Nat) (ks : List StockT) : Prop where
  len : ks.length = i
  good : ∀ k ∈ ks, GoodK sn k
  nmk : ∀ (j : Nat) k, ks[j]? = some k -> k.nm = nm (80 + j)
noncomputable def skBody : FS := (zaE (zbp 5 (b2 zbo (b2 ixD (vSh 2) (vC (.int 1))) (b2 ixD (vSh 2) (vC (.int 2))))) (zaE (zbp 6 (za3 (zaO (itE (vSh 1)) (zcs 2 (zaG (zaP 0) (zaG (zaP 1) zcr))) (toB (b2 eqD (b2 zcj (b2 fdivD (b2 zbo (b2 ixD (vSh 2) (vC (.int 3))) (vSh 3)) (b2 ixD (za3 (szF (zab (vC (.int 1)) (zab (vC (.int 2)) (zab (vC (.int 4)) zak))))) (b2 zcj (vSh 0) (vC (.int 3))))) (vC (.int 2))) (vC (.int 1)))) (zce (szF (zab (b2 ixD (vSh 1) (vC (.int 0))) (zab (b2 zbo (vC (.int 1)) (b2 ixD (vSh 2) (vC (.int 5)))) zak)))) [none, none, some 2, some 4]))) (zaE (zbp 7 (za3 (zaO (itE (vSh 1)) (zcs 2 (zaG (zaP 0) (zaG (zaP 1) zcr))) (toB (b2 eqD (b2 zcj (b2 fdivD (b2 zbo (b2 ixD (vSh 2) (vC (.int 4))) (vSh 3)) (b2 ixD (za3 (szF (zab (vC (.int 1)) (zab (vC (.int 2)) (zab (vC (.int 4)) zak))))) (b2 zcj (vSh 0) (vC (.int 3))))) (vC (.int 2))) (vC (.int 1)))) (zce (szF (zab (b2 ixD (vSh 1) (vC (.int 0))) (zab (b2 zbo (vC (.int 1)) (b2 ixD (vSh 2) (vC (.int 6)))) zak)))) [none, none, some 2, some 4]))) (sApp 3 (zce (szF (zab (cF zaq (zab (b2 zbo (vC (.int 80)) (vSh 4)) zak)) (zab (b2 ixD (vSh 2) (vC (.int 1))) (zab (vSh 5) (zab (vSh 6) (zab (vSh 7) zak)))))))))))
theorem sk_turn {c : Int} {ss : List StepT} {ds : List Int} {ks : List StockT} {i : Nat} {x y z : Option Slot} {d1 d2 d3 d4 d5 d6 : Int} (hi : i < 2) (hl : ss.length <= 40) (nd : (ss.map (·.nm)).Nodup)
    (q1 : ds[1]? = some d1) (q2 : ds[2]? = some d2) (q3 : ds[3]? = some d3) (q4 : ds[4]? = some d4) (q5 : ds[5]? = some d5) (q6 : ds[6]? = some d6) (p1 : 0 <= d1 /\ d1 < 4) (p2 : 0 <= d2 /\ d2 < 5) (p5 : 0 <= d5 /\ d5 < 4) (p6 : 0 <= d6 /\ d6 < 4) (I : KInv (ss.map (·.nm)) i ks) :
    ∃ ks' x' y' z', skBody (kE c ss ds ks (some (.sh (.int (0 + (i : Int))))) x y z) = some (.nx, kE c ss ds ks' (some (.sh (.int (0 + (i : Int))))) x' y' z') /\ KInv (ss.map (·.nm)) (i + 1) ks' := by
  have hn := (nm_ok (k := 80 + i) (by omega)).1
  have hnb := (nm_ok (k := 80 + i) (by omega)).2
  have hn' : zaq [.int (80 + (0 + (i : Int)))] = some (.str (nm (80 + i))) := by
    rw [← hn]; congr 3; omega
  have e5 : b2 zbo (b2 ixD (vSh 2) (vC (.int 1))) (b2 ixD (vSh 2) (vC (.int 2))) (kE c ss ds ks (some (.sh (.int (0 + (i : Int))))) x y z) = some (.int (d1 + d2)) := zaw (zcd (n := 1) rfl q1) (zcd (n := 2) rfl q2) rfl
  obtain ⟨s1, h1, e6⟩ := takes_ok (c := c) (k := 0 + (i : Int)) (ss := ss) (ks := ks) (a := some (.sh (.int (d1 + d2)))) (b := y) (d := z) (n := 3) (m := 5) hl q3 q5
  obtain ⟨s2, h2, e7⟩ := takes_ok (c := c) (k := 0 + (i : Int)) (ss := ss) (ks := ks) (a := some (.sh (.int (d1 + d2)))) (b := some (.sh (.lst ((s1.map fun s => (s.nm, 1 + d5)).map dW)))) (d := z) (n := 4) (m := 6) hl q4 q6
  let K : StockT := ⟨nm (80 + i), d1, d1 + d2, s1.map fun s => (s.nm, 1 + d5), s2.map fun s => (s.nm, 1 + d6)⟩
  refine ⟨ks ++ [K], _, _, _, (zaF e5).trans ((zaF e6).trans ((zaF e7).trans (app_map (x := K) rfl (tup5_of (zaT (zaj (zaw rfl rfl rfl) zaD) hn') (zcd (n := 1) rfl q1) rfl rfl rfl) (by have := I.len; omega)))), ⟨?_, ?_, ?_⟩⟩
  · rw [List.length_append, I.len]; rfl
  · intro k hk
    rcases List.mem_append.mp hk with q | q
    · exact I.good k q
    · rw [List.mem_singleton.mp q]
      exact ⟨hnb, ⟨p1.1, by show d1 <= d1 + d2; omega⟩, ⟨by show 0 <= d1 + d2; omega, by show d1 + d2 <= _; omega⟩, goodA_sub h1 nd (by omega), goodA_sub h2 nd (by omega)⟩
  · intro j k hj
    by_cases hji : j < ks.length
    · rw [List.getElem?_append_left hji] at hj
      exact I.nmk j k hj
    · have hl2 := (List.getElem?_eq_some_iff.mp hj).1
      rw [List.length_append, List.length_singleton] at hl2
      rw [List.getElem?_append_right (by omega), show j - ks.length = 0 by omega] at hj
      cases hj
      have := I.len
      rw [show j = i by omega]
theorem nodup_of_inj {α : Type} {l : List α} {f : α -> Str} {g : Nat -> Str} {n : Nat} (hn : l.length <= n) (hg : ∀ i, i < n -> ∀ j, j < n -> g i = g j -> i = j) (h : ∀ (j : Nat) k, l[j]? = some k -> f k = g j) : (l.map f).Nodup := by
  rw [List.nodup_iff_pairwise_ne, List.pairwise_iff_getElem]
  intro i j hi hj hij e
  rw [List.length_map] at hi hj
  rw [List.getElem_map, List.getElem_map, h i _ (List.getElem?_eq_getElem hi), h j _ (List.getElem?_eq_getElem hj)] at e
  have := hg i (by omega) j (by omega) e
  omega
theorem lstocks_ok (c : Int) (ss : List StepT) (hl : ss.length <= 40) (nd : (ss.map (·.nm)).Nodup) : ∃ ks : List StockT, zbi [.int c, .lst (ss.map zaC)] = some (.lst (ks.map zb0)) /\ ks.length <= 2 /\ (∀ k ∈ ks, GoodK (ss.map (·.nm)) k) /\ (ks.map (·.nm)).Nodup := by
  obtain ⟨ds, e, hd, hbd⟩ := zdh c 9 (by omega) [3, 4, 5, 8, 8, 4, 4] (by decide) (by decide)
  obtain ⟨d0, q0, p0, r0⟩ := hbd 0 3 rfl
  obtain ⟨d1, q1, p1⟩ := hbd 1 4 rfl
  obtain ⟨d2, q2, p2⟩ := hbd 2 5 rfl
  obtain ⟨d3, q3, p3⟩ := hbd 3 8 rfl
  obtain ⟨d4, q4, p4⟩ := hbd 4 8 rfl
  obtain ⟨d5, q5, p5⟩ := hbd 5 4 rfl
  obtain ⟨d6, q6, p6⟩ := hbd 6 4 rfl
  obtain ⟨ρ', h1, ks, a, x, y, z, h2, h3⟩ := zb2 (gg := zaP 4) (body := skBody) (xs := (List.range d0.toNat).map fun k : Nat => D.int (0 + k)) (ρ := kE c ss ds [] none none none none)
    (fun i ρ => ∃ ks a x y z, ρ = kE c ss ds ks a x y z /\ KInv (ss.map (·.nm)) i ks) ⟨[], none, none, none, none, rfl, ⟨rfl, fun j hj => (by cases hj), fun j k hj => (by simp at hj)⟩⟩ (fun i w ρ hx hI => by
      obtain ⟨ks, a, x, y, z, rfl, I⟩ := hI
      obtain ⟨hi, rfl⟩ := rng_get hx
      obtain ⟨ks', x', y', z', e1, e2⟩ := sk_turn (c := c) (ss := ss) (ds := ds) (ks := ks) (i := i) (x := x) (y := y) (z := z) (by omega) hl nd q1 q2 q3 q4 q5 q6 p1 p2 p5 p6 I
      exact ⟨_, _, rfl, e1, ks', _, _, _, _, rfl, e2⟩)
  rw [List.length_map, List.length_range] at h3
  have eS : cF zah (zab (vSh 0) (zab (vC (.int 9)) (zab (za3 (szF (zab (vC (.int 3)) (zab (vC (.int 4)) (zab (vC (.int 5)) (zab (vC (.int 8)) (zab (vC (.int 8)) (zab (vC (.int 4)) (zab (vC (.int 4)) zak))))))))) zak))) [some (.sh (.int c)), some (.sh (.lst (ss.map zaC))), none, none, none, none, none, none] = some (.lst (ds.map D.int)) :=
    zaT (zaj rfl (zaj rfl (zaj (lst7_of rfl rfl rfl rfl rfl rfl rfl) zaD))) e
  have eI : itR rng1 (zab (b2 ixD (vSh 2) (vC (.int 0))) zak) (kE c ss ds [] none none none none) = some ((List.range d0.toNat).map fun k : Nat => D.int (0 + k)) := itR_of (zaj (zcd (n := 0) rfl q0) zaD) (rng1_ok ⟨p0, by omega⟩)
  exact ⟨ks, za0 [some (.sh (.int c)), some (.sh (.lst (ss.map zaC))), none, none, none, none, none, none] rfl ((zaF eS).trans (own_of.trans ((zcN ((zdg eI).trans (h1.trans (by rw [h2])))).trans ((frz_of rfl).trans (zaU (f := vSh 3) rfl))))), by have := h3.len; omega, h3.good, nodup_of_inj (n := 3) (by have := h3.len; omega) nm_inj4 h3.nmk⟩
theorem cells_ok (ns : List Int) (n m : Nat) (hn : n <= 1000) {fi : FA} {ρ : za2} {k : Int} (hk : k = (m : Int)) (h0 : ρ[0]? = some (some (.sh (.scr ns)))) (hfi : fi ρ = some ((List.range n).map fun i : Nat => D.int (0 + i))) :
    ∃ cs : List Int, za3 (zaO fi (zaP 0) tT (cF zay (zab (vSh 1) (zab (b2 zbo (vC (.int k)) (vSh 0)) zak))) [none, some 0]) ρ = some (.lst (cs.map D.int)) /\ cs.length = n := by
  have hfv : fvEnv [none, some 0] ρ = none :: [some (.sh (.scr ns))] := by
    simp only [fvEnv, List.map_cons, List.map_nil, Option.bind_none, Option.bind_some, h0]
  have hc := zbF (fi := fi) (fe := cF zay (zab (vSh 1) (zab (b2 zbo (vC (.int k)) (vSh 0)) zak))) (fv := [none, some 0]) (ρ := ρ) (r := [some (.sh (.scr ns))]) (a := none) (f := fun d => match d with | .int i => .int (ns.getD (m + i.toNat) 0) | _ => .non) hfi (by rw [List.length_map, List.length_range]; exact szN hn (by decide)) hfv (fun x hx => by
    obtain ⟨i, hi, rfl⟩ := List.mem_map.mp hx
    have e := cell_ok ns (m + i)
    refine zaT (zaj rfl (zaj (zaw rfl rfl rfl) zaD)) ?_
    subst hk
    have e1 : ((m : Int) + (0 + (i : Int))) = ((m + i : Nat) : Int) := by omega
    rw [e1, e]
    congr 3
    omega)
  refine ⟨(List.range n).map fun i => ns.getD (m + i) 0, ?_, by rw [List.length_map, List.length_range]⟩
  rw [hc, List.map_map, List.map_map]
  congr 2
  refine List.map_congr_left fun i _ => ?_
  show D.int (ns.getD (m + (0 + (i : Int)).toNat) 0) = D.int (ns.getD (m + i) 0)
  congr 3
  omega
def zb1 (bs : List BenchT) (ss : List StepT) (js : List JobT) (us : List SetT) (ls : List LinkT) (ks : List StockT) (h : Int) : D := .lst [.lst (bs.map zaV), .lst (ss.map zaC), .lst (js.map zbu), .lst (us.map dSet), .lst (ls.map zcM), .lst (ks.map zb0), .int h]
theorem lists_ok (ns : List Int) (n : Nat) (h lo : Int) (hn : 1 <= n /\ n <= 10) (hh : 1 <= h /\ h <= 1000000) (hlo : 0 < lo /\ lo < 1000) : ∃ bs ss js us ls ks, zbA [.scr ns, .int (n : Int), .int h, .int lo] = some (zb1 bs ss js us ls ks h) /\ Good bs ss js us ls ks h /\ js.length <= 3 := by
  have b0 : 0 <= (ns.getD 0 0) % 3 := Int.emod_nonneg _ (by decide)
  have b1 : (ns.getD 0 0) % 3 < 3 := Int.emod_lt_of_pos _ (by decide)
  obtain ⟨nb, hnb⟩ : ∃ nb : Nat, 1 + (ns.getD 0 0) % 3 = (nb : Int) := ⟨(1 + (ns.getD 0 0) % 3).toNat, by omega⟩
  obtain ⟨cb, eb, lb⟩ := cells_ok ns nb 1 (by omega) (k := 1) (fi := itR rng1 (zab (b2 zbo (vC (.int 1)) (b2 zcj (cF zay (zab (vSh 0) (zab (vC (.int 0)) zak))) (vC (.int 3)))) zak)) (ρ := [some (.sh (.scr ns)), some (.sh (.int n)), some (.sh (.int h)), some (.sh (.int lo)), none, none, none, none, none, none]) rfl rfl (itR_of (zaj (d := .int (nb : Int)) (zaw rfl (zaw (zaT (zaj rfl (zaj rfl zaD)) (cell_ok ns 0)) rfl (zck (by decide))) (by rw [← hnb]; rfl)) zaD) (rng1_ok (j := (nb : Int)) (by omega)))
  obtain ⟨bs, e1, l1, g1⟩ := lbenches_ok cb h (by omega)
  have bnd : (bs.map (·.nm)).Nodup := nodup_of_inj (n := 3) (by omega) nm_inj2 fun j b hj => (g1 j b hj).nm
  have hbn : ∀ x ∈ bs.map (·.nm), zaQ x = true := fun x hx => by
    obtain ⟨b, hb, rfl⟩ := List.mem_map.mp hx
    obtain ⟨j, hj⟩ := List.getElem?_of_mem hb
    have hjl := (List.getElem?_eq_some_iff.mp hj).1
    rw [(g1 j b hj).nm]
    exact (nm_ok (by omega)).2
  obtain ⟨ct, et, lt⟩ := cells_ok ns n 4 (by omega) (k := 4) (fi := itR rng1 (zab (vSh 1) zak)) (ρ := [some (.sh (.scr ns)), some (.sh (.int n)), some (.sh (.int h)), some (.sh (.int lo)), some (.sh (.lst (bs.map zaV))), none, none, none, none, none]) rfl rfl (itR_of (zaj rfl zaD) (rng1_ok (j := (n : Int)) (by omega)))
  obtain ⟨ss, e2, l2, g2⟩ := lsteps_ok ct bs h lo hh.1 hlo (by omega) (by omega) bnd
  have snd : (ss.map (·.nm)).Nodup := nodup_of_inj (n := 10) (by omega) nm_inj1 fun j b hj => (g2 j b hj).nm
  have gs : ∀ s ∈ ss, GoodS (bs.map (·.nm)) h s := fun s hs => by
    obtain ⟨j, hj⟩ := List.getElem?_of_mem hs
    exact (g2 j s hj).good
  have hsn : ∀ x ∈ ss.map (·.nm), zaQ x = true := fun x hx => by
    obtain ⟨b, hb, rfl⟩ := List.mem_map.mp hx
    exact (gs b hb).nm
  obtain ⟨cj, ej, lj⟩ := cells_ok ns 3 14 (by omega) (k := 14) (fi := itR rng1 (zab (vC (.int 3)) zak)) (ρ := [some (.sh (.scr ns)), some (.sh (.int n)), some (.sh (.int h)), some (.sh (.int lo)), some (.sh (.lst (bs.map zaV))), some (.sh (.lst (ss.map zaC))), none, none, none, none]) rfl rfl (itR_of (zaj rfl zaD) (rng1_ok (j := 3) (by omega)))
  obtain ⟨js, e3, l3, g3, g4, g5⟩ := ljobs_ok cj ss h hh.1 (by omega) (by omega) hsn snd
  obtain ⟨us, e4, l4, g6, g7⟩ := lsetups_ok (ns.getD 17 0) bs h hh.1 (by omega) hbn
  obtain ⟨ls, e5, l5, g8, g9⟩ := llinks_ok (ns.getD 18 0) ss h hh.1 (by omega) hsn
  obtain ⟨ks, e6, l6, g10, g11⟩ := lstocks_ok (ns.getD 19 0) ss (by omega) snd
  refine ⟨bs, ss, js, us, ls, ks, ?_, ⟨hh, by omega, fun x hx => ?_, bnd, by omega, gs, snd, by omega, g3, g4, g5, by omega, g6, g7, by omega, g8, g9, by omega, g10, g11⟩, l3⟩
  · refine za0 [some (.sh (.scr ns)), some (.sh (.int n)), some (.sh (.int h)), some (.sh (.int lo)), none, none, none, none, none, none] rfl ((zaF (zaT (zaj eb (zaj rfl zaD)) e1)).trans ((zaF (zaT (zaj et (zaj rfl (zaj rfl (zaj rfl zaD)))) e2)).trans ((zaF (zaT (zaj ej (zaj rfl (zaj rfl zaD))) e3)).trans ((zaF (zaT (zaj (zaT (zaj rfl (zaj rfl zaD)) (cell_ok ns 17)) (zaj rfl (zaj rfl zaD))) e4)).trans ((zaF (zaT (zaj (zaT (zaj rfl (zaj rfl zaD)) (cell_ok ns 18)) (zaj rfl (zaj rfl zaD))) e5)).trans ((zaF (zaT (zaj (zaT (zaj rfl (zaj rfl zaD)) (cell_ok ns 19)) (zaj rfl zaD)) e6)).trans (zaU (lst7_of rfl rfl rfl rfl rfl rfl rfl))))))))
  · obtain ⟨j, hj⟩ := List.getElem?_of_mem hx
    have hjl := (List.getElem?_eq_some_iff.mp hj).1
    have g := g1 j x hj
    exact ⟨by rw [g.nm]; exact (nm_ok (by omega)).2, by have := g.len; omega, g.good.iv, g.good.gap⟩
end Law
end
section
namespace Law
open PySem L2
section
variable {bs : List BenchT} {ss : List StepT} {js : List JobT} {us : List SetT} {ls : List LinkT} {ks : List StockT} {h : Int}
theorem shop_of (g : Good bs ss js us ls ks h) (ml : (js.flatMap (·.ms)).length <= 300) : zbM [zb1 bs ss js us ls ks h] = some (zcz bs ss js us ls ks h) :=
  za0 [some (.sh (zb1 bs ss js us ls ks h))] rfl (zaU (zaT (zaj (zaw rfl rfl (ixL _ 0)) (zaj (zaw rfl rfl (ixL _ 1)) (zaj (zaw rfl rfl (ixL _ 2)) (zaj (zaw rfl rfl (ixL _ 3)) (zaj (zaw rfl rfl (ixL _ 4)) (zaj (zaw rfl rfl (ixL _ 5)) (zaj (zaw rfl rfl (ixL _ 6)) zaD))))))) (init_ok g ml)))
theorem fld_of {fo : FE} {ρ : za2} {f : Str} {d : D} (i : Nat) (h1 : fo ρ = some (zcz bs ss js us ls ks h)) (h2 : (fs11 bs ss js us ls ks h)[i]? = some (f, d)) : fldF "Shop" f fo ρ = some d := by
  unfold fldF
  rw [h1]
  show (if ("Shop" : Str) = "Shop" then (fs11 bs ss js us ls ks h).lookup f else none) = some d
  rw [if_pos rfl]
  exact look_nth (by rw [fs11_keys]; exact keys_nd) h2
theorem meth_of {F : List D -> Option D} {fo : FE} {fr : FA} {ρ : za2} {m : Str} {ds : List D} {d : D} (hm : m ∉ keys11) (h1 : fo ρ = some (zcz bs ss js us ls ks h)) (h2 : fr ρ = some ds) (h3 : F (zcz bs ss js us ls ks h :: ds) = some d) : methF "Shop" m F fo fr ρ = some d := by
  have hno : (fs11 bs ss js us ls ks h).lookup m = none := look_no (by rw [fs11_keys]; exact hm)
  unfold methF
  rw [h1]
  show (if ("Shop" : Str) = "Shop" /\ (fs11 bs ss js us ls ks h).lookup m = none then (fr ρ).bind fun ds => F (zcz bs ss js us ls ks h :: ds) else none) = _
  rw [if_pos ⟨rfl, hno⟩, h2]
  exact h3
theorem names_fo {α : Type} {f : α -> D} {nm : α -> Str} {xs : List α} {fo : FE} {ρ : za2} {fv : List (Option Nat)} (hf : ∀ x, ∃ r, f x = .tup (.str (nm x) :: r)) (h1 : fo ρ = some (.lst (xs.map f))) (h2 : xs.length <= sizeLine) (h3 : fvEnv fv ρ = [none]) :
    za3 (zaO (itF fo) (zaP 0) tT (b2 ixD (vSh 0) (vC (.int 0))) fv) ρ = some (.lst ((xs.map nm).map D.str)) := by
  have hc := zbF (fi := itF fo) (fe := b2 ixD (vSh 0) (vC (.int 0))) (fv := fv) (ρ := ρ) (r := []) (a := none) (xs := xs.map f) (f := fun d => match d with | .tup (x :: _) => x | _ => .non) (by unfold itF; rw [h1]; rfl) (by rw [List.length_map]; exact h2) h3 (fun x hx => by
    obtain ⟨y, _, rfl⟩ := List.mem_map.mp hx
    obtain ⟨r, e⟩ := hf y
    simp only [b2, vSh, vC, List.getElem?_cons_zero, Option.bind_some, e, ixD0])
  rw [hc]
  congr 2
  rw [List.map_map, List.map_map]
  refine List.map_congr_left fun x _ => ?_
  obtain ⟨r, e⟩ := hf x
  simp [e]
theorem step_names_ok (hl : ss.length <= 40) : zaJ [zcz bs ss js us ls ks h] = some (.lst ((ss.map (·.nm)).map D.str)) :=
  za0 [some (.sh (zcz bs ss js us ls ks h))] rfl (zaU (names_fo (f := zaC) (nm := (·.nm)) (xs := ss) (fun x => ⟨_, rfl⟩) (fld_of 1 rfl rfl) (szN hl (by decide)) rfl))
theorem valG_map {α : Type} {nm : α -> Str} {f : α -> D} : ∀ {xs : List α} {s : α}, (xs.map nm).Nodup -> s ∈ xs -> valG (xs.map fun x => ((.inr (nm x) : Key), f x)) (.inr (nm s)) = some (f s)
  | [], s, _, hs => by cases hs
  | x :: r, s, nd, hs => by
    rw [List.map_cons, List.nodup_cons] at nd
    unfold valG
    rw [List.map_cons, List.find?_cons]
    by_cases e : nm x = nm s
    · have hxs : s = x := by
        rcases List.mem_cons.mp hs with q | q
        · exact q
        · exact absurd (List.mem_map_of_mem (f := nm) q) (by rw [← e]; exact nd.1)
      subst hxs
      simp
    · have hs' : s ∈ r := by
        rcases List.mem_cons.mp hs with q | q
        · subst q; exact absurd rfl e
        · exact q
      have hne : ¬ ((.inr (nm x) : Key) = .inr (nm s)) := fun z => e (Sum.inr.inj z)
      simp only [decide_eq_false hne]
      exact valG_map nd.2 hs'
theorem ways_ok' {s : StepT} (g : Good bs ss js us ls ks h) (hs : s ∈ ss) : za5 [zcz bs ss js us ls ks h, .str s.nm] = some (.lst (s.ws.map dW)) := by
  have gs := g.s s hs
  refine za0 [some (.sh (zcz bs ss js us ls ks h)), some (.sh (.str s.nm))] rfl (zaU (zaT (zaj (zaw (zaw (x := .dk (ss.map fun s => (.inr s.nm, zaC s))) (z := zaC s) (fld_of 8 rfl rfl) rfl ?_) rfl ixD2) zaD) (fresh8 (pl_w (by have := gs.l4; omega)))))
  show valG (ss.map fun s => ((.inr s.nm : Key), zaC s)) (.inr s.nm) = _
  exact valG_map g.sn hs
theorem valG_put {κ : Type} [DecidableEq κ] (kvs : List (κ × D)) (k k' : κ) (v : D) : valG (putG kvs k v) k' = if k' = k then some v else valG kvs k' := by
  unfold putG
  split
  · rename_i hany
    by_cases e : k' = k
    · subst e
      rw [if_pos rfl]
      unfold valG
      induction kvs with
      | nil => simp at hany
      | cons x r ih =>
        rw [List.map_cons, List.find?_cons]
        by_cases ex : x.1 = k'
        · simp [ex]
        · simp only [if_neg ex, decide_eq_false ex]
          rw [List.any_cons, decide_eq_false ex, Bool.false_or] at hany
          exact ih hany
    · rw [if_neg e]
      unfold valG
      induction kvs with
      | nil => rfl
      | cons x r ih =>
        rw [List.map_cons, List.find?_cons, List.find?_cons]
        by_cases ex : x.1 = k
        · have : ¬ x.1 = k' := fun z => e (z.symm.trans ex)
          simp only [if_pos ex, decide_eq_false this]
          by_cases ha : (r.any fun kv => decide (kv.1 = k)) = true
          · exact ih ha
          · have hmap : r.map (fun kv => if kv.1 = k then (kv.1, v) else kv) = r := by
              conv => rhs; rw [← List.map_id r]
              refine List.map_congr_left fun y hy => ?_
              have : ¬ y.1 = k := fun z => ha (List.any_eq_true.mpr ⟨y, hy, decide_eq_true z⟩)
              simp [this]
            rw [hmap]
        · simp only [if_neg ex]
          by_cases ex' : x.1 = k'
          · simp [ex']
          · simp only [decide_eq_false ex']
            rw [List.any_cons, decide_eq_false ex, Bool.false_or] at hany
            exact ih hany
  · rename_i hany
    have hno : ∀ x ∈ kvs, ¬ x.1 = k := fun x hx z => hany (List.any_eq_true.mpr ⟨x, hx, decide_eq_true z⟩)
    unfold valG
    rw [List.find?_append]
    by_cases e : k' = k
    · subst e
      rw [if_pos rfl]
      have : kvs.find? (fun kv => decide (kv.1 = k')) = none := by
        rw [List.find?_eq_none]
        intro x hx z
        exact hno x hx (of_decide_eq_true z)
      rw [this]
      simp
    · rw [if_neg e]
      have : ¬ k = k' := fun z => e z.symm
      simp [this]
theorem inner_val (j : JobT) (m : Str) : ∀ (ms : List Str) (acc : List (Key × D)), valG (ms.foldl (putJ j) acc) (.inr m) = if m ∈ ms then some (zbu j) else valG acc (.inr m)
  | [], acc => by simp
  | x :: r, acc => by
    rw [List.foldl_cons, inner_val j m r]
    by_cases h1 : m ∈ r
    · rw [if_pos h1, if_pos (List.mem_cons_of_mem _ h1)]
    · rw [if_neg h1]
      unfold putJ
      rw [valG_put]
      by_cases h2 : m = x
      · subst h2; rw [if_pos rfl, if_pos List.mem_cons_self]
      · have : ¬ ((.inr m : Key) = .inr x) := fun z => h2 (Sum.inr.inj z)
        rw [if_neg this, if_neg]
        intro z
        rcases List.mem_cons.mp z with q | q
        · exact h2 q
        · exact h1 q
def jobAt (js : List JobT) (m : Str) : Option JobT := js.find? fun j => decide (m ∈ j.ms)
theorem jkv_val (m : Str) : ∀ (js : List JobT) (acc : List (Key × D)), (js.flatMap (·.ms)).Nodup -> valG (js.foldl (fun acc j => j.ms.foldl (putJ j) acc) acc) (.inr m) = match jobAt js m with | some j => some (zbu j) | none => valG acc (.inr m)
  | [], acc, _ => rfl
  | j :: r, acc, nd => by
    rw [List.flatMap_cons, List.nodup_append] at nd
    rw [List.foldl_cons, jkv_val m r _ nd.2.1, inner_val]
    unfold jobAt
    rw [List.find?_cons]
    by_cases h1 : m ∈ j.ms
    · have : r.find? (fun j => decide (m ∈ j.ms)) = none := by
        rw [List.find?_eq_none]
        intro x hx z
        exact nd.2.2 m h1 m (List.mem_flatMap.mpr ⟨x, hx, of_decide_eq_true z⟩) rfl
      simp only [decide_eq_true h1, this, if_pos h1]
    · simp only [decide_eq_false h1, if_neg h1]
def optJ : Option JobT -> D
  | some j => zbu j
  | none => .non
theorem jobAt_mem {m : Str} {j : JobT} (h : jobAt js m = some j) : j ∈ js /\ m ∈ j.ms := ⟨List.mem_of_find?_eq_some h, by
  have := List.find?_some h
  exact of_decide_eq_true this⟩
theorem job_of_ok (g : Good bs ss js us ls ks h) (m : Str) : zbl [zcz bs ss js us ls ks h, .str m] = some (optJ (jobAt js m)) := by
  have hl : (ss.map (·.nm)).length <= 40 := by rw [List.length_map]; exact g.sl.2
  have hp : Pl 8 (optJ (jobAt js m)) := by
    cases e : jobAt js m with
    | none => trivial
    | some j => exact pl_job hl (g.j j (jobAt_mem e).1)
  refine za0 [some (.sh (zcz bs ss js us ls ks h)), some (.sh (.str m))] rfl (zaU (zaT (zaj (zaw (x := .dk (jkv js)) (fld_of 10 rfl rfl) rfl ?_) zaD) (fresh8 hp)))
  show some ((valG (jkv js) (.inr m)).getD .non) = _
  unfold jkv
  rw [jkv_val m js [] g.jm]
  cases jobAt js m <;> rfl
def jb (js : List JobT) (a b : Str) : Bool := match jobAt js a with
  | some j => decide (b ∈ j.ms)
  | none => false
theorem and_val {A B : FE} {ρ : za2} {a b : Bool} (hA : A ρ = some (.bl a)) (hB : B ρ = some (.bl b)) : zcZ A B ρ = some (.bl (a && b)) := by
  simp only [zcZ, hA, Option.bind_some]
  cases a
  · rfl
  · exact hB
theorem and_no {A B : FE} {ρ : za2} (hA : A ρ = some (.bl false)) : zcZ A B ρ = some (.bl false) := by
  simp only [zcZ, hA, Option.bind_some]
theorem one_job_ok (g : Good bs ss js us ls ks h) (a b : Str) (hb : zaQ b = true) : zaN [zcz bs ss js us ls ks h, .str a, .str b] = some (.bl (jb js a b)) := by
  refine za0 [some (.sh (zcz bs ss js us ls ks h)), some (.sh (.str a)), some (.sh (.str b)), none] rfl ((zaF (meth_of (by decide +kernel) rfl (zaj rfl zaD) (job_of_ok g a))).trans (zaU ?_))
  unfold jb
  cases e : jobAt js a with
  | none => exact and_no (zaw rfl rfl rfl)
  | some j =>
    obtain ⟨hj, _⟩ := jobAt_mem e
    have hn : ∀ y ∈ j.ms, zaQ y = true := fun y hy => g.snn y ((g.j j hj).ms y hy)
    have := and_val (A := b2 isNotD (vSh 3) (vC .non)) (B := b2 inXD (vSh 2) (b2 ixD (vSh 3) (vC (.int 4)))) (ρ := [some (.sh (zcz bs ss js us ls ks h)), some (.sh (.str a)), some (.sh (.str b)), some (.sh (zbu j))]) (a := true) (b := decide (b ∈ j.ms)) (zaw rfl rfl rfl) (zaw rfl (zaw rfl rfl ixD4) (in_strs hb hn))
    rw [Bool.true_and] at this
    exact this
def hd (s : StepT) : Str := (s.ws.headD (⟨#[]⟩, 0)).1
def sh (s t : StepT) : Bool := decide ((s.ws.length : Int) = 1) && (decide ((t.ws.length : Int) = 1) && decide (hd s = hd t))
theorem head_of {f : FE} {ρ : za2} {s : StepT} (h1 : 1 <= s.ws.length) (h2 : f ρ = some (.lst (s.ws.map dW))) : b2 ixD (b2 ixD f (vC (.int 0))) (vC (.int 0)) ρ = some (.str (hd s)) := by
  unfold hd
  cases e : s.ws with
  | nil => rw [e] at h1; simp at h1
  | cons w r =>
    rw [e] at h2
    exact zaw (zaw h2 rfl (ixL _ 0)) rfl ixD0
theorem len1_of {f : FE} {ρ : za2} {s : StepT} (h2 : f ρ = some (.lst (s.ws.map dW))) : b2 eqD (cF zcU (zab f zak)) (vC (.int 1)) ρ = some (.bl (decide ((s.ws.length : Int) = 1))) := by
  have := len_of h2
  rw [List.length_map] at this
  exact zaw this rfl rfl
theorem share_ok (g : Good bs ss js us ls ks h) {s t : StepT} (hs : s ∈ ss) (ht : t ∈ ss) : zaA [zcz bs ss js us ls ks h, .str s.nm, .str t.nm] = some (.bl (sh s t)) :=
  za0 [some (.sh (zcz bs ss js us ls ks h)), some (.sh (.str s.nm)), some (.sh (.str t.nm)), none, none] rfl ((zaF (meth_of (by decide +kernel) rfl (zaj rfl zaD) (ways_ok' g hs))).trans ((zaF (meth_of (by decide +kernel) rfl (zaj rfl zaD) (ways_ok' g ht))).trans (zaU (and_val (len1_of rfl) (and_val (len1_of rfl) (zaw (head_of (g.s s hs).l1 rfl) (head_of (g.s t ht).l1 rfl) (eqA_str _ _)))))))
end
def prS : List StepT -> List (StepT × StepT)
  | [] => []
  | s :: r => r.map (fun t => (s, t)) ++ prS r
def dP (p : StepT × StepT) : D := .tup [.str p.1.nm, .str p.2.nm]
theorem prS_mem : ∀ {ss : List StepT} {p : StepT × StepT}, p ∈ prS ss -> p.1 ∈ ss /\ p.2 ∈ ss
  | [], _, h => by cases h
  | s :: r, p, h => by
    rcases List.mem_append.mp h with q | q
    · obtain ⟨t, ht, rfl⟩ := List.mem_map.mp q
      exact ⟨List.mem_cons_self, List.mem_cons_of_mem _ ht⟩
    · obtain ⟨h1, h2⟩ := prS_mem q
      exact ⟨List.mem_cons_of_mem _ h1, List.mem_cons_of_mem _ h2⟩
theorem prS_len : ∀ {ss : List StepT} {n : Nat}, ss.length <= n -> (prS ss).length <= ss.length * n
  | [], _, _ => by simp [prS]
  | s :: r, n, h => by
    rw [List.length_cons] at h
    have := prS_len (ss := r) (n := n) (by omega)
    show (r.map (fun t => (s, t)) ++ prS r).length <= _
    rw [List.length_append, List.length_map, List.length_cons, Nat.succ_mul]
    omega
theorem ext_map {α : Type} {g : α -> D} {xs ys : List α} {i : Nat} {f : FE} {ρ : za2} (h1 : ρ[i]? = some (some (.own (xs.map g)))) (h2 : f ρ = some (.lst (ys.map g))) (h3 : xs.length + ys.length <= 10000) : sExt i f ρ = some (.nx, ρ.set i (some (.own ((xs ++ ys).map g)))) := by
  unfold sExt
  rw [h1]
  show (f ρ).bind _ = _
  rw [h2, Option.bind_some]
  show (if _ then _ else _) = _
  rw [if_pos (by rw [List.length_map, List.length_map]; unfold sizeLine; omega), List.map_append]
theorem drop_at {α : Type} {l : List α} {i : Nat} {x : α} (h : l[i]? = some x) : l.drop i = x :: l.drop (i + 1) := by
  obtain ⟨h1, h2⟩ := List.getElem?_eq_some_iff.mp h
  rw [List.drop_eq_getElem_cons h1, h2]
abbrev pE (ss : List StepT) (ps : List (StepT × StepT)) (a b : Option Slot) : za2 := [some (.sh (.lst ((ss.map (·.nm)).map D.str))), some (.own (ps.map dP)), a, b]
theorem pairs_ok (ss : List StepT) (hl : ss.length <= 40) : zbI [.lst ((ss.map (·.nm)).map D.str)] = some (.lst ((prS ss).map dP)) := by
  have hpl := prS_len (ss := ss) (n := 40) hl
  obtain ⟨ρ', h1, ps, a, b, h2, h3⟩ := zb2 (gg := zcs 2 (zaG (zaP 2) (zaG (zaP 3) zcr))) (body := (sExt 1 (za3 (zaO (itF (slF (vSh 0) (pS (b2 zbo (vSh 2) (vC (.int 1)))) pN)) (zaP 0) tT (zce (szF (zab (vSh 1) (zab (vSh 0) zak)))) [none, some 3])))) (xs := ((ss.map (·.nm)).map D.str).mapIdx fun i d => D.tup [.int i, d]) (ρ := pE ss [] none none)
    (fun i ρ => ∃ ps a b, ρ = pE ss ps a b /\ ps ++ prS (ss.drop i) = prS ss) ⟨[], none, none, rfl, rfl⟩ (fun i x ρ hx hI => by
      obtain ⟨ps, a, b, rfl, hps⟩ := hI
      obtain ⟨y, hy, rfl⟩ := zdv hx
      rw [List.map_map, List.getElem?_map] at hy
      obtain ⟨s, hsi, rfl⟩ := Option.map_eq_some_iff.mp hy
      have hi : i < ss.length := (List.getElem?_eq_some_iff.mp hsi).1
      have hdr := drop_at hsi
      have hlen : ps.length + (ss.drop (i + 1)).length <= 10000 := by
        have := congrArg List.length hps
        rw [List.length_append] at this
        rw [List.length_drop]
        omega
      have e : za3 (zaO (itF (slF (vSh 0) (pS (b2 zbo (vSh 2) (vC (.int 1)))) pN)) (zaP 0) tT (zce (szF (zab (vSh 1) (zab (vSh 0) zak)))) [none, some 3]) (pE ss ps (some (.sh (.int i))) (some (.sh (.str s.nm)))) = some (.lst (((ss.drop (i + 1)).map fun t => (s, t)).map dP)) := by
        have e0 : itF (slF (vSh 0) (pS (b2 zbo (vSh 2) (vC (.int 1)))) pN) (pE ss ps (some (.sh (.int i))) (some (.sh (.str s.nm)))) = some ((ss.drop (i + 1)).map fun t => D.str t.nm) := by
          have := sl_lo (f := vSh 0) (g := b2 zbo (vSh 2) (vC (.int 1))) (ρ := pE ss ps (some (.sh (.int i))) (some (.sh (.str s.nm)))) (d := (i : Int) + 1) rfl (zaw rfl rfl rfl) (by omega)
          unfold itF
          rw [this]
          show some _ = _
          rw [show ((i : Int) + 1).toNat = i + 1 by omega, List.map_map, List.map_drop]
          rfl
        refine (zbF (r := [some (.sh (.str s.nm))]) (a := none) (f := fun d => .tup [.str s.nm, d]) e0 (by rw [List.length_map, List.length_drop]; exact szN (k := 40) (by omega) (by decide)) rfl fun x hx => zcH rfl rfl).trans ?_
        rw [List.map_map, List.map_map]
        rfl
      refine ⟨_, _, rfl, ext_map rfl e (by rw [List.length_map]; exact hlen), ps ++ (ss.drop (i + 1)).map (fun t => (s, t)), _, _, rfl, ?_⟩
      rw [← hps, hdr, List.append_assoc]
      rfl)
  rw [List.length_mapIdx, List.length_map, List.length_map, List.drop_length] at h3
  have h4 : ps = prS ss := by rw [← h3]; simp [prS]
  rw [h4] at h2
  exact za0 [some (.sh (.lst ((ss.map (·.nm)).map D.str))), none, none, none] rfl (own_of.trans ((zcN ((zdg (xs := ((ss.map (·.nm)).map D.str).mapIdx fun i d => D.tup [.int i, d]) rfl).trans (h1.trans (by rw [h2])))).trans ((frz_of rfl).trans (zaU (f := vSh 1) rfl))))
end Law
end
section
namespace Law
open PySem L2
section
variable {bs : List BenchT} {ss : List StepT} {js : List JobT} {us : List SetT} {ls : List LinkT} {ks : List StockT} {h : Int}
def meet (js : List JobT) (p : StepT × StepT) : Bool := jb js p.1.nm p.2.nm || sh p.1 p.2
theorem orT_of {f g : FT} {ρ : za2} {a b : Bool} (h1 : f ρ = some a) (h2 : g ρ = some b) : orT f g ρ = some (a || b) := by
  unfold orT; rw [h1, Option.bind_some, h2]; cases a <;> rfl
theorem filt_len {α : Type} {p : α -> Bool} {l : List α} {n : Nat} (h : l.length <= n) : (l.filter p).length <= n := Nat.le_trans (List.length_filter_le _ _) h
theorem app_big {α : Type} {g : α -> D} {xs : List α} {x : α} {i : Nat} {f : FE} {ρ : za2} (h1 : ρ[i]? = some (some (.own (xs.map g)))) (h2 : f ρ = some (g x)) (h3 : xs.length <= 10000) : sApp i f ρ = some (.nx, ρ.set i (some (.own ((xs ++ [x]).map g)))) := by
  rw [app_of h1 h2 (by rw [List.length_map]; unfold sizeLine; omega), List.map_append]; rfl
abbrev qE (S : D) (ps : List (StepT × StepT)) (a b : Option Slot) : za2 := [some (.sh S), some (.own (ps.map dP)), a, b]
theorem run_to_o {n : Nat} {g : FS} {ds : List D} {d : List D} (ρ : za2) {ρ' : za2} (e : ds.map (fun d => some (Slot.sh d)) ++ List.replicate n none = ρ) (h : g ρ = some (.ow d, ρ')) : runO n g ds = some d := by
  subst e; unfold runO; rw [h]; rfl
theorem sure_ok (g : Good bs ss js us ls ks h) : zbc [zcz bs ss js us ls ks h] = some (((prS ss).filter (meet js)).map dP) := by
  have hl := g.sl.2
  have hpl := prS_len (ss := ss) (n := 40) hl
  obtain ⟨ρ', h1, a, b, h2⟩ := zb2 (gg := zcs 2 (zaG (zaP 2) (zaG (zaP 3) zcr))) (body := (sIf (orT (toB (cF zaN (zab (vSh 0) (zab (vSh 2) (zab (vSh 3) zak))))) (toB (cF zaA (zab (vSh 0) (zab (vSh 2) (zab (vSh 3) zak)))))) (sApp 1 (zce (szF (zab (vSh 2) (zab (vSh 3) zak))))) zci)) (xs := (prS ss).map dP) (ρ := qE (zcz bs ss js us ls ks h) [] none none)
    (fun i ρ => ∃ a b, ρ = qE (zcz bs ss js us ls ks h) (((prS ss).take i).filter (meet js)) a b) ⟨none, none, by simp⟩ (fun i x ρ hx hI => by
      obtain ⟨a, b, rfl⟩ := hI
      rw [List.getElem?_map] at hx
      obtain ⟨p, hp, rfl⟩ := Option.map_eq_some_iff.mp hx
      obtain ⟨m1, m2⟩ := prS_mem (List.mem_of_getElem? hp)
      have tk : (prS ss).take (i + 1) = (prS ss).take i ++ [p] := by rw [List.take_add_one, hp]; rfl
      have eT : orT (toB (cF zaN (zab (vSh 0) (zab (vSh 2) (zab (vSh 3) zak))))) (toB (cF zaA (zab (vSh 0) (zab (vSh 2) (zab (vSh 3) zak))))) (qE (zcz bs ss js us ls ks h) (((prS ss).take i).filter (meet js)) (some (.sh (.str p.1.nm))) (some (.sh (.str p.2.nm)))) = some (meet js p) :=
        orT_of (zaZ (zaT (zaj rfl (zaj rfl (zaj rfl zaD))) (one_job_ok g _ _ (g.s _ m2).nm))) (zaZ (zaT (zaj rfl (zaj rfl (zaj rfl zaD))) (share_ok g m1 m2)))
      by_cases hm : meet js p = true
      · refine ⟨_, _, rfl, (if_of eT).trans ((if_pos hm).trans (app_big (x := p) rfl (zcH rfl rfl) (filt_len (by rw [List.length_take]; omega)))), some (.sh (.str p.1.nm)), some (.sh (.str p.2.nm)), ?_⟩
        rw [tk, List.filter_append, List.filter_cons, if_pos hm]
        rfl
      · refine ⟨_, _, rfl, (if_of eT).trans ((if_neg hm).trans rfl), some (.sh (.str p.1.nm)), some (.sh (.str p.2.nm)), ?_⟩
        rw [tk, List.filter_append, List.filter_cons, if_neg hm]
        simp)
  rw [List.length_map, List.take_length] at h2
  have eI : itF (cF zbI (zab (methF "Shop" "step_names" zaJ (vSh 0) zak) zak)) (qE (zcz bs ss js us ls ks h) [] none none) = some ((prS ss).map dP) := by
    have : cF zbI (zab (methF "Shop" "step_names" zaJ (vSh 0) zak) zak) (qE (zcz bs ss js us ls ks h) [] none none) = some (.lst ((prS ss).map dP)) :=
      zaT (zaj (meth_of (by decide +kernel) rfl zaD (step_names_ok hl)) zaD) (pairs_ok ss hl)
    unfold itF
    rw [this]; rfl
  refine run_to_o [some (.sh (zcz bs ss js us ls ks h)), none, none, none] (ρ' := qE (zcz bs ss js us ls ks h) ((prS ss).filter (meet js)) a b) rfl (own_of.trans ((zcN ((zdg eI).trans (h1.trans (by rw [h2])))).trans ?_))
  rfl
def both (a b : Str) (j : JobT) : Bool := decide (a ∈ j.ms) && decide (b ∈ j.ms)
theorem jb_due (a b : Str) : ∀ (js : List JobT), (js.flatMap (·.ms)).Nodup -> jb js a b = !(js.filter (both a b)).isEmpty
  | [], _ => rfl
  | j :: r, nd => by
    rw [List.flatMap_cons, List.nodup_append] at nd
    have ih := jb_due a b r nd.2.1
    unfold jb jobAt at ih ⊢
    rw [List.find?_cons, List.filter_cons]
    by_cases h1 : a ∈ j.ms
    · have hr : r.filter (both a b) = [] := by
        rw [List.filter_eq_nil_iff]
        intro x hx z
        have : a ∈ x.ms := by
          unfold both at z
          simp only [Bool.and_eq_true, decide_eq_true_eq] at z
          exact z.1
        exact nd.2.2 a h1 a (List.mem_flatMap.mpr ⟨x, hx, this⟩) rfl
      simp only [decide_eq_true h1, hr]
      by_cases h2 : b ∈ j.ms
      · simp [both, h1, h2]
      · simp [both, h1, h2]
    · have hb : both a b j = false := by simp [both, h1]
      simp only [decide_eq_false h1, hb, Bool.false_eq_true, if_false]
      exact ih
theorem pd_jobs : ∀ {js : List JobT}, (∀ j ∈ js, zaQ j.nm = true /\ ∀ x ∈ j.ms, zaQ x = true) -> ∃ ps, pdDs (js.map zbu) = some ps /\ PyData.canLayAll0 ps = true /\ PyData.depthAll ps <= 2 /\ (ps.isEmpty = js.isEmpty)
  | [], _ => ⟨[], by simp [pdDs], by simp [PyData.canLayAll0], by simp [PyData.depthAll], rfl⟩
  | j :: r, h => by
    obtain ⟨ps, h1, h2, h3, h4⟩ := pd_jobs (js := r) fun y hy => h y (List.mem_cons_of_mem _ hy)
    obtain ⟨n1, n2⟩ := h j List.mem_cons_self
    have e : pdD (zbu j) = some (.tuple [.str j.nm, .int j.ea, .int j.du, .bool j.od, .list (j.ms.map PyData.str)]) := by simp [zbu, pdD, pdDs, pd_strs]
    refine ⟨.tuple [.str j.nm, .int j.ea, .int j.du, .bool j.od, .list (j.ms.map PyData.str)] :: ps, by simp only [List.map_cons, pdDs, e, h1, Option.bind_some, Option.map_some], ?_, ?_, rfl⟩
    · simp [PyData.canLayAll0, PyData.canLay0, strOk_of n1, lay_strs n2, h2]
    · simp only [PyData.depthAll, PyData.depth, zdj]
      omega
theorem neA_jobs {l : List JobT} (hn : ∀ j ∈ l, zaQ j.nm = true /\ ∀ x ∈ j.ms, zaQ x = true) : neA (.lst (l.map zbu)) (.lst []) = some (.bl (!l.isEmpty)) := by
  obtain ⟨ps, h1, h2, h3, h4⟩ := pd_jobs hn
  have e0 : neA (.lst (l.map zbu)) (.lst []) = neXD (.lst (l.map zbu)) (.lst []) := rfl
  have s1 : SeqAt.shaped (.list ps) = true := by
    simp [SeqAt.shaped, PyData.canLay0, h2, PyData.depth]
    omega
  have s2 : SeqAt.shaped (.list []) = true := by simp [SeqAt.shaped, PyData.canLay0, PyData.canLayAll0, PyData.depth, PyData.depthAll]
  have p1 : pdD (.lst (l.map zbu)) = some (.list ps) := by simp [pdD, h1]
  have p2 : pdD (.lst []) = some (.list []) := by simp [pdD, pdDs]
  have q : PyData.eqv (.list ps) (.list []) = l.isEmpty := by
    rw [← h4]
    cases ps <;> simp [PyData.eqv, PyData.eqvAll]
  rw [e0]
  unfold neXD eqX
  rw [p1, p2, Option.bind_some, Option.bind_some, if_pos ⟨s1, s2⟩, q]
  rfl
def due (js : List JobT) (p : StepT × StepT) : Bool := !(js.filter (both p.1.nm p.2.nm)).isEmpty || sh p.1 p.2
theorem due_meet (nd : (js.flatMap (·.ms)).Nodup) (p : StepT × StepT) : due js p = meet js p := by
  unfold due meet
  rw [jb_due _ _ js nd]
abbrev dueE (L : D) (ps : List (StepT × StepT)) (a b c d e : Option Slot) : za2 := [some (.sh L), some (.own (ps.map dP)), a, b, c, d, e]
def dueIn : FS := (zaE (zbp 5 (za3 (zaO (itF (b2 ixD (vSh 0) (vC (.int 2)))) (zaP 0) (andT (toB (b2 inXD (b2 ixD (vSh 1) (vC (.int 0))) (b2 ixD (vSh 0) (vC (.int 4))))) (toB (b2 inXD (b2 ixD (vSh 2) (vC (.int 0))) (b2 ixD (vSh 0) (vC (.int 4)))))) (vSh 0) [none, some 3, some 4]))) (zaE (zbp 6 (zcZ (b2 eqD (cF zcU (zab (b2 ixD (vSh 3) (vC (.int 2))) zak)) (vC (.int 1))) (zcZ (b2 eqD (cF zcU (zab (b2 ixD (vSh 4) (vC (.int 2))) zak)) (vC (.int 1))) (b2 eqA (b2 ixD (b2 ixD (b2 ixD (vSh 3) (vC (.int 2))) (vC (.int 0))) (vC (.int 0))) (b2 ixD (b2 ixD (b2 ixD (vSh 4) (vC (.int 2))) (vC (.int 0))) (vC (.int 0))))))) (sIf (orT (toB (b2 neA (vSh 5) (za3 (szF zak)))) (toB (vSh 6))) (sApp 1 (zce (szF (zab (b2 ixD (vSh 3) (vC (.int 0))) (zab (b2 ixD (vSh 4) (vC (.int 0))) zak))))) zci)))
theorem due_in {i : Int} {s t : StepT} {ps : List (StepT × StepT)} {d e : Option Slot} (g : Good bs ss js us ls ks h) (hs : s ∈ ss) (ht : t ∈ ss) (hp : ps.length <= 10000) :
    ∃ d' e', dueIn (dueE (zb1 bs ss js us ls ks h) ps (some (.sh (.int i))) (some (.sh (zaC s))) (some (.sh (zaC t))) d e) = some (.nx, dueE (zb1 bs ss js us ls ks h) (ps ++ [(s, t)].filter (due js)) (some (.sh (.int i))) (some (.sh (zaC s))) (some (.sh (zaC t))) d' e') := by
  have gs := g.s s hs
  have gt := g.s t ht
  have hjn : ∀ j ∈ js, zaQ j.nm = true /\ ∀ x ∈ j.ms, zaQ x = true := fun j hj => ⟨(g.j j hj).nm, fun y hy => g.snn y ((g.j j hj).ms y hy)⟩
  have e5 : za3 (zaO (itF (b2 ixD (vSh 0) (vC (.int 2)))) (zaP 0) (andT (toB (b2 inXD (b2 ixD (vSh 1) (vC (.int 0))) (b2 ixD (vSh 0) (vC (.int 4))))) (toB (b2 inXD (b2 ixD (vSh 2) (vC (.int 0))) (b2 ixD (vSh 0) (vC (.int 4)))))) (vSh 0) [none, some 3, some 4]) (dueE (zb1 bs ss js us ls ks h) ps (some (.sh (.int i))) (some (.sh (zaC s))) (some (.sh (zaC t))) d e) = some (.lst ((js.filter (both s.nm t.nm)).map zbu)) := by
    have e0 : itF (b2 ixD (vSh 0) (vC (.int 2))) (dueE (zb1 bs ss js us ls ks h) ps (some (.sh (.int i))) (some (.sh (zaC s))) (some (.sh (zaC t))) d e) = some (js.map zbu) := by
      have : b2 ixD (vSh 0) (vC (.int 2)) (dueE (zb1 bs ss js us ls ks h) ps (some (.sh (.int i))) (some (.sh (zaC s))) (some (.sh (zaC t))) d e) = some (.lst (js.map zbu)) := zaw rfl rfl (ixL _ 2)
      unfold itF
      rw [this]; rfl
    have key : ∀ (l : List JobT) (a : Option Slot), (∀ j ∈ l, j ∈ js) -> compL (zaP 0) (andT (toB (b2 inXD (b2 ixD (vSh 1) (vC (.int 0))) (b2 ixD (vSh 0) (vC (.int 4))))) (toB (b2 inXD (b2 ixD (vSh 2) (vC (.int 0))) (b2 ixD (vSh 0) (vC (.int 4)))))) (vSh 0) (l.map zbu) (a :: [some (.sh (zaC s)), some (.sh (zaC t))]) = some ((l.filter (both s.nm t.nm)).map zbu) := by
      intro l
      induction l with
      | nil => intro a _; rfl
      | cons j r ih =>
        intro a hj
        have hn := (hjn j (hj j List.mem_cons_self)).2
        have eT : andT (toB (b2 inXD (b2 ixD (vSh 1) (vC (.int 0))) (b2 ixD (vSh 0) (vC (.int 4))))) (toB (b2 inXD (b2 ixD (vSh 2) (vC (.int 0))) (b2 ixD (vSh 0) (vC (.int 4))))) (some (.sh (zbu j)) :: [some (.sh (zaC s)), some (.sh (zaC t))]) = some (both s.nm t.nm j) :=
          andT_of (zaZ (zaw (zaw rfl rfl ixD0) (zaw rfl rfl ixD4) (in_strs gs.nm hn))) (zaZ (zaw (zaw rfl rfl ixD0) (zaw rfl rfl ixD4) (in_strs gt.nm hn)))
        have ih' := ih (some (.sh (zbu j))) fun y hy => hj y (List.mem_cons_of_mem _ hy)
        have e0 : zaP 0 (zbu j) (a :: [some (.sh (zaC s)), some (.sh (zaC t))]) = some (some (.sh (zbu j)) :: [some (.sh (zaC s)), some (.sh (zaC t))]) := rfl
        have e1 : vSh 0 (some (.sh (zbu j)) :: [some (.sh (zaC s)), some (.sh (zaC t))]) = some (zbu j) := rfl
        rw [List.map_cons, List.filter_cons]
        cases hb : both s.nm t.nm j with
        | true =>
          rw [hb] at eT
          simp only [compL, e0, Option.bind_some, eT, if_true, e1, ih', Option.map_some, List.map_cons]
        | false =>
          rw [hb] at eT
          simp only [compL, e0, Option.bind_some, eT, Bool.false_eq_true, if_false, ih']
    have e2 : fvEnv [none, some 3, some 4] (dueE (zb1 bs ss js us ls ks h) ps (some (.sh (.int i))) (some (.sh (zaC s))) (some (.sh (zaC t))) d e) = none :: [some (.sh (zaC s)), some (.sh (zaC t))] := rfl
    unfold za3 zaO
    rw [e0, Option.bind_some, if_pos (by rw [List.length_map]; exact szN g.jl (by decide)), e2, key js none (fun _ z => z), Option.map_some]
  have e6 : ∀ F : Option Slot, zcZ (b2 eqD (cF zcU (zab (b2 ixD (vSh 3) (vC (.int 2))) zak)) (vC (.int 1))) (zcZ (b2 eqD (cF zcU (zab (b2 ixD (vSh 4) (vC (.int 2))) zak)) (vC (.int 1))) (b2 eqA (b2 ixD (b2 ixD (b2 ixD (vSh 3) (vC (.int 2))) (vC (.int 0))) (vC (.int 0))) (b2 ixD (b2 ixD (b2 ixD (vSh 4) (vC (.int 2))) (vC (.int 0))) (vC (.int 0))))) (dueE (zb1 bs ss js us ls ks h) ps (some (.sh (.int i))) (some (.sh (zaC s))) (some (.sh (zaC t))) F e) = some (.bl (sh s t)) := fun F =>
    and_val (len1_of (zaw rfl rfl ixD2)) (and_val (len1_of (zaw rfl rfl ixD2)) (zaw (head_of gs.l1 (zaw rfl rfl ixD2)) (head_of gt.l1 (zaw rfl rfl ixD2)) (eqA_str _ _)))
  have eT : orT (toB (b2 neA (vSh 5) (za3 (szF zak)))) (toB (vSh 6)) (dueE (zb1 bs ss js us ls ks h) ps (some (.sh (.int i))) (some (.sh (zaC s))) (some (.sh (zaC t))) (some (.sh (.lst ((js.filter (both s.nm t.nm)).map zbu)))) (some (.sh (.bl (sh s t))))) = some (due js (s, t)) :=
    orT_of (zaZ (zaw rfl (y := .lst []) rfl (neA_jobs fun j hj => hjn j (List.mem_filter.mp hj).1))) (zaZ rfl)
  by_cases hm : due js (s, t) = true
  · refine ⟨some (.sh (.lst ((js.filter (both s.nm t.nm)).map zbu))), some (.sh (.bl (sh s t))), (zaF e5).trans ((zaF (e6 _)).trans ((if_of eT).trans ((if_pos hm).trans ((app_big (x := (s, t)) rfl (zcH (zaw rfl rfl ixD0) (zaw rfl rfl ixD0)) hp).trans ?_))))⟩
    rw [List.filter_cons, if_pos hm]
    rfl
  · refine ⟨some (.sh (.lst ((js.filter (both s.nm t.nm)).map zbu))), some (.sh (.bl (sh s t))), (zaF e5).trans ((zaF (e6 _)).trans ((if_of eT).trans ((if_neg hm).trans ?_)))⟩
    rw [List.filter_cons, if_neg hm]
    simp only [List.filter_nil, List.append_nil]
    rfl
theorem due_ok (g : Good bs ss js us ls ks h) : zch [zb1 bs ss js us ls ks h] = some (.lst (((prS ss).filter (due js)).map dP)) := by
  have hl := g.sl.2
  have hpl := prS_len (ss := ss) (n := 40) hl
  have hfl : ((prS ss).filter (due js)).length <= 1600 := filt_len (by omega)
  obtain ⟨ρ', h1, ps, a, b, c, d, e, h2, h3⟩ := zb2 (gg := zcs 2 (zaG (zaP 2) (zaG (zaP 3) zcr))) (body := sFor (itF (slF (b2 ixD (vSh 0) (vC (.int 1))) (pS (b2 zbo (vSh 2) (vC (.int 1)))) pN)) (zaP 4) dueIn) (xs := (ss.map zaC).mapIdx fun i d => D.tup [.int i, d]) (ρ := dueE (zb1 bs ss js us ls ks h) [] none none none none none)
    (fun i ρ => ∃ ps a b c d e, ρ = dueE (zb1 bs ss js us ls ks h) ps a b c d e /\ ps ++ (prS (ss.drop i)).filter (due js) = (prS ss).filter (due js)) ⟨[], none, none, none, none, none, rfl, rfl⟩ (fun i x ρ hx hI => by
      obtain ⟨ps, a, b, c, d, e, rfl, hps⟩ := hI
      obtain ⟨y, hy, rfl⟩ := zdv hx
      rw [List.getElem?_map] at hy
      obtain ⟨s, hsi, rfl⟩ := Option.map_eq_some_iff.mp hy
      have hs : s ∈ ss := List.mem_of_getElem? hsi
      have hdr := drop_at hsi
      have hpsl : ps.length <= 1600 := by
        have := congrArg List.length hps
        rw [List.length_append] at this
        omega
      have e0 : itF (slF (b2 ixD (vSh 0) (vC (.int 1))) (pS (b2 zbo (vSh 2) (vC (.int 1)))) pN) (dueE (zb1 bs ss js us ls ks h) ps (some (.sh (.int i))) (some (.sh (zaC s))) c d e) = some ((ss.drop (i + 1)).map zaC) := by
        have := sl_lo (f := b2 ixD (vSh 0) (vC (.int 1))) (g := b2 zbo (vSh 2) (vC (.int 1))) (ρ := dueE (zb1 bs ss js us ls ks h) ps (some (.sh (.int i))) (some (.sh (zaC s))) c d e) (xs := ss.map zaC) (d := (i : Int) + 1) (zaw rfl rfl (ixL _ 1)) (zaw rfl rfl rfl) (by omega)
        unfold itF
        rw [this]
        show some _ = _
        rw [show ((i : Int) + 1).toNat = i + 1 by omega, List.map_drop]
      obtain ⟨ρ2, k1, c', d', e', k2⟩ := zb2 (gg := zaP 4) (body := dueIn) (xs := (ss.drop (i + 1)).map zaC) (ρ := dueE (zb1 bs ss js us ls ks h) ps (some (.sh (.int i))) (some (.sh (zaC s))) c d e)
        (fun k ρ => ∃ c d e, ρ = dueE (zb1 bs ss js us ls ks h) (ps ++ (((ss.drop (i + 1)).take k).map fun t => (s, t)).filter (due js)) (some (.sh (.int i))) (some (.sh (zaC s))) c d e) ⟨c, d, e, by simp⟩ (fun k x ρ hx hI => by
          obtain ⟨c, d, e, rfl⟩ := hI
          rw [List.getElem?_map] at hx
          obtain ⟨t, hti, rfl⟩ := Option.map_eq_some_iff.mp hx
          have ht : t ∈ ss := List.mem_of_mem_drop (List.mem_of_getElem? hti)
          have tk : (ss.drop (i + 1)).take (k + 1) = (ss.drop (i + 1)).take k ++ [t] := by rw [List.take_add_one, hti]; rfl
          have hq : ((((ss.drop (i + 1)).take k).map fun t => (s, t)).filter (due js)).length <= 40 := filt_len (by rw [List.length_map, List.length_take, List.length_drop]; omega)
          obtain ⟨d', e', q⟩ := due_in (i := i) (s := s) (t := t) (ps := ps ++ (((ss.drop (i + 1)).take k).map fun t => (s, t)).filter (due js)) (d := d) (e := e) g hs ht (by rw [List.length_append]; omega)
          refine ⟨_, _, rfl, q, some (.sh (zaC t)), d', e', ?_⟩
          rw [tk, List.map_append, List.filter_append, List.append_assoc]
          rfl)
      rw [List.length_map, List.take_length] at k2
      refine ⟨_, _, rfl, (zdg e0).trans (k1.trans (by rw [k2])), _, _, _, _, _, _, rfl, ?_⟩
      rw [← hps, hdr, List.append_assoc]
      congr 1
      show _ = (((ss.drop (i + 1)).map fun t => (s, t)) ++ prS (ss.drop (i + 1))).filter (due js)
      rw [List.filter_append])
  rw [List.length_mapIdx, List.length_map, List.drop_length] at h3
  have h4 : ps = (prS ss).filter (due js) := by rw [← h3]; simp [prS]
  rw [h4] at h2
  have eI : itE (b2 ixD (vSh 0) (vC (.int 1))) (dueE (zb1 bs ss js us ls ks h) [] none none none none none) = some ((ss.map zaC).mapIdx fun i d => D.tup [.int i, d]) := by
    have : b2 ixD (vSh 0) (vC (.int 1)) (dueE (zb1 bs ss js us ls ks h) [] none none none none none) = some (.lst (ss.map zaC)) := zaw rfl rfl (ixL _ 1)
    unfold itE
    rw [this]; rfl
  exact za0 [some (.sh (zb1 bs ss js us ls ks h)), none, none, none, none, none, none] rfl (own_of.trans ((zcN ((zdg eI).trans (h1.trans (by rw [h2])))).trans ((frz_of rfl).trans (zaU (f := vSh 1) rfl))))
theorem eqv_tups : ∀ (ts : List (List Str)), PyData.eqvAll (ts.map fun t => .tuple (t.map PyData.str)) (ts.map fun t => .tuple (t.map PyData.str)) = true
  | [] => by simp [PyData.eqvAll]
  | t :: r => by simp [PyData.eqvAll, PyData.eqv, eqv_strs, eqv_tups r]
theorem depth_tups : ∀ (ts : List (List Str)), PyData.depthAll (ts.map fun t => .tuple (t.map PyData.str)) <= 1
  | [] => by simp [PyData.depthAll]
  | t :: r => by
    have := depth_tups r
    simp only [List.map_cons, PyData.depthAll, PyData.depth, zdj]
    omega
theorem neA_same {ts : List (List Str)} (hn : ∀ y ∈ ts, ∀ x ∈ y, zaQ x = true) : neA (.lst (ts.map fun t => .tup (t.map D.str))) (.lst (ts.map fun t => .tup (t.map D.str))) = some (.bl false) := by
  have e0 : neA (.lst (ts.map fun t => .tup (t.map D.str))) (.lst (ts.map fun t => .tup (t.map D.str))) = neXD (.lst (ts.map fun t => .tup (t.map D.str))) (.lst (ts.map fun t => .tup (t.map D.str))) := rfl
  have p1 : pdD (.lst (ts.map fun t => .tup (t.map D.str))) = some (.list (ts.map fun t => .tuple (t.map PyData.str))) := by simp [pdD, pd_tups]
  have s1 : SeqAt.shaped (.list (ts.map fun t => .tuple (t.map PyData.str))) = true := by
    have := depth_tups ts
    simp [SeqAt.shaped, PyData.canLay0, lay_tups hn, PyData.depth]
    omega
  have q : PyData.eqv (.list (ts.map fun t => .tuple (t.map PyData.str))) (.list (ts.map fun t => .tuple (t.map PyData.str))) = true := by simp [PyData.eqv, eqv_tups]
  rw [e0]
  unfold neXD eqX
  rw [p1, Option.bind_some, Option.bind_some, if_pos ⟨s1, s1⟩, q]
  rfl
theorem powD_int {i j : Int} (h : 0 <= j /\ j <= 1000000 /\ i.natAbs < 2 ^ 64) : powD (.int i) (.int j) = some (.int (i ^ j.toNat)) := if_pos h
theorem law_true (ns : List Int) (hlen : ns.length <= 63) : F_law [.scr ns] = some (.bl true) := by
  have a0 : 0 <= (ns.getD 21 0) % 3 := Int.emod_nonneg _ (by decide)
  have a1 : (ns.getD 21 0) % 3 < 3 := Int.emod_lt_of_pos _ (by decide)
  have b0 : 0 <= (ns.getD 22 0) % 10 := Int.emod_nonneg _ (by decide)
  have b1 : (ns.getD 22 0) % 10 < 10 := Int.emod_lt_of_pos _ (by decide)
  obtain ⟨n, hn⟩ : ∃ n : Nat, 1 + (ns.getD 22 0) % 10 = (n : Int) := ⟨(1 + (ns.getD 22 0) % 10).toNat, by omega⟩
  have pw : powD (.int 10) (.int 6) = some (.int 1000000) := powD_int (by decide)
  obtain ⟨h, hh, hr⟩ : ∃ h : Int, ixD (.lst [.int 9, .int 40, .int 1000000]) (.int ((ns.getD 21 0) % 3)) = some (.int h) /\ (1 <= h /\ h <= 1000000) := by
    have : (ns.getD 21 0) % 3 = 0 \/ (ns.getD 21 0) % 3 = 1 \/ (ns.getD 21 0) % 3 = 2 := by omega
    rcases this with z | z | z <;> rw [z]
    · exact ⟨9, rfl, by decide⟩
    · exact ⟨40, rfl, by decide⟩
    · exact ⟨1000000, rfl, by decide⟩
  obtain ⟨bs, ss, js, us, ls, ks, e2, g, jl⟩ := lists_ok ns n h 7 (by omega) hr (by decide)
  have ml : (js.flatMap (·.ms)).length <= 300 := by
    have := flat_len (f := fun j : JobT => j.ms) (m := 40) (l := js) fun j hj => Nat.le_trans (g.j j hj).ln (by rw [List.length_map]; exact g.sl.2)
    omega
  have e1 : b2 ixD (za3 (szF (zab (vC (.int 9)) (zab (vC (.int 40)) (zab (b2 powD (vC (.int 10)) (vC (.int 6))) zak))))) (b2 zcj (cF zay (zab (vSh 0) (zab (vC (.int 21)) zak))) (vC (.int 3))) [some (.sh (.scr ns)), none, none, none, none, none, none] = some (.int h) :=
    zaw (lst3_of rfl rfl (zaw rfl rfl pw)) (zaw (zaT (zaj rfl (zaj rfl zaD)) (cell_ok ns 21)) rfl (zck (by decide))) hh
  have hdue : (prS ss).filter (due js) = (prS ss).filter (meet js) := List.filter_congr fun p _ => due_meet g.jm p
  have hX : ((prS ss).filter (meet js)).map dP = (((prS ss).filter (meet js)).map fun p => [p.1.nm, p.2.nm]).map fun t => .tup (t.map D.str) := by rw [List.map_map]; rfl
  have hnm : ∀ y ∈ ((prS ss).filter (meet js)).map (fun p => [p.1.nm, p.2.nm]), ∀ x ∈ y, zaQ x = true := fun y hy x hx => by
    obtain ⟨p, hp, rfl⟩ := List.mem_map.mp hy
    obtain ⟨m1, m2⟩ := prS_mem (List.mem_filter.mp hp).1
    simp only [List.mem_cons, List.not_mem_nil, or_false] at hx
    rcases hx with rfl | rfl
    · exact (g.s _ m1).nm
    · exact (g.s _ m2).nm
  have same := neA_same hnm
  rw [← hX] at same
  have hpl := prS_len (ss := ss) (n := 40) g.sl.2
  have hXl : (((prS ss).filter (meet js)).map dP).length < sizeLine := by
    rw [List.length_map]
    have := filt_len (p := meet js) (Nat.le_refl (prS ss).length)
    have := g.sl.2
    unfold sizeLine
    omega
  have hS := sure_ok g
  have hD := due_ok g
  rw [hdue] at hD
  generalize ((prS ss).filter (meet js)).map dP = XX at same hXl hS hD
  have hSh := shop_of g ml
  generalize zcz bs ss js us ls ks h = S at hS hSh
  generalize zb1 bs ss js us ls ks h = L at hD hSh e2
  obtain ⟨ρ', h1, a, b, h2⟩ := zb2 (gg := zaP 5) (body := (zaE (sOwn 6 (cFO zbc (zab (vSh 3) zak))) (zaE (sIf (bwT 6 (orT (zbX (toB (cF isiD (zab (vSh 6) (zab (vC (.ty "list")) zak))))) (toB (b2 neA (vSh 6) (vSh 4))))) (zba (vC (.bl false))) zci) (sApp 6 (vC .non))))) (xs := (List.range (2 : Int).toNat).map fun k : Nat => D.int (0 + k)) (ρ := [some (.sh (.scr ns)), some (.sh (.int h)), some (.sh L), some (.sh S), some (.sh (.lst XX)), none, none])
    (fun i ρ => ∃ a b, ρ = [some (.sh (.scr ns)), some (.sh (.int h)), some (.sh L), some (.sh S), some (.sh (.lst XX)), a, b]) ⟨none, none, rfl⟩ (fun i x ρ hx hI => by
      obtain ⟨a, b, rfl⟩ := hI
      have eO : cFO zbc (zab (vSh 3) zak) [some (.sh (.scr ns)), some (.sh (.int h)), some (.sh L), some (.sh S), some (.sh (.lst XX)), some (.sh x), b] = some XX := by
        unfold cFO
        rw [zaj (d := S) (ds := []) rfl zaD]
        exact hS
      have eT : bwT 6 (orT (zbX (toB (cF isiD (zab (vSh 6) (zab (vC (.ty "list")) zak))))) (toB (b2 neA (vSh 6) (vSh 4)))) [some (.sh (.scr ns)), some (.sh (.int h)), some (.sh L), some (.sh S), some (.sh (.lst XX)), some (.sh x), some (.own XX)] = some false :=
        bw_of rfl (orT_of (a := false) (b := false) (by unfold zbX; rw [zaZ (b := true) (zaT (zaj rfl (zaj rfl zaD)) (by simp only [isiD, tyD, Option.bind_some, k1, Option.map_some]))]; rfl) (zaZ (zaw rfl rfl same)))
      exact ⟨_, _, rfl, (ownF_of eO).trans ((zcI eT).trans (app_of rfl rfl hXl)), some (.sh x), some (.own (XX ++ [.non])), rfl⟩)
  have eI : itR rng1 (zab (vC (.int 2)) zak) [some (.sh (.scr ns)), some (.sh (.int h)), some (.sh L), some (.sh S), some (.sh (.lst XX)), none, none] = some ((List.range (2 : Int).toNat).map fun k : Nat => D.int (0 + k)) := itR_of (zaj rfl zaD) (rng1_ok (j := 2) (by decide))
  have e22 : b2 zbo (vC (.int 1)) (b2 zcj (cF zay (zab (vSh 0) (zab (vC (.int 22)) zak))) (vC (.int 10))) [some (.sh (.scr ns)), some (.sh (.int h)), none, none, none, none, none] = some (.int (n : Int)) :=
    zaw rfl (zaw (zaT (zaj rfl (zaj rfl zaD)) (cell_ok ns 22)) rfl (zck (by decide))) (by rw [← hn]; rfl)
  exact za0 [some (.sh (.scr ns)), none, none, none, none, none, none] rfl ((zaF e1).trans ((zaF (zaT (zaj rfl (zaj e22 (zaj rfl (zaj rfl zaD)))) e2)).trans ((zaF (zaT (zaj rfl zaD) hSh)).trans ((zaF (zaT (zaj rfl zaD) hD)).trans ((zcN ((zdg eI).trans (h1.trans (by rw [h2])))).trans (zaU (f := vC (.bl true)) rfl))))))
end
end Law
end
section
namespace Law
open PySem L2 PySem.Spec PyProof.Rows
def Gam (C_Shop : Addr) : Cn := ⟨fun c => if c = "Shop" then some C_Shop else none, none⟩
def spLaw (K : PySem.W.Frag) : Sp := fun vs H Q _ => ∃ (a : Addr) (ns : List Int), vs = [.ref a] /\ SqL K H a (ns.map V.int) /\ ns.length <= 63 /\ ∀ H', Q (.bl true) H'
theorem all_mk {l : PySem.W.OpenLaw} {w : World} {K : PySem.W.Frag} {h : Heap} {mg : Str -> Option Value} {fa : Addr} (X : K.In h) (G : h.Ns mainGlobals mg) (hfa : mg "law" = some (.ref fa))
    {C_Shop : Addr} (aC_Shop : PySem.W.nsIn K mainGlobals "Shop" = some (some (.ref C_Shop)))
    (d0 : Dfn K mg "_law_cell" s__law_cell)
    (d1 : Dfn K mg "_law_digits" zds)
    (d2 : Dfn K mg "_law_spans" s__law_spans)
    (d3 : Dfn K mg "_law_name" s__law_name)
    (d4 : Dfn K mg "_law_benches" zc4)
    (d5 : Dfn K mg "_law_steps" s__law_steps)
    (d6 : Dfn K mg "_law_jobs" s__law_jobs)
    (d7 : Dfn K mg "_law_setups" zdr)
    (d8 : Dfn K mg "_law_links" s__law_links)
    (d9 : Dfn K mg "_law_stocks" zdq)
    (d10 : Dfn K mg "_law_lists" s__law_lists)
    (d11 : Dfn K mg "is_whole" s_is_whole)
    (d12 : Dfn K mg "is_within" s_is_within)
    (d13 : Dfn K mg "is_tuple" s_is_tuple)
    (d14 : Dfn K mg "is_break" s_is_break)
    (d15 : Dfn K mg "is_list" s_is_list)
    (d16 : Dfn K mg "are_breaks" s_are_breaks)
    (d17 : Dfn K mg "is_name" s_is_name)
    (d18 : Dfn K mg "is_bench" s_is_bench)
    (d19 : Dfn K mg "are_unlike" s_are_unlike)
    (d20 : Dfn K mg "are_benches" zdo)
    (d21 : Dfn K mg "is_one_of" s_is_one_of)
    (d22 : Dfn K mg "is_way" s_is_way)
    (d23 : Dfn K mg "are_ways" s_are_ways)
    (d24 : Dfn K mg "is_step" s_is_step)
    (d25 : Dfn K mg "are_steps" s_are_steps)
    (d26 : Dfn K mg "is_job" s_is_job)
    (d27 : Dfn K mg "are_jobs" s_are_jobs)
    (d28 : Dfn K mg "is_setup" s_is_setup)
    (d29 : Dfn K mg "are_setups" s_are_setups)
    (d30 : Dfn K mg "is_link" s_is_link)
    (d31 : Dfn K mg "are_links" s_are_links)
    (d32 : Dfn K mg "is_amount" s_is_amount)
    (d33 : Dfn K mg "are_amounts" zdp)
    (d34 : Dfn K mg "is_stock" s_is_stock)
    (d35 : Dfn K mg "are_stocks" s_are_stocks)
    (d36 : Dfn K mg "first_bad_part" zcJ)
    (d37 : Dfn K mg "fresh" s_fresh)
    (d38 : DfnM K C_Shop "Shop" "__init__" "Shop.__init__" zcV)
    (d39 : Dfn K mg "_law_shop" s__law_shop)
    (d40 : Dfn K mg "_law_due" s__law_due)
    (d41 : DfnM K C_Shop "Shop" "step_names" "Shop.step_names" zcv)
    (d42 : Dfn K mg "pairs_of" s_pairs_of)
    (d43 : DfnM K C_Shop "Shop" "ways_of" "Shop.ways_of" zc5)
    (d44 : Dfn K mg "share_their_one_bench" zbD)
    (d45 : DfnM K C_Shop "Shop" "job_of" "Shop.job_of" zdt)
    (d46 : Dfn K mg "are_of_one_job" zcK)
    (d47 : Dfn K mg "sure_pairs" s_sure_pairs)
    (a48 : PySem.W.nsIn K mainGlobals "law" = some (some (.ref f48))) (l48 : K.lookup f48 = some ⟨oc48, od48, .func (PySem.W.fnOf "law" "law" (zcy s_law) (zbe s_law) (zai s_law) .none kV48 dc48 pm48 an48 cd48 ct48), sl48⟩) (c48 : PySem.W.codeIn K cd48 "law" = true) (k48 : PySem.W.keepIn K (.ref f48) = true)
    (pg_Shop : PySem.W.plainGet K C_Shop Str.empty = true) (hd_Shop : PySem.W.hasDictIn K C_Shop = true) (po_Shop : PySem.W.plainOver K C_Shop = true) (sa_Shop : PySem.W.findIn K (.ref C_Shop) "__setattr__" = some (some (.builtin "object.__setattr__"))) (mk_Shop : PySem.W.makesIn K C_Shop = true) (kc_Shop : PySem.W.keepIn K (.ref C_Shop) = true)
    (n0_Shop : PySem.W.findIn K (.ref C_Shop) "benches" = some none)
    (n1_Shop : PySem.W.findIn K (.ref C_Shop) "steps" = some none)
    (n2_Shop : PySem.W.findIn K (.ref C_Shop) "jobs" = some none)
    (n3_Shop : PySem.W.findIn K (.ref C_Shop) "setups" = some none)
    (n4_Shop : PySem.W.findIn K (.ref C_Shop) "links" = some none)
    (n5_Shop : PySem.W.findIn K (.ref C_Shop) "stocks" = some none)
    (n6_Shop : PySem.W.findIn K (.ref C_Shop) "horizon" = some none)
    (n7_Shop : PySem.W.findIn K (.ref C_Shop) "bench_by_name" = some none)
    (n8_Shop : PySem.W.findIn K (.ref C_Shop) "step_by_name" = some none)
    (n9_Shop : PySem.W.findIn K (.ref C_Shop) "setup_by_names" = some none)
    (n10_Shop : PySem.W.findIn K (.ref C_Shop) "job_by_step" = some none)
    (z_abs : PySem.W.nsIn K mainGlobals "abs" = some none)
    (z_all : PySem.W.nsIn K mainGlobals "all" = some none)
    (z_bool : PySem.W.nsIn K mainGlobals "bool" = some none)
    (z_dict : PySem.W.nsIn K mainGlobals "dict" = some none)
    (z_enumerate : PySem.W.nsIn K mainGlobals "enumerate" = some none)
    (z_int : PySem.W.nsIn K mainGlobals "int" = some none)
    (z_isinstance : PySem.W.nsIn K mainGlobals "isinstance" = some none)
    (z_len : PySem.W.nsIn K mainGlobals "len" = some none)
    (z_list : PySem.W.nsIn K mainGlobals "list" = some none)
    (z_max : PySem.W.nsIn K mainGlobals "max" = some none)
    (z_min : PySem.W.nsIn K mainGlobals "min" = some none)
    (z_range : PySem.W.nsIn K mainGlobals "range" = some none)
    (z_set : PySem.W.nsIn K mainGlobals "set" = some none)
    (z_str : PySem.W.nsIn K mainGlobals "str" = some none)
    (z_tuple : PySem.W.nsIn K mainGlobals "tuple" = some none)
    {tk_LONGEST_NAME : Tok} (z_LONGEST_NAME : PySem.W.nsIn K mainGlobals "LONGEST_NAME" = some (some (.int 8 tk_LONGEST_NAME)))
    {tk_MOST_AMOUNT : Tok} (z_MOST_AMOUNT : PySem.W.nsIn K mainGlobals "MOST_AMOUNT" = some (some (.int 1000000 tk_MOST_AMOUNT)))
    {tk_MOST_BENCHES : Tok} (z_MOST_BENCHES : PySem.W.nsIn K mainGlobals "MOST_BENCHES" = some (some (.int 8 tk_MOST_BENCHES)))
    {tk_MOST_BREAKS : Tok} (z_MOST_BREAKS : PySem.W.nsIn K mainGlobals "MOST_BREAKS" = some (some (.int 10 tk_MOST_BREAKS)))
    {tk_MOST_HORIZON : Tok} (z_MOST_HORIZON : PySem.W.nsIn K mainGlobals "MOST_HORIZON" = some (some (.int 1000000 tk_MOST_HORIZON)))
    {tk_MOST_JOBS : Tok} (z_MOST_JOBS : PySem.W.nsIn K mainGlobals "MOST_JOBS" = some (some (.int 40 tk_MOST_JOBS)))
    {tk_MOST_LINKS : Tok} (z_MOST_LINKS : PySem.W.nsIn K mainGlobals "MOST_LINKS" = some (some (.int 100 tk_MOST_LINKS)))
    {tk_MOST_SETUPS : Tok} (z_MOST_SETUPS : PySem.W.nsIn K mainGlobals "MOST_SETUPS" = some (some (.int 100 tk_MOST_SETUPS)))
    {tk_MOST_STEPS : Tok} (z_MOST_STEPS : PySem.W.nsIn K mainGlobals "MOST_STEPS" = some (some (.int 40 tk_MOST_STEPS)))
    {tk_MOST_STOCKS : Tok} (z_MOST_STOCKS : PySem.W.nsIn K mainGlobals "MOST_STOCKS" = some (some (.int 6 tk_MOST_STOCKS)))
    {tk_MOST_WAYS : Tok} (z_MOST_WAYS : PySem.W.nsIn K mainGlobals "MOST_WAYS" = some (some (.int 4 tk_MOST_WAYS)))
    : ∃ fd : FuncData, (∀ (s : Shared) (v : Value), BindsTo s fd ⟨[v], []⟩ [("_law_script", v)]) /\ ∀ base : Heap, K.In base -> base.Ns mainGlobals mg -> FnOk l.prog w K mg base CX0 12 fa fd ["_law_script"] (spLaw K) := by
  have e := hfa.symm.trans (PySem.W.mg_of X G a48)
  have e2 := Value.ref.inj (Option.some.inj e)
  subst e2
  have B : Bn mg := ⟨PySem.W.mg_none_of X G z_abs, PySem.W.mg_none_of X G z_all, PySem.W.mg_none_of X G z_bool, PySem.W.mg_none_of X G z_dict, PySem.W.mg_none_of X G z_enumerate, PySem.W.mg_none_of X G z_int, PySem.W.mg_none_of X G z_isinstance, PySem.W.mg_none_of X G z_len, PySem.W.mg_none_of X G z_list, PySem.W.mg_none_of X G z_max, PySem.W.mg_none_of X G z_min, PySem.W.mg_none_of X G z_range, PySem.W.mg_none_of X G z_set, PySem.W.mg_none_of X G z_str, PySem.W.mg_none_of X G z_tuple, by have q := PySem.W.mg_of X G z_LONGEST_NAME; rw [q]; unfold t_LONGEST_NAME; rw [q], by have q := PySem.W.mg_of X G z_MOST_AMOUNT; rw [q]; unfold t_MOST_AMOUNT; rw [q], by have q := PySem.W.mg_of X G z_MOST_BENCHES; rw [q]; unfold t_MOST_BENCHES; rw [q], by have q := PySem.W.mg_of X G z_MOST_BREAKS; rw [q]; unfold t_MOST_BREAKS; rw [q], by have q := PySem.W.mg_of X G z_MOST_HORIZON; rw [q]; unfold t_MOST_HORIZON; rw [q], by have q := PySem.W.mg_of X G z_MOST_JOBS; rw [q]; unfold t_MOST_JOBS; rw [q], by have q := PySem.W.mg_of X G z_MOST_LINKS; rw [q]; unfold t_MOST_LINKS; rw [q], by have q := PySem.W.mg_of X G z_MOST_SETUPS; rw [q]; unfold t_MOST_SETUPS; rw [q], by have q := PySem.W.mg_of X G z_MOST_STEPS; rw [q]; unfold t_MOST_STEPS; rw [q], by have q := PySem.W.mg_of X G z_MOST_STOCKS; rw [q]; unfold t_MOST_STOCKS; rw [q], by have q := PySem.W.mg_of X G z_MOST_WAYS; rw [q]; unfold t_MOST_WAYS; rw [q]⟩
  have O_Shop : ClsOk (Gam C_Shop) K mg "Shop" C_Shop := ⟨by unfold Gam; rfl, ⟨pg_Shop, hd_Shop, po_Shop, sa_Shop⟩, PySem.W.mg_of X G aC_Shop, mk_Shop, kc_Shop⟩
  have cf_Shop : CF (Gam C_Shop) K "Shop" at_Shop := O_Shop.cf (List.forall_mem_cons.mpr ⟨n0_Shop, (List.forall_mem_cons.mpr ⟨n1_Shop, (List.forall_mem_cons.mpr ⟨n2_Shop, (List.forall_mem_cons.mpr ⟨n3_Shop, (List.forall_mem_cons.mpr ⟨n4_Shop, (List.forall_mem_cons.mpr ⟨n5_Shop, (List.forall_mem_cons.mpr ⟨n6_Shop, (List.forall_mem_cons.mpr ⟨n7_Shop, (List.forall_mem_cons.mpr ⟨n8_Shop, (List.forall_mem_cons.mpr ⟨n9_Shop, (List.forall_mem_cons.mpr ⟨n10_Shop, (List.forall_mem_nil _)⟩)⟩)⟩)⟩)⟩)⟩)⟩)⟩)⟩)⟩)⟩)
  refine ⟨PySem.W.fnOf "law" "law" (zcy s_law) (zbe s_law) (zai s_law) .none kV48 dc48 pm48 an48 cd48 ct48, fun s v => .of_eq rfl, fun base _ _ => ?_⟩
  have C__law_cell : Cal (Gam C_Shop) l.prog w K mg base "_law_cell" 2 1 zay := cal__law_cell d0 B
  have C__law_digits : Cal (Gam C_Shop) l.prog w K mg base "_law_digits" 3 1 zah := cal__law_digits d1 B
  have C__law_spans : Cal (Gam C_Shop) l.prog w K mg base "_law_spans" 2 1 zbj := cal__law_spans d2 B
  have C__law_name : Cal (Gam C_Shop) l.prog w K mg base "_law_name" 1 1 zaq := cal__law_name d3 B
  have C__law_benches : Cal (Gam C_Shop) l.prog w K mg base "_law_benches" 2 2 zbd := cal__law_benches d4 B C__law_digits C__law_spans C__law_name
  have C__law_steps : Cal (Gam C_Shop) l.prog w K mg base "_law_steps" 4 2 zbz := cal__law_steps d5 B C__law_digits C__law_name
  have C__law_jobs : Cal (Gam C_Shop) l.prog w K mg base "_law_jobs" 3 2 zbN := cal__law_jobs d6 B C__law_digits C__law_name
  have C__law_setups : Cal (Gam C_Shop) l.prog w K mg base "_law_setups" 3 2 zbk := cal__law_setups d7 B C__law_digits
  have C__law_links : Cal (Gam C_Shop) l.prog w K mg base "_law_links" 3 2 zbB := cal__law_links d8 B C__law_digits
  have C__law_stocks : Cal (Gam C_Shop) l.prog w K mg base "_law_stocks" 2 2 zbi := cal__law_stocks d9 B C__law_digits C__law_name
  have C__law_lists : Cal (Gam C_Shop) l.prog w K mg base "_law_lists" 4 3 zbA := cal__law_lists d10 B C__law_cell C__law_benches C__law_steps C__law_jobs C__law_setups C__law_links C__law_stocks
  have C_is_whole : Cal (Gam C_Shop) l.prog w K mg base "is_whole" 1 1 zbS := cal_is_whole d11 B
  have C_is_within : Cal (Gam C_Shop) l.prog w K mg base "is_within" 3 2 zal := cal_is_within d12 B C_is_whole
  have C_is_tuple : Cal (Gam C_Shop) l.prog w K mg base "is_tuple" 2 1 zam := cal_is_tuple d13 B
  have C_is_break : Cal (Gam C_Shop) l.prog w K mg base "is_break" 2 3 zbV := cal_is_break d14 B C_is_within C_is_tuple
  have C_is_list : Cal (Gam C_Shop) l.prog w K mg base "is_list" 3 1 zao := cal_is_list d15 B
  have C_are_breaks : Cal (Gam C_Shop) l.prog w K mg base "are_breaks" 2 4 zby := cal_are_breaks d16 B C_is_break C_is_list
  have C_is_name : Cal (Gam C_Shop) l.prog w K mg base "is_name" 1 1 zav := cal_is_name d17 B
  have C_is_bench : Cal (Gam C_Shop) l.prog w K mg base "is_bench" 2 5 zbW := cal_is_bench d18 B C_are_breaks C_is_name C_is_tuple
  have C_are_unlike : Cal (Gam C_Shop) l.prog w K mg base "are_unlike" 1 1 zag := cal_are_unlike d19 B
  have C_are_benches : Cal (Gam C_Shop) l.prog w K mg base "are_benches" 2 6 zbh := cal_are_benches d20 B C_is_bench C_is_list C_are_unlike
  have C_is_one_of : Cal (Gam C_Shop) l.prog w K mg base "is_one_of" 2 2 zas := cal_is_one_of d21 B C_is_name
  have C_is_way : Cal (Gam C_Shop) l.prog w K mg base "is_way" 3 3 zcT := cal_is_way d22 B C_is_within C_is_one_of C_is_tuple
  have C_are_ways : Cal (Gam C_Shop) l.prog w K mg base "are_ways" 3 4 zcf := cal_are_ways d23 B C_is_way C_is_list C_are_unlike
  have C_is_step : Cal (Gam C_Shop) l.prog w K mg base "is_step" 3 5 zcp := cal_is_step d24 B C_is_name C_is_tuple C_are_ways
  have C_are_steps : Cal (Gam C_Shop) l.prog w K mg base "are_steps" 3 6 zbK := cal_are_steps d25 B C_is_step C_is_list C_are_unlike
  have C_is_job : Cal (Gam C_Shop) l.prog w K mg base "is_job" 3 3 zc3 := cal_is_job d26 B C_is_name C_is_tuple C_is_within C_is_one_of C_is_list
  have C_are_jobs : Cal (Gam C_Shop) l.prog w K mg base "are_jobs" 3 4 zcg := cal_are_jobs d27 B C_is_job C_is_list C_are_unlike
  have C_is_setup : Cal (Gam C_Shop) l.prog w K mg base "is_setup" 3 3 zbU := cal_is_setup d28 B C_is_one_of C_is_tuple C_is_within C_is_name
  have C_are_setups : Cal (Gam C_Shop) l.prog w K mg base "are_setups" 3 4 zbx := cal_are_setups d29 B C_is_setup C_is_list C_are_unlike
  have C_is_link : Cal (Gam C_Shop) l.prog w K mg base "is_link" 3 3 zcq := cal_is_link d30 B C_is_one_of C_is_tuple C_is_within
  have C_are_links : Cal (Gam C_Shop) l.prog w K mg base "are_links" 3 4 zbL := cal_are_links d31 B C_is_link C_is_list C_are_unlike
  have C_is_amount : Cal (Gam C_Shop) l.prog w K mg base "is_amount" 2 3 zbE := cal_is_amount d32 B C_is_within C_is_one_of C_is_tuple
  have C_are_amounts : Cal (Gam C_Shop) l.prog w K mg base "are_amounts" 2 4 zbb := cal_are_amounts d33 B C_is_amount C_is_list C_are_unlike
  have C_is_stock : Cal (Gam C_Shop) l.prog w K mg base "is_stock" 2 5 zbT := cal_is_stock d34 B C_is_name C_is_tuple C_is_within C_are_amounts
  have C_are_stocks : Cal (Gam C_Shop) l.prog w K mg base "are_stocks" 2 6 zbw := cal_are_stocks d35 B C_is_stock C_is_list C_are_unlike
  have C_first_bad_part : Cal (Gam C_Shop) l.prog w K mg base "first_bad_part" 7 7 zaW := cal_first_bad_part d36 B C_is_within C_are_benches C_are_steps C_are_jobs C_are_setups C_are_links C_are_stocks
  have C_fresh : ∀ n, Cal (Gam C_Shop) l.prog w K mg base "fresh" 1 n (zdb n) := fun n => by
    induction n with
    | zero => exact Dfn.none (ps := ["thing"]) d37 (fun _ _ _ _ _ _ us hl => match us, hl with | [_], _ => rfl)
    | succ n ih => exact cal_fresh d37 B ih
  replace C_fresh : Cal (Gam C_Shop) l.prog w K mg base "fresh" 1 8 zaR := C_fresh 8
  have C_Shop___init__ : CalI (Gam C_Shop) l.prog w K mg base "Shop" 7 9 za7 := cal_Shop___init__ O_Shop d38 B C_first_bad_part C_fresh cf_Shop
  have C__law_shop : Cal (Gam C_Shop) l.prog w K mg base "_law_shop" 1 11 zbM := cal__law_shop d39 B C_Shop___init__
  have C__law_due : Cal (Gam C_Shop) l.prog w K mg base "_law_due" 1 1 zch := cal__law_due d40 B
  have C_Shop_step_names : CalM (Gam C_Shop) l.prog w K mg base "Shop" "step_names" 1 1 zaJ := cal_Shop_step_names O_Shop d41 B cf_Shop
  have C_pairs_of : Cal (Gam C_Shop) l.prog w K mg base "pairs_of" 1 1 zbI := cal_pairs_of d42 B
  have C_Shop_ways_of : CalM (Gam C_Shop) l.prog w K mg base "Shop" "ways_of" 2 9 za5 := cal_Shop_ways_of O_Shop d43 B C_fresh cf_Shop
  have C_share_their_one_bench : Cal (Gam C_Shop) l.prog w K mg base "share_their_one_bench" 3 10 zaA := zda d44 B C_Shop_ways_of
  have C_Shop_job_of : CalM (Gam C_Shop) l.prog w K mg base "Shop" "job_of" 2 9 zbl := cal_Shop_job_of O_Shop d45 B C_fresh cf_Shop
  have C_are_of_one_job : Cal (Gam C_Shop) l.prog w K mg base "are_of_one_job" 3 10 zaN := cal_are_of_one_job d46 B C_Shop_job_of
  have C_sure_pairs : CalO (Gam C_Shop) l.prog w K mg base "sure_pairs" 1 11 zbc := cal_sure_pairs d47 B C_Shop_step_names C_pairs_of C_share_their_one_bench C_are_of_one_job
  have FL := fun_mk (st := s_law) l48 c48 k48
  have ok : FnOk l.prog w K mg base CX0 12 fa _ ["_law_script"] (spF (Gam C_Shop) K 1 F_law) := FL.okD (k := 11) sc_law (bod_law B C__law_cell C__law_lists C__law_shop C__law_due C_sure_pairs fa)
  refine ok.imp fun vs H Q E hq => ?_
  obtain ⟨a, ns, rfl, hS, hlen, k⟩ := hq
  exact ⟨H, [.scr ns], .bl true, zb9.refl H, .cons (.scr hS) .nil, rfl, law_true ns hlen, fun v G' H' _ r => by rw [r.bl_inv]; exact k H'⟩
theorem walk {l : PySem.W.OpenLaw} {q : Program} {loose : List Str} {XP : (Str -> Option Value) -> Heap -> Prop} {YP : World -> Heap -> Prop} {d : DefRec} {K : Params -> PySem.W.Frag} (hn : l.most = some 63) (hdf : d.params.defaults = [])
    (hY : ∀ (w : World) (h : Heap), YP w h -> (K w.params).In h)
    (F : ∀ (w : World) (mg : Str -> Option Value) (fa : Addr) (h : Heap), (K w.params).In h -> h.Ns mainGlobals mg -> mg d.name = some (.ref fa) ->
      ∃ fd : FuncData, (∀ (s : Shared) (u : Value), BindsTo s fd ⟨[u], []⟩ [("_law_script", u)]) /\ ∀ base : Heap, (K w.params).In base -> base.Ns mainGlobals mg -> FnOk l.prog w (K w.params) mg base CX0 12 fa fd ["_law_script"] (spLaw (K w.params))) :
    PySem.W.WalkO q loose XP YP l.row.toRowW d [] (fun f vs => PySem.call f vs) :=
  L2.walk_of (n := 63) (k := 12) (x := "_law_script") (CX := fun _ => CX0) (sp := fun w => spLaw (K w.params)) hn (by decide) hdf ⟨rfl, by decide, by decide⟩ hY F (fun _ _ a ns hl _ hS => ⟨a, ns, rfl, hS, hl, fun _ => rfl⟩) fun _ _ _ _ _ z => z
end Law
def PySem.W.Fast.tw4741597514777048145 : Unit := ()
def PySem.W.Fast.tw8261492935610762653 : Unit := ()
def PySem.W.Fast.tw10663729375079714942 : Unit := ()
def PySem.W.Fast.tw14234309085498263168 : Unit := ()
def PySem.W.Fast.tw4518807780995812280 : Unit := ()
def PySem.W.Fast.tw1127558204724933216 : Unit := ()
def PySem.W.Fast.tw1503687632537778976 : Unit := ()
def PySem.W.Fast.tw5616905731787624851 : Unit := ()
def PySem.W.Fast.tw17324734014446626790 : Unit := ()
def PySem.W.Fast.tw10962237091946879517 : Unit := ()
open PySem PySem.W PyProof.Rows L2
set_option maxRecDepth 100000 in
set_option maxHeartbeats 0 in
theorem PySem.Challenge.cw_shopbound_k25_pairs_that_meet_holds : PySem.Challenge.rw_shopbound_k25_pairs_that_meet.Holds := by
  w_on; o_law; k_head; (case hw => w_witness2)
  k_fill
  refine Law.walk (l := PySem.Challenge.rw_shopbound_k25_pairs_that_meet) rfl rfl (fun w h Y => PySem.W.kIn_of Y) ?F
  case F =>
    intro w mg fa h KX G hmg
    refine' Law.all_mk KX G hmg ?aC_Shop ?d0 ?d1 ?d2 ?d3 ?d4 ?d5 ?d6 ?d7 ?d8 ?d9 ?d10 ?d11 ?d12 ?d13 ?d14 ?d15 ?d16 ?d17 ?d18 ?d19 ?d20 ?d21 ?d22 ?d23 ?d24 ?d25 ?d26 ?d27 ?d28 ?d29 ?d30 ?d31 ?d32 ?d33 ?d34 ?d35 ?d36 ?d37 ?d38 ?d39 ?d40 ?d41 ?d42 ?d43 ?d44 ?d45 ?d46 ?d47 ?a48 ?l48 ?c48 ?k48 ?pg_Shop ?hd_Shop ?po_Shop ?sa_Shop ?mk_Shop ?kc_Shop ?n0_Shop ?n1_Shop ?n2_Shop ?n3_Shop ?n4_Shop ?n5_Shop ?n6_Shop ?n7_Shop ?n8_Shop ?n9_Shop ?n10_Shop ?z_abs ?z_all ?z_bool ?z_dict ?z_enumerate ?z_int ?z_isinstance ?z_len ?z_list ?z_max ?z_min ?z_range ?z_set ?z_str ?z_tuple ?z_LONGEST_NAME ?z_MOST_AMOUNT ?z_MOST_BENCHES ?z_MOST_BREAKS ?z_MOST_HORIZON ?z_MOST_JOBS ?z_MOST_LINKS ?z_MOST_SETUPS ?z_MOST_STEPS ?z_MOST_STOCKS ?z_MOST_WAYS
    (case aC_Shop => k_is)
    (case d0 => refine' Dfn.mk' KX G ?a ?l ?c ?k; (case a => k_is); (case l => k_is); (case c => k_is); (case k => k_is))
    (case d1 => refine' Dfn.mk' KX G ?a ?l ?c ?k; (case a => k_is); (case l => k_is); (case c => k_is); (case k => k_is))
    (case d2 => refine' Dfn.mk' KX G ?a ?l ?c ?k; (case a => k_is); (case l => k_is); (case c => k_is); (case k => k_is))
    (case d3 => refine' Dfn.mk' KX G ?a ?l ?c ?k; (case a => k_is); (case l => k_is); (case c => k_is); (case k => k_is))
    (case d4 => refine' Dfn.mk' KX G ?a ?l ?c ?k; (case a => k_is); (case l => k_is); (case c => k_is); (case k => k_is))
    (case d5 => refine' Dfn.mk' KX G ?a ?l ?c ?k; (case a => k_is); (case l => k_is); (case c => k_is); (case k => k_is))
    (case d6 => refine' Dfn.mk' KX G ?a ?l ?c ?k; (case a => k_is); (case l => k_is); (case c => k_is); (case k => k_is))
    (case d7 => refine' Dfn.mk' KX G ?a ?l ?c ?k; (case a => k_is); (case l => k_is); (case c => k_is); (case k => k_is))
    (case d8 => refine' Dfn.mk' KX G ?a ?l ?c ?k; (case a => k_is); (case l => k_is); (case c => k_is); (case k => k_is))
    (case d9 => refine' Dfn.mk' KX G ?a ?l ?c ?k; (case a => k_is); (case l => k_is); (case c => k_is); (case k => k_is))
    (case d10 => refine' Dfn.mk' KX G ?a ?l ?c ?k; (case a => k_is); (case l => k_is); (case c => k_is); (case k => k_is))
    (case d11 => refine' Dfn.mk' KX G ?a ?l ?c ?k; (case a => k_is); (case l => k_is); (case c => k_is); (case k => k_is))
    (case d12 => refine' Dfn.mk' KX G ?a ?l ?c ?k; (case a => k_is); (case l => k_is); (case c => k_is); (case k => k_is))
    (case d13 => refine' Dfn.mk' KX G ?a ?l ?c ?k; (case a => k_is); (case l => k_is); (case c => k_is); (case k => k_is))
    (case d14 => refine' Dfn.mk' KX G ?a ?l ?c ?k; (case a => k_is); (case l => k_is); (case c => k_is); (case k => k_is))
    (case d15 => refine' Dfn.mk' KX G ?a ?l ?c ?k; (case a => k_is); (case l => k_is); (case c => k_is); (case k => k_is))
    (case d16 => refine' Dfn.mk' KX G ?a ?l ?c ?k; (case a => k_is); (case l => k_is); (case c => k_is); (case k => k_is))
    (case d17 => refine' Dfn.mk' KX G ?a ?l ?c ?k; (case a => k_is); (case l => k_is); (case c => k_is); (case k => k_is))
    (case d18 => refine' Dfn.mk' KX G ?a ?l ?c ?k; (case a => k_is); (case l => k_is); (case c => k_is); (case k => k_is))
    (case d19 => refine' Dfn.mk' KX G ?a ?l ?c ?k; (case a => k_is); (case l => k_is); (case c => k_is); (case k => k_is))
    (case d20 => refine' Dfn.mk' KX G ?a ?l ?c ?k; (case a => k_is); (case l => k_is); (case c => k_is); (case k => k_is))
    (case d21 => refine' Dfn.mk' KX G ?a ?l ?c ?k; (case a => k_is); (case l => k_is); (case c => k_is); (case k => k_is))
    (case d22 => refine' Dfn.mk' KX G ?a ?l ?c ?k; (case a => k_is); (case l => k_is); (case c => k_is); (case k => k_is))
    (case d23 => refine' Dfn.mk' KX G ?a ?l ?c ?k; (case a => k_is); (case l => k_is); (case c => k_is); (case k => k_is))
    (case d24 => refine' Dfn.mk' KX G ?a ?l ?c ?k; (case a => k_is); (case l => k_is); (case c => k_is); (case k => k_is))
    (case d25 => refine' Dfn.mk' KX G ?a ?l ?c ?k; (case a => k_is); (case l => k_is); (case c => k_is); (case k => k_is))
    (case d26 => refine' Dfn.mk' KX G ?a ?l ?c ?k; (case a => k_is); (case l => k_is); (case c => k_is); (case k => k_is))
    (case d27 => refine' Dfn.mk' KX G ?a ?l ?c ?k; (case a => k_is); (case l => k_is); (case c => k_is); (case k => k_is))
    (case d28 => refine' Dfn.mk' KX G ?a ?l ?c ?k; (case a => k_is); (case l => k_is); (case c => k_is); (case k => k_is))
    (case d29 => refine' Dfn.mk' KX G ?a ?l ?c ?k; (case a => k_is); (case l => k_is); (case c => k_is); (case k => k_is))
    (case d30 => refine' Dfn.mk' KX G ?a ?l ?c ?k; (case a => k_is); (case l => k_is); (case c => k_is); (case k => k_is))
    (case d31 => refine' Dfn.mk' KX G ?a ?l ?c ?k; (case a => k_is); (case l => k_is); (case c => k_is); (case k => k_is))
    (case d32 => refine' Dfn.mk' KX G ?a ?l ?c ?k; (case a => k_is); (case l => k_is); (case c => k_is); (case k => k_is))
    (case d33 => refine' Dfn.mk' KX G ?a ?l ?c ?k; (case a => k_is); (case l => k_is); (case c => k_is); (case k => k_is))
    (case d34 => refine' Dfn.mk' KX G ?a ?l ?c ?k; (case a => k_is); (case l => k_is); (case c => k_is); (case k => k_is))
    (case d35 => refine' Dfn.mk' KX G ?a ?l ?c ?k; (case a => k_is); (case l => k_is); (case c => k_is); (case k => k_is))
    (case d36 => refine' Dfn.mk' KX G ?a ?l ?c ?k; (case a => k_is); (case l => k_is); (case c => k_is); (case k => k_is))
    (case d37 => refine' Dfn.mk' KX G ?a ?l ?c ?k; (case a => k_is); (case l => k_is); (case c => k_is); (case k => k_is))
    (case d38 => refine' DfnM.mk' ?a ?i ?l ?c ?k; (case a => k_is); (case i => k_is); (case l => k_is); (case c => k_is); (case k => k_is))
    (case d39 => refine' Dfn.mk' KX G ?a ?l ?c ?k; (case a => k_is); (case l => k_is); (case c => k_is); (case k => k_is))
    (case d40 => refine' Dfn.mk' KX G ?a ?l ?c ?k; (case a => k_is); (case l => k_is); (case c => k_is); (case k => k_is))
    (case d41 => refine' DfnM.mk' ?a ?i ?l ?c ?k; (case a => k_is); (case i => k_is); (case l => k_is); (case c => k_is); (case k => k_is))
    (case d42 => refine' Dfn.mk' KX G ?a ?l ?c ?k; (case a => k_is); (case l => k_is); (case c => k_is); (case k => k_is))
    (case d43 => refine' DfnM.mk' ?a ?i ?l ?c ?k; (case a => k_is); (case i => k_is); (case l => k_is); (case c => k_is); (case k => k_is))
    (case d44 => refine' Dfn.mk' KX G ?a ?l ?c ?k; (case a => k_is); (case l => k_is); (case c => k_is); (case k => k_is))
    (case d45 => refine' DfnM.mk' ?a ?i ?l ?c ?k; (case a => k_is); (case i => k_is); (case l => k_is); (case c => k_is); (case k => k_is))
    (case d46 => refine' Dfn.mk' KX G ?a ?l ?c ?k; (case a => k_is); (case l => k_is); (case c => k_is); (case k => k_is))
    (case d47 => refine' Dfn.mk' KX G ?a ?l ?c ?k; (case a => k_is); (case l => k_is); (case c => k_is); (case k => k_is))
    (case a48 => k_is)
    (case l48 => k_is)
    (case c48 => k_is)
    (case k48 => k_is)
    (case pg_Shop => k_is)
    (case hd_Shop => k_is)
    (case po_Shop => k_is)
    (case sa_Shop => k_is)
    (case mk_Shop => k_is)
    (case kc_Shop => k_is)
    (case n0_Shop => k_is)
    (case n1_Shop => k_is)
    (case n2_Shop => k_is)
    (case n3_Shop => k_is)
    (case n4_Shop => k_is)
    (case n5_Shop => k_is)
    (case n6_Shop => k_is)
    (case n7_Shop => k_is)
    (case n8_Shop => k_is)
    (case n9_Shop => k_is)
    (case n10_Shop => k_is)
    (case z_abs => k_is)
    (case z_all => k_is)
    (case z_bool => k_is)
    (case z_dict => k_is)
    (case z_enumerate => k_is)
    (case z_int => k_is)
    (case z_isinstance => k_is)
    (case z_len => k_is)
    (case z_list => k_is)
    (case z_max => k_is)
    (case z_min => k_is)
    (case z_range => k_is)
    (case z_set => k_is)
    (case z_str => k_is)
    (case z_tuple => k_is)
    (case z_LONGEST_NAME => k_is)
    (case z_MOST_AMOUNT => k_is)
    (case z_MOST_BENCHES => k_is)
    (case z_MOST_BREAKS => k_is)
    (case z_MOST_HORIZON => k_is)
    (case z_MOST_JOBS => k_is)
    (case z_MOST_LINKS => k_is)
    (case z_MOST_SETUPS => k_is)
    (case z_MOST_STEPS => k_is)
    (case z_MOST_STOCKS => k_is)
    (case z_MOST_WAYS => k_is)
end
