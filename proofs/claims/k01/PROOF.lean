import PyProof.Rows.All
import Wide.All
import OpenK.AllK
import Wide.FinOn
import Lean
import PyProof.EqAt
import PyProof.EqKinds
import PyProof.TupleCall
import KE.KDictOf
import PyProof.AttrMiss
import PyProof.IsiH_list
import PySem.SetOps
import PySem.Challenge.RW_shopbound_k01_shops_tell_their_lists
set_option Elab.async false
set_option linter.all false
set_option maxRecDepth 100000
theorem oBd {α:Type u} {β:Type v} {o:Option α} {f:α->Option β} {b:β} (h:o.bind f=some b):∃ a,o=some a/\f a=some b:=Option.bind_eq_some_iff.mp h
theorem oMd {α:Type u} {β:Type v} {o:Option α} {f:α->β} {b:β} (h:o.map f=some b):∃ a,o=some a/\f a=b:=Option.map_eq_some_iff.mp h
noncomputable section
section
open PySem PySem.Spec PyProof.Rows
def qa:=@Option.bind_some
def qb:=@List.getElem?_cons_zero
def qc:=@List.getElem?_cons_succ
def qd:=@Option.map_some
def qe:=@List.length_map
def qf:=@List.mem_cons_self
def qg:=@List.mem_cons_of_mem
def qh:=@List.length_cons
def qi:=@List.length_append
def qj:=@List.getElem?_map
def qk:=@List.length_nil
def ql:=@List.map_cons
def qm:=@List.map_map
def qo:=@List.cons_append
def qp:=@Bool.false_eq_true
def qq:=@Bool.false_ne_true
def qr:=@Heap.get?_push_of_some
def qt:=@Heap.lt_size
def qu:=@Nat.le_refl
def qv:=@wpAny_bind
def qw:=@List.getElem?_set_ne
def qx:=@List.getElem?_append_left
def qy:=@wpAny_pure
def qz:=@List.size_toArray
def qA:=@Nat.ne_of_lt
def qB:=@List.getElem?_eq_getElem
def qC:=@List.length_take
def qD:=@Nat.lt_of_lt_of_le
def qE:=@Heap.get?_push_size
def qF:=@Option.some.inj
def qG:=@Array.getElem?_toList
def qH:=@List.not_mem_nil
def qI:=@List.getElem?_append_right
def qJ:=@List.mem_cons
def qK:=@Nat.le_trans
def qL:=@decide_eq_false
def qM:=@List.map_nil
def qN:=@List.mem_of_getElem?
def qO:=@List.mem_append_right
def qP:=@List.nil_append
def qQ:=@decide_eq_true
def qR:=@List.length_range
def qS:=@Int.emod_lt_of_pos
def qT:=@List.length_singleton
def qU:=@List.mem_map_of_mem
def qV:=@Int.emod_nonneg
def qW:=@if_pos
def qX:=@if_neg
end
section
namespace L2
open PySem PySem.Spec PyProof.Rows
abbrev Key:=Sum Int Str
def zlY:Key->Value->Bool
 | .inl k,v=>Value.isInt k v
 | .inr x,v=>Value.isStrOf x v
def zuV (w:World):Key->Int
 | .inl k=>hashInt k
 | .inr x=>hashStr w x
theorem zbv:∀ {k:Key} {v:Value},zlY k v=true->(∃ i t,k=Sum.inl i/\v=Value.int i t)\/(∃ x t,k=Sum.inr x/\v=Value.str x t)
 | .inl i,v,h=>by
  obtain ⟨t,e⟩:=Value.isInt_shape (k:=i) (v:=v) h
  exact .inl ⟨i,t,rfl,e⟩
 | .inr x,v,h=>by
  obtain ⟨t,e⟩:=Value.isStrOf_shape (x:=x) (v:=v) h
  exact .inr ⟨x,t,rfl,e⟩
theorem znj (i:Int) (t:Tok):zlY (.inl i) (.int i t)=true:=by simp [zlY,Value.isInt]
theorem zni (x:Str) (t:Tok):zlY (.inr x) (.str x t)=true:=by simp [zlY,Value.isStrOf]
theorem zsS (a b:Int):decide ((Sum.inl a:Key)=Sum.inl b)=(a==b):=by
 by_cases e:a=b
 ·subst e;simp
 ·have h:¬ (Sum.inl a:Key)=Sum.inl b:=fun q=>e (Sum.inl.inj q)
  rw [qL h]
  exact (beq_eq_false_iff_ne.mpr e).symm
theorem zsP (a b:Str):decide ((Sum.inr a:Key)=Sum.inr b)=decide (a=b):=by
 by_cases e:a=b
 ·subst e;simp
 ·have h:¬ (Sum.inr a:Key)=Sum.inr b:=fun q=>e (Sum.inr.inj q)
  rw [qL h,qL e]
theorem zsR (a:Int) (b:Str):decide ((Sum.inl a:Key)=Sum.inr b)=false:=qL (fun q=>nomatch q)
theorem zsQ (a:Str) (b:Int):decide ((Sum.inr a:Key)=Sum.inl b)=false:=qL (fun q=>nomatch q)
def zba (prog:Program) (w:World):PySem.KeyKind prog w Key where
 is:=zlY
 hash:=zuV w
 inj:=fun v a b ha hb=>by
  rcases zbv ha with ⟨i,t,rfl,rfl⟩ | ⟨x,t,rfl,rfl⟩
  ·rcases zbv hb with ⟨j,u,rfl,e⟩ | ⟨y,u,rfl,e⟩
   ·injection e with e1 _;rw [e1]
   ·exact nomatch e
  ·rcases zbv hb with ⟨j,u,rfl,e⟩ | ⟨y,u,rfl,e⟩
   ·exact nomatch e
   ·injection e with e1 _;rw [e1]
 byValue:=fun k v h=>by
  rcases zbv h with ⟨i,t,rfl,rfl⟩ | ⟨x,t,rfl,rfl⟩ <;> rfl
 pyHash:=fun hv h=>by
  rcases zbv hv with ⟨i,t,rfl,rfl⟩ | ⟨x,t,rfl,rfl⟩
  ·exact wpAny_pyHash_int h
  ·exact wpAny_pyHash_str h
 eqBool:=fun hu hv h=>by
  rcases zbv hu with ⟨i,t,rfl,rfl⟩ | ⟨x,t,rfl,rfl⟩
  ·rcases zbv hv with ⟨j,u,rfl,rfl⟩ | ⟨y,u,rfl,rfl⟩
   ·rw [zsS] at h;exact wpAny_eqBool_int h
   ·rw [zsR] at h;exact SeqAt.EqAt.int_str i t y u _ _ _ _ h
  ·rcases zbv hv with ⟨j,u,rfl,rfl⟩ | ⟨y,u,rfl,rfl⟩
   ·rw [zsQ] at h;exact SeqAt.EqAt.str_int x t j u _ _ _ _ h
   ·rw [zsP] at h;exact wpAny_eqBool_str h
 «strs»:=fun k x t v h=>by
  rcases zbv h with ⟨i,u,rfl,e⟩ | ⟨y,u,rfl,e⟩
  ·exact nomatch e
  ·injection e with e1 _
   subst e1
   cases v <;> rfl
theorem zkg (prog:Program) (w:World) (i:Int) (t:Tok):(zba prog w).is (.inl i) (.int i t)=true:=znj i t
theorem zkf (prog:Program) (w:World) (x:Str) (t:Tok):(zba prog w).is (.inr x) (.str x t)=true:=zni x t
end L2
namespace L2
open PySem PySem.Spec PyProof.Rows
inductive V where
 | non | bl (b:Bool) | int (i:Int) | str (x:Str) | byt (b:Array UInt8) | flt (b:UInt64) | ref (a:Addr) | ty (n:String)
 deriving DecidableEq
def zcD:V->Value->Prop
 | .non,u=>u=Value.none
 | .bl b,u=>u=Value.bool b
 | .int i,u=>∃ t,u=Value.int i t
 | .str x,u=>∃ t,u=Value.str x t
 | .byt b,u=>∃ t,u=Value.bytes b t
 | .flt b,u=>∃ t,u=Value.float b t
 | .ref a,u=>u=Value.ref a
 | .ty n,u=>u=Value.type n
abbrev zbY:List V->List Value->Prop:=Paired zcD
theorem zbY.length {xs:List V} {us:List Value} (r:zbY xs us):xs.length=us.length:=Paired.length r
theorem zbY.get:∀ {xs:List V} {us:List Value} {i:Nat} {x:V},zbY xs us->xs[i]?=some x->∃ u,us[i]?=some u/\zcD x u
 | _,_,_,_,.nil,e=>by simp at e
 | _,_,0,_,.cons r _,e=>by simp at e;subst e;exact ⟨_,rfl,r⟩
 | _,_,i+1,x,.cons _ t,e=>by
  obtain ⟨u,h1,h2⟩:=zbY.get (i:=i) (x:=x) t (by simpa using e)
  exact ⟨u,by simpa using h1,h2⟩
theorem zbY.append:∀ {xs ys:List V} {us ws:List Value},zbY xs us->zbY ys ws->zbY (xs++ys) (us++ws)
 | _,_,_,_,.nil,s=>s
 | _,_,_,_,.cons r t,s=>.cons r (zbY.append t s)
theorem zbY.take:∀ {xs:List V} {us:List Value} (n:Nat),zbY xs us->zbY (xs.take n) (us.take n)
 | _,_,0,_=>.nil
 | _,_,_+1,.nil=>.nil
 | _,_,n+1,.cons r t=>.cons r (zbY.take n t)
theorem zbY.drop:∀ {xs:List V} {us:List Value} (n:Nat),zbY xs us->zbY (xs.drop n) (us.drop n)
 | _,_,0,r=>r
 | _,_,_+1,.nil=>.nil
 | _,_,n+1,.cons _ t=>zbY.drop n t
def zl9:Option V->Option Value->Prop
 | some v,some u=>zcD v u
 | none,none=>True
 | _,_=>False
def KV {κ:Type}:List (κ×V)->List (κ×Value)->Prop:=Paired fun (p:κ×V) (q:κ×Value)=>p.1=q.1/\zcD p.2 q.2
def kV:Key->V
 | .inl i=>.int i
 | .inr x=>.str x
inductive HO where
 | lst (xs:List V)
 | tup (xs:List V)
 | dK (kvs:List (Key×V)) | dT (kvs:List (List Key×V))
 | set (S:Int->Bool) (n:Nat)
 | ins (C dx:Addr) (fs:List (Str×V))
 | own (x:Addr)
 | xd (fs:List (Str×V))
 | met (f x:Addr)
 | rng (lo hi:Int)
 | frz (o:Obj) (u:HO)
 | tbl (ps:Array Value)
 | ext (φ:Heap->Prop)
abbrev Hp:=Addr->Option HO
def upd (H:Hp) (a:Addr) (o:HO):Hp:=fun b=>if b=a then some o else H b
theorem zax {H:Hp} {a:Addr} {o:HO}:upd H a o a=some o:=by unfold upd;rw [qW rfl]
theorem zat {H:Hp} {a b:Addr} {o:HO} (h:b≠a):upd H a o b=H b:=by unfold upd;rw [qX h]
theorem zqQ {H:Hp} {a b:Addr} {o u:HO} (h:H a=some o) (h':H b=some u) (d:o≠u):a≠b:=by
 intro e;subst e;rw [h] at h';exact d (qF h')
theorem zao {H:Hp} {a b:Addr} {o:HO} (h:H a=some o) (h':H b=none):a≠b:=by
 intro e;subst e;rw [h] at h';cases h'
section
variable (P:Program) (w:World)
def zcx (H:Hp) (h:Heap) (a:Addr):HO->Prop
 | .lst xs=>xs.length<=sizeLine/\∃ (its:List Value) (n:Nat),zbY xs its/\h.get? a=some { cls:=.type "list",data:=.seq its.toArray n }
 | .tup xs=>xs.length<=sizeLine/\∃ its:List Value,zbY xs its/\IsTup h a its.toArray
 | .dK kvs=>kvs.length<=sizeLine/\(a==sysModules)=false/\∃ vs,KV kvs vs/\h.DictOf (zba P w) a vs
 | .dT kvs=>kvs.length<=sizeLine/\(a==sysModules)=false/\∃ xs:List (List Key×Addr×Value),
   Paired (fun (p:List Key×V) (q:List Key×Addr×Value)=>p.1=q.1/\H q.2.1=some (.tup (p.1.map kV))/\zcD p.2 q.2.2) kvs xs /\
   ∃ o es ep,h.get? a=some o/\o.ExactDict/\o.data=.dict es ep/\es.toList=xs.map (entryOfKey (tupleKind (zba P w)))/\(xs.map (·.1)).Nodup
 | .set S n=>h.SetOf (intKind P w) a S n
 | .ins C dx fs=>H dx=some (.own a)/\fs.length<=1000/\dx≠a/\h.get? a=some (PySem.W.instObj C dx) /\
   ∃ mA,h.Ns1 dx mA/\(∀ f,zl9 (fs.lookup f) (mA f))/\PySem.Within mA (fs.map (·.1))
 | .own _=>∃ o,h.get? a=some o
 | .xd fs=>∃ mA,h.Ns1 a mA/\∀ f,zl9 (fs.lookup f) (mA f)
 | .rng lo hi=>∃ t u v,h.get? a=some { cls:=.type "range",data:=.fields #[.int lo t,.int hi u,.int 1 v] }
 | .frz o u=>h.get? a=some o/\zcx H h a u
 | .tbl ps=>h.get? a=some { cls:=.none,data:=.fields ps }
 | .met f x=>h.get? a=some (PySem.W.methodObj (.ref f) (.ref x))
 | .ext φ=>φ h/\(∃ o,h.get? a=some o)/\∀ h1 h2:Heap,φ h1->(∀ o,h1.get? a=some o->h2.get? a=some o)->φ h2
def HOk (H:Hp) (h:Heap):Prop:=∀ a o,H a=some o->zcx P w H h a o
end
section
variable {P:Program} {w:World} {H H':Hp} {h h':Heap} {a:Addr} {o:HO}
theorem zcx.lt (x:zcx P w H h a o):a < h.objs.size:=by
 cases o with
 | lst xs=>obtain ⟨_,_,_,_,e⟩:=x;exact qt e
 | tup xs=>obtain ⟨_,_,_,p⟩:=x;exact p.lt
 | dK kvs=>obtain ⟨_,_,_,_,o,_,_,e,_⟩:=x;exact qt e
 | dT kvs=>obtain ⟨_,_,_,_,o,_,_,e,_⟩:=x;exact qt e
 | set S n=>obtain ⟨o,_,_,_,e,_⟩:=x;exact qt e
 | ins C dx fs=>obtain ⟨_,_,_,e,_⟩:=x;exact qt e
 | own y=>obtain ⟨_,e⟩:=x;exact qt e
 | xd fs=>obtain ⟨_,⟨_,_,_,e,_⟩,_⟩:=x;exact qt e
 | rng lo hi=>obtain ⟨_,_,_,e⟩:=x;exact qt e
 | frz ob u=>obtain ⟨e,_⟩:=x;exact qt e
 | tbl ps=>exact qt (show h.get? a=some _ from x)
 | met f y=>exact qt (show h.get? a=some _ from x)
 | ext φ=>obtain ⟨_,⟨_,e⟩,_⟩:=x;exact qt e
theorem Paired.mapP {α β:Type} {F G:α->β->Prop}:∀ {l₁:List α} {l₂:List β},Paired F l₁ l₂->(∀ a b,F a b->G a b)->Paired G l₁ l₂
 | _,_,.nil,_=>.nil
 | _,_,.cons r t,f=>.cons (f _ _ r) (Paired.mapP t f)
theorem zcx.stay (x:zcx P w H h a o) (k:∀ b u,(b=a\/H b=some (.own a))->h.get? b=some u->h'.get? b=some u)
  (ho:∀ b,H b=some (.own a)->H' b=some (.own a)) (ht:∀ b xs,H b=some (.tup xs)->H' b=some (.tup xs)):zcx P w H' h' a o:=by
 induction o with
 | lst xs=>obtain ⟨z,its,n,r,e⟩:=x;exact ⟨z,its,n,r,k _ _ (.inl rfl) e⟩
 | tup xs=>obtain ⟨z,its,r,ob,e,c⟩:=x;exact ⟨z,its,r,ob,k _ _ (.inl rfl) e,c⟩
 | dK kvs=>obtain ⟨z,y,vs,r,ob,es,ep,e,c⟩:=x;exact ⟨z,y,vs,r,ob,es,ep,k _ _ (.inl rfl) e,c⟩
 | dT kvs =>
  obtain ⟨z,y,xs,r,ob,es,ep,e,c⟩:=x
  exact ⟨z,y,xs,Paired.mapP r fun p q z=>⟨z.1,ht _ _ z.2.1,z.2.2⟩,ob,es,ep,k _ _ (.inl rfl) e,c⟩
 | set S n=>obtain ⟨ob,es,ep,t,e,c⟩:=x;exact ⟨ob,es,ep,t,k _ _ (.inl rfl) e,c⟩
 | ins C dx fs =>
  obtain ⟨d,z,ne,e,mA,⟨od,es,ep,e2,c⟩,r⟩:=x
  exact ⟨ho _ d,z,ne,k _ _ (.inl rfl) e,mA,⟨od,es,ep,k _ _ (.inr d) e2,c⟩,r⟩
 | own y=>obtain ⟨ob,e⟩:=x;exact ⟨ob,k _ _ (.inl rfl) e⟩
 | xd fs=>obtain ⟨mA,⟨od,es,ep,e,c⟩,r⟩:=x;exact ⟨mA,⟨od,es,ep,k _ _ (.inl rfl) e,c⟩,r⟩
 | rng lo hi=>obtain ⟨t,u,v,e⟩:=x;exact ⟨t,u,v,k _ _ (.inl rfl) e⟩
 | frz ob u ih=>obtain ⟨e,q⟩:=x;exact ⟨k _ _ (.inl rfl) e,ih q⟩
 | tbl ps =>
  have e:h.get? a=some { cls:=.none,data:=.fields ps }:=x
  show h'.get? a=some { cls:=.none,data:=.fields ps }
  exact k a _ (.inl rfl) e
 | met f y =>
  have e:h.get? a=some (PySem.W.methodObj (.ref f) (.ref y)):=x
  show h'.get? a=some (PySem.W.methodObj (.ref f) (.ref y))
  exact k a _ (.inl rfl) e
 | ext φ=>obtain ⟨p,⟨o,e⟩,st⟩:=x;exact ⟨st _ _ p fun o q=>k _ _ (.inl rfl) q,⟨o,k _ _ (.inl rfl) e⟩,st⟩
theorem HOk.lt (x:HOk P w H h) (e:H a=some o):a < h.objs.size:=(x a o e).lt
theorem HOk.fresh (x:HOk P w H h) (e:h.objs.size<=a):H a=none:=by
 cases q:H a with
 | none=>rfl
 | some u=>exact absurd (qD (x.lt q) e) (Nat.lt_irrefl _)
theorem HOk.kept (x:HOk P w H h) (k:∀ b u,h.get? b=some u->h'.get? b=some u):HOk P w H h':=fun a o e =>
 (x a o e).stay (fun b u _ q=>k b u q) (fun _ q=>q) fun _ _ q=>q
theorem HOk.laid (x:HOk P w H h) (k:∀ b u,h.get? b=some u->h'.get? b=some u) (hp:h.objs.size<=a) (new:zcx P w (upd H a o) h' a o):HOk P w (upd H a o) h':=fun b u e=>by
 have hn:=x.fresh hp
 by_cases hb:b=a
 ·subst hb;rw [zax] at e;cases e;exact new
 ·rw [zat hb] at e
  exact (x b u e).stay (fun c v _ q=>k c v q) (fun c q=>by rw [zat (zao q hn)];exact q) fun c xs q=>by rw [zat (zao q hn)];exact q
end
def Rd (H:Hp) (a:Addr) (u:HO):Prop:=H a=some u\/∃ o,H a=some (.frz o u)
theorem Rd.ok {P:Program} {w:World} {H:Hp} {h:Heap} {a:Addr} {u:HO} (r:Rd H a u) (x:HOk P w H h):zcx P w H h a u:=by
 rcases r with r | ⟨o,r⟩
 ·exact x a u r
 ·obtain ⟨_,q⟩:=x a _ r
  exact q
def Mut:Option HO->Prop
 | some (.lst _)=>True
 | some (.dK _)=>True
 | some (.dT _)=>True
 | some (.set _ _)=>True
 | some (.ins _ _ _)=>True
 | some (.ext _)=>True
 | _=>False
section
variable {P:Program} {w:World} {H:Hp} {h h':Heap} {x e:Addr} {o':HO}
theorem HOk.write (ok:HOk P w H h) (mu:Mut (H x)) (he:e=x\/H e=some (.own x)) (k:∀ b u,b≠e->h.get? b=some u->h'.get? b=some u) (heo:∃ u,h'.get? e=some u)
  (new:zcx P w (upd H x o') h' x o'):HOk P w (upd H x o') h':=fun b u q=>by
 have nown:∀ c y,H c=some (.own y)->c≠x:=fun c y r z=>by subst z;rw [r] at mu;exact mu
 have ntup:∀ c xs,H c=some (.tup xs)->c≠x:=fun c xs r z=>by subst z;rw [r] at mu;exact mu
 by_cases hb:b=x
 ·subst hb;rw [zax] at q;cases q;exact new
 ·rw [zat hb] at q
  by_cases hbe:b=e
  ·have q':H b=some (.own x):=by
    rcases he with z | z
    ·exact absurd (hbe.trans z) hb
    ·rw [hbe];exact z
   rw [q] at q';cases q'
   obtain ⟨v,hv⟩:=heo
   exact ⟨v,by rw [hbe];exact hv⟩
  ·refine (ok b u q).stay (fun c v hc r=>k c v ?_ r) (fun c r=>by rw [zat (nown c b r)];exact r) fun c xs r=>by rw [zat (ntup c xs r)];exact r
   rcases hc with rfl | hc
   ·exact hbe
   ·rintro rfl
    rcases he with z | z
    ·exact nown c b hc z
    ·rw [hc] at z;cases z;exact hb rfl
end
structure Un (fs ex:List Addr) (H H':Hp) (h h':Heap):Prop where
 keep:∀ b o,h.get? b=some o->H b=none->b∉fs->b∉ex->h'.get? b=some o
 slot:∀ b o,h.get? b=some o->H b=none->b∈fs->b∉ex->∃ sl,h'.get? b=some { o with slots:=sl }
 free:∀ b o,h.get? b=some o->H b=none->b∉ex->H' b=none
 there:∀ b o,h.get? b=some o->b∉ex->∃ o',h'.get? b=some o'
 tups:∀ b xs,H b=some (.tup xs)->H' b=some (.tup xs)
 frzs:∀ b o u,H b=some (.frz o u)->H' b=some (.frz o u)
 tbls:∀ b ps,H b=some (.tbl ps)->∃ more,H' b=some (.tbl (ps++more))
section
variable {fs fs' ex ex':List Addr} {H H1 H2:Hp} {h h1 h2 h':Heap} {a x e:Addr} {o:HO}
theorem Un.any (u:Un fs ex H H1 h h1) {b:Addr} {ob:Obj} (q:h.get? b=some ob) (n:H b=none) (hx:b∉ex):∃ sl,h1.get? b=some { ob with slots:=sl }:=by
 by_cases hb:b∈fs
 ·exact u.slot b ob q n hb hx
 ·exact ⟨ob.slots,u.keep b ob q n hb hx⟩
theorem Un.kept (k:∀ b u,h.get? b=some u->h'.get? b=some u):Un fs ex H H h h' :=
 ⟨fun b ob q _ _ _=>k b ob q,fun b ob q _ _ _=>⟨ob.slots,k b ob q⟩,fun _ _ _ n _=>n,fun b ob q _=>⟨ob,k b ob q⟩,fun _ _ q=>q,fun _ _ _ q=>q,fun _ ps q=>⟨#[],by rw [q];simp⟩⟩
theorem Un.refl:Un fs ex H H h h:=Un.kept fun _ _ q=>q
theorem Un.laid (k:∀ b u,h.get? b=some u->h'.get? b=some u) (hp:h.objs.size<=a) (hn:H a=none):Un fs ex H (upd H a o) h h' where
 keep:=fun b u q _ _ _=>k b u q
 slot:=fun b u q _ _ _=>⟨u.slots,k b u q⟩
 free:=fun b u q n _=>by rw [zat (qA (qD (qt q) hp))];exact n
 there:=fun b u q _=>⟨u,k b u q⟩
 tups:=fun b xs q=>by rw [zat (zao q hn)];exact q
 frzs:=fun b u xs q=>by rw [zat (zao q hn)];exact q
 tbls:=fun b ps q=>⟨#[],by rw [zat (zao q hn),q];simp⟩
theorem Un.write (mu:Mut (H x)) (he:e=x\/H e=some (.own x)) (k:∀ b u,b≠e->h.get? b=some u->h'.get? b=some u) (heo:∃ u,h'.get? e=some u):Un fs ex H (upd H x o) h h':=by
 have hx:∀ b,H b=none->b≠x:=fun b n z=>by subst z;rw [n] at mu;exact mu
 have hb:∀ b,H b=none->b≠e:=fun b n z=>by
  subst z
  rcases he with r | r
  ·exact hx b n r
  ·rw [n] at r;cases r
 have hm:∀ b u,H b=some u->¬ Mut (some u)->b≠x:=fun b u q nm z=>by subst z;rw [q] at mu;exact nm mu
 refine ⟨fun b u q n _ _=>k b u (hb b n) q,fun b u q n _ _=>⟨u.slots,k b u (hb b n) q⟩,fun b u q n _=>by rw [zat (hx b n)];exact n,fun b u q _=>?_,
  fun b xs q=>by rw [zat (hm b _ q fun z=>z)];exact q,fun b u xs q=>by rw [zat (hm b _ q fun z=>z)];exact q,fun b ps q=>⟨#[],by rw [zat (hm b _ q fun z=>z),q];simp⟩⟩
 by_cases hbe:b=e
 ·subst hbe;exact heo
 ·exact ⟨u,k b u hbe q⟩
end
def trk (h:Heap) (H:Hp):List Addr:=(List.range h.objs.size).filter fun a=>(H a).isSome
def zoV (h:Heap) (H:Hp):Heap:=PySem.W.hideAll h (trk h H)
theorem znp (h:Heap) (H:Hp):(zoV h H).objs.size=h.objs.size:=PySem.W.hideAll_size _ _
theorem zoU {h:Heap} {H:Hp} {b:Addr} {o:Obj} (e:h.get? b=some o) (n:H b=none):(zoV h H).get? b=some o :=
 PySem.W.hideAll_get _ e fun hm=>by
  have q:(H b).isSome=true:=(List.mem_filter.mp hm).2
  rw [n] at q;simp at q
theorem zqJ {h:Heap} {H:Hp} {b:Addr} {o:Obj} (e:(zoV h H).get? b=some o):h.get? b=some o/\H b=none:=by
 have e':h.get? b=some o:=PySem.W.of_hideAll (trk h H) e
 refine ⟨e',?_⟩
 cases q:H b with
 | none=>rfl
 | some x =>
  have hm:b∈trk h H:=List.mem_filter.mpr ⟨List.mem_range.mpr (qt e'),by simp [q]⟩
  have z:(zoV h H).get? b=none:=PySem.W.hideAll_none (trk h H) hm
  rw [z] at e;cases e
def zry (g h:Heap) (L:Addr):List (Addr×Obj):=(List.range h.objs.size).filterMap fun a=>if a=L\/(g.get? a).isSome=true then none else (h.get? a).map fun o=>(a,o)
def zdf (g h:Heap) (L d:Addr):List (Addr×Obj):=(zry g h L).filter fun p=>decide (p.1≠d)
end L2
namespace L2
open PySem PySem.Spec PyProof.Rows
structure Mod (K:PySem.W.Frag) (mg:Str->Option Value) (base:Heap):Prop where
 kin:K.In base
 glob:base.Ns mainGlobals mg
 blt:∃ mb,base.Ns builtinsNs mb/\∀ x:Str,x≠"__name__"->mb x=bootBuiltins x
 nolimit:base.NoLimit
structure Cx where
 prog:Program
 w:World
 K:PySem.W.Frag
 mg:Str->Option Value
 base:Heap
 A:Around
 N:List Str
 s₀:Shared
 H₀:Hp
 env:Env
 outer:List Env
 stack:List Env
 ex:List Addr
 fn:Str->Bool
 calm:Bool
 pn:List (Addr×Obj)
 xe:Value->Shared->Prop
def frs (l:List Env):List Addr:=l.filterMap (·.frame)
abbrev Cx.fs (X:Cx):List Addr:=frs X.outer
def Vis (sc:Scope) (x:Str):Prop:=sc.names.lookup x=some .local\/sc.names.lookup x=some .cell\/sc.names.lookup x=some .free
def Loc (sc:Scope) (x:Str):Prop:=sc.names.lookup x=some .local\/sc.names.lookup x=some .cell
def zu2 (env:Env) (h:Heap) (m:Str->Option Value) (x:Str) (u:Value):Prop :=
 (env.kindOf x=some .local/\m x=some u)\/((env.kindOf x=some .cell\/env.kindOf x=some .free)/\∃ c,env.cells.lookup x=some c/\h.IsCell c (some u))
structure Cx.Ok (X:Cx):Prop where
 mod:Mod X.K X.mg X.base
 kind:X.env.scope.kind=.function
 glob:X.env.globals=mainGlobals
 blt:X.env.builtins=builtinsNs
 above:X.s₀.heap.objs.size<=X.env.locals
 inj:∀ x y c,X.env.cells.lookup x=some c->X.env.cells.lookup y=some c->x=y
 has:∀ x,(X.env.kindOf x=some .cell\/X.env.kindOf x=some .free)->∃ c,X.env.cells.lookup x=some c
 cab:∀ x c,X.fn x=true->X.env.cells.lookup x=some c->X.s₀.heap.objs.size<=c
 hd:X.calm=true->X.A.handled=none
 frames:X.A.frames=some X.stack
 stk:X.stack=X.outer\/(X.stack=X.env::X.outer/\X.env.frame=some X.env.locals)
 exf:∀ b∈X.ex,b≠X.env.locals/\∀ x c,X.env.cells.lookup x=some c->c≠b
 bs:∀ b o,X.base.get? b=some o->X.s₀.heap.get? b=some o/\X.H₀ b=none
 bsz:X.base.objs.size<=X.s₀.heap.objs.size
 noex:∀ b o,X.base.get? b=some o->b∉X.ex
 exfs:∀ b∈X.ex,b∉X.fs
 funs:X.s₀.heap.FunFrames X.base X.outer
 frf:∀ b∈X.fs,X.H₀ b=none
structure Inv (X:Cx) (pins:List (Addr×Obj)) (σ:List (Option V)) (H:Hp) (s:Shared):Prop where
 ok:X.Ok
 os:s.os=X.s₀.os
 bare:AllBare s.gens
 base:Un X.fs X.ex X.H₀ H X.s₀.heap s.heap
 loc:∃ m,s.heap.Ns X.env.locals m/\∀ (i:Nat) (x:Str) (v:V),X.N[i]?=some x->σ[i]?=some (some v)->Vis X.env.scope x->∃ u,zcD v u/\zu2 X.env s.heap m x u
 cell:∀ x c,X.env.cells.lookup x=some c->∃ v,s.heap.IsCell c v
 free:H X.env.locals=none
 freeC:∀ x c,X.env.cells.lookup x=some c->H c=none
 pin:∀ p∈X.pn++pins,s.heap.get? p.1=some p.2/\H p.1=none/\p.1≠X.env.locals/\p.1∉X.fs/\∀ v,p.2.data≠.cell v
 hok:HOk X.prog X.w H s.heap
 len:σ.length=X.N.length
section
variable {X:Cx} {pins:List (Addr×Obj)} {σ:List (Option V)} {H H':Hp} {s:Shared} {h':Heap}
theorem Cx.Ok.nofr (ok:X.Ok) {b:Addr} {o:Obj} (e:X.base.get? b=some o):b∉X.fs:=fun hb=>by
 have:=(ok.funs.mem hb).1
 rw [e] at this;cases this
theorem Inv.bs (I:Inv X pins σ H s):∀ b o,X.base.get? b=some o->s.heap.get? b=some o/\H b=none:=fun b o e =>
 ⟨I.base.keep b o (I.ok.bs b o e).1 (I.ok.bs b o e).2 (I.ok.nofr e) (I.ok.noex b o e),I.base.free b o (I.ok.bs b o e).1 (I.ok.bs b o e).2 (I.ok.noex b o e)⟩
theorem Inv.bk (I:Inv X pins σ H s):∀ b o,X.base.get? b=some o->s.heap.get? b=some o:=fun b o e=>(I.bs b o e).1
theorem Inv.mod (I:Inv X pins σ H s):Mod X.K X.mg X.base:=I.ok.mod
theorem Inv.kIn (I:Inv X pins σ H s):X.K.In s.heap:=I.ok.mod.kin.keeps I.bk
theorem Inv.lt (I:Inv X pins σ H s):X.env.locals < s.heap.objs.size:=let ⟨_,hn,_⟩:=I.loc;hn.lt
theorem Inv.sz (I:Inv X pins σ H s):X.s₀.heap.objs.size<=s.heap.objs.size:=qK I.ok.above (Nat.le_of_lt I.lt)
theorem Inv.nofs (I:Inv X pins σ H s) {a:Addr} (h:s.heap.objs.size<=a):a∉X.fs:=fun hb=>by
 obtain ⟨_,o,ho,_⟩:=I.ok.funs.mem hb
 exact absurd (qD (qt ho) (qK I.sz h)) (Nat.lt_irrefl _)
theorem Inv.cne (I:Inv X pins σ H s):∀ x c,X.env.cells.lookup x=some c->c≠X.env.locals:=fun x c e z=>by
 obtain ⟨v,o,ho,hd⟩:=I.cell x c e
 obtain ⟨m,⟨o',es,ep,ho',hd',_⟩,_⟩:=I.loc
 rw [z,ho'] at ho;cases ho;rw [hd'] at hd;cases hd
theorem Inv.funs (I:Inv X pins σ H s):s.heap.FunFrames X.base X.outer:=by
 have all:∀ (l:List Env),(∀ b∈frs l,b∈X.fs)->X.s₀.heap.FunFrames X.base l->s.heap.FunFrames X.base l:=by
  intro l
  induction l with
  | nil=>intro _ _;trivial
  | cons env r ih =>
   intro hs hl
   obtain ⟨hk,⟨L,o,hf,hn,ho,hd⟩,hr⟩:=hl
   have hL:L∈X.fs:=hs L (by unfold frs;rw [List.filterMap_cons,hf];exact qf)
   obtain ⟨sl,e⟩:=I.base.slot L o ho (I.ok.frf L hL) hL fun z=>I.ok.exfs L z hL
   exact ⟨hk,⟨L,_,hf,hn,e,hd⟩,ih (fun b hb=>hs b (by unfold frs;rw [List.filterMap_cons,hf];exact qg _ hb)) hr⟩
 exact all X.outer (fun _ hb=>hb) I.ok.funs
theorem Inv.stack (I:Inv X pins σ H s):s.heap.FunFrames X.base X.stack:=by
 rcases I.ok.stk with e | ⟨e,hf⟩
 ·rw [e];exact I.funs
 ·rw [e]
  obtain ⟨m,hn,_⟩:=I.loc
  refine .cons (by rw [I.ok.kind];decide) hf hn ?_ I.funs
  exact Heap.get?_none_of_le (qK I.ok.bsz I.ok.above)
theorem Inv.stkSub (I:Inv X pins σ H s):∀ b∈frs X.stack,b∈X.env.locals::X.fs:=fun b hb=>by
 rcases I.ok.stk with e | ⟨e,hf⟩
 ·rw [e] at hb;exact qg _ hb
 ·rw [e] at hb
  unfold frs at hb
  rw [List.filterMap_cons,hf] at hb
  exact hb
theorem Inv.stkFree (I:Inv X pins σ H s):∀ b∈frs X.stack,H b=none:=fun b hb=>by
 rcases List.mem_cons.mp (I.stkSub b hb) with e | hb
 ·rw [e];exact I.free
 ·obtain ⟨_,o,ho,_⟩:=I.ok.funs.mem hb
  exact I.base.free b o ho (I.ok.frf b hb) fun z=>I.ok.exfs b z hb
theorem Inv.step {g':Array GenState} {t':Nat} {d':Drawn} {ch:List Addr} (I:Inv X pins σ H s)
  (hch:∀ b∈ch,(b∈X.ex\/X.s₀.heap.objs.size<=b)/\b≠X.env.locals/\(∀ x c,X.env.cells.lookup x=some c->c≠b)/\∀ p∈X.pn++pins,p.1≠b)
  (keep:∀ b o,b≠X.env.locals->b∉X.fs->b∉ch->s.heap.get? b=some o->H b=none->h'.get? b=some o)
  (slot:∀ b o,b≠X.env.locals->b∈X.fs->b∉ch->s.heap.get? b=some o->H b=none->∃ sl,h'.get? b=some { o with slots:=sl }) (free:∀ b o,b∉ch->s.heap.get? b=some o->H b=none->H' b=none)
  (there:∀ b o,b∉ch->s.heap.get? b=some o->∃ o',h'.get? b=some o')
  (tups:∀ b xs,H b=some (.tup xs)->H' b=some (.tup xs)) (frzs:∀ b o u,H b=some (.frz o u)->H' b=some (.frz o u)) (tbls:∀ b ps,H b=some (.tbl ps)->∃ more,H' b=some (.tbl (ps++more)))
  (ns:∀ m,s.heap.Ns X.env.locals m->h'.Ns X.env.locals m) (hok:HOk X.prog X.w H' h') (hg:AllBare g') :
  Inv X pins σ H' { s with heap:=h',gens:=g',drawn:=d',toks:=t' }:=by
 have neL:∀ b o,X.s₀.heap.get? b=some o->b≠X.env.locals:=fun b o e=>qA (qD (qt e) I.ok.above)
 have neC:∀ b o,X.s₀.heap.get? b=some o->b∉X.ex->b∉ch:=fun b o e hx hb=>by
  rcases (hch b hb).1 with z | z
  ·exact hx z
  ·exact absurd (qD (qt e) z) (Nat.lt_irrefl _)
 have cellK:∀ x c,X.env.cells.lookup x=some c->∀ v,s.heap.IsCell c v->h'.IsCell c v:=fun x c e v ⟨o,ho,hd⟩=>by
  have nch:c∉ch:=fun z=>(hch c z).2.2.1 x c e rfl
  by_cases hc:c∈X.fs
  ·obtain ⟨sl,q⟩:=slot c o (I.cne x c e) hc nch ho (I.freeC x c e)
   exact ⟨_,q,hd⟩
  ·exact ⟨o,keep c o (I.cne x c e) hc nch ho (I.freeC x c e),hd⟩
 refine ⟨I.ok,I.os,hg,⟨fun b o e n hb hx=>?_,fun b o e n hb hx=>?_,fun b o e n hx=>?_,fun b o e hx=>?_,fun b xs e=>tups b xs (I.base.tups b xs e),fun b o xs e=>frzs b o xs (I.base.frzs b o xs e),fun b ps e=>?_⟩,?_,fun x c e=>?_,?_,fun x c e=>?_,fun p hp=>?_,hok,I.len⟩
 ·exact keep b o (neL b o e) hb (neC b o e hx) (I.base.keep b o e n hb hx) (I.base.free b o e n hx)
 ·obtain ⟨sl,e1⟩:=I.base.slot b o e n hb hx
  obtain ⟨sl',e2⟩:=slot b _ (neL b o e) hb (neC b o e hx) e1 (I.base.free b o e n hx)
  exact ⟨sl',e2⟩
 ·obtain ⟨o',e1⟩:=I.base.there b o e hx
  exact free b o' (neC b o e hx) e1 (I.base.free b o e n hx)
 ·obtain ⟨o',e1⟩:=I.base.there b o e hx
  exact there b o' (neC b o e hx) e1
 ·obtain ⟨m1,e1⟩:=I.base.tbls b ps e
  obtain ⟨m2,e2⟩:=tbls b _ e1
  exact ⟨m1++m2,by rw [e2,Array.append_assoc]⟩
 ·obtain ⟨m,hn,hl⟩:=I.loc
  refine ⟨m,ns m hn,fun i x v e1 e2 e3=>?_⟩
  obtain ⟨u,r,l⟩:=hl i x v e1 e2 e3
  refine ⟨u,r,?_⟩
  rcases l with l | ⟨k,c,e,z⟩
  ·exact .inl l
  ·exact .inr ⟨k,c,e,cellK x c e _ z⟩
 ·obtain ⟨v,z⟩:=I.cell x c e
  exact ⟨v,cellK x c e v z⟩
 ·obtain ⟨m,⟨o,_,_,ho,_⟩,_⟩:=I.loc
  exact free _ o (fun z=>(hch _ z).2.1 rfl) ho I.free
 ·obtain ⟨v,o,ho,hd⟩:=I.cell x c e
  exact free c o (fun z=>(hch c z).2.2.1 x c e rfl) ho (I.freeC x c e)
 ·obtain ⟨e,n,ne,nf,d⟩:=I.pin p hp
  have nch:p.1∉ch:=fun z=>(hch p.1 z).2.2.2 p hp rfl
  exact ⟨keep p.1 p.2 ne nf nch e n,free p.1 p.2 nch e n,ne,nf,d⟩
theorem Inv.un {t':Nat} (I:Inv X pins σ H s) (u:Un X.fs [] H H' s.heap h') (hok:HOk X.prog X.w H' h'):Inv X pins σ H' { s with heap:=h',toks:=t' }:=by
 obtain ⟨m,⟨o,es,ep,ho,r⟩,_⟩:=id I.loc
 obtain ⟨sl,hL⟩:=u.any ho I.free (by simp)
 exact I.step (g':=s.gens) (d':=s.drawn) (ch:=[]) (fun _ z=>nomatch z) (fun b o _ hb _ e n=>u.keep b o e n hb (by simp)) (fun b o _ hb _ e n=>u.slot b o e n hb (by simp)) (fun b o _ e n=>u.free b o e n (by simp)) (fun b o _ e=>u.there b o e (by simp)) u.tups u.frzs u.tbls (fun m' hm=>by
  obtain ⟨o',es',ep',ho',r'⟩:=hm
  rw [ho] at ho';cases ho'
  exact ⟨_,es',ep',hL,r'⟩) hok I.bare
theorem Inv.call {g':Array GenState} {t':Nat} {d':Drawn} {ch:List Addr} (I:Inv X pins σ H s) (u:Un (frs X.stack) ch H H' s.heap h') (hok:HOk X.prog X.w H' h') (hg:AllBare g')
  (hch:∀ b∈ch,(b∈X.ex\/X.s₀.heap.objs.size<=b)/\b≠X.env.locals/\(∀ x c,X.env.cells.lookup x=some c->c≠b)/\∀ p∈X.pn++pins,p.1≠b) :
  Inv X pins σ H' { s with heap:=h',gens:=g',drawn:=d',toks:=t' }:=by
 obtain ⟨m,⟨o,es,ep,ho,r⟩,_⟩:=id I.loc
 obtain ⟨sl,hL⟩:=u.any ho I.free fun z=>(hch _ z).2.1 rfl
 exact I.step (ch:=ch) hch (fun b o hL hb hc e n=>u.keep b o e n (fun z=>(List.mem_cons.mp (I.stkSub b z)).elim hL hb) hc) (fun b o _ _ hc e n=>u.any e n hc) (fun b o hc e n=>u.free b o e n hc) (fun b o hc e=>u.there b o e hc) u.tups u.frzs u.tbls (fun m' hm=>by
  obtain ⟨o',es',ep',ho',r'⟩:=hm
  rw [ho] at ho';cases ho'
  exact ⟨_,es',ep',hL,r'⟩) hok hg
theorem Inv.turned {t':Nat} {it:Addr} (I:Inv X pins σ H s) (k:∀ b o,b≠it->s.heap.get? b=some o->h'.get? b=some o) (hn:H it=none) (hL:it≠X.env.locals)
  (h1:it∈X.ex\/X.s₀.heap.objs.size<=it) (h2:∀ x c,X.env.cells.lookup x=some c->c≠it) (h3:∀ p∈X.pn++pins,p.1≠it):Inv X pins σ H { s with heap:=h',toks:=t' }:=by
 have nit:∀ b u,H b=some u->b≠it:=fun b u e z=>by rw [z,hn] at e;cases e
 refine I.step (g':=s.gens) (d':=s.drawn) (ch:=[it]) (fun b hb=>?_) (fun b o _ _ hc e _=>k b o (fun z=>hc (by simp [z])) e) (fun b o _ _ hc e _=>⟨o.slots,k b o (fun z=>hc (by simp [z])) e⟩) (fun _ _ _ _ n=>n)
  (fun b o hc e=>⟨o,k b o (fun z=>hc (by simp [z])) e⟩) (fun _ _ e=>e) (fun _ _ _ e=>e) (fun b ps e=>⟨#[],by rw [e];simp⟩) (fun m hm=>?_) (fun b u e=>?_) I.bare
 ·have e:b=it:=by simpa using hb
  subst e
  exact ⟨h1,hL,h2,h3⟩
 ·obtain ⟨o,es,ep,ho,r⟩:=hm
  exact ⟨o,es,ep,k _ o (Ne.symm hL) ho,r⟩
 ·refine (I.hok b u e).stay (fun c v hc q=>k c v ?_ q) (fun _ q=>q) fun _ _ q=>q
  rcases hc with z | z
  ·rw [z];exact nit b u e
  ·exact nit c _ z
theorem Inv.tok (I:Inv X pins σ H s) (t:Nat):Inv X pins σ H { s with toks:=t }:=I.un (h':=s.heap) (t':=t) Un.refl I.hok
theorem Inv.kept {t':Nat} (I:Inv X pins σ H s) (k:∀ b u,s.heap.get? b=some u->h'.get? b=some u):Inv X pins σ H { s with heap:=h',toks:=t' }:=I.un (Un.kept k) (I.hok.kept k)
theorem Inv.laid {a:Addr} {o:HO} {t':Nat} (I:Inv X pins σ H s) (k:∀ b u,s.heap.get? b=some u->h'.get? b=some u) (hp:s.heap.objs.size<=a) (new:zcx X.prog X.w (upd H a o) h' a o) :
  Inv X pins σ (upd H a o) { s with heap:=h',toks:=t' }:=I.un (Un.laid k hp (I.hok.fresh hp)) (I.hok.laid k hp new)
theorem Inv.write {x e:Addr} {o:HO} {t':Nat} (I:Inv X pins σ H s) (mu:Mut (H x)) (he:e=x\/H e=some (.own x)) (k:∀ b u,b≠e->s.heap.get? b=some u->h'.get? b=some u) (heo:∃ u,h'.get? e=some u)
  (new:zcx X.prog X.w (upd H x o) h' x o):Inv X pins σ (upd H x o) { s with heap:=h',toks:=t' }:=I.un (Un.write mu he k heo) (I.hok.write mu he k heo new)
theorem Inv.pins_of {pins':List (Addr×Obj)} (I:Inv X pins σ H s) (h:∀ p∈pins',s.heap.get? p.1=some p.2/\H p.1=none/\p.1≠X.env.locals/\p.1∉X.fs/\∀ v,p.2.data≠.cell v):Inv X pins' σ H s :=
 ⟨I.ok,I.os,I.bare,I.base,I.loc,I.cell,I.free,I.freeC,fun p hp=>(List.mem_append.mp hp).elim (fun z=>I.pin p (List.mem_append_left _ z)) (h p),I.hok,I.len⟩
theorem zk7 {N:List Str} (hN:N.Nodup) {i j:Nat} {x:Str} (a:N[i]?=some x) (b:N[j]?=some x):i=j:=by
 obtain ⟨h1,e1⟩:=List.getElem?_eq_some_iff.mp a
 obtain ⟨h2,e2⟩:=List.getElem?_eq_some_iff.mp b
 exact (List.getElem_inj hN).mp (e1.trans e2.symm)
theorem zja {M:Model} {A:Around} {E:Value->Shared->Prop} {i:Nat} {x:Str} {v:V} {u:Value} {Q:Unit->Shared->Prop} (I:Inv X pins σ H s) (hN:X.N.Nodup) (hi:X.N[i]?=some x) (hx:Loc X.env.scope x) (r:zcD v u)
  (h:∀ s',Inv X pins (σ.set i (some v)) H s'->(∃ a,Heap.SameBut a s.heap s'.heap/\(a=X.env.locals\/X.env.cells.lookup x=some a))->Q () s') (hf:X.fn x=true\/X.env.scope.names.lookup x=some .local:=by first | exact .inl rfl | exact .inr rfl | assumption):wpAny M A (storeName X.env x u) Q E s:=by
 obtain ⟨m,hn,hl⟩:=id I.loc
 have hcls:(X.env.scope.kind==.class || (X.env.scope.kind==.module && X.env.locals != X.env.globals))=false:=by rw [I.ok.kind];rfl
 have hiσ:i < σ.length:=by rw [I.len];exact (List.getElem?_eq_some_iff.mp hi).1
 have cne:=I.cne
 have tracked:∀ {a:Addr} {h':Heap},(∃ o,s.heap.get? a=some o/\H a=none)->Heap.SameBut a s.heap h'->HOk X.prog X.w H h':=fun {a h'} ha hs b ob e=>by
  obtain ⟨_,_,hfree⟩:=ha
  refine (I.hok b ob e).stay (fun c w' hc q=>(hs.2 c ?_).trans q) (fun _ q=>q) fun _ _ q=>q
  rintro rfl
  rcases hc with rfl | hc
  ·rw [hfree] at e;cases e
  ·rw [hfree] at hc;cases hc
 rcases hx with hk | hk
 ·refine wpAny_storeName_local hk hn (fun h' hn' hs=>?_) hcls
  obtain ⟨oL,_,_,hoL,_⟩:=id hn
  refine h _ ⟨I.ok,I.os,I.bare,⟨fun b o e n hb hx=>?_,fun b o e n hb hx=>?_,I.base.free,fun b o e hx=>?_,I.base.tups,I.base.frzs,I.base.tbls⟩,⟨_,hn',fun j y v' e1 e2 e3=>?_⟩,fun y c e=>?_,I.free,I.freeC,fun p hp=>?_,tracked ⟨oL,hoL,I.free⟩ hs,by simpa using I.len⟩ ⟨_,hs,.inl rfl⟩
  ·exact (hs.2 b (qA (qD (qt e) I.ok.above))).trans (I.base.keep b o e n hb hx)
  ·obtain ⟨sl,e1⟩:=I.base.slot b o e n hb hx
   exact ⟨sl,(hs.2 b (qA (qD (qt e) I.ok.above))).trans e1⟩
  ·obtain ⟨o',e1⟩:=I.base.there b o e hx
   exact ⟨o',(hs.2 b (qA (qD (qt e) I.ok.above))).trans e1⟩
  ·by_cases hj:j=i
   ·subst hj
    rw [hi] at e1;cases e1
    rw [List.getElem?_set_self hiσ] at e2
    cases e2
    exact ⟨u,r,.inl ⟨hk,by simp⟩⟩
   ·rw [qw (Ne.symm hj)] at e2
    obtain ⟨u',r',q⟩:=hl j y v' e1 e2 e3
    refine ⟨u',r',?_⟩
    rcases q with ⟨k,e⟩ | ⟨k,c,e,z⟩
    ·refine .inl ⟨k,?_⟩
     have:y≠x:=fun e=>hj (zk7 hN e1 (e▸hi))
     simp [this,e]
    ·exact .inr ⟨k,c,e,z.sameBut hs (cne y c e)⟩
  ·obtain ⟨w',z⟩:=I.cell y c e
   exact ⟨w',z.sameBut hs (cne y c e)⟩
  ·obtain ⟨e,n,ne,nf,d⟩:=I.pin p hp
   exact ⟨(hs.2 p.1 ne).trans e,n,ne,nf,d⟩
 ·have hfn:X.fn x=true:=by
   rcases hf with z | z
   ·exact z
   ·rw [z] at hk;cases hk
  obtain ⟨c,hc⟩:=I.ok.has x (.inl hk)
  obtain ⟨w',z⟩:=I.cell x c hc
  refine wpAny_storeName_cell I.ok.kind hk hc z (fun h' hc' hs=>?_)
  obtain ⟨oc,hoc,hocd⟩:=id z
  refine h { s with heap:=h' } ⟨I.ok,I.os,I.bare,⟨fun b o e n hb hx=>?_,fun b o e n hb hx=>?_,I.base.free,fun b o e hx=>?_,I.base.tups,I.base.frzs,I.base.tbls⟩,⟨m,hn.sameBut hs (Ne.symm (cne x c hc)),fun j y v' e1 e2 e3=>?_⟩,fun y c' e=>?_,I.free,I.freeC,fun p hp=>?_,tracked ⟨oc,hoc,I.freeC x c hc⟩ hs,by simpa using I.len⟩ ⟨c,hs,.inr hc⟩
  ·exact (hs.2 b (qA (qD (qt e) (I.ok.cab x c hfn hc)))).trans (I.base.keep b o e n hb hx)
  ·obtain ⟨sl,e1⟩:=I.base.slot b o e n hb hx
   exact ⟨sl,(hs.2 b (qA (qD (qt e) (I.ok.cab x c hfn hc)))).trans e1⟩
  ·obtain ⟨o',e1⟩:=I.base.there b o e hx
   exact ⟨o',(hs.2 b (qA (qD (qt e) (I.ok.cab x c hfn hc)))).trans e1⟩
  ·by_cases hj:j=i
   ·subst hj
    rw [hi] at e1;cases e1
    rw [List.getElem?_set_self hiσ] at e2
    cases e2
    exact ⟨u,r,.inr ⟨.inl hk,c,hc,hc'⟩⟩
   ·rw [qw (Ne.symm hj)] at e2
    obtain ⟨u',r',q⟩:=hl j y v' e1 e2 e3
    refine ⟨u',r',?_⟩
    rcases q with q | ⟨k,c',e,z'⟩
    ·exact .inl q
    ·refine .inr ⟨k,c',e,z'.sameBut hs ?_⟩
     rintro rfl
     exact hj (zk7 hN e1 (I.ok.inj _ _ _ e hc▸hi))
  ·by_cases hcc:c'=c
   ·subst hcc;exact ⟨_,hc'⟩
   ·obtain ⟨w2,z2⟩:=I.cell y c' e
    exact ⟨w2,z2.sameBut hs hcc⟩
  ·obtain ⟨e,n,ne,nf,d⟩:=I.pin p hp
   refine ⟨(hs.2 p.1 ?_).trans e,n,ne,nf,d⟩
   intro q
   rw [q,hoc] at e
   have q':oc=p.2:=qF e
   exact d w' (by rw [← q'];exact hocd)
theorem zkP {M:Model} {A:Around} {E:Value->Shared->Prop} {i:Nat} {x:Str} {v:V} {u:Value} {Q:Unit->Shared->Prop} (I:Inv X pins σ H s) (hN:X.N.Nodup) (hi:X.N[i]?=some x) (hx:Loc X.env.scope x) (r:zcD v u)
  (h:∀ s',Inv X pins (σ.set i (some v)) H s'->Q () s') (hf:X.fn x=true\/X.env.scope.names.lookup x=some .local:=by first | exact .inl rfl | exact .inr rfl | assumption):wpAny M A (storeName X.env x u) Q E s :=
 zja I hN hi hx r (fun s' I' _=>h s' I') hf
theorem Inv.call' {s':Shared} {ch:List Addr} (I:Inv X pins σ H s) (ho:s'.os=s.os) (u:Un (frs X.stack) ch H H' s.heap s'.heap) (hok:HOk X.prog X.w H' s'.heap) (hg:AllBare s'.gens)
  (hch:∀ b∈ch,(b∈X.ex\/X.s₀.heap.objs.size<=b)/\b≠X.env.locals/\(∀ x c,X.env.cells.lookup x=some c->c≠b)/\∀ p∈X.pn++pins,p.1≠b):Inv X pins σ H' s':=by
 obtain ⟨h',g',d',t',o'⟩:=s'
 have e:o'=s.os:=ho
 subst e
 exact I.call (g':=g') (t':=t') (d':=d') u hok hg hch
end
abbrev XK:=Value->Option Addr->Hp->Prop
abbrev St:=List (Option V)
abbrev VK:=V->Hp->Prop
abbrev TE:=St->Hp->VK->Prop
abbrev TT:=St->Hp->(Bool->Hp->Prop)->Prop
abbrev TA:=St->Hp->(List V->Hp->Prop)->Prop
structure Ends where
 nx:St->Hp->Prop
 rt:VK
 bk:St->Hp->Prop:=fun _ _=>False
 ct:St->Hp->Prop:=fun _ _=>False
abbrev TS:=Ends->St->Hp->Prop
def EP (X:Cx) (pins:List (Addr×Obj)) (σ:St) (Q:VK) (u:Value) (s':Shared):Prop:=∃ v H',Inv X pins σ H' s'/\zcD v u/\Q v H'
def TP (X:Cx) (pins:List (Addr×Obj)) (σ:St) (Q:Bool->Hp->Prop) (b:Bool) (s':Shared):Prop:=∃ H',Inv X pins σ H' s'/\Q b H'
def AP (X:Cx) (pins:List (Addr×Obj)) (σ:St) (Q:List V->Hp->Prop) (us:List Value) (s':Shared):Prop:=∃ vs H',Inv X pins σ H' s'/\zbY vs us/\Q vs H'
def SP (X:Cx) (pins:List (Addr×Obj)) (D:Ends) (f:Flow) (s':Shared):Prop :=
 match f with
 | .next=>∃ σ' H',Inv X pins σ' H' s'/\D.nx σ' H'
 | .brk=>∃ σ' H',Inv X pins σ' H' s'/\D.bk σ' H'
 | .cont=>∃ σ' H',Inv X pins σ' H' s'/\D.ct σ' H'
 | .ret u=>∃ v σ' H',Inv X pins σ' H' s'/\zcD v u/\D.rt v H'
def PE (X:Cx) (e:Expr) (t:TE):Prop :=
 ∀ (pins:List (Addr×Obj)) (s:Shared) (σ:St) (H:Hp) (Q:VK),Inv X pins σ H s->t σ H Q->wpAny (model X.prog X.w) X.A (eval e X.env) (EP X pins σ Q) X.xe s
def PT (X:Cx) (e:Expr) (t:TT):Prop :=
 ∀ (pins:List (Addr×Obj)) (s:Shared) (σ:St) (H:Hp) (Q:Bool->Hp->Prop),Inv X pins σ H s->t σ H Q->wpAny (model X.prog X.w) X.A (isTrue e X.env (eval e X.env)) (TP X pins σ Q) X.xe s
def PW (X:Cx) (e:Expr) (t:TT):Prop :=
 ∀ (whole:Sem Value) (pins:List (Addr×Obj)) (s:Shared) (σ:St) (H:Hp) (Q:Bool->Hp->Prop),Inv X pins σ H s->t σ H Q->wpAny (model X.prog X.w) X.A (isTrue e X.env whole) (TP X pins σ Q) X.xe s
theorem PW.pt {X:Cx} {e:Expr} {t:TT} (h:PW X e t):PT X e t:=h _
def PA (X:Cx) (es:List Expr) (t:TA):Prop :=
 ∀ (pos:Pos) (pins:List (Addr×Obj)) (s:Shared) (σ:St) (H:Hp) (Q:List V->Hp->Prop),Inv X pins σ H s->t σ H Q->wpAny (model X.prog X.w) X.A (spliced (backTo pos (starEach es X.env))) (AP X pins σ Q) X.xe s
def PS (X:Cx) (st:Stmt) (t:TS):Prop :=
 ∀ (pins:List (Addr×Obj)) (s:Shared) (σ:St) (H:Hp) (D:Ends),Inv X pins σ H s->t D σ H->wpAny (model X.prog X.w) X.A (exec st X.env) (SP X pins D) X.xe s
def PSs (X:Cx) (st:List Stmt) (t:TS):Prop :=
 ∀ (pins:List (Addr×Obj)) (s:Shared) (σ:St) (H:Hp) (D:Ends),Inv X pins σ H s->t D σ H->wpAny (model X.prog X.w) X.A (execs st X.env) (SP X pins D) X.xe s
theorem thn {α:Type} {t:Sem α} {Q Q':α->Shared->Prop} {M:Model} {A:Around} {E:Value->Shared->Prop} {s:Shared} (h:wpAny M A t Q E s) (hQ:∀ a s,Q a s->Q' a s):wpAny M A t Q' E s:=wpAny_mono h hQ fun _ _ x=>x
end L2
namespace L2
open PySem PySem.Spec PyProof.Rows
section
variable {X:Cx}
theorem bin {a b:Expr} {ta tb:TE} (ha:PE X a ta) (hb:PE X b tb) {pins:List (Addr×Obj)} {s:Shared} {σ:St} {H:Hp} {R:V->V->Hp->Prop} (I:Inv X pins σ H s) (h:ta σ H fun x H1=>tb σ H1 fun y H2=>R x y H2)
  {α:Type} {Q:α->Shared->Prop} {f:Value->Value->Sem α}
  (hf:∀ v u s2 x y H2,Inv X pins σ H2 s2->zcD x v->zcD y u->R x y H2->wpAny (model X.prog X.w) X.A (f v u) Q X.xe s2) :
  wpAny (model X.prog X.w) X.A (eval a X.env) (fun v s₁=>wpAny (model X.prog X.w) X.A (eval b X.env) (fun u s₂=>wpAny (model X.prog X.w) X.A (f v u) Q X.xe s₂) X.xe s₁) X.xe s:=by
 refine thn (ha pins s σ H _ I h) fun v s1 ⟨x,H1,I1,r1,q1⟩=>?_
 refine thn (hb pins s1 σ H1 _ I1 q1) fun u s2 ⟨y,H2,I2,r2,q2⟩=>?_
 exact hf v u s2 x y H2 I2 r1 r2 q2
def zfJ (i:Nat):TE:=fun σ H Q=>∃ v,σ[i]?=some (some v)/\Q v H
def tC (v:V):TE:=fun _ H Q=>Q v H
theorem zfr {i:Nat} {x:Str} {pos:Pos} (hN:X.N[i]?=some x) (hv:Vis X.env.scope x) (hd:(x==("__debug__":Str))=false:=by decide) (hcd:(x==("__classdict__":Str))=false:=by decide):PE X (.Name x pos) (zfJ i):=by
 intro pins s σ H Q I h
 obtain ⟨v,e,h⟩:=h
 obtain ⟨m,hn,hl⟩:=I.loc
 obtain ⟨u,r,l⟩:=hl i x v hN e hv
 have fin:EP X pins σ Q u s:=⟨v,H,I,r,h⟩
 rcases l with ⟨hk,hm⟩ | ⟨hk,c,hc,hcell⟩
 ·exact wpAny_Name (wpAny_loadName_local I.ok.kind hk hn hm fin) hd
 ·rcases hk with hk | hk
  ·exact wpAny_Name (wpAny_loadName_cell I.ok.kind hk hc hcell fin) hd
  ·exact wpAny_Name (wpAny_loadName_free I.ok.kind hk hc hcell fin hcd) hd
theorem zdj {i j pos}:PE X (.Constant (.int i) j pos) (tC (.int i)):=fun _ _ _ H _ I h=>wpAny_Constant_int ⟨.int i,H,I.tok _,⟨_,rfl⟩,h⟩
theorem zoz {b j pos}:PE X (.Constant (.bool b) j pos) (tC (.bl b)):=fun _ _ _ H _ I h=>Constant_bool ⟨.bl b,H,I,rfl,h⟩
theorem zpA {j pos}:PE X (.Constant .none j pos) (tC .non):=fun _ _ _ H _ I h=>Constant_none ⟨.non,H,I,rfl,h⟩
theorem zkY {x j pos}:PE X (.Constant (.str x) j pos) (tC (.str x)):=fun _ _ _ H _ I h=>Calls.Constant_str ⟨.str x,H,I.tok _,⟨_,rfl⟩,h⟩
def Gl (X:Cx) (x:Str):Prop:=X.env.kindOf x=some .globalImplicit
theorem zki {E:Value->Shared->Prop} {pins:List (Addr×Obj)} {s:Shared} {σ:St} {H:Hp} {x:Str} {u:Value} {pos:Pos} {Q:Value->Shared->Prop} (I:Inv X pins σ H s) (hg:Gl X x) (hm:X.mg x=some u) (h:Q u s)
  (hd:(x==("__debug__":Str))=false:=by decide):wpAny (model X.prog X.w) X.A (eval (.Name x pos) X.env) Q E s :=
 Calls.Name_function_global I.ok.kind hg (Calls.loadGlobal_global (by rw [I.ok.glob];exact I.mod.glob.keeps I.bk) hm h) hd
theorem zh5 {E:Value->Shared->Prop} {pins:List (Addr×Obj)} {s:Shared} {σ:St} {H:Hp} {x:Str} {u:Value} {pos:Pos} {Q:Value->Shared->Prop} (I:Inv X pins σ H s) (hg:Gl X x) (hm:X.mg x=none) (hv:bootBuiltins x=some u) (h:Q u s)
  (hn:x≠"__name__":=by decide) (hd:(x==("__debug__":Str))=false:=by decide):wpAny (model X.prog X.w) X.A (eval (.Name x pos) X.env) Q E s:=by
 obtain ⟨mb,h1,h2⟩:=I.mod.blt
 exact Calls.Name_function_global I.ok.kind hg (Calls.loadGlobal_builtin (by rw [I.ok.glob];exact I.mod.glob.keeps I.bk) hm (by rw [I.ok.blt];exact h1.keeps I.bk) ((h2 x hn).trans hv) h) hd
theorem zqx {x:Str} {v:V} {u:Value} {pos:Pos} (hg:Gl X x) (hm:X.mg x=some u) (r:zcD v u) (hd:(x==("__debug__":Str))=false:=by decide):PE X (.Name x pos) (tC v) :=
 fun _ _ _ H _ I h=>zki I hg hm ⟨v,H,I,r,h⟩ hd
theorem zqz {x:Str} {v:V} {u:Value} {pos:Pos} (hg:Gl X x) (hm:X.mg x=none) (hv:bootBuiltins x=some u) (r:zcD v u) (hn:x≠"__name__":=by decide) (hd:(x==("__debug__":Str))=false:=by decide):PE X (.Name x pos) (tC v) :=
 fun _ _ _ H _ I h=>zh5 I hg hm hv ⟨v,H,I,r,h⟩ hn hd
variable {a b:Expr} {ta tb:TE} {pos:Pos}
def PC (X:Cx) (op:CmpOp) (a b:Expr) (t:TE):Prop :=
 ∀ (pins:List (Addr×Obj)) (s:Shared) (σ:St) (H:Hp) (Q:VK),Inv X pins σ H s->t σ H Q ->
  wpAny (model X.prog X.w) X.A (eval a X.env) (fun v s₁=>wpAny (model X.prog X.w) X.A (eval b X.env) (fun u s₂=>wpAny (model X.prog X.w) X.A (compareOp op v u) (EP X pins σ Q) X.xe s₂) X.xe s₁) X.xe s
theorem zoF (b:Expr) {op:CmpOp} (h:op≠.In) (h2:op≠.NotIn):behindInMarks op b=false:=by
 have e1:(op==CmpOp.In)=false:=by cases op <;> first | rfl | exact absurd rfl h
 have e2:(op==CmpOp.NotIn)=false:=by cases op <;> first | rfl | exact absurd rfl h2
 cases b <;> simp [behindInMarks,e1,e2]
def tB (t:TE):TT:=fun σ H Q=>t σ H fun x H1=>∃ c,x=.bl c/\Q c H1
theorem zuy {op:CmpOp} {t:TE} (h:PC X op a b t) (h1:behindInMarks op b=false:=by first | exact zoF _ (by decide) (by decide) | rfl):PT X (.Compare a [op] [b] pos) (tB t):=by
 intro pins s σ H Q I hw
 refine wpAny_isTrue_Compare1 (thn (h pins s σ H _ I hw) fun v s1 h1=>thn h1 fun u s2 h2=>thn h2 fun c s3 ⟨x,H1,I1,r1,q1⟩=>?_) h1
 obtain ⟨d,rfl,q⟩:=q1
 cases r1
 exact wpAny_truthy_bool ⟨H1,I1,q⟩
theorem zsg {e:Expr} {t:TE} (h:PE X e t) (he:∀ whole,isTrue e X.env whole=(do let v ← whole;standAt e.pos;holding [v] (truthy v)):=by intro _;rfl):PT X e (tB t):=by
 intro pins s σ H Q I hw
 refine isTrue_plain (thn (h pins s σ H _ I hw) fun v s1 ⟨x,H1,I1,r1,q1⟩=>?_) (he _)
 obtain ⟨d,rfl,q⟩:=q1
 cases r1
 exact wpAny_truthy_bool ⟨H1,I1,q⟩
variable {tA tB':TT} {zdf:List Expr}
def zuO (t u:TT):TT:=fun σ H Q=>t σ H fun c H1=>if c=true then u σ H1 Q else Q false H1
def tOr (t u:TT):TT:=fun σ H Q=>t σ H fun c H1=>if c=true then Q true H1 else u σ H1 Q
def zuM (t:TT):TT:=fun σ H Q=>t σ H fun c H1=>Q (!c) H1
theorem zqm (ha:PT X a tA):PW X (.BoolOp .And [a] pos) tA:=by
 intro wh pins s σ H Q I h
 refine isTrue_and (thn (ha pins s σ H Q I h) fun c s1 e=>?_)
 cases c with
 | true=>exact isTrue_and_nil e
 | false=>exact e
theorem zsd (ha:PT X a tA):PW X (.BoolOp .Or [a] pos) tA:=by
 intro wh pins s σ H Q I h
 refine isTrue_or (thn (ha pins s σ H Q I h) fun c s1 e=>?_)
 cases c with
 | false=>exact isTrue_or_nil e
 | true=>exact e
theorem zse (ha:PT X a tA) (hb:PW X (.BoolOp .And (b::zdf) pos) tB'):PW X (.BoolOp .And (a::b::zdf) pos) (zuO tA tB'):=by
 intro wh pins s σ H Q I h
 refine isTrue_and (thn (ha pins s σ H _ I h) fun c s1 ⟨H1,I1,q1⟩=>?_)
 cases c with
 | true=>exact hb wh pins s1 σ H1 Q I1 q1
 | false=>exact ⟨H1,I1,q1⟩
theorem ztK (ha:PT X a tA) (hb:PW X (.BoolOp .Or (b::zdf) pos) tB'):PW X (.BoolOp .Or (a::b::zdf) pos) (tOr tA tB'):=by
 intro wh pins s σ H Q I h
 refine isTrue_or (thn (ha pins s σ H _ I h) fun c s1 ⟨H1,I1,q1⟩=>?_)
 cases c with
 | true=>exact ⟨H1,I1,q1⟩
 | false=>exact hb wh pins s1 σ H1 Q I1 q1
theorem zsh (ha:PT X a tA):PT X (.UnaryOp .Not a pos) (zuM tA):=by
 intro pins s σ H Q I h
 exact isTrue_not (ha pins s σ H (fun c H1=>Q (!c) H1) I h)
def ztF (ta tb:TE):TE:=fun σ H Q=>ta σ H fun x H1=>∃ c,x=.bl c/\if c=true then tb σ H1 Q else Q (.bl false) H1
def ztC (ta:TE):TE:=fun σ H Q=>ta σ H fun x H1=>∃ c,x=.bl c/\Q (.bl (!c)) H1
theorem zso {op} {t:TE} (h:PE X a t):PE X (.BoolOp op [a] pos) t:=fun pins s σ H Q I hw=>BoolOp_one (h pins s σ H Q I hw)
theorem zsr (ha:PE X a ta) (hb:PE X (.BoolOp .And (b::zdf) pos) tb):PE X (.BoolOp .And (a::b::zdf) pos) (ztF ta tb):=by
 intro pins s σ H Q I h
 refine BoolOp_and (thn (ha pins s σ H _ I h) fun v s1 ⟨x,H1,I1,r1,q1⟩=>?_)
 obtain ⟨c,rfl,q1⟩:=q1
 cases r1
 refine wpAny_truthy_bool ?_
 cases c with
 | true=>exact hb pins s1 σ H1 Q I1 q1
 | false=>exact ⟨.bl false,H1,I1,rfl,q1⟩
theorem zsp (ha:PE X a ta):PE X (.UnaryOp .Not a pos) (ztC ta):=by
 intro pins s σ H Q I h
 refine UnaryOp_ (thn (ha pins s σ H _ I h) fun v s1 ⟨x,H1,I1,r1,q1⟩=>?_)
 obtain ⟨c,rfl,q1⟩:=q1
 cases r1
 exact not_of (wpAny_truthy_bool ⟨.bl (!c),H1,I1,rfl,q1⟩)
end
end L2
namespace L2
open PySem PySem.Spec PyProof.Rows
def SqL (K:PySem.W.Frag) (H:Hp) (a:Addr) (xs:List V):Prop :=
 Rd H a (.lst xs) \/
  ∃ (o:Obj) (its:Array Value) (n:Nat),K.lookup a=some o/\o.cls=.type "list"/\o.dict=none/\o.data=.seq its n/\its.size<=sizeLine/\zbY xs its.toList
def SqT (K:PySem.W.Frag) (H:Hp) (a:Addr) (xs:List V):Prop :=
 Rd H a (.tup xs) \/
  ∃ (o:Obj) (its:Array Value) (n:Nat),K.lookup a=some o/\o.cls=.type "tuple"/\o.data=.seq its n/\its.size<=sizeLine/\zbY xs its.toList
def zu0:Value->Option V
 | .none=>some .non
 | .bool b=>some (.bl b)
 | .int i _=>some (.int i)
 | .str x _=>some (.str x)
 | .bytes b _=>some (.byt b)
 | .float b _=>some (.flt b)
 | .ref a=>some (.ref a)
 | .type n=>some (.ty n)
 | _=>none
theorem zcD.abs {x:V} {u:Value} (r:zcD x u):zu0 u=some x:=by
 cases x with
 | non=>cases r;rfl
 | bl _=>cases r;rfl
 | int _=>obtain ⟨t,rfl⟩:=r;rfl
 | str _=>obtain ⟨t,rfl⟩:=r;rfl
 | byt _=>obtain ⟨t,rfl⟩:=r;rfl
 | flt _=>obtain ⟨t,rfl⟩:=r;rfl
 | ref _=>cases r;rfl
 | ty _=>cases r;rfl
theorem zcD.inj {x y:V} {u:Value} (r:zcD x u) (q:zcD y u):x=y:=qF (r.abs.symm.trans q.abs)
theorem zbY.inj:∀ {xs ys:List V} {us:List Value},zbY xs us->zbY ys us->xs=ys
 | _,_,_,.nil,.nil=>rfl
 | _,_,_,.cons r t,.cons r' t'=>by rw [r.inj r',zbY.inj t t']
section
variable {X:Cx} {pins:List (Addr×Obj)} {σ:St} {H:Hp} {s:Shared} {a:Addr} {xs ys:List V}
theorem Inv.list (I:Inv X pins σ H s) (h:SqL X.K H a xs):∃ its:List Value,zbY xs its/\PlainL s.heap a its.toArray/\xs.length<=sizeLine:=by
 rcases h with h | ⟨o,its,n,hk,hc,hd,hs,hz,r⟩
 ·obtain ⟨z,its,n,r,e⟩:=h.ok I.hok
  exact ⟨its,r,⟨_,n,e,rfl,rfl,rfl⟩,z⟩
 ·refine ⟨its.toList,r,⟨o,n,I.kIn a o hk,hc,hd,by simpa using hs⟩,?_⟩
  have e:=r.length
  simp only [Array.length_toList] at e
  omega
theorem Inv.tuple (I:Inv X pins σ H s) (h:SqT X.K H a xs):∃ its:List Value,zbY xs its/\IsTup s.heap a its.toArray/\xs.length<=sizeLine:=by
 rcases h with h | ⟨o,its,n,hk,hc,hs,hz,r⟩
 ·obtain ⟨z,its,r,p⟩:=h.ok I.hok
  exact ⟨its,r,p,z⟩
 ·refine ⟨its.toList,r,⟨o,I.kIn a o hk,hc,n,by simpa using hs⟩,?_⟩
  have e:=r.length
  simp only [Array.length_toList] at e
  omega
theorem Inv.list_inj (I:Inv X pins σ H s) (h:SqL X.K H a xs) (h':SqL X.K H a ys):xs=ys:=by
 obtain ⟨its,r,⟨o,n,e,_,_,d⟩,_⟩:=I.list h
 obtain ⟨its',r',⟨o',n',e',_,_,d'⟩,_⟩:=I.list h'
 rw [e] at e';cases e'
 rw [d] at d'
 injection d' with d1 _
 have:its=its':=by simpa using congrArg Array.toList d1
 subst this
 exact r.inj r'
theorem Inv.tuple_inj (I:Inv X pins σ H s) (h:SqT X.K H a xs) (h':SqT X.K H a ys):xs=ys:=by
 obtain ⟨its,r,⟨o,e,_,n,d⟩,_⟩:=I.tuple h
 obtain ⟨its',r',⟨o',e',_,n',d'⟩,_⟩:=I.tuple h'
 rw [e] at e';cases e'
 rw [d] at d'
 injection d' with d1 _
 have:its=its':=by simpa using congrArg Array.toList d1
 subst this
 exact r.inj r'
end
abbrev Cx.wish (X:Cx) (E:Value->Shared->Prop):Cx:={ X with xe:=E }
abbrev Cx.nox (X:Cx):Cx:=X.wish fun _ _=>False
theorem Cx.Ok.wish {X:Cx} (ok:X.Ok) (E:Value->Shared->Prop):(X.wish E).Ok :=
 ⟨ok.mod,ok.kind,ok.glob,ok.blt,ok.above,ok.inj,ok.has,ok.cab,ok.hd,ok.frames,ok.stk,ok.exf,ok.bs,ok.bsz,ok.noex,ok.exfs,ok.funs,ok.frf⟩
theorem Cx.Ok.unwish {X:Cx} {E:Value->Shared->Prop} (ok:(X.wish E).Ok):X.Ok :=
 ⟨ok.mod,ok.kind,ok.glob,ok.blt,ok.above,ok.inj,ok.has,ok.cab,ok.hd,ok.frames,ok.stk,ok.exf,ok.bs,ok.bsz,ok.noex,ok.exfs,ok.funs,ok.frf⟩
section
variable {X:Cx} {pins:List (Addr×Obj)} {σ:St} {H:Hp} {s:Shared} {E:Value->Shared->Prop}
theorem Inv.wish (I:Inv X pins σ H s) (E:Value->Shared->Prop):Inv (X.wish E) pins σ H s:=⟨I.ok.wish E,I.os,I.bare,I.base,I.loc,I.cell,I.free,I.freeC,I.pin,I.hok,I.len⟩
theorem Inv.unwish (I:Inv (X.wish E) pins σ H s):Inv X pins σ H s:=⟨I.ok.unwish,I.os,I.bare,I.base,I.loc,I.cell,I.free,I.freeC,I.pin,I.hok,I.len⟩
theorem SP.unwish {D:Ends} {f:Flow} {s':Shared} (h:SP (X.wish E) pins D f s'):SP X pins D f s':=by
 cases f with
 | next=>obtain ⟨σ',H',I,q⟩:=h;exact ⟨σ',H',I.unwish,q⟩
 | brk=>obtain ⟨σ',H',I,q⟩:=h;exact ⟨σ',H',I.unwish,q⟩
 | cont=>obtain ⟨σ',H',I,q⟩:=h;exact ⟨σ',H',I.unwish,q⟩
 | ret u=>obtain ⟨v,σ',H',I,r,q⟩:=h;exact ⟨v,σ',H',I.unwish,r,q⟩
theorem PSs.nox {st:List Stmt} {t:TS} (h:PSs X.nox st t):PSs X st t:=fun pins s σ H D I hw =>
 wpAny_mono (h pins s σ H D (I.wish _) hw) (fun _ _ q=>q.unwish) fun _ _ z=>False.elim z
end
section
variable {X:Cx} {st:Stmt} {zdf:List Stmt} {t u:TS} {e:Expr} {te:TE} {pos:Pos}
def zp6:TS:=fun D σ H=>D.nx σ H
def zhB (t u:TS):TS:=fun D σ H=>t { D with nx:=u D } σ H
theorem zj8:PSs X [] zp6:=fun _ _ σ H _ I h=>wpAny_execs_nil ⟨σ,H,I,h⟩
theorem zbk (h1:PS X st t) (h2:PSs X zdf u):PSs X (st::zdf) (zhB t u):=by
 intro pins s σ H D I h
 refine wpAny_execs_cons (thn (h1 pins s σ H { D with nx:=u D } I h) fun f s1 q=>?_)
 cases f with
 | next =>
  obtain ⟨σ',H',I',q⟩:=q
  exact h2 pins s1 σ' H' D I' q
 | ret v=>exact q
 | brk=>exact q
 | cont=>exact q
theorem zcJ (h1:PS X st t):PSs X [st] t:=by
 intro pins s σ H D I h
 refine wpAny_execs_cons (thn (h1 pins s σ H D I h) fun f s1 q=>?_)
 cases f with
 | next=>exact wpAny_execs_nil q
 | ret v=>exact q
 | brk=>exact q
 | cont=>exact q
theorem Inv.quiet {pins:List (Addr×Obj)} {σ:St} {H:Hp} {s:Shared} (I:Inv X pins σ H s):interactive X.env=false:=by simp [interactive,I.ok.kind]
def zih (te:TE):TS:=fun D σ H=>te σ H fun _ H1=>D.nx σ H1
theorem zdr (he:PE X e te) (hs:swapsWith e none pos.line X.env=pure false:=by rfl):PS X (.Expr e pos) (zih te):=by
 intro pins s σ H D I h
 exact wpAny_Expr_any (thn (he pins s σ H _ I h) fun v s1 ⟨x,H1,I1,r1,q1⟩=>⟨σ,H1,I1,q1⟩) I.quiet hs
def zoe (te:TE):TS:=fun D σ H=>te σ H D.rt
theorem zgl (he:PE X e te):PS X (.Return (some e) pos) (zoe te):=by
 intro pins s σ H D I h
 exact wpAny_Return_some (thn (he pins s σ H _ I h) fun v s1 ⟨x,H1,I1,r1,q1⟩=>⟨x,σ,H1,I1,r1,q1⟩)
def ztE (c:TT) (t u:TS):TS:=fun D σ H=>c σ H fun b H1=>if b=true then t D σ H1 else u D σ H1
theorem zqr {c:Expr} {a b:List Stmt} {tc:TT} (hc:PT X c tc) (ha:PSs X a t) (hb:PSs X b u):PS X (.If c a b pos) (ztE tc t u):=by
 intro pins s σ H D I h
 refine wpAny_If (thn (hc pins s σ H _ I h) fun d s1 ⟨H1,I1,q1⟩=>?_)
 cases d with
 | true=>exact ha pins s1 σ H1 D I1 q1
 | false=>exact hb pins s1 σ H1 D I1 q1
end
abbrev TG:=V->St->Hp->(St->Hp->Prop)->Prop
abbrev TGs:=List V->St->Hp->(St->Hp->Prop)->Prop
def PG (X:Cx) (target:Expr) (t:TG):Prop :=
 ∀ (pins:List (Addr×Obj)) (s:Shared) (σ:St) (H:Hp) (v:V) (u:Value) (Q:St->Hp->Prop),Inv X pins σ H s->zcD v u->t v σ H Q ->
  wpAny (model X.prog X.w) X.A (assign target X.env u) (fun _ s'=>∃ σ' H',Inv X pins σ' H' s'/\Q σ' H') X.xe s
def PGs (X:Cx) (ts:List Expr) (t:TGs):Prop :=
 ∀ (pins:List (Addr×Obj)) (s:Shared) (σ:St) (H:Hp) (vs:List V) (us:List Value) (Q:St->Hp->Prop),Inv X pins σ H s->zbY vs us->t vs σ H Q ->
  wpAny (model X.prog X.w) X.A (assignInOrder ((assignEach ts X.env).map (·.2)) us) (fun _ s'=>∃ σ' H',Inv X pins σ' H' s'/\Q σ' H') X.xe s
section
variable {X:Cx} {pos:Pos}
def zdi (i:Nat):TG:=fun v σ H Q=>Q (σ.set i (some v)) H
theorem zds {i:Nat} {x:Str} (hN:X.N.Nodup) (hi:X.N[i]?=some x) (hx:Loc X.env.scope x) (hf:X.fn x=true\/X.env.scope.names.lookup x=some .local:=by first | exact .inl rfl | exact .inr rfl | assumption):PG X (.Name x pos) (zdi i):=by
 intro pins s σ H v u Q I r h
 exact wpAny_assign_Name (zkP I hN hi hx r (fun s' I'=>⟨_,H,I',h⟩) hf)
def zt5:TGs:=fun vs σ H Q=>vs=[]/\Q σ H
def zl0 (t:TG) (u:TGs):TGs:=fun vs σ H Q=>∃ v r,vs=v::r/\t v σ H fun σ' H'=>u r σ' H' Q
theorem zka:PGs X [] zt5:=by
 intro pins s σ H vs us Q I r h
 obtain ⟨e,h⟩:=h
 subst e
 cases r
 exact assignInOrder_nil ⟨σ,H,I,h⟩
theorem zes {e:Expr} {es:List Expr} {t:TG} {u:TGs} (h1:PG X e t) (h2:PGs X es u)
  (hs:(assignEach (e::es) X.env).map (·.2)=assign e X.env::(assignEach es X.env).map (·.2):=by rfl):PGs X (e::es) (zl0 t u):=by
 intro pins s σ H vs us Q I r h
 obtain ⟨v,vr,e1,h⟩:=h
 subst e1
 cases r with
 | cons r rr =>
  rw [hs]
  refine assignInOrder_cons (thn (h1 pins s σ H _ _ _ I r h) fun _ s1 ⟨σ1,H1,I1,q1⟩=>?_)
  exact h2 pins s1 σ1 H1 _ _ Q I1 rr q1
def zt4 (K:PySem.W.Frag) (n:Nat) (t:TGs):TG:=fun v σ H Q=>∃ a xs,v=.ref a/\SqT K H a xs/\xs.length=n/\t xs σ H Q
theorem zmI {es:List Expr} {k:Nat} {t:TGs} {n:Nat} (hc:X.calm=true) (h:PGs X es t)
  (hn:(assignEach es X.env).length=n:=by rfl) (hst:(assignEach es X.env).findIdx? (·.1)=none:=by rfl):PG X (.Tuple es k pos) (zt4 X.K n t):=by
 intro pins s σ H v u Q I r hw
 obtain ⟨a,xs,e1,hq,hl,hw⟩:=hw
 subst e1
 cases r
 obtain ⟨its,rv,ht,hz⟩:=I.tuple hq
 refine assign_Tuple_tuple (I.ok.hd hc) ht (by simp [hn,← hl,rv.length]) hst fun h' hx=>?_
 have I1:Inv X pins σ H { s with heap:=h' }:=I.kept (t':=s.toks) fun b o e=>hx b o (qA (qt e)) e
 exact h pins _ σ H xs _ Q I1 (by simpa using rv) hw
def zmb (te:TE) (g:TG):TS:=fun D σ H=>te σ H fun x H1=>g x σ H1 D.nx
theorem zfq {i:Nat} {x:Str} {e:Expr} {te:TE} {pos':Pos} (hN:X.N.Nodup) (hi:X.N[i]?=some x) (hx:Loc X.env.scope x) (he:PE X e te) (hs:swapsWith e (some (.Name x pos')) pos.line X.env=pure false:=by rfl) (hf:X.fn x=true\/X.env.scope.names.lookup x=some .local:=by first | exact .inl rfl | exact .inr rfl | assumption) :
  PS X (.Assign [.Name x pos'] e pos) (zmb te (zdi i)):=by
 intro pins s σ H D I h
 refine wpAny_Assign_Name (thn (he pins s σ H _ I h) fun v s1 ⟨y,H1,I1,r1,q1⟩=>?_) hs
 exact zkP I1 hN hi hx r1 (fun s2 I2=>⟨_,H1,I2,q1⟩) hf
end
section
variable {X:Cx} {pos:Pos}
end
structure It where
 go:Nat->Hp->Prop
 yld:Nat->Hp->V->Hp->Prop
 stop:Nat->Hp->Prop
def zma (X:Cx) (pins:List (Addr×Obj)) (H:Hp) (b:Addr):Prop :=
 H b=none/\b≠X.env.locals/\b∉X.fs/\(b∈X.ex\/X.s₀.heap.objs.size<=b)/\(∀ x c,X.env.cells.lookup x=some c->c≠b)/\∀ p∈X.pn++pins,p.1≠b
theorem Inv.fpOk {X:Cx} {pins:List (Addr×Obj)} {σ:St} {H H':Hp} {s:Shared} {b:Addr} (I:Inv X pins σ H s) (hb:s.heap.objs.size<=b) (hn:H' b=none):zma X pins H' b:=by
 refine ⟨hn,Nat.ne_of_gt (qD I.lt hb),I.nofs hb,.inr (qK I.sz hb),fun x c e z=>?_,fun p hp z=>?_⟩
 ·obtain ⟨v,q⟩:=I.cell x c e
  exact absurd (qD q.lt (by rw [z];exact hb)) (Nat.lt_irrefl _)
 ·exact absurd (qD (qt (I.pin p hp).1) (by rw [z];exact hb)) (Nat.lt_irrefl _)
structure Turn (P:Program) (w:World) (K:PySem.W.Frag) (tg:Expr) (J:It) (fp:List Addr) (it:Addr) (tn:Nat->Heap->Prop):Prop where
 mem:it∈fp
 obj:∀ i h,tn i h->∀ b∈fp,∃ o,h.get? b=some o/\∀ v,o.data≠.cell v
 keep:∀ i h h',tn i h->(∀ b∈fp,∀ o,h.get? b=some o->h'.get? b=some o)->tn i h'
 item:∀ (X:Cx),X.prog=P->X.w=w->X.K=K->X.calm=true->∀ (i:Nat) (pins:List (Addr×Obj)) (s:Shared) (σ:St) (H:Hp) (E:Value->Shared->Prop),Inv X pins σ H s->(∀ b∈fp,zma X pins H b)->tn i s.heap->J.go i H ->
  wpAny (model P w) X.A (pyNext (.ref it)) (fun r s1=>∃ u,r=some u /\
   wpAny (model P w) X.A (letOwnedTupleGo tg (.ref it) u) (fun _ s2=>∃ x H',Inv X pins σ H' s2/\zcD x u/\J.yld i H x H'/\tn (i+1) s2.heap/\∀ b∈fp,H' b=none) E s1) E s
 done:∀ (X:Cx),X.prog=P->X.w=w->X.K=K->X.calm=true->∀ (i:Nat) (pins:List (Addr×Obj)) (s:Shared) (σ:St) (H:Hp) (E:Value->Shared->Prop),Inv X pins σ H s->(∀ b∈fp,zma X pins H b)->tn i s.heap->J.stop i H ->
  wpAny (model P w) X.A (pyNext (.ref it)) (fun r s1=>r=none/\Inv X pins σ H s1) E s
 self:∀ (A:Around) (i:Nat) (s:Shared) (Q:Value->Shared->Prop) (E:Value->Shared->Prop),tn i s.heap->Q (.ref it) s->wpAny (model P w) A (pyIter (.ref it)) Q E s
abbrev TI:=St->Hp->(It->Hp->Prop)->Prop
def PIE (X:Cx) (pins:List (Addr×Obj)) (σ:St) (tg:Expr) (R:It->Hp->Prop) (itv:Value) (s2:Shared):Prop :=
 ∃ (it:Addr) (fp:List Addr) (tn:Nat->Heap->Prop) (J:It) (H':Hp),itv=.ref it/\Inv X pins σ H' s2/\Turn X.prog X.w X.K tg J fp it tn/\tn 0 s2.heap/\(∀ b∈fp,zma X pins H' b)/\R J H'
def PI (X:Cx) (tg iter:Expr) (wi:TI):Prop :=
 ∀ (pins:List (Addr×Obj)) (s:Shared) (σ:St) (H:Hp) (R:It->Hp->Prop),Inv X pins σ H s->wi σ H R ->
  wpAny (model X.prog X.w) X.A (eval iter X.env) (fun v s1=>wpAny (model X.prog X.w) X.A (pyIter v) (PIE X pins σ tg R) X.xe s1) X.xe s
theorem zrb {M:Model} {A:Around} {E:Value->Shared->Prop} {s:Shared} {tg:Expr} {it:Addr} {u:Value} {o:Obj} {n:String} {vs:Array Value} {Q:Unit->Shared->Prop} (ho:s.heap.get? it=some o) (hc:o.cls=.type n) (hd:o.data=.fields vs)
  (hn:["enumerate","zip","dict_itemiterator","dict_reverseitemiterator","odict_iterator","itertools.zip_longest","itertools.pairwise"].contains n=false) (hQ:Q () s):wpAny M A (letOwnedTupleGo tg (.ref it) u) Q E s:=by
 unfold letOwnedTupleGo
 cases tg <;> first
  | exact qy hQ
  | (cases u <;> first
    | exact qy hQ
    | (refine qv (wpAny_load ho ?_);rw [hc,hd];show wpAny M A (if (["enumerate","zip","dict_itemiterator","dict_reverseitemiterator","odict_iterator","itertools.zip_longest","itertools.pairwise"].contains n && vs[0]?==some (rawInt _))=true then _ else _) Q E s;rw [qX (by intro h;rw [hn,Bool.false_and] at h;cases h)];exact qy hQ))
def Itl (K:PySem.W.Frag) (a:Addr):It :=
 ⟨fun i H=>∃ xs x,SqL K H a xs/\xs[i]?=some x,fun i H x H'=>H'=H/\∀ xs,SqL K H a xs->xs[i]?=some x,fun i H=>∃ xs,SqL K H a xs/\xs.length<=i⟩
def Itt (K:PySem.W.Frag) (a:Addr):It :=
 ⟨fun i H=>∃ xs x,SqT K H a xs/\xs[i]?=some x,fun i H x H'=>H'=H/\∀ xs,SqT K H a xs->xs[i]?=some x,fun i H=>∃ xs,SqT K H a xs/\xs.length<=i⟩
def Itr (lo:Int) (n:Nat):It:=⟨fun i _=>i < n,fun i H x H'=>H'=H/\x=.int (lo+i),fun i _=>n<=i⟩
theorem zi8 {P:Program} {w:World} {K:PySem.W.Frag} {tg:Expr} (a it:Addr):Turn P w K tg (Itl K a) [it] it (fun i h=>h.IsListIter it a i) where
 mem:=by simp
 obj:=fun i h st b hb=>by
  have e:b=it:=by simpa using hb
  subst e
  obtain ⟨o,e,c,d⟩:=st
  exact ⟨o,e,fun v z=>by rw [d] at z;cases z⟩
 keep:=fun i h h' st k=>st.at fun o e=>k it (by simp) o e
 item:=by
  intro X hP hw hK hc i pins s σ H E I hf st hg
  subst hP hw hK
  obtain ⟨xs,x,hq,hx⟩:=hg
  obtain ⟨its,rv,p,hz⟩:=I.list hq
  obtain ⟨u,hu,ru⟩:=rv.get hx
  obtain ⟨f0,f1,f2,f3,f4,f5⟩:=hf it (by simp)
  refine wpAny_pyNext_list_item st p.isList (x:=u) (by simpa using hu) fun h' st' sb=>?_
  have I1:Inv X pins σ H { s with heap:=h' }:=I.turned (t':=s.toks) (fun b o hb e=>(sb.2 b hb).trans e) f0 f1 f3 f4 f5
  obtain ⟨o,e,c,d⟩:=id st'
  exact ⟨u,rfl,zrb (s:={ s with heap:=h' }) e c d (by decide) ⟨x,H,I1,ru,⟨rfl,fun ys hy=>by rw [I.list_inj hy hq];exact hx⟩,st',fun b hb=>(hf b hb).1⟩⟩
 done:=by
  intro X hP hw hK hc i pins s σ H E I hf st hg
  subst hP hw hK
  obtain ⟨xs,hq,hx⟩:=hg
  obtain ⟨its,rv,p,hz⟩:=I.list hq
  obtain ⟨f0,f1,f2,f3,f4,f5⟩:=hf it (by simp)
  have hl:=rv.length
  exact wpAny_pyNext_list_end (I.ok.hd hc) st p.isList (by simp;omega) fun h' eb=>⟨rfl,I.turned (t':=s.toks) (fun b o hb e=>eb b o hb e) f0 f1 f3 f4 f5⟩
 self:=fun _ _ _ _ _ st h=>wpAny_pyIter_listiter st h
theorem zlC {P:Program} {w:World} {K:PySem.W.Frag} {tg:Expr} (a it:Addr):Turn P w K tg (Itt K a) [it] it (fun i h=>h.IsTupleIter it a i) where
 mem:=by simp
 obj:=fun i h st b hb=>by
  have e:b=it:=by simpa using hb
  subst e
  obtain ⟨o,e,c,d⟩:=st
  exact ⟨o,e,fun v z=>by rw [d] at z;cases z⟩
 keep:=fun i h h' st k=>st.at fun o e=>k it (by simp) o e
 item:=by
  intro X hP hw hK hc i pins s σ H E I hf st hg
  subst hP hw hK
  obtain ⟨xs,x,hq,hx⟩:=hg
  obtain ⟨its,rv,p,hz⟩:=I.tuple hq
  obtain ⟨u,hu,ru⟩:=rv.get hx
  obtain ⟨f0,f1,f2,f3,f4,f5⟩:=hf it (by simp)
  refine wpAny_pyNext_tuple_item st (show s.heap.IsTuple a its.toArray from p) (x:=u) (by simpa using hu) fun h' st' sb=>?_
  have I1:Inv X pins σ H { s with heap:=h' }:=I.turned (t':=s.toks) (fun b o hb e=>(sb.2 b hb).trans e) f0 f1 f3 f4 f5
  obtain ⟨o,e,c,d⟩:=id st'
  exact ⟨u,rfl,zrb (s:={ s with heap:=h' }) e c d (by decide) ⟨x,H,I1,ru,⟨rfl,fun ys hy=>by rw [I.tuple_inj hy hq];exact hx⟩,st',fun b hb=>(hf b hb).1⟩⟩
 done:=by
  intro X hP hw hK hc i pins s σ H E I hf st hg
  subst hP hw hK
  obtain ⟨xs,hq,hx⟩:=hg
  obtain ⟨its,rv,p,hz⟩:=I.tuple hq
  obtain ⟨f0,f1,f2,f3,f4,f5⟩:=hf it (by simp)
  have hl:=rv.length
  exact wpAny_pyNext_tuple_end (I.ok.hd hc) st (show s.heap.IsTuple a its.toArray from p) (by simp;omega) fun h' eb=>⟨rfl,I.turned (t':=s.toks) (fun b o hb e=>eb b o hb e) f0 f1 f3 f4 f5⟩
 self:=fun _ _ _ _ _ st h=>wpAny_pyIter_tupleiter st h
theorem zlD {P:Program} {w:World} {K:PySem.W.Frag} {tg:Expr} (it:Addr) (lo:Int) (n:Nat):Turn P w K tg (Itr lo n) [it] it (fun i h=>IsRangeIter h it (lo+(i:Nat)*1) ((n:Int) - (i:Nat)) 1) where
 mem:=by simp
 obj:=fun i h st b hb=>by
  have e:b=it:=by simpa using hb
  subst e
  exact ⟨_,st,fun v z=>by
   have z':Data.fields _=Data.cell v:=z
   cases z'⟩
 keep:=fun i h h' st k=>k it (by simp) _ st
 item:=by
  intro X hP hw hK hc i pins s σ H E I hf st hg
  subst hP hw hK
  obtain ⟨f0,f1,f2,f3,f4,f5⟩:=hf it (by simp)
  have W:=Walks.range (prog:=X.prog) (w:=X.w) (I.ok.hd hc) it lo 1 n
  refine W.item i s _ _ hg st fun v h' tk hv st' kk=>?_
  obtain ⟨t,rfl⟩:=hv
  have I1:Inv X pins σ H { s with heap:=h',toks:=tk }:=I.turned (fun b o hb e=>kk b o (by simpa using hb) e) f0 f1 f3 f4 f5
  refine ⟨_,rfl,zrb (s:={ s with heap:=h',toks:=tk }) (n:="range_iterator") st' rfl rfl (by decide) ⟨.int (lo+i),H,I1,⟨t,?_⟩,⟨rfl,rfl⟩,st',fun b hb=>(hf b hb).1⟩⟩
  rw [Int.mul_one]
 done:=by
  intro X hP hw hK hc i pins s σ H E I hf st hg
  subst hP hw hK
  obtain ⟨f0,f1,f2,f3,f4,f5⟩:=hf it (by simp)
  exact wpAny_pyNext_range_end (I.ok.hd hc) st (by have:n<=i:=hg;omega) fun h' eb=>⟨rfl,I.turned (t':=s.toks) (fun b o hb e=>eb b o hb e) f0 f1 f3 f4 f5⟩
 self:=fun _ _ _ _ _ st h=>wpAny_pyIter_rangeiter st h
end L2
namespace L2
open PySem PySem.Spec PyProof.Rows
section
variable {X:Cx} {tg:Expr}
def zkm (K:PySem.W.Frag) (tl:TE):TI:=fun σ H R=>tl σ H fun x H1=>∃ a,x=.ref a/\(∃ xs,SqL K H1 a xs)/\R (Itl K a) H1
theorem zgW {l:Expr} {tl:TE} (hl:PE X l tl):PI X tg l (zkm X.K tl):=by
 intro pins s σ H R I h
 refine thn (hl pins s σ H _ I h) fun v s1 ⟨x,H1,I1,r1,q1⟩=>?_
 obtain ⟨a,e,⟨xs,hq⟩,q⟩:=q1
 subst e
 cases r1
 obtain ⟨its,rv,p,hz⟩:=I1.list hq
 refine wpAny_pyIter_list p.isList ?_
 refine ⟨s1.heap.objs.size,[s1.heap.objs.size],_,_,H1,rfl,I1.kept (t':=s1.toks) fun b o e=>qr _ e,zi8 a _,⟨_,qE _ rfl,rfl,rfl⟩,fun b hb=>?_,q⟩
 have e:b=s1.heap.objs.size:=by simpa using hb
 subst e
 exact I1.fpOk (qu _) (I1.hok.fresh (qu _))
theorem zkU {pins:List (Addr×Obj)} {σ:St} {H:Hp} {s:Shared} {R:It->Hp->Prop} {E:Value->Shared->Prop} {lo hi:Int} {t u v:Tok} {tk:Nat} (I:Inv X pins σ H s) (h1 : -(2 ^ 62)<=lo) (h2:lo < 2 ^ 62) (h3 : -(2 ^ 62)<=hi) (h4:hi < 2 ^ 62)
  (q:R (Itr lo (hi - lo).toNat) H):wpAny (model X.prog X.w) X.A (pyIter (.ref s.heap.objs.size)) (PIE X pins σ tg R) E { s with heap:=s.heap.push { cls:=.type "range",data:=.fields #[.int lo t,.int hi u,.int 1 v] },toks:=tk }:=by
 refine wpAny_pyIter_range (IsRange.new ..) (small_one h1 h2 h3 h4) ?_
 have I1:Inv X pins σ H { s with heap:=s.heap.push { cls:=.type "range",data:=.fields #[.int lo t,.int hi u,.int 1 v] },toks:=tk }:=I.kept fun b o e=>qr _ e
 refine ⟨(s.heap.push { cls:=.type "range",data:=.fields #[.int lo t,.int hi u,.int 1 v] }).objs.size,[(s.heap.push { cls:=.type "range",data:=.fields #[.int lo t,.int hi u,.int 1 v] }).objs.size],_,_,H,rfl,
  I1.kept (t':=tk) fun b o e=>qr _ e,zlD _ lo (hi - lo).toNat,?_,fun b hb=>?_,q⟩
 ·have e1:lo+((0:Nat):Int)*1=lo:=by simp
  have e2:(((hi - lo).toNat:Nat):Int) - ((0:Nat):Int)=Builtin.Range.rangeSize lo hi 1:=by rw [rangeSize_one];split <;> omega
  show IsRangeIter _ _ (lo+((0:Nat):Int)*1) ((((hi - lo).toNat:Nat):Int) - ((0:Nat):Int)) 1
  rw [e1,e2]
  exact qE _ rfl
 ·have e:b=(s.heap.push { cls:=.type "range",data:=.fields #[.int lo t,.int hi u,.int 1 v] }).objs.size:=by simpa using hb
  subst e
  exact I1.fpOk (qu _) (I1.hok.fresh (qu _))
def zs0 (ta:TA):TI:=fun σ H R=>ta σ H fun vs H1=>∃ j:Int,vs=[.int j] /\ -(2 ^ 62)<=j/\j < 2 ^ 62/\R (Itr 0 j.toNat) H1
def zt2 (ta:TA):TI:=fun σ H R=>ta σ H fun vs H1=>∃ i j:Int,vs=[.int i,.int j]/\(-(2 ^ 62)<=i/\i < 2 ^ 62 /\ -(2 ^ 62)<=j/\j < 2 ^ 62)/\R (Itr i (j - i).toNat) H1
theorem zjo {a:Expr} {ta:TA} {p pos:Pos} (hg:Gl X "range") (hm:X.mg "range"=none) (ha:PA X [a] ta) (hs:starEach [a] X.env=[(false,eval a X.env)]:=by rfl):PI X tg (.Call (.Name "range" p) [a] [] pos) (zs0 ta):=by
 intro pins s σ H R I h
 refine Call_ (zh5 I hg hm boot_range (PyProof.Rows.callWith_type1 (thn (ha pos pins s σ H _ I h) fun us s1 ⟨vs,H1,I1,r1,q1⟩=>?_) hs rfl))
 obtain ⟨j,e,q1,q2,q⟩:=q1
 subst e
 cases r1 with
 | cons r rr =>
  cases rr
  obtain ⟨t,rfl⟩:=r
  exact call_range_1 (zkU I1 (by omega) (by omega) q1 q2 (by simpa using q))
theorem zmH {a b:Expr} {ta:TA} {p pos:Pos} (hg:Gl X "range") (hm:X.mg "range"=none) (ha:PA X [a,b] ta) (hs:starEach [a,b] X.env=[(false,eval a X.env),(false,eval b X.env)]:=by rfl) (hs2:starEach [b] X.env=[(false,eval b X.env)]:=by rfl) :
  PI X tg (.Call (.Name "range" p) [a,b] [] pos) (zt2 ta):=by
 intro pins s σ H R I h
 refine Call_ (zh5 I hg hm boot_range (PyProof.Rows.callWith_type1 (thn (ha pos pins s σ H _ I h) fun us s1 ⟨vs,H1,I1,r1,q1⟩=>?_) (by rw [hs,hs2]) (by rw [hs2];rfl)))
 obtain ⟨i,j,e,⟨q1,q2,q3,q4⟩,q⟩:=q1
 subst e
 cases r1 with
 | cons r rr =>
  cases rr with
  | cons r' rr =>
   cases rr
   obtain ⟨t,rfl⟩:=r
   obtain ⟨t',rfl⟩:=r'
   exact call_range_2 (zkU I1 q1 q2 q3 q4 q)
def zpl (wi:TI) (g:TG) (tb:TS):TS:=fun D σ H=>wi σ H fun J H1=>∃ W:Nat->Nat->St->Hp->Prop,(∃ m,W 0 m σ H1)/\∀ i m σ H,W i m σ H ->
 (J.stop i H/\D.nx σ H)\/(J.go i H/\∃ N:St->Hp->Prop,(∀ σ' H',N σ' H'->∃ m',m' < m/\W (i+1) m' σ' H')/\∀ x H',J.yld i H x H'->g x σ H' fun σ2 H2=>tb { D with nx:=N,ct:=N,bk:=D.nx } σ2 H2)
def zjn (fp:List Addr) (h:Heap):List (Addr×Obj):=fp.filterMap fun b=>(h.get? b).map fun o=>(b,o)
theorem zet {fp:List Addr} {h:Heap} {b:Addr} {o:Obj} (hb:b∈fp) (e:h.get? b=some o):(b,o)∈zjn fp h:=List.mem_filterMap.mpr ⟨b,hb,by rw [e];rfl⟩
theorem zmW {fp:List Addr} {h:Heap} {p:Addr×Obj} (hp:p∈zjn fp h):p.1∈fp/\h.get? p.1=some p.2:=by
 obtain ⟨b,hb,e⟩:=List.mem_filterMap.mp hp
 cases q:h.get? b with
 | none=>rw [q] at e;cases e
 | some o =>
  rw [q] at e
  have e':(b,o)=p:=qF e
  subst e'
  exact ⟨hb,q⟩
theorem Inv.pinned {pins:List (Addr×Obj)} {σ:St} {H:Hp} {s:Shared} {fp:List Addr} (I:Inv X pins σ H s) (hf:∀ b∈fp,zma X pins H b) (ho:∀ b∈fp,∃ o,s.heap.get? b=some o/\∀ v,o.data≠.cell v):Inv X (pins++zjn fp s.heap) σ H s :=
 I.pins_of fun p hp=>(List.mem_append.mp hp).elim (fun z=>I.pin p (qO _ z)) fun z=>by
  obtain ⟨hb,e⟩:=zmW z
  obtain ⟨f0,f1,f2,_⟩:=hf p.1 hb
  obtain ⟨o,e',d⟩:=ho p.1 hb
  rw [e] at e';cases e'
  exact ⟨e,f0,f1,f2,d⟩
theorem Inv.unpinned {pins pl:List (Addr×Obj)} {σ:St} {H:Hp} {s:Shared} (I:Inv X (pins++pl) σ H s):Inv X pins σ H s:=I.pins_of fun p hp=>I.pin p (qO _ (List.mem_append_left _ hp))
theorem zgU {iter:Expr} {body:List Stmt} {wi:TI} {g:TG} {tb:TS} {pos:Pos} (hp:PassesOwn (model X.prog X.w) X.A X.env X.xe) (hc:X.calm=true) (hi:PI X tg iter wi) (hg:PG X tg g) (hb:PSs X body tb)
  (hs:∀ x,foldedSetIterable iter X.env x=pure x:=by intro _;rfl):PS X (.For tg iter body [] pos) (zpl wi g tb):=by
 intro pins s σ H D I h
 refine wpAny_For (thn (hi pins s σ H _ I h) fun v s1 h1=>thn h1 fun itv s2 h2=>?_) hs
 obtain ⟨it,fp,tn,J,H2,e,I2,T,st2,f2,W,⟨m0,w0⟩,turn⟩:=h2
 subst e
 have stat:∀ {H':Hp},(∀ b∈fp,H' b=none)->∀ b∈fp,zma X pins H' b:=fun hn b hb=>⟨hn b hb,(f2 b hb).2⟩
 refine codeAny_forLoop_any (fun n s'=>∃ i σ' H',Inv X pins σ' H' s'/\tn i s'.heap/\(∀ b∈fp,H' b=none)/\W i n σ' H') ?_ m0 ⟨0,σ,H2,I2,st2,fun b hb=>(f2 b hb).1,w0⟩
 rintro n s3 ⟨i,σ3,H3,I3,st3,fr3,w3⟩
 rcases turn i n σ3 H3 w3 with ⟨stop,qn⟩ | ⟨go,N,hN,step⟩
 ·refine wpAny_passesOwn hp (thn (T.done X rfl rfl rfl hc i pins s3 σ3 H3 X.xe I3 (stat fr3) st3 stop) fun r s4 ⟨hr,I4⟩=>?_)
  subst hr
  exact wpAny_execs_nil ⟨σ3,H3,I4,qn⟩
 ·refine wpAny_passesOwn hp (thn (T.item X rfl rfl rfl hc i pins s3 σ3 H3 X.xe I3 (stat fr3) st3 go) fun r s4 ⟨u,hr,h4⟩=>?_)
  subst hr
  refine wpAny_passesOwn hp (thn h4 fun _ s5 ⟨x,H5,I5,r5,y5,st5,fr5⟩=>?_)
  have I5':=I5.pinned (stat fr5) (T.obj _ _ st5)
  refine wpAny_passesOwn hp (thn (hg _ s5 σ3 H5 x u _ I5' r5 (step x H5 y5)) fun _ s6 ⟨σ6,H6,I6,q6⟩=>?_)
  refine wpAny_passesOwn hp (thn (hb _ s6 σ6 H6 _ I6 q6) fun f s7 q7=>?_)
  have again:∀ {σ7:St} {H7:Hp},Inv X (pins++zjn fp s5.heap) σ7 H7 s7->N σ7 H7->∃ m,m < n/\∃ i σ' H',Inv X pins σ' H' s7/\tn i s7.heap/\(∀ b∈fp,H' b=none)/\W i m σ' H':=fun {σ7 H7} I7 n7=>by
   obtain ⟨m',hm,w7⟩:=hN σ7 H7 n7
   refine ⟨m',hm,i+1,σ7,H7,I7.unpinned,T.keep _ _ _ st5 fun b hb o e=>(I7.pin (b,o) (qO _ (qO _ (zet hb e)))).1,fun b hb=>?_,w7⟩
   obtain ⟨o,e,d⟩:=T.obj _ _ st5 b hb
   exact (I7.pin (b,o) (qO _ (qO _ (zet hb e)))).2.1
  cases f with
  | next=>obtain ⟨σ7,H7,I7,n7⟩:=q7;exact again I7 n7
  | cont=>obtain ⟨σ7,H7,I7,n7⟩:=q7;exact again I7 n7
  | brk=>obtain ⟨σ7,H7,I7,q7⟩:=q7;exact ⟨σ7,H7,I7.unpinned,q7⟩
  | ret v=>obtain ⟨x7,σ7,H7,I7,r7,q7⟩:=q7;exact ⟨x7,σ7,H7,I7.unpinned,r7,q7⟩
end
end L2
namespace L2
open PySem PySem.Spec PyProof.Rows
abbrev R2:=V->V->Hp->VK->Prop
def OpR (X:Cx) (f:Value->Value->Sem Value) (r:R2):Prop :=
 ∀ (pins:List (Addr×Obj)) (s:Shared) (σ:St) (H:Hp) (x y:V) (v u:Value) (Q:VK),Inv X pins σ H s->zcD x v->zcD y u->r x y H Q ->
  wpAny (model X.prog X.w) X.A (f v u) (EP X pins σ Q) X.xe s
def zff (X:Cx) (f:Value) (r:List V->Hp->VK->Prop):Prop :=
 ∀ (pins:List (Addr×Obj)) (s:Shared) (σ:St) (H:Hp) (xs:List V) (us:List Value) (Q:VK),Inv X pins σ H s->zbY xs us->r xs H Q ->
  wpAny (model X.prog X.w) X.A (call f us) (EP X pins σ Q) X.xe s
def tOp (r:R2) (ta tb:TE):TE:=fun σ H Q=>ta σ H fun x H1=>tb σ H1 fun y H2=>r x y H2 Q
def rI (C:Int->Int->Prop) (g:Int->Int->V):R2:=fun x y H Q=>∃ i j,x=.int i/\y=.int j/\C i j/\Q (g i j) H
def rI0 (g:Int->Int->V):R2:=fun x y H Q=>∃ i j,x=.int i/\y=.int j/\Q (g i j) H
section
variable {X:Cx} {a b c:Expr} {ta tb tc:TE} {pos:Pos}
theorem zuj (ha:PE X a ta) (hb:PE X b tb) {pins:List (Addr×Obj)} {s:Shared} {σ:St} {H:Hp} {R:V->V->Hp->Prop} (I:Inv X pins σ H s)
  (h:ta σ H fun x H1=>tb σ H1 fun y H2=>R x y H2) {Q:Value->Shared->Prop} {f:Value->Value->Sem Value}
  (hf:∀ v u s2 x y H2,Inv X pins σ H2 s2->zcD x v->zcD y u->R x y H2->wpAny (model X.prog X.w) X.A (f v u) Q X.xe s2) :
  wpAny (model X.prog X.w) X.A (eval a X.env) (fun v s₁=>wpAny (model X.prog X.w) X.A (eval b X.env) (fun u s₂=>wpAny (model X.prog X.w) X.A (f v u) Q X.xe s₂) X.xe s₁) X.xe s:=by
 refine thn (ha pins s σ H _ I h) fun v s1 ⟨x,H1,I1,r1,q1⟩=>?_
 refine thn (hb pins s1 σ H1 _ I1 q1) fun u s2 ⟨y,H2,I2,r2,q2⟩=>?_
 exact hf v u s2 x y H2 I2 r1 r2 q2
theorem zqu {op:Operator} {r:R2} (ho:OpR X (binaryOp op) r) (ha:PE X a ta) (hb:PE X b tb):PE X (.BinOp a op b pos) (tOp r ta tb):=by
 intro pins s σ H Q I h
 exact wpAny_BinOp (zuj ha hb I h fun v u s2 x y H2 I2 rx ry q=>ho pins s2 σ H2 x y v u Q I2 rx ry q)
theorem opI {f:Value->Value->Sem Value} {C:Int->Int->Prop} {g:Int->Int->Int}
  (rule:∀ (i j:Int) (t u:Tok) (s:Shared) (Q:Value->Shared->Prop) (E:Value->Shared->Prop),C i j->Q (.int (g i j) s.toks) { s with toks:=s.toks+1 }->wpAny (model X.prog X.w) X.A (f (.int i t) (.int j u)) Q E s) :
  OpR X f (rI C fun i j=>.int (g i j)):=by
 intro pins s σ H x y v u Q I rx ry h
 obtain ⟨i,j,rfl,rfl,hc,q⟩:=h
 obtain ⟨t,rfl⟩:=rx
 obtain ⟨t',rfl⟩:=ry
 exact rule i j t t' s _ _ hc ⟨.int (g i j),H,I.tok _,⟨_,rfl⟩,q⟩
theorem zuB {f:Value->Value->Sem Value} {g:Int->Int->Int}
  (rule:∀ (i j:Int) (t u:Tok) (s:Shared) (Q:Value->Shared->Prop) (E:Value->Shared->Prop),Q (.int (g i j) s.toks) { s with toks:=s.toks+1 }->wpAny (model X.prog X.w) X.A (f (.int i t) (.int j u)) Q E s) :
  OpR X f (rI0 fun i j=>.int (g i j)):=by
 intro pins s σ H x y v u Q I rx ry h
 obtain ⟨i,j,rfl,rfl,q⟩:=h
 obtain ⟨t,rfl⟩:=rx
 obtain ⟨t',rfl⟩:=ry
 exact rule i j t t' s _ _ ⟨.int (g i j),H,I.tok _,⟨_,rfl⟩,q⟩
theorem ztV {f:Value->Value->Sem Value} {g:Int->Int->Bool}
  (rule:∀ (i j:Int) (t u:Tok) (s:Shared) (Q:Value->Shared->Prop) (E:Value->Shared->Prop),Q (.bool (g i j)) s->wpAny (model X.prog X.w) X.A (f (.int i t) (.int j u)) Q E s) :
  OpR X f (rI0 fun i j=>.bl (g i j)):=by
 intro pins s σ H x y v u Q I rx ry h
 obtain ⟨i,j,rfl,rfl,q⟩:=h
 obtain ⟨t,rfl⟩:=rx
 obtain ⟨t',rfl⟩:=ry
 exact rule i j t t' s _ _ ⟨.bl (g i j),H,I,rfl,q⟩
def zu6 (i j:Int):Prop:=0 < j/\j < 1073741824
def zu5 (i j:Int):Prop:=0<=j/\j<=1000000/\i.natAbs < 2 ^ 64
def ztA (i j:Int):Prop:=(-(2 ^ 64) < i/\i < 2 ^ 64)\/(-(2 ^ 64) < j/\j < 2 ^ 64)
theorem ztA.ok {i j:Int} (h:ztA i j):IntMulOk i j:=by
 rcases h with ⟨h1,h2⟩ | ⟨h1,h2⟩
 ·exact .of_left (intBits_le_64 h1 h2)
 ·exact .of_right (intBits_le_64 h1 h2)
theorem zsF:OpR X (binaryOp .Add) (rI0 fun i j=>.int (i+j)):=zuB fun _ _ _ _ _ _ _ q=>add_int q
theorem zsy:OpR X (binaryOp .Sub) (rI0 fun i j=>.int (i - j)):=zuB fun _ _ _ _ _ _ _ q=>sub_int q
theorem zsC:OpR X (binaryOp .Mult) (rI ztA fun i j=>.int (i*j)):=opI fun _ _ _ _ _ _ _ hc q=>mul_int q hc.ok
theorem zqG:OpR X (binaryOp .FloorDiv) (rI zu6 fun i j=>.int (i / j)):=opI fun i j _ _ _ _ _ hc q=>by
 have h1:(0:Int) < j:=hc.1
 have h2:j < 1073741824:=hc.2
 exact floordiv_int (by omega) (by rw [Int.fdiv_eq_ediv_of_nonneg i (by omega)];exact q) (.inl (PyProof.noPylong_small (by omega)))
theorem zsD:OpR X (binaryOp .Mod) (rI (fun _ j=>0 < j) fun i j=>.int (i % j)):=opI fun i j _ _ _ _ _ hc q=>by
 have h1:(0:Int) < j:=hc
 exact mod_int' (by omega) (by rw [Int.fmod_eq_emod_of_nonneg i (by omega)];exact q)
theorem zsA:OpR X (binaryOp .Pow) (rI zu5 fun i j=>.int (i ^ j.toNat)):=opI fun _ _ _ _ _ _ _ hc q=>pow_int_small hc.1 hc.2.1 hc.2.2 q
end
def ztI:V->V->Bool
 | .non,.non=>true | .non,.int _=>true | .int _,.non=>true | .non,.bl _=>true | .bl _,.non=>true | .non,.str _=>true | .str _,.non=>true
 | .int _,.int _=>true | .bl _,.bl _=>true | .str _,.str _=>true | .byt _,.byt _=>true
 | .int _,.str _=>true | .str _,.int _=>true | .bl _,.str _=>true | .str _,.bl _=>true
 | _,_=>false
def rEq:R2:=fun x y H Q=>ztI x y=true/\Q (.bl (decide (x=y))) H
def rNe:R2:=fun x y H Q=>ztI x y=true/\Q (.bl (!decide (x=y))) H
theorem znM {i j:Int}:decide (V.int i=V.int j)=(i==j):=by
 rw [Bool.eq_iff_iff]
 simp
theorem zpS {i j:Bool}:decide (V.bl i=V.bl j)=(i==j):=by
 rw [Bool.eq_iff_iff]
 simp
theorem znL {i j:Str}:decide (V.str i=V.str j)=(i==j):=by
 rw [Bool.eq_iff_iff]
 simp
theorem znN {i j:Array UInt8}:decide (V.byt i=V.byt j)=(i.toList==j.toList):=by
 rw [Bool.eq_iff_iff]
 cases i
 cases j
 simp
section
variable {X:Cx} {a b c:Expr} {ta tb tc:TE} {pos:Pos}
theorem zbc {pins:List (Addr×Obj)} {σ:St} {H:Hp} {s:Shared} {Q:VK} {k k':Bool} (I:Inv X pins σ H s) (q:Q (.bl k) H) (e:k=k'):EP X pins σ Q (.bool k') s:=by
 subst e
 exact ⟨.bl k,H,I,rfl,q⟩
theorem ztU:OpR X (compareOp .Eq) rEq:=by
 intro pins s σ H x y v u Q I rx ry h
 obtain ⟨hs,q⟩:=h
 cases x with
 | non =>
  cases rx
  cases y with
  | non=>cases ry;exact PySem.EqNone.eq_none_none (zbc I q (by simp))
  | bl j=>cases ry;exact PySem.EqNone.eq_none_bool (zbc I q (by simp))
  | int j=>obtain ⟨t',rfl⟩:=ry;exact PySem.EqNone.eq_none_int (zbc I q (by simp))
  | str j=>obtain ⟨t',rfl⟩:=ry;exact PySem.EqNone.eq_none_str (zbc I q (by simp))
  | _=>exact absurd (show false=true from hs) qq
 | bl i =>
  cases rx
  cases y with
  | non=>cases ry;exact PySem.EqNone.eq_bool_none (zbc I q (by simp))
  | bl j=>cases ry;exact eq_bool (zbc I q zpS)
  | str j=>obtain ⟨t',rfl⟩:=ry;exact PySem.EqMixed.eq_bool_str (zbc I q (by simp))
  | _=>exact absurd (show false=true from hs) qq
 | int i =>
  obtain ⟨t,rfl⟩:=rx
  cases y with
  | non=>cases ry;exact PySem.EqNone.eq_int_none (zbc I q (by simp))
  | int j=>obtain ⟨t',rfl⟩:=ry;exact eq_int (zbc I q znM)
  | str j=>obtain ⟨t',rfl⟩:=ry;exact PySem.EqMixed.eq_int_str (zbc I q (by simp))
  | _=>exact absurd (show false=true from hs) qq
 | str i =>
  obtain ⟨t,rfl⟩:=rx
  cases y with
  | non=>cases ry;exact PySem.EqNone.eq_str_none (zbc I q (by simp))
  | bl j=>cases ry;exact PySem.EqMixed.eq_str_bool (zbc I q (by simp))
  | int j=>obtain ⟨t',rfl⟩:=ry;exact PySem.EqMixed.eq_str_int (zbc I q (by simp))
  | str j=>obtain ⟨t',rfl⟩:=ry;exact eq_str (zbc I q znL)
  | _=>exact absurd (show false=true from hs) qq
 | byt i =>
  obtain ⟨t,rfl⟩:=rx
  cases y with
  | byt j=>obtain ⟨t',rfl⟩:=ry;exact PySem.W.eq_bytes (zbc I q znN)
  | _=>exact absurd (show false=true from hs) qq
 | _=>cases y <;> exact absurd (show false=true from hs) qq
theorem ztQ:OpR X (compareOp .NotEq) rNe:=by
 intro pins s σ H x y v u Q I rx ry h
 obtain ⟨hs,q⟩:=h
 cases x with
 | non =>
  cases rx
  cases y with
  | non=>cases ry;exact PySem.EqNone.ne_none_none (zbc I q (by simp))
  | bl j=>cases ry;exact PySem.EqNone.ne_none_bool (zbc I q (by simp))
  | int j=>obtain ⟨t',rfl⟩:=ry;exact PySem.EqNone.ne_none_int (zbc I q (by simp))
  | str j=>obtain ⟨t',rfl⟩:=ry;exact PySem.EqNone.ne_none_str (zbc I q (by simp))
  | _=>exact absurd (show false=true from hs) qq
 | bl i =>
  cases rx
  cases y with
  | non=>cases ry;exact PySem.EqNone.ne_bool_none (zbc I q (by simp))
  | bl j=>cases ry;exact ne_bool (zbc I q (congrArg not zpS))
  | str j=>obtain ⟨t',rfl⟩:=ry;exact PySem.EqMixed.ne_bool_str (zbc I q (by simp))
  | _=>exact absurd (show false=true from hs) qq
 | int i =>
  obtain ⟨t,rfl⟩:=rx
  cases y with
  | non=>cases ry;exact PySem.EqNone.ne_int_none (zbc I q (by simp))
  | int j=>obtain ⟨t',rfl⟩:=ry;exact ne_int (zbc I q (congrArg not znM))
  | str j=>obtain ⟨t',rfl⟩:=ry;exact PySem.EqMixed.ne_int_str (zbc I q (by simp))
  | _=>exact absurd (show false=true from hs) qq
 | str i =>
  obtain ⟨t,rfl⟩:=rx
  cases y with
  | non=>cases ry;exact PySem.EqNone.ne_str_none (zbc I q (by simp))
  | bl j=>cases ry;exact PySem.EqMixed.ne_str_bool (zbc I q (by simp))
  | int j=>obtain ⟨t',rfl⟩:=ry;exact PySem.EqMixed.ne_str_int (zbc I q (by simp))
  | str j=>obtain ⟨t',rfl⟩:=ry;exact ne_str (zbc I q (congrArg not znL))
  | _=>exact absurd (show false=true from hs) qq
 | byt i =>
  obtain ⟨t,rfl⟩:=rx
  cases y with
  | byt j=>obtain ⟨t',rfl⟩:=ry;exact PySem.W.ne_bytes (zbc I q (congrArg not znN))
  | _=>exact absurd (show false=true from hs) qq
 | _=>cases y <;> exact absurd (show false=true from hs) qq
theorem ztR:OpR X (compareOp .Lt) (rI0 fun i j=>.bl (decide (i < j))):=ztV fun _ _ _ _ _ _ _ q=>lt_int q
theorem ztS:OpR X (compareOp .LtE) (rI0 fun i j=>.bl (decide (i<=j))):=ztV fun _ _ _ _ _ _ _ q=>le_int q
theorem ztT:OpR X (compareOp .Gt) (rI0 fun i j=>.bl (decide (j < i))):=ztV fun _ _ _ _ _ _ _ q=>gt_int q
theorem zmT:OpR X (compareOp .Lt) (fun x y H Q=>∃ i j,x=.str i/\y=.str j/\Q (.bl (decide (i.cps.toList < j.cps.toList))) H):=by
 intro pins s σ H x y v u Q I rx ry h
 obtain ⟨i,j,rfl,rfl,q⟩:=h
 obtain ⟨t,rfl⟩:=rx
 obtain ⟨t',rfl⟩:=ry
 exact lt_str (zbc I q rfl)
theorem zqD:OpR X (compareOp .IsNot) (fun x y H Q=>y=.non/\Q (.bl (!decide (x=.non))) H):=by
 intro pins s σ H x y v u Q I rx ry h
 obtain ⟨rfl,q⟩:=h
 cases ry
 refine isnot_none_gen (zbc I q ?_)
 cases x <;> first
  | (cases rx;rfl)
  | (obtain ⟨t,rfl⟩:=rx;rfl)
theorem OpR.or {f:Value->Value->Sem Value} {r r':R2} (h:OpR X f r) (h':OpR X f r'):OpR X f (fun x y H Q=>r x y H Q\/r' x y H Q):=by
 intro pins s σ H x y v u Q I rx ry q
 rcases q with q | q
 ·exact h pins s σ H x y v u Q I rx ry q
 ·exact h' pins s σ H x y v u Q I rx ry q
theorem zb7 (b:Expr) {op:CmpOp} (h:op≠.In:=by decide) (h2:op≠.NotIn:=by decide):behindInMarks op b=false:=by
 have e1:(op==CmpOp.In)=false:=by cases op <;> first | rfl | exact absurd rfl h
 have e2:(op==CmpOp.NotIn)=false:=by cases op <;> first | rfl | exact absurd rfl h2
 cases b <;> simp [behindInMarks,e1,e2]
theorem zqy {op:CmpOp} {r:R2} (ho:OpR X (compareOp op) r) (ha:PE X a ta) (hb:PE X b tb) (hm:behindInMarks op b=false):PE X (.Compare a [op] [b] pos) (tOp r ta tb):=by
 intro pins s σ H Q I h
 exact wpAny_Compare1 (zuj ha hb I h fun v u s2 x y H2 I2 rx ry q=>ho pins s2 σ H2 x y v u Q I2 rx ry q) hm
def zrR (t:TE):TT:=fun σ H Q=>t σ H fun x H'=>∃ k,x=.bl k/\Q k H'
theorem zqq {op:CmpOp} {r:R2} (ho:OpR X (compareOp op) r) (ha:PE X a ta) (hb:PE X b tb) (hm:behindInMarks op b=false):PT X (.Compare a [op] [b] pos) (zrR (tOp r ta tb)):=by
 intro pins s σ H Q I h
 refine wpAny_isTrue_Compare1 (thn (ha pins s σ H _ I h) fun v s1 ⟨x,H1,I1,r1,q1⟩=>thn (hb pins s1 σ H1 _ I1 q1) fun u s2 ⟨y,H2,I2,r2,q2⟩ =>
  thn (ho pins s2 σ H2 x y v u _ I2 r1 r2 q2) fun c s3 ⟨z,H3,I3,r3,k,e,q3⟩=>?_) hm
 subst e
 cases r3
 exact wpAny_truthy_bool ⟨H3,I3,q3⟩
def zml (r r':R2) (ta tb tc:TE):TE:=fun σ H Q=>ta σ H fun x H1=>tb σ H1 fun y H2=>r x y H2 fun z H3=>∃ k,z=.bl k /\
 (if k=true then tc σ H3 fun w' H4=>r' y w' H4 Q else Q (.bl false) H3)
theorem zoy {op op':CmpOp} {r r':R2} (ho:OpR X (compareOp op) r) (ho':OpR X (compareOp op') r') (ha:PE X a ta) (hb:PE X b tb) (hc:PE X c tc)
  (hm:lastMarks [op,op'] [b,c]=false:=by with_unfolding_all rfl):PE X (.Compare a [op,op'] [b,c] pos) (zml r r' ta tb tc):=by
 intro pins s σ H Q I h
 refine Compare_chain (thn (ha pins s σ H _ I h) fun v s1 ⟨x,H1,I1,r1,q1⟩=>chain_link (thn (hb pins s1 σ H1 _ I1 q1) fun u s2 ⟨y,H2,I2,r2,q2⟩ =>
  thn (ho pins s2 σ H2 x y v u _ I2 r1 r2 q2) fun d s3 ⟨z,H3,I3,r3,k,e,q3⟩=>?_)) hm
 subst e
 cases r3
 refine wpAny_truthy_bool ?_
 cases k with
 | false=>exact ite_ff ⟨.bl false,H3,I3,rfl,q3⟩
 | true=>exact ite_tt (chain_last (thn (hc pins s3 σ H3 _ I3 q3) fun w' s4 ⟨z',H4,I4,r4,q4⟩=>ho' pins s4 σ H4 y z' u w' Q I4 r2 r4 q4))
theorem zou {op op':CmpOp} {r r':R2} (ho:OpR X (compareOp op) r) (ho':OpR X (compareOp op') r') (ha:PE X a ta) (hb:PE X b tb) (hc:PE X c tc)
  (hm:lastMarks [op,op'] [b,c]=false:=by with_unfolding_all rfl):PT X (.Compare a [op,op'] [b,c] pos) (zrR (zml r r' ta tb tc)):=by
 intro pins s σ H Q I h
 refine isTrue_chain (thn (ha pins s σ H _ I h) fun v s1 ⟨x,H1,I1,r1,q1⟩=>test_link (thn (hb pins s1 σ H1 _ I1 q1) fun u s2 ⟨y,H2,I2,r2,q2⟩ =>
  thn (ho pins s2 σ H2 x y v u _ I2 r1 r2 q2) fun d s3 ⟨z,H3,I3,r3,k,e,q3⟩=>?_)) hm
 subst e
 cases r3
 refine wpAny_truthy_bool ?_
 cases k with
 | false =>
  obtain ⟨k',e',q'⟩:=q3
  cases e'
  exact ite_ff ⟨H3,I3,q'⟩
 | true =>
  refine ite_tt (test_last (thn (hc pins s3 σ H3 _ I3 q3) fun w' s4 ⟨z',H4,I4,r4,q4⟩=>thn (ho' pins s4 σ H4 y z' u w' _ I4 r2 r4 q4) fun d' s5 ⟨z2,H5,I5,r5,k2,e2,q5⟩=>?_))
  subst e2
  cases r5
  exact wpAny_truthy_bool ⟨H5,I5,q5⟩
theorem zlf:(sizeLine:Nat) < 2 ^ 63:=by rw [sizeLine_eq];decide
theorem zlP:OpR X (binaryOp .Add) (fun x y H Q=>∃ i j,x=.str i/\y=.str j/\i.length+j.length<=sizeLine/\Q (.str (i++j)) H):=by
 intro pins s σ H x y v u Q I rx ry h
 obtain ⟨i,j,rfl,rfl,hz,q⟩:=h
 obtain ⟨t,rfl⟩:=rx
 obtain ⟨t',rfl⟩:=ry
 exact add_str (fun t' tk=>⟨.str (i++j),H,I.tok _,⟨_,rfl⟩,q⟩) hz
theorem zgA {x:V} {us:List Value} (r:zbY [x] us):∃ u,us=[u]/\zcD x u:=by
 cases r with
 | cons r1 r2=>cases r2;exact ⟨_,rfl,r1⟩
theorem zp0 {x y:V} {us:List Value} (r:zbY [x,y] us):∃ u w',us=[u,w']/\zcD x u/\zcD y w':=by
 cases r with
 | cons r1 r2 =>
  cases r2 with
  | cons r3 r4=>cases r4;exact ⟨_,_,rfl,r1,r3⟩
theorem zpd:zff X (.builtin "abs") (fun xs H Q=>∃ i,xs=[.int i]/\Q (.int (if i < 0 then -i else i)) H):=by
 intro pins s σ H xs us Q I r h
 obtain ⟨i,rfl,q⟩:=h
 obtain ⟨u,rfl,t,rfl⟩:=zgA r
 exact call_abs_int fun u tk=>⟨.int (if i < 0 then -i else i),H,I.tok _,⟨_,rfl⟩,q⟩
theorem znW (hc:X.calm=true):zff X (.builtin "max") (fun xs H Q=>∃ i j,xs=[.int i,.int j]/\Q (.int (if j > i then j else i)) H):=by
 intro pins s σ H xs us Q I r h
 obtain ⟨i,j,rfl,q⟩:=h
 obtain ⟨u,w',rfl,⟨t,rfl⟩,⟨t',rfl⟩⟩:=zp0 r
 refine max_two_ints (I.ok.hd hc) fun h' tk k=>⟨_,H,I.kept k,?_,q⟩
 by_cases hj:j > i
 ·rw [qW hj,qW hj];exact ⟨_,rfl⟩
 ·rw [qX hj,qX hj];exact ⟨_,rfl⟩
theorem znV (hc:X.calm=true):zff X (.builtin "min") (fun xs H Q=>∃ i j,xs=[.int i,.int j]/\Q (.int (if j < i then j else i)) H):=by
 intro pins s σ H xs us Q I r h
 obtain ⟨i,j,rfl,q⟩:=h
 obtain ⟨u,w',rfl,⟨t,rfl⟩,⟨t',rfl⟩⟩:=zp0 r
 refine min_two_ints (I.ok.hd hc) fun h' tk k=>⟨_,H,I.kept k,?_,q⟩
 by_cases hj:j < i
 ·rw [qW hj,qW hj];exact ⟨_,rfl⟩
 ·rw [qX hj,qX hj];exact ⟨_,rfl⟩
theorem znX:zff X (.type "int") (fun xs H Q=>(∃ i,xs=[.int i]/\Q (.int i) H)\/∃ k,xs=[.bl k]/\Q (.int (if k then 1 else 0)) H):=by
 intro pins s σ H xs us Q I r h
 rcases h with ⟨i,rfl,q⟩ | ⟨k,rfl,q⟩
 ·obtain ⟨u,rfl,t,rfl⟩:=zgA r
  exact call_int_int ⟨.int i,H,I,⟨_,rfl⟩,q⟩
 ·obtain ⟨u,rfl,r1⟩:=zgA r
  cases r1
  exact call_int_bool ⟨.int (if k then 1 else 0),H,I.tok _,⟨_,rfl⟩,q⟩
def zu3 (K:PySem.W.Frag) (x:V) (H:Hp) (n:Nat):Prop :=
 match x with
 | .str y=>y.length<=sizeLine/\n=y.length
 | .byt y=>y.size<=sizeLine/\n=y.size
 | .ref p=>(∃ xs,SqL K H p xs/\n=xs.length)\/∃ xs,SqT K H p xs/\n=xs.length
 | _=>False
theorem zpc:zff X (.builtin "len") (fun xs H Q=>∃ x n,xs=[x]/\zu3 X.K x H n/\Q (.int n) H):=by
 intro pins s σ H xs us Q I r h
 obtain ⟨x,n,rfl,e,q⟩:=h
 obtain ⟨u,rfl,rx⟩:=zgA r
 have hl:=zlf
 have hs:sizeLine=16777216:=sizeLine_eq
 cases x with
 | str y =>
  obtain ⟨t,rfl⟩:=rx
  obtain ⟨hy,e'⟩:y.length<=sizeLine/\n=y.length:=e
  subst e'
  exact len_str (by omega) ⟨.int _,H,I.tok _,⟨_,rfl⟩,q⟩
 | byt y =>
  obtain ⟨t,rfl⟩:=rx
  obtain ⟨hy,e'⟩:y.size<=sizeLine/\n=y.size:=e
  subst e'
  exact PySem.W.len_bytes (by omega) ⟨.int _,H,I.tok _,⟨_,rfl⟩,q⟩
 | ref p =>
  cases rx
  have e':(∃ xs,SqL X.K H p xs/\n=xs.length)\/∃ xs,SqT X.K H p xs/\n=xs.length:=e
  rcases e' with ⟨xs,hx,e'⟩ | ⟨xs,hx,e'⟩
  ·subst e'
   obtain ⟨its,r',pl,hz⟩:=I.list hx
   have hlen:=r'.length
   exact Calls.call_len_list pl.isList (by simp only [qz];omega) ⟨.int xs.length,H,I.tok _,⟨_,by simp only [qz];rw [hlen]⟩,q⟩
  ·subst e'
   obtain ⟨its,r',pl,hz⟩:=I.tuple hx
   have hlen:=r'.length
   exact len_tuple pl (by simp only [qz];omega) ⟨.int xs.length,H,I.tok _,⟨_,by simp only [qz];rw [hlen]⟩,q⟩
 | _=>exact (show False from e).elim
end
end L2
namespace L2
open PySem PySem.Spec PyProof.Rows
structure ObjM (h:Heap) (x dx C:Addr) (mA:Str->Option Value):Prop where
 obj:h.get? x=some (PySem.W.instObj C dx)
 ns:h.Ns1 dx mA
 ne:dx≠x
theorem znc {h:Heap} {dx:Addr} {mA:Str->Option Value} (n:h.Ns1 dx mA):∃ od,h.get? dx=some od/\∀ name,PySem.W.lookIn name od=some (mA name):=by
 obtain ⟨o,es,ep,ho,hd,hk,_,hm⟩:=n
 refine ⟨o,ho,fun name=>?_⟩
 have e:=hm name
 unfold nsFind findBy at e
 rw [← Array.find?_toList] at e
 unfold PySem.W.lookIn
 rw [hd]
 dsimp only
 split
 ·rename_i y q
  rw [q] at e
  exact congrArg some e
 ·rename_i q
  rw [q] at e
  have a:es.toList.any (·.refKey)=false:=by
   rw [List.any_eq_false]
   intro y hy
   obtain ⟨z,t,hkey⟩:=hk y (Array.mem_toList_iff.mp hy)
   simp [DictEntry.refKey,hkey]
  have a':¬ es.toList.any (·.refKey)=true:=by rw [a];exact qq
  rw [qX a']
  exact congrArg some e
theorem ObjM.look {h:Heap} {x dx C:Addr} {mA:Str->Option Value} (I:ObjM h x dx C mA):∃ od,PySem.W.InstAt h x (PySem.W.instObj C dx) C (some od)/\∀ name,PySem.W.lookIn name od=some (mA name) :=
 let ⟨od,ho,hl⟩:=znc I.ns
 ⟨od,⟨I.obj,rfl,rfl,ho⟩,hl⟩
section
variable {prog:Program} {w:World} {A:Around} {E:Value->Shared->Prop} {s:Shared} {K:PySem.W.Frag} {x dx C f:Addr} {mA:Str->Option Value} {name:Str} {v:Value}
theorem zrd {expr:Bool} {Q:Value->Shared->Prop} (X:K.In s.heap) (I:ObjM s.heap x dx C mA) (hg:PySem.W.plainGet K C name=true) (hh:PySem.W.hasDictIn K C=true)
  (ha:PySem.W.findIn K (.ref C) name=some none) (hv:mA name=some v) (hv':PySem.W.handedIn v=true) (h:Q v { s with toks:=s.toks+1 }) :
  wpAny (model prog w) A (getAttr (.ref x) name expr) Q E s:=by
 obtain ⟨od,J,hl⟩:=I.look
 exact PySem.W.get_value X J (PySem.W.plainGet_of hg).1 (PySem.W.findObj_own hh ha rfl (by rw [hl,hv])) hv' h
theorem zoW {pl:Sem Bool} {Q:Value×List Value->Shared->Prop} (X:K.In s.heap) (I:ObjM s.heap x dx C mA) (hg:PySem.W.plainGet K C name=true)
  (hf:PySem.W.findIn K (.ref C) name=some (some (.ref f))) (ht:PySem.W.isFn K (.ref f)=true) (hv:mA name=none) (h:Q (.ref f,[.ref x]) s) :
  wpAny (model prog w) A (getMethod (.ref x) name pl) Q E s:=by
 obtain ⟨od,J,hl⟩:=I.look
 exact PySem.W.method_fn X J (PySem.W.plainGet_of hg).1 (PySem.W.plainGet_of hg).2 hf (beq_iff_eq.mp ht) (by show (PySem.W.lookIn name od).map (·.isSome)=some false;rw [hl,hv];rfl) h
theorem zqf {ns:List Str} {Q:Unit->Shared->Prop} (X:K.In s.heap) (I:ObjM s.heap x dx C mA)
  (hs:PySem.W.findIn K (.ref C) "__setattr__"=some (some (.builtin "object.__setattr__"))) (hp:PySem.W.plainOver K C=true) (ht:PySem.W.takerIn K C name=some none) (hh:PySem.W.hasDictIn K C=true)
  (hw:PySem.Within mA ns) (hsz:ns.length<=sizeLine)
  (h:∀ h',ObjM h' x dx C (fun y=>if y=name then some v else mA y)->Heap.SameBut dx s.heap h'->Q () { s with heap:=h',toks:=s.toks+2 }) :
  wpAny (model prog w) A (setAttr (.ref x) name v) Q E s:=by
 obtain ⟨od,J,hl⟩:=I.look
 refine PySem.W.set_plain X J hs (PySem.W.osa_open (s:={ s with toks:=s.toks+1 }) (r:=none) X J hp ht fun b=>?_)
 obtain ⟨cd,hc,hd'⟩:=PySem.W.any_some hh
 have hx:s.heap.get? x=some ⟨.ref C,some dx,.plain,#[]⟩:=I.obj
 refine qv (qy (qv (qv (wpAny_loadPart hx (qv (PySem.W.Looks.here (s:={ s with toks:=s.toks+1 }) (PySem.W.looks_clsIn X hc) ?_))))))
 rw [hd']
 refine qy (a:=some dx) (qv (qy (qv ?_)))
 refine wpAny_nsSet1 (s:={ s with toks:=s.toks+1 }) I.ns fun h' hn2 hs2=>?_
 obtain ⟨oD,esD,epD,hoD,hdD,hcD⟩:=hn2.count (PySem.Within.cons name v hw)
 refine qv (wpAny_lookBehind hoD (by rw [hdD];exact pastItsLine_dict (qK hcD (by rw [qh];omega))) ?_)
 exact qy (h _ ⟨(hs2.2 _ (Ne.symm I.ne)).trans I.obj,hn2,I.ne⟩ hs2)
theorem zoJ {R:Result->Shared->Prop} {vs:List Value} {kw:List (Str×Value)} (X:K.In s.heap) (hm:PySem.W.makesIn K C=true)
  (hi:PySem.W.findIn K (.ref C) "__init__"=some (some (.ref f))) (hf:PySem.W.typeIn K (.ref f)=some (.type "function"))
  (h:codeAny (model prog w) (A.under (.builtin "type.__call__" ⟨.ref C::vs,kw⟩)) (.call (.ref f) ⟨.ref (s.heap.objs.size+1)::vs,kw⟩) (PySem.W.InitBack (s.heap.objs.size+1) R)
   { s with heap:=(s.heap.push PySem.W.emptyDict).push (PySem.W.instObj C s.heap.objs.size) }) :
  codeAny (model prog w) A (.call (.ref C) ⟨vs,kw⟩) R s:=by
 obtain ⟨hh,g,d,t,os⟩:=s
 exact PySem.W.make_core (PySem.W.makes_of X hm) (PySem.W.looks_findIn X hi) (fun self=>PySem.W.bind_fn X self hf) (.inl rfl) h
end
def zi5 (f:Str) (v:V):List (Str×V)->List (Str×V)
 | []=>[(f,v)]
 | (g,x)::r=>if g=f then (g,v)::r else (g,x)::zi5 f v r
theorem zg2 (f g:Str) (v:V):∀ fs:List (Str×V),(zi5 f v fs).lookup g=if g=f then some v else fs.lookup g
 | []=>by
  show List.lookup g [(f,v)]=_
  by_cases h:g=f
  ·have hb:(g==f)=true:=beq_iff_eq.mpr h
   simp only [List.lookup,hb,qW h]
  ·have hb:(g==f)=false:=beq_eq_false_iff_ne.mpr h
   simp only [List.lookup,hb,qX h]
 | (k,x)::r=>by
  have ih:=zg2 f g v r
  rw [show zi5 f v ((k,x)::r)=(if k=f then (k,v)::r else (k,x)::zi5 f v r) from rfl]
  by_cases hk:k=f
  ·rw [qW hk]
   by_cases h:g=k
   ·have hb:(g==k)=true:=beq_iff_eq.mpr h
    simp only [List.lookup,hb,qW (h.trans hk)]
   ·have hb:(g==k)=false:=beq_eq_false_iff_ne.mpr h
    simp only [List.lookup,hb,qX (fun e:g=f=>h (e.trans hk.symm))]
  ·rw [qX hk]
   by_cases h:g=k
   ·have hb:(g==k)=true:=beq_iff_eq.mpr h
    simp only [List.lookup,hb,qX (fun e:g=f=>hk (h.symm.trans e))]
   ·have hb:(g==k)=false:=beq_eq_false_iff_ne.mpr h
    simp only [List.lookup,hb]
    exact ih
theorem zg6 (f:Str) (v:V):∀ fs:List (Str×V),f∈(zi5 f v fs).map (·.1)/\∀ g,g∈fs.map (·.1)->g∈(zi5 f v fs).map (·.1)
 | []=>⟨by simp [zi5],fun g h=>by simp at h⟩
 | (k,x)::r=>by
  obtain ⟨i1,i2⟩:=zg6 f v r
  rw [show zi5 f v ((k,x)::r)=(if k=f then (k,v)::r else (k,x)::zi5 f v r) from rfl]
  by_cases hk:k=f
  ·rw [qW hk]
   subst hk
   exact ⟨by simp,fun g h=>by simpa using h⟩
  ·rw [qX hk]
   refine ⟨?_,fun g h=>?_⟩
   ·rw [ql]
    exact qg _ i1
   ·rw [ql] at h ⊢
    rcases List.mem_cons.mp h with e | e
    ·exact List.mem_cons.mpr (.inl e)
    ·exact qg _ (i2 g e)
theorem zg5 (f:Str) (v:V):∀ fs:List (Str×V),(zi5 f v fs).length<=fs.length+1
 | []=>by simp [zi5]
 | (k,x)::r=>by
  have ih:=zg5 f v r
  rw [show zi5 f v ((k,x)::r)=(if k=f then (k,v)::r else (k,x)::zi5 f v r) from rfl]
  by_cases hk:k=f
  ·rw [qW hk,qh,qh];omega
  ·rw [qX hk,qh,qh];omega
theorem zl9.some_of {v:V} {o:Option Value} (r:zl9 (some v) o):∃ u,o=some u/\zcD v u:=by
 cases o with
 | none=>exact (show False from r).elim
 | some u=>exact ⟨u,rfl,r⟩
theorem zl9.none_of {o:Option Value} (r:zl9 none o):o=none:=by
 cases o with
 | none=>rfl
 | some u=>exact (show False from r).elim
theorem znq {v:V} {u:Value} (r:zcD v u):PySem.W.handedIn u=true:=by
 cases v with
 | non=>cases (show u=Value.none from r);rfl
 | bl b=>cases (show u=Value.bool b from r);rfl
 | int i=>obtain ⟨t,e⟩:=(show ∃ t,u=Value.int i t from r);cases e;rfl
 | str x=>obtain ⟨t,e⟩:=(show ∃ t,u=Value.str x t from r);cases e;rfl
 | byt b=>obtain ⟨t,e⟩:=(show ∃ t,u=Value.bytes b t from r);cases e;rfl
 | flt b=>obtain ⟨t,e⟩:=(show ∃ t,u=Value.float b t from r);cases e;rfl
 | ref a=>cases (show u=Value.ref a from r);rfl
 | ty n=>cases (show u=Value.type n from r);rfl
section
variable {P:Program} {w:World} {H H':Hp} {h h':Heap} {a C dx:Addr} {fs fs':List (Str×V)}
theorem ziC (hok:HOk P w H h) (e:H a=some (.ins C dx fs)):∃ mA,ObjM h a dx C mA/\(∀ f,zl9 (fs.lookup f) (mA f))/\PySem.Within mA (fs.map (·.1))/\fs.length<=1000/\H dx=some (.own a):=by
 obtain ⟨d,z,ne,ob,mA,n,r,q⟩:=(show zcx P w H h a (.ins C dx fs) from hok a _ e)
 exact ⟨mA,⟨ob,n,ne⟩,r,q,z,d⟩
end
structure Cls (K:PySem.W.Frag) (C:Addr):Prop where
 pg:PySem.W.plainGet K C Str.empty=true
 hd:PySem.W.hasDictIn K C=true
 po:PySem.W.plainOver K C=true
 sa:PySem.W.findIn K (.ref C) "__setattr__"=some (some (.builtin "object.__setattr__"))
theorem Cls.get {K:PySem.W.Frag} {C:Addr} (c:Cls K C) (f:Str):PySem.W.plainGet K C f=true:=c.pg
def zgs (K:PySem.W.Frag) (C:Addr) (f:Str):Prop:=PySem.W.findIn K (.ref C) f=some none
theorem zgs.taker {K:PySem.W.Frag} {C:Addr} {f:Str} (n:zgs K C f):PySem.W.takerIn K C f=some none:=by
 unfold PySem.W.takerIn
 rw [show PySem.W.findIn K (.ref C) f=some none from n]
 rfl
structure Con (K:PySem.W.Frag) (C:Addr) (f:Str) (v:V) (u:Value):Prop where
 at_:PySem.W.findIn K (.ref C) f=some (some u)
 rel:zcD v u
 get:PySem.W.specialIn K u "__get__"=some none
 cp:PySem.W.copiedNames.contains f=false
structure Meth (K:PySem.W.Frag) (C:Addr) (m:Str) (f:Addr):Prop where
 at_:PySem.W.findIn K (.ref C) m=some (some (.ref f))
 fn:PySem.W.isFn K (.ref f)=true
 kp:PySem.W.keepIn K (.ref f)=true
section
variable {X:Cx} {pins:List (Addr×Obj)} {σ:St} {H:Hp} {s:Shared} {a C dx:Addr} {fs:List (Str×V)} {f:Str} {v:V} {A:Around} {E:Value->Shared->Prop}
theorem zlZ {b:Bool} {Q:Value->Shared->Prop} (I:Inv X pins σ H s) (e:H a=some (.ins C dx fs)) (c:Cls X.K C) (n:zgs X.K C f) (l:fs.lookup f=some v)
  (h:∀ u s',Inv X pins σ H s'->zcD v u->Q u s'):wpAny (model X.prog X.w) A (getAttr (.ref a) f b) Q E s:=by
 obtain ⟨mA,O,r,_,_,_⟩:=ziC I.hok e
 obtain ⟨u,hu,ru⟩:=zl9.some_of (v:=v) (o:=mA f) (by rw [← l];exact r f)
 exact zrd I.kIn O (c.get f) c.hd n hu (znq ru) (h u _ (I.tok _) ru)
theorem zf2 {m:Str} {g:Addr} {pl:Sem Bool} {Q:Value×List Value->Shared->Prop} (I:Inv X pins σ H s) (e:H a=some (.ins C dx fs)) (c:Cls X.K C) (k:Meth X.K C m g) (l:fs.lookup m=none)
  (h:Q (.ref g,[.ref a]) s):wpAny (model X.prog X.w) A (getMethod (.ref a) m pl) Q E s:=by
 obtain ⟨mA,O,r,_,_,_⟩:=ziC I.hok e
 have hn:mA m=none:=zl9.none_of (by rw [← l];exact r m)
 exact zoW I.kIn O (c.get m) k.at_ k.fn hn h
theorem zlE {y:V} {u:Value} {Q:Unit->Shared->Prop} (I:Inv X pins σ H s) (e:H a=some (.ins C dx fs)) (c:Cls X.K C) (n:zgs X.K C f) (hl:fs.length < 1000) (ry:zcD y u)
  (h:∀ s',Inv X pins σ (upd H a (.ins C dx (zi5 f y fs))) s'->Q () s'):wpAny (model X.prog X.w) A (setAttr (.ref a) f u) Q E s:=by
 obtain ⟨mA,O,r,wi,_,ho⟩:=ziC I.hok e
 have hz:(fs.map (·.1)).length<=sizeLine:=by rw [qe,sizeLine_eq];omega
 refine zqf I.kIn O c.sa c.po n.taker c.hd wi hz fun h' O' sb=>h _ ?_
 have hd:∃ o,h'.get? dx=some o:=let ⟨o,_,_,e',_⟩:=O'.ns;⟨o,e'⟩
 refine I.write (x:=a) (e:=dx) (by rw [e];exact True.intro) (.inr ho) (fun b q hb z=>(sb.2 b hb).trans z) hd ?_
 refine ⟨by rw [zat O.ne];exact ho,?_,O.ne,O'.obj,_,O'.ns,fun g=>?_,fun g hg=>?_⟩
 ·have:=zg5 f y fs;omega
 ·show zl9 ((zi5 f y fs).lookup g) (if g=f then some u else mA g)
  rw [zg2]
  by_cases q:g=f
  ·rw [qW q,qW q];exact ry
  ·rw [qX q,qX q];exact r g
 ·by_cases q:g=f
  ·rw [q];exact (zg6 f y fs).1
  ·refine (zg6 f y fs).2 g (wi g fun z=>hg ?_)
   show (if g=f then some u else mA g)=none
   rw [qX q];exact z
theorem Inv.made (I:Inv X pins σ H s):Inv X pins σ (upd (upd H s.heap.objs.size (.own (s.heap.objs.size+1))) (s.heap.objs.size+1) (.ins C s.heap.objs.size []))
  { s with heap:=(s.heap.push PySem.W.emptyDict).push (PySem.W.instObj C s.heap.objs.size) }:=by
 have e1:(s.heap.push PySem.W.emptyDict).get? s.heap.objs.size=some PySem.W.emptyDict:=qE s.heap rfl
 have e2:((s.heap.push PySem.W.emptyDict).push (PySem.W.instObj C s.heap.objs.size)).get? (s.heap.objs.size+1)=some (PySem.W.instObj C s.heap.objs.size):=by
  have:=qE (s.heap.push PySem.W.emptyDict) (o:=PySem.W.instObj C s.heap.objs.size) rfl
  rwa [Heap.size_push] at this
 have e3:(s.heap.push PySem.W.emptyDict).Ns s.heap.objs.size (fun _=>none):=⟨PySem.W.emptyDict,#[],_,e1,rfl,(fun e he=>absurd he (by simp)),fun _=>rfl⟩
 have I1:=I.laid (a:=s.heap.objs.size) (o:=.own (s.heap.objs.size+1)) (h':=s.heap.push PySem.W.emptyDict) (t':=s.toks) (fun b u q=>qr _ q) (qu _) ⟨_,e1⟩
 refine I1.laid (a:=s.heap.objs.size+1) (o:=.ins C s.heap.objs.size []) (t':=s.toks) (fun b u q=>qr _ q) (Nat.le_of_eq (Heap.size_push _ _)) ?_
 have ne:s.heap.objs.size≠s.heap.objs.size+1:=qA (Nat.lt_succ_self _)
 refine ⟨by rw [zat ne,zax],Nat.zero_le _,ne,e2,fun _=>none,(Heap.Ns1.of_empty e3).at fun o q=>qr _ q,fun _=>True.intro,fun y hy=>absurd rfl hy⟩
theorem zrw {prog:Program} {w:World} {env:Env} {e:Expr} {f:Str} {pos:Pos} {s:Shared} {Q:Value->Shared->Prop} (hb:attributeBase e f env (eval e env)=eval e env)
  (h:wpAny (model prog w) A (eval e env) (fun o s₁=>wpAny (model prog w) A (getAttr o f true) Q E s₁) E s):wpAny (model prog w) A (eval (.Attribute e f pos) env) Q E s :=
 Attribute_any_ h (by rw [arm_eval_Attribute,hb])
end
def zuN (K:PySem.W.Frag) (ta:TE) (f:Str):TE:=fun σ H Q=>ta σ H fun x H1=>∃ a C dx fs v,x=.ref a/\H1 a=some (.ins C dx fs)/\Cls K C/\zgs K C f/\fs.lookup f=some v/\Q v H1
def zuQ (K:PySem.W.Frag) (ta tv:TE) (f:Str):TS:=fun D σ H=>tv σ H fun y H1=>ta σ H1 fun x H2=>∃ a C dx fs,x=.ref a/\H2 a=some (.ins C dx fs)/\Cls K C/\zgs K C f/\fs.length < 1000 /\
 D.nx σ (upd H2 a (.ins C dx (zi5 f y fs)))
section
variable {X:Cx} {o e value:Expr} {f:Str} {pos pos' tpos:Pos} {ta tv:TE}
theorem zmJ (he:PE X e ta) (hb:attributeBase e f X.env (eval e X.env)=eval e X.env):PE X (.Attribute e f pos) (zuN X.K ta f):=by
 intro pins s σ H Q I h
 refine zrw hb (thn (he pins s σ H _ I h) fun u s1 ⟨x,H1,I1,rx,a,C,dx,fs,v,ex,ea,c,n,l,q⟩=>?_)
 subst ex
 obtain rfl:u=Value.ref a:=rx
 exact zlZ I1 ea c n l fun u' s2 I2 ru=>⟨v,H1,I2,ru,q⟩
theorem zpx (ha:PE X o ta) (hv:PE X value tv) (hs:swapsWith value (some (.Attribute o f pos')) pos.line X.env=pure false):PS X (.Assign [.Attribute o f pos'] value pos) (zuQ X.K ta tv f):=by
 intro pins s σ H D I h
 refine plainObj_wpAny_Assign_Attribute (thn (hv pins s σ H _ I h) fun u s1 ⟨y,H1,I1,ry,q⟩=>thn (ha pins s1 σ H1 _ I1 q) fun ov s2 ⟨x,H2,I2,rx,a,C,dx,fs,ex,ea,c,n,l,q2⟩=>?_) hs
 subst ex
 obtain rfl:ov=Value.ref a:=rx
 exact zlE I2 ea c n l ry fun s3 I3=>⟨σ,_,I3,q2⟩
theorem zqV {pl:Sem Bool} {m:Str} {apos:Pos} {args:List Expr} {pins:List (Addr×Obj)} {s:Shared} {σ:St} {H:Hp} {Q:Value->Shared->Prop} {te:TE} (he:PE X e te) (I:Inv X pins σ H s)
  (h:te σ H fun x H1=>∃ a C dx fs g,x=.ref a/\H1 a=some (.ins C dx fs)/\Cls X.K C/\Meth X.K C m g/\fs.lookup m=none /\
   ∀ s1,Inv X pins σ H1 s1->wpAny (model X.prog X.w) X.A (callWith pos (.ref g) [.ref a] (backTo pos (starEach args X.env)) (backToKw pos (keywordEach [] X.env))) Q X.xe s1)
  (ht:eval (.Call (.Attribute e m apos) args [] pos) X.env=(do
   let ov ← eval e X.env
   standAt apos.atName
   let (f,first) ← holding [ov] (getMethod ov m pl)
   callWith pos f first (backTo pos (starEach args X.env)) (backToKw pos (keywordEach [] X.env)))) :
  wpAny (model X.prog X.w) X.A (eval (.Call (.Attribute e m apos) args [] pos) X.env) Q X.xe s:=by
 refine PySem.W.methodCall_KW (pl:=pl) (thn (he pins s σ H _ I h) fun u s1 ⟨x,H1,I1,rx,a,C,dx,fs,g,ex,ea,c,k,l,q⟩=>?_) ht
 subst ex
 obtain rfl:u=Value.ref a:=rx
 exact zf2 I1 ea c k l (q s1 I1)
end
section
variable {X:Cx} {pins:List (Addr×Obj)} {σ:St} {H:Hp} {s:Shared} {A:Around} {E:Value->Shared->Prop} {Q:Value->Shared->Prop} {c:Value} {b:Bool}
inductive TyOf (K:PySem.W.Frag) (H:Hp):V->Value->Prop where
 | non:TyOf K H .non (.type "NoneType")
 | bl (x:Bool):TyOf K H (.bl x) (.type "bool")
 | int (i:Int):TyOf K H (.int i) (.type "int")
 | str (x:Str):TyOf K H (.str x) (.type "str")
 | flt (x:UInt64):TyOf K H (.flt x) (.type "float")
 | lst {a:Addr} {xs:List V} (e:H a=some (.lst xs)):TyOf K H (.ref a) (.type "list")
 | frz {a:Addr} {o:Obj} {xs:List V} (e:H a=some (.frz o (.lst xs))):TyOf K H (.ref a) (.type "list")
 | tup {a:Addr} {xs:List V} (e:H a=some (.tup xs)):TyOf K H (.ref a) (.type "tuple")
 | dK {a:Addr} {kvs:List (Key×V)} (e:H a=some (.dK kvs)):TyOf K H (.ref a) (.type "dict")
 | dT {a:Addr} {kvs:List (List Key×V)} (e:H a=some (.dT kvs)):TyOf K H (.ref a) (.type "dict")
 | ins {a C dx:Addr} {fs:List (Str×V)} (e:H a=some (.ins C dx fs)) (cl:Cls K C) (ha:PySem.W.findIn K (.ref C) "__class__"=some (some (.builtin "object.__class__")))
   (hn:PySem.W.specialIn K (.builtin "object.__class__") "__get__"=some (some (.builtin "getset_descriptor.__get__"))) (htk:PySem.W.takesIn K (.builtin "object.__class__")=some true)
   (hm:PySem.W.mroIn K C (.type "object")=some true):TyOf K H (.ref a) (.ref C)
theorem znm {x:V} {u t:Value} (I:Inv X pins σ H s) (rx:zcD x u) (ty:TyOf X.K H x t) (e:PySem.W.kitOne X.K t c=some b) (h:∀ tk,Q (.bool b) { s with toks:=tk }) :
  wpAny (model X.prog X.w) A (call (.builtin "isinstance") [u,c]) Q E s:=by
 cases ty with
 | non=>cases (show u=Value.none from rx);exact PySem.W.kia_one PySem.W.kitx_none I.kIn True.intro e (fun z=>nomatch z) h
 | bl y=>cases (show u=Value.bool y from rx);exact PySem.W.kia_one PySem.W.kitx_bool I.kIn True.intro e (fun z=>nomatch z) h
 | int i=>obtain ⟨t,q⟩:=(show ∃ t,u=Value.int i t from rx);cases q;exact PySem.W.kia_one PySem.W.kitx_int I.kIn True.intro e (fun z=>nomatch z) h
 | str y=>obtain ⟨t,q⟩:=(show ∃ t,u=Value.str y t from rx);cases q;exact PySem.W.kia_one PySem.W.kitx_str I.kIn True.intro e (fun z=>nomatch z) h
 | flt y=>obtain ⟨t,q⟩:=(show ∃ t,u=Value.float y t from rx);cases q;exact PySem.W.kia_one PySem.W.kitx_float I.kIn True.intro e (fun z=>nomatch z) h
 | @lst a xs ea =>
  cases (show u=Value.ref a from rx)
  obtain ⟨_,_,n,_,h1⟩:=(show zcx X.prog X.w H s.heap a (.lst xs) from I.hok a _ ea)
  exact PySem.W.kia_one PySem.W.kitx_list I.kIn ⟨_,h1,rfl⟩ e (fun z=>nomatch z) h
 | @frz a ob xs ea =>
  cases (show u=Value.ref a from rx)
  obtain ⟨_,_,_,n,_,h1⟩:=(show zcx X.prog X.w H s.heap a (.frz ob (.lst xs)) from I.hok a _ ea)
  exact PySem.W.kia_one PySem.W.kitx_list I.kIn ⟨_,h1,rfl⟩ e (fun z=>nomatch z) h
 | @tup a xs ea =>
  cases (show u=Value.ref a from rx)
  obtain ⟨_,_,_,p⟩:=(show zcx X.prog X.w H s.heap a (.tup xs) from I.hok a _ ea)
  obtain ⟨o,h1,h2,_⟩:=p
  exact PySem.W.kia_one PySem.W.kitx_tuple I.kIn ⟨o,h1,h2⟩ e (fun z=>nomatch z) h
 | @dK a kvs ea =>
  cases (show u=Value.ref a from rx)
  obtain ⟨_,_,vs,_,p⟩:=(show zcx X.prog X.w H s.heap a (.dK kvs) from I.hok a _ ea)
  obtain ⟨o,es,ep,h1,h2,_⟩:=p
  exact PySem.W.kia_one PySem.W.kitx_dict I.kIn ⟨o,h1,h2.1⟩ e (fun z=>nomatch z) h
 | @dT a kvs ea =>
  cases (show u=Value.ref a from rx)
  obtain ⟨_,_,xs,_,o,es,ep,h1,h2,_⟩:=(show zcx X.prog X.w H s.heap a (.dT kvs) from I.hok a _ ea)
  exact PySem.W.kia_one PySem.W.kitx_dict I.kIn ⟨o,h1,h2.1⟩ e (fun z=>nomatch z) h
 | @ins a C dx fs ea cl ha hn htk hm =>
  cases (show u=Value.ref a from rx)
  obtain ⟨mA,O,_⟩:=ziC I.hok ea
  obtain ⟨od,J,_⟩:=O.look
  exact PySem.W.kia_one (PySem.W.kitx_own (cl.get _) cl.hd ha hn htk hm) I.kIn J e (fun z=>nomatch z) h
end
end L2
namespace L2
open PySem PySem.Spec PyProof.Rows
structure Room (k:Nat) (A:Around):Prop where
 hd:A.handled=none
 dp:A.depth+3*k+5 < recursionLimit
 un:A.units+16*k+200 < cLine
theorem Room.mono {j k:Nat} {A:Around} (r:Room k A) (h:j<=k):Room j A:=⟨r.hd,by have:=r.dp;omega,by have:=r.un;omega⟩
theorem Room.deeper {k:Nat} {A:Around} (r:Room (k+1) A) (env:Env):Room k (A.deeper env) :=
 ⟨r.hd,by have:=r.dp;show A.depth+1+3*k+5 < _;omega,by have:=r.un;show A.units+3+16*k+200 < _;omega⟩
theorem zlU {A:Around} {C:Addr} {us:List Value} {kw:List (Str×Value)}:(A.under (.builtin "type.__call__" ⟨.ref C::us,kw⟩)).depth=A.depth+1:=by
 first | rfl | simp [Around.under,Code.weight,Code.isCreation,Code.isGuard,Code.isCaller,Code.frames,Code.isFrame,guardIds]
theorem zlT {A:Around} {C:Addr} {us:List Value} {kw:List (Str×Value)}:(A.under (.builtin "type.__call__" ⟨.ref C::us,kw⟩)).units=A.units+1:=by
 first | rfl | simp [Around.under,Code.cUnits,Code.frames,Code.isFrame]
theorem Room.make {k:Nat} {A:Around} (r:Room (k+1) A) (C:Addr) (us:List Value) (kw:List (Str×Value)):Room k (A.under (.builtin "type.__call__" ⟨.ref C::us,kw⟩)) :=
 ⟨r.hd,by have:=r.dp;rw [zlU];omega,by have:=r.un;rw [zlT];omega⟩
theorem Room.depth {k:Nat} {A:Around} (r:Room k A):A.depth < recursionLimit:=by have:=r.dp;omega
def zgh:TA:=fun _ H Q=>Q [] H
def zbm (ta:TE) (tr:TA):TA:=fun σ H Q=>ta σ H fun x H1=>tr σ H1 fun xs H2=>Q (x::xs) H2
section
variable {X:Cx} {e:Expr} {es:List Expr} {te:TE} {t:TA} {pos:Pos}
theorem zbT:PA X [] zgh:=fun _ _ _ _ H Q I h=>Calls.spliced_nil ⟨[],H,I,.nil,h⟩
theorem zaK (ha:PE X e te) (hr:PA X es t) (hs:starEach (e::es) X.env=(false,eval e X.env)::starEach es X.env:=by rfl):PA X (e::es) (zbm te t):=by
 intro pos pins s σ H Q I h
 rw [hs]
 show wpAny _ _ (spliced ((false,eval e X.env)::backTo pos (starEach es X.env))) _ _ s
 refine Calls.spliced_cons (thn (ha pins s σ H _ I h) fun u s1 ⟨x,H1,I1,r1,q1⟩=>?_)
 exact thn (hr pos pins s1 σ H1 _ I1 q1) fun us s2 ⟨xs,H2,I2,r2,q2⟩=>⟨x::xs,H2,I2,.cons r1 r2,q2⟩
def ztu (t:TA):TE:=fun σ H Q=>t σ H fun xs H1=>xs.length<=sizeLine/\∀ p,H1 p=none->Q (.ref p) (upd H1 p (.tup xs))
def zrD (t:TA):TE:=fun σ H Q=>t σ H fun xs H1=>xs.length<=sizeLine/\∀ p,H1 p=none->Q (.ref p) (upd H1 p (.lst xs))
theorem zkX {x1} (h:PA X es t):PE X (.Tuple es x1 pos) (ztu t):=by
 intro pins s σ H Q I hq
 refine wpAny_Tuple_spliced (thn (h pos pins s σ H _ I hq) fun us s1 ⟨xs,H1,I1,r,z,q⟩=>⟨by rw [← r.length];exact z,?_⟩)
 have hf:H1 s1.heap.objs.size=none:=I1.hok.fresh (qu _)
 refine ⟨.ref s1.heap.objs.size,upd H1 s1.heap.objs.size (.tup xs),I1.laid (t':=s1.toks) (fun b u e=>qr _ e) (qu _) ?_,rfl,q _ hf⟩
 exact ⟨z,us,r,⟨_,qE _ rfl,rfl,_,rfl⟩⟩
theorem zk1 (h:PA X es t):PE X (.List es pos) (zrD t):=by
 intro pins s σ H Q I hq
 refine wpAny_List_spliced (thn (h pos pins s σ H _ I hq) fun us s1 ⟨xs,H1,I1,r,z,q⟩=>⟨by rw [← r.length];exact z,?_⟩)
 have hf:H1 s1.heap.objs.size=none:=I1.hok.fresh (qu _)
 refine ⟨.ref s1.heap.objs.size,upd H1 s1.heap.objs.size (.lst xs),I1.laid (t':=s1.toks) (fun b u e=>qr _ e) (qu _) ?_,rfl,q _ hf⟩
 exact ⟨z,us,0,r,qE _ rfl⟩
end
abbrev Sp:=List V->Hp->VK->XK->Prop
abbrev CXT:=List Env->Hp->Shared->XK->Value->Shared->Prop
structure Env0 (P:Program) (w:World) (K:PySem.W.Frag) (mg:Str->Option Value) (base:Heap) (A:Around) (outer:List Env) (s:Shared) (H:Hp):Prop where
 frames:A.frames=some outer
 mod:Mod K mg base
 bs:∀ b o,base.get? b=some o->s.heap.get? b=some o/\H b=none
 bsz:base.objs.size<=s.heap.objs.size
 funs:s.heap.FunFrames base outer
 frf:∀ b∈frs outer,H b=none
 hok:HOk P w H s.heap
 bare:AllBare s.gens
def CE (outer:List Env) (P:Program) (w:World) (H:Hp) (s:Shared) (Q:VK) (u:Value) (s':Shared):Prop :=
 ∃ v H',s'.os=s.os/\AllBare s'.gens/\Un (frs outer) [] H H' s.heap s'.heap/\HOk P w H' s'.heap/\zcD v u/\Q v H'
def CR (CX:CXT) (outer:List Env) (P:Program) (w:World) (H:Hp) (s:Shared) (Q:VK) (E:XK) (r:Result) (s':Shared):Prop :=
 match r with
 | .ok (.ret u)=>CE outer P w H s Q u s'
 | .ok _=>False
 | .error e=>CX outer H s E e s'
structure FnOk (P:Program) (w:World) (K:PySem.W.Frag) (mg:Str->Option Value) (base:Heap) (CX:CXT) (k:Nat) (f:Addr) (fd:FuncData) (ps:List Str) (sp:Sp):Prop where
 len:∀ vs H Q E,sp vs H Q E->vs.length=ps.length
 run:∀ (A:Around) (outer:List Env) (s:Shared) (H:Hp) (args:Args) (us:List Value) (vs:List V) (Q:VK) (E:XK),Room k A->Env0 P w K mg base A outer s H->BindsTo s fd args (ps.zip us)->zbY vs us->sp vs H Q E ->
  codeAny (model P w) A (.call (.ref f) args) (CR CX outer P w H s Q E) s
theorem FnOk.imp {P:Program} {w:World} {K:PySem.W.Frag} {mg:Str->Option Value} {base:Heap} {CX:CXT} {k:Nat} {f:Addr} {fd:FuncData} {ps:List Str} {sp sp':Sp} (F:FnOk P w K mg base CX k f fd ps sp)
  (h:∀ vs H Q E,sp' vs H Q E->sp vs H Q E):FnOk P w K mg base CX k f fd ps sp' :=
 ⟨fun vs H Q E q=>F.len vs H Q E (h _ _ _ _ q),fun A outer s H args us vs Q E hr he hb hv hs=>F.run A outer s H args us vs Q E hr he hb hv (h _ _ _ _ hs)⟩
theorem Env0.make {P:Program} {w:World} {K:PySem.W.Frag} {mg:Str->Option Value} {base:Heap} {A:Around} {outer:List Env} {s:Shared} {H:Hp} (e:Env0 P w K mg base A outer s H) (C:Addr) (us:List Value) (kw:List (Str×Value)) :
  Env0 P w K mg base (A.under (.builtin "type.__call__" ⟨.ref C::us,kw⟩)) outer s H:=⟨by first | exact e.frames | (simpa [Around.under,Code.envs,Code.isFrame,pushEnvs] using e.frames),e.mod,e.bs,e.bsz,e.funs,e.frf,e.hok,e.bare⟩
section
variable {X:Cx} {pins:List (Addr×Obj)} {σ:St} {H:Hp} {s s':Shared}
theorem Inv.env0 (I:Inv X pins σ H s):Env0 X.prog X.w X.K X.mg X.base X.A X.stack s H :=
 ⟨I.ok.frames,I.ok.mod,I.bs,qK I.ok.bsz I.sz,I.stack,I.stkFree,I.hok,I.bare⟩
theorem Inv.after {Q:VK} {u:Value} (I:Inv X pins σ H s) (h:CE X.stack X.prog X.w H s Q u s'):EP X pins σ Q u s':=by
 obtain ⟨v,H',os,bare,un,hok,r,q⟩:=h
 obtain ⟨hh,g,d,t,os'⟩:=s'
 obtain rfl:os'=s.os:=os
 exact ⟨v,H',I.call (h':=hh) (g':=g) (d':=d) (t':=t) (ch:=[]) un hok bare (fun b z=>absurd z (by simp)),r,q⟩
end
def zrV (sp:Sp) (dvs:List V) (E:XK) (t:TA):TE:=fun σ H Q=>t σ H fun vs H1=>sp (vs++dvs) H1 Q E
def zrT (C:Addr) (m:Str) (sp:Sp) (dvs:List V) (E:XK) (ta:TE) (t:TA):TE:=fun σ H Q=>ta σ H fun x H1=>∃ a dx fs,x=.ref a/\H1 a=some (.ins C dx fs)/\fs.lookup m=none /\
 t σ H1 fun vs H2=>sp (x::(vs++dvs)) H2 Q E
def ztD (C:Addr) (sp:Sp) (dvs:List V) (E:XK) (t:TA):TE:=fun σ H Q=>t σ H fun vs H1=>∀ x dx,H1 x=none->H1 dx=none->dx≠x ->
 sp (.ref x::(vs++dvs)) (upd (upd H1 dx (.own x)) x (.ins C dx [])) (fun v H2=>v=.non/\Q (.ref x) H2) E
def zdJ (K:PySem.W.Frag) (fd:FuncData) (ps:List Str) (ds:List Value):Prop :=
 ∀ (s:Shared) (us:List Value),K.In s.heap->(us++ds).length=ps.length->BindsTo s fd ⟨us,[]⟩ (ps.zip (us++ds))
theorem zdJ.all {K:PySem.W.Frag} {fd:FuncData} {ps:List Str} (h:∀ us:List Value,us.length=ps.length->bindArgs fd ⟨us,[]⟩=pure (ps.zip us)):zdJ K fd ps []:=fun s us _ hl=>by
 rw [List.append_nil] at hl ⊢
 exact .of_eq (h us hl)
def zho (CX:CXT) (X:Cx) (E:XK):Prop:=∀ (pins:List (Addr×Obj)) (σ:St) (H:Hp) (s:Shared) (e:Value) (s':Shared),Inv X pins σ H s->CX X.stack H s E e s'->X.xe e s'
section
variable {X:Cx} {CX:CXT} {k:Nat} {f C:Addr} {fd:FuncData} {ps:List Str} {sp:Sp} {dvs:List V} {ds:List Value} {E:XK} {x m:Str} {p pos apos:Pos} {e o:Expr} {es:List Expr} {ta:TE} {t:TA}
theorem zmv {pins:List (Addr×Obj)} {σ:St} {H:Hp} {s:Shared} {Q:VK} {us:List Value} {vs:List V} (F:FnOk X.prog X.w X.K X.mg X.base CX k f fd ps sp) (hr:Room k X.A) (hb:zdJ X.K fd ps ds) (hd:zbY dvs ds) (hx:zho CX X E)
  (I:Inv X pins σ H s) (r:zbY vs us) (h:sp (vs++dvs) H Q E):wpAny (model X.prog X.w) X.A (call (.ref f) us) (EP X pins σ Q) X.xe s:=by
 have r2:zbY (vs++dvs) (us++ds):=r.append hd
 have hl:(us++ds).length=ps.length:=by rw [← r2.length];exact F.len _ _ _ _ h
 refine wpAny_call (codeAny_mono (F.run X.A X.stack s H ⟨us,[]⟩ (us++ds) (vs++dvs) Q E hr I.env0 (hb s us I.kIn hl) r2 h) fun r s' hq=>?_)
 cases r with
 | error e=>exact hx pins σ H s e s' I hq
 | ok fl =>
  cases fl with
  | ret u=>exact I.after hq
  | next=>exact False.elim hq
  | brk=>exact False.elim hq
  | cont=>exact False.elim hq
theorem zkb (F:FnOk X.prog X.w X.K X.mg X.base CX k f fd ps sp) (hr:Room k X.A) (hg:Gl X x) (hm:X.mg x=some (.ref f)) (hk:PySem.W.keepIn X.K (.ref f)=true) (hb:zdJ X.K fd ps ds) (hd:zbY dvs ds) (hx:zho CX X E)
  (ha:PA X (e::es) t) (hdb:(x==("__debug__":Str))=false:=by decide) (he:starEach (e::es) X.env=(false,eval e X.env)::starEach es X.env:=by rfl) (hpl:(backTo pos (starEach es X.env)).any (·.1)=false:=by rfl) :
  PE X (.Call (.Name x p) (e::es) [] pos) (zrV sp dvs E t):=by
 intro pins s σ H Q I h
 refine wpAny_Call_Name_kw (zki I hg hm ?_ hdb)
 refine PySem.W.callWith_K (h₀:=X.base) I.ok.mod.kin hk (thn (ha pos pins s σ H _ I h) fun us s1 ⟨vs,H1,I1,r,q⟩=>⟨I1.kIn,?_⟩) he hpl
 exact zmv F hr hb hd hx I1 r q
theorem zqv {pl:Sem Bool} (he:PE X o ta) (c:Cls X.K C) (hm:Meth X.K C m f) (F:FnOk X.prog X.w X.K X.mg X.base CX k f fd ps sp) (hr:Room k X.A) (hb:zdJ X.K fd ps ds) (hd:zbY dvs ds) (hx:zho CX X E) (ha:PA X (e::es) t)
  (hst:starEach (e::es) X.env=(false,eval e X.env)::starEach es X.env:=by rfl) (hpl:(backTo pos (starEach es X.env)).any (·.1)=false:=by rfl)
  (ht:eval (.Call (.Attribute o m apos) (e::es) [] pos) X.env=(do
   let ov ← eval o X.env
   standAt apos.atName
   let (f,first) ← holding [ov] (getMethod ov m pl)
   callWith pos f first (backTo pos (starEach (e::es) X.env)) (backToKw pos (keywordEach [] X.env))):=by rfl) :
  PE X (.Call (.Attribute o m apos) (e::es) [] pos) (zrT C m sp dvs E ta t):=by
 intro pins s σ H Q I h
 refine PySem.W.methodCall_KW (pl:=pl) (thn (he pins s σ H _ I h) fun u s1 ⟨x,H1,I1,rx,a,dx,fs,ex,ea,l,q⟩=>?_) ht
 subst ex
 obtain rfl:u=Value.ref a:=rx
 refine zf2 I1 ea c hm l ?_
 refine PySem.W.callWith_K (first:=[.ref a]) (h₀:=X.base) I.ok.mod.kin hm.kp (thn (ha pos pins s1 σ H1 _ I1 q) fun us s2 ⟨vs,H2,I2,r,q2⟩=>⟨I2.kIn,?_⟩) hst hpl
 exact zmv (us:=.ref a::us) (vs:=.ref a::vs) F hr hb hd hx I2 (.cons rfl r) q2
theorem zk0 {pl:Sem Bool} (he:PE X o ta) (c:Cls X.K C) (hm:Meth X.K C m f) (F:FnOk X.prog X.w X.K X.mg X.base CX k f fd ps sp) (hr:Room k X.A) (hb:zdJ X.K fd ps ds) (hd:zbY dvs ds) (hx:zho CX X E)
  (ht:eval (.Call (.Attribute o m apos) [] [] pos) X.env=(do
   let ov ← eval o X.env
   standAt apos.atName
   let (f,first) ← holding [ov] (getMethod ov m pl)
   callWith pos f first (backTo pos (starEach [] X.env)) (backToKw pos (keywordEach [] X.env))):=by rfl) :
  PE X (.Call (.Attribute o m apos) [] [] pos) (zrT C m sp dvs E ta zgh):=by
 intro pins s σ H Q I h
 refine PySem.W.methodCall_KW (pl:=pl) (thn (he pins s σ H _ I h) fun u s1 ⟨x,H1,I1,rx,a,dx,fs,ex,ea,l,q⟩=>?_) ht
 subst ex
 obtain rfl:u=Value.ref a:=rx
 refine zf2 I1 ea c hm l ?_
 exact PySem.W.callWith_K0 (first:=[.ref a]) I1.kIn hm.kp (zmv (us:=[.ref a]) (vs:=[.ref a]) F hr hb hd hx I1 (.cons rfl .nil) q)
structure Mk (K:PySem.W.Frag) (C f:Addr):Prop where
 makes:PySem.W.makesIn K C=true
 init:PySem.W.findIn K (.ref C) "__init__"=some (some (.ref f))
 fn:PySem.W.isFn K (.ref f)=true
 kp:PySem.W.keepIn K (.ref C)=true
theorem zoq {pins:List (Addr×Obj)} {σ:St} {H:Hp} {s:Shared} {Q:VK} {us:List Value} {vs:List V} (M:Mk X.K C f) (F:FnOk X.prog X.w X.K X.mg X.base CX k f fd ps sp) (hr:Room (k+1) X.A) (hb:zdJ X.K fd ps ds) (hd:zbY dvs ds)
  (hx:zho CX X E) (I:Inv X pins σ H s) (r:zbY vs us)
  (h:∀ x dx,H x=none->H dx=none->dx≠x->sp (.ref x::(vs++dvs)) (upd (upd H dx (.own x)) x (.ins C dx [])) (fun v H2=>v=.non/\Q (.ref x) H2) E) :
  wpAny (model X.prog X.w) X.A (call (.ref C) us) (EP X pins σ Q) X.xe s:=by
 have hq:=h (s.heap.objs.size+1) s.heap.objs.size (I.hok.fresh (Nat.le_succ _)) (I.hok.fresh (qu _)) (qA (Nat.lt_succ_self _))
 have I2:=Inv.made (C:=C) I
 have r2:zbY (V.ref (s.heap.objs.size+1)::(vs++dvs)) (Value.ref (s.heap.objs.size+1)::(us++ds)):=.cons rfl (r.append hd)
 have hl:(Value.ref (s.heap.objs.size+1)::us++ds).length=ps.length:=by
  have e:=r2.length
  rw [F.len _ _ _ _ hq] at e
  exact e.symm
 refine wpAny_call (zoJ (f:=f) I.kIn M.makes M.init (beq_iff_eq.mp M.fn) (codeAny_mono (F.run _ X.stack _ _ ⟨Value.ref (s.heap.objs.size+1)::us,[]⟩ (Value.ref (s.heap.objs.size+1)::(us++ds)) _ _ E (hr.make C us [])
  (I2.env0.make C us []) (hb _ (Value.ref (s.heap.objs.size+1)::us) I2.kIn hl) r2 hq) fun r s' hq'=>?_))
 cases r with
 | error e=>exact hx pins σ _ _ e s' I2 hq'
 | ok fl =>
  cases fl with
  | ret u =>
   obtain ⟨v,H',I3,rv,ev,q3⟩:=I2.after hq'
   subst ev
   exact ⟨rv,⟨V.ref (s.heap.objs.size+1),H',I3,rfl,q3⟩⟩
  | next=>exact False.elim hq'
  | brk=>exact False.elim hq'
  | cont=>exact False.elim hq'
theorem zqw (M:Mk X.K C f) (F:FnOk X.prog X.w X.K X.mg X.base CX k f fd ps sp) (hr:Room (k+1) X.A) (hg:Gl X x) (hm:X.mg x=some (.ref C)) (hb:zdJ X.K fd ps ds) (hd:zbY dvs ds) (hx:zho CX X E)
  (ha:PA X (e::es) t) (hdb:(x==("__debug__":Str))=false:=by decide) (he:starEach (e::es) X.env=(false,eval e X.env)::starEach es X.env:=by rfl) (hpl:(backTo pos (starEach es X.env)).any (·.1)=false:=by rfl) :
  PE X (.Call (.Name x p) (e::es) [] pos) (ztD C sp dvs E t):=by
 intro pins s σ H Q I h
 refine wpAny_Call_Name_kw (zki I hg hm ?_ hdb)
 refine PySem.W.callWith_K (h₀:=X.base) I.ok.mod.kin M.kp (thn (ha pos pins s σ H _ I h) fun us s1 ⟨vs,H1,I1,r,q⟩=>⟨I1.kIn,?_⟩) he hpl
 exact zoq M F hr hb hd hx I1 r q
end
section
variable {X:Cx} {CX:CXT} {k:Nat} {f C:Addr} {fd:FuncData} {ps ks:List Str} {sp:Sp} {E:XK} {x m:Str} {p pos apos kpos:Pos} {e o:Expr} {es:List Expr} {kws:List Keyword} {te ta:TE} {t tk:TA} {nm:Option Str}
structure KBinds (K:PySem.W.Frag) (fd:FuncData) (ps ks:List Str) (g:List Value->List Value->List Value) (gV:List V->List V->List V):Prop where
 to:∀ (s:Shared) (us ws:List Value),K.In s.heap->(g us ws).length=ps.length->BindsTo s fd ⟨us,ks.zip ws⟩ (ps.zip (g us ws))
 rel:∀ {vs:List V} {us:List Value} {zs:List V} {ws:List Value},zbY vs us->zbY zs ws->zbY (gV vs zs) (g us ws)
variable {g:List Value->List Value->List Value} {gV:List V->List V->List V}
end
structure FnScope (N P:List Str) (sc:Scope):Prop where
 kind:sc.kind=.function
 co:sc.isCoroutine=false
 gen:sc.isGenerator=false
 nd:N.Nodup
 pre:N.take P.length=P
 par:∀ x∈P,sc.names.lookup x=some .local\/sc.names.lookup x=some .cell
 nofree:∀ y∈sc.names,y.2≠.free
theorem zjN {kindOf:Str->Option NameKind} {x:Str}:∀ {binds:List (Str×Value)} {m:Str->Option Value},(∀ v,(x,v)∉binds)->bindL kindOf binds m x=m x
 | [],_,_=>rfl
 | (n,v)::r,m,h=>by
  unfold bindL
  rw [zjN fun w hw=>h w (qg _ hw)]
  split
  ·have:x≠n:=by rintro rfl;exact h v qf
   simp [this]
  ·rfl
theorem zjP {kindOf:Str->Option NameKind} {x:Str}:∀ {binds:List (Str×Value)} {m:Str->Option Value},(∀ v,(x,v)∉binds)->bindC kindOf binds m x=m x
 | [],_,_=>rfl
 | (n,v)::r,m,h=>by
  unfold bindC
  rw [zjP fun w hw=>h w (qg _ hw)]
  split
  ·rfl
  ·have:x≠n:=by rintro rfl;exact h v qf
   simp [this]
theorem zjO {kindOf:Str->Option NameKind} {x:Str} {v:Value}:∀ {P:List Str} {vs:List Value} {i:Nat} {m:Str->Option Value},P.Nodup->P[i]?=some x->vs[i]?=some v->kindOf x=some .local ->
  bindL kindOf (P.zip vs) m x=some v
 | [],_,_,_,_,h,_,_=>by simp at h
 | _::_,[],_,_,_,_,h,_=>by simp at h
 | p::P,w::vs,0,m,nd,h1,h2,hk=>by
  simp at h1 h2;subst h1;subst h2
  show bindL kindOf ((p,w)::P.zip vs) m p=_
  unfold bindL
  rw [zjN fun v hv=>(List.nodup_cons.mp nd).1 (List.of_mem_zip hv).1,qW hk]
  simp
 | p::P,w::vs,i+1,m,nd,h1,h2,hk=>by
  show bindL kindOf ((p,w)::P.zip vs) m x=_
  unfold bindL
  exact zjO (i:=i) (List.nodup_cons.mp nd).2 (by simpa using h1) (by simpa using h2) hk
theorem zjQ {kindOf:Str->Option NameKind} {x:Str} {v:Value}:∀ {P:List Str} {vs:List Value} {i:Nat} {m:Str->Option Value},P.Nodup->P[i]?=some x->vs[i]?=some v->kindOf x≠some .local ->
  bindC kindOf (P.zip vs) m x=some v
 | [],_,_,_,_,h,_,_=>by simp at h
 | _::_,[],_,_,_,_,h,_=>by simp at h
 | p::P,w::vs,0,m,nd,h1,h2,hk=>by
  simp at h1 h2;subst h1;subst h2
  show bindC kindOf ((p,w)::P.zip vs) m p=_
  unfold bindC
  rw [zjP fun v hv=>(List.nodup_cons.mp nd).1 (List.of_mem_zip hv).1,qX hk]
  simp
 | p::P,w::vs,i+1,m,nd,h1,h2,hk=>by
  show bindC kindOf ((p,w)::P.zip vs) m x=_
  unfold bindC
  exact zjQ (i:=i) (List.nodup_cons.mp nd).2 (by simpa using h1) (by simpa using h2) hk
def zc5 (N:List Str) (vs:List V):St:=vs.map some++List.replicate (N.length - vs.length) none
def ziK (CX:CXT) (P:Program) (w:World) (K:PySem.W.Frag) (mg:Str->Option Value) (base:Heap) (N:List Str) (qual:Str) (scope:Scope) (f:Addr) (cd:Value) (A:Around) (outer:List Env) (s:Shared) (H:Hp) (E:XK):Cx where
 prog:=P
 w:=w
 K:=K
 mg:=mg
 base:=base
 A:=A.deeper (envOfC qual scope s.heap.objs.size f cd)
 N:=N
 s₀:=s
 H₀:=H
 env:=envOfC qual scope s.heap.objs.size f cd
 outer:=outer
 stack:=envOfC qual scope s.heap.objs.size f cd::outer
 ex:=[]
 calm:=true
 fn:=fun _=>true
 pn:=[]
 xe:=fun e s'=>wpAny (model P w) (A.deeper (envOfC qual scope s.heap.objs.size f cd)) (leaving (envOfC qual scope s.heap.objs.size f cd) e) (fun _ s''=>CX outer H s E e s'') (fun e' s''=>CX outer H s E e' s'') s'
theorem zlw {sc:Scope} {n:Nat} {x:Str} (h:sc.names.lookup x=some .cell):∃ c,(cellsFrom n sc.names []).lookup x=some c:=by
 have q:=PySem.W.cellsFrom_some sc.names n [] (.inl h)
 exact Option.isSome_iff_exists.mp q
theorem zno {CX:CXT} {P:Program} {w:World} {K:PySem.W.Frag} {mg:Str->Option Value} {base:Heap} {N ps:List Str} {qual:Str} {scope:Scope} {f:Addr} {cd:Value} {A:Around} {outer:List Env} {s s1:Shared} {H:Hp} {E:XK} {us:List Value} {vs:List V}
  (S:FnScope N ps scope) (hd:A.handled=none) (e0:Env0 P w K mg base A outer s H) (hl:vs.length=ps.length) (r:zbY vs us)
  (x:InCallC s s.heap.objs.size (bindL (envOfC qual scope s.heap.objs.size f cd).kindOf (ps.zip us) fun _=>none) (cellsFrom (s.heap.objs.size+1) scope.names []) (bindC (envOfC qual scope s.heap.objs.size f cd).kindOf (ps.zip us) fun _=>none) s1) :
  Inv (ziK CX P w K mg base N qual scope f cd A outer s H E) [] (zc5 N vs) H s1:=by
 have hpl:ps.length<=N.length:=by have:=congrArg List.length S.pre;rw [qC] at this;omega
 obtain ⟨h1,tk,rfl,hk⟩:=x.done
 have noA:∀ b:Addr,b∉(ziK CX P w K mg base N qual scope f cd A outer s H E).ex:=fun b z=>absurd (show b∈([]:List Addr) from z) (by simp)
 refine ⟨⟨e0.mod,S.kind,rfl,rfl,qu _,fun y z c h1 h2=>?_,fun y hy=>?_,fun y c _ h=>?_,fun _=>hd,Around.frames_deeper e0.frames,.inr ⟨rfl,rfl⟩,fun b z=>absurd z (noA b),e0.bs,e0.bsz,fun b _ _=>noA b,fun b z=>absurd z (noA b),e0.funs,e0.frf⟩,
  rfl,e0.bare,Un.kept hk,⟨_,x.toInCall.ns,fun i y v h1 h2 h3=>?_⟩,fun y c h=>⟨_,x.cell y c h⟩,e0.hok.fresh (qu _),fun y c h=>?_,fun p hp=>absurd (show p∈([]:List (Addr×Obj)) from hp) (by simp),e0.hok.kept hk,?_⟩
 ·exact name_of_addr x.apart (PySem.mem_of_lookup h1) (PySem.mem_of_lookup h2)
 ·have hy:scope.names.lookup y=some .cell\/scope.names.lookup y=some .free:=hy
  rcases hy with hy | hy
  ·exact zlw hy
  ·exact absurd rfl (S.nofree _ (PySem.mem_of_lookup hy))
 ·exact Nat.le_of_lt (x.above y c (PySem.mem_of_lookup h))
 ·have hi:i < vs.length:=by
   unfold zc5 at h2
   by_cases hi:i < vs.length
   ·exact hi
   ·rw [qI (by simpa using hi)] at h2
    rw [List.getElem?_replicate] at h2
    split at h2 <;> cases h2
  have ha:vs[i]?=some v:=by
   unfold zc5 at h2
   rw [qx (by simpa using hi),qj] at h2
   cases e:vs[i]? with
   | none=>rw [e] at h2;cases h2
   | some a=>rw [e] at h2;cases h2;rfl
  obtain ⟨u,hu,rv⟩:=r.get ha
  have hp:ps[i]?=some y:=by
   rw [← S.pre,List.getElem?_take_of_lt (by omega)];exact h1
  have ndP:ps.Nodup:=by rw [← S.pre];exact S.nd.sublist (List.take_sublist _ _)
  refine ⟨u,rv,?_⟩
  rcases S.par y (qN hp) with k | k
  ·exact .inl ⟨k,zjO ndP hp hu k⟩
  ·obtain ⟨c,e⟩:=zlw (n:=s.heap.objs.size+1) k
   refine .inr ⟨.inl k,c,e,?_⟩
   have q:=x.cell y c e
   rw [zjQ ndP hp hu (by show scope.names.lookup y≠_;rw [k];decide)] at q
   exact q
 ·exact e0.hok.fresh (Nat.le_of_lt (x.above y c (PySem.mem_of_lookup h)))
 ·unfold zc5
  show _=N.length
  rw [qi,qe,List.length_replicate]
  omega
theorem zt8 {CX:CXT} {P:Program} {w:World} {K:PySem.W.Frag} {mg:Str->Option Value} {base:Heap} {k:Nat} {f:Addr} {name qual:Str} {params:Arguments} {body:List Stmt} {scope:Scope} {dV kV doc pm cdv ct oc:Value} {an od:Option Addr}
  {osl:Array (Option Value)} {N ps:List Str} {sp:Sp} (lk:K.lookup f=some ⟨oc,od,.func (PySem.W.fnOf name qual params body scope dV kV doc pm an cdv ct),osl⟩) (hcd:PySem.W.codeIn K cdv qual=true) (S:FnScope N ps scope)
  (len:∀ vs H Q E,sp vs H Q E->vs.length=ps.length)
  (hbody:∀ (A:Around) (outer:List Env) (s:Shared) (H:Hp) (vs:List V) (Q:VK) (E:XK),Room k (A.deeper (envOfC qual scope s.heap.objs.size f cdv))->sp vs H Q E ->
   ∃ t,PSs (ziK CX P w K mg base N qual scope f cdv A outer s H E) body t/\t { nx:=fun _ H'=>Q .non H',rt:=Q } (zc5 N vs) H) :
  FnOk P w K mg base CX (k+1) f (PySem.W.fnOf name qual params body scope dV kV doc pm an cdv ct) ps sp:=by
 refine ⟨len,fun A outer s H args us vs Q E hr e0 hb r hsp=>?_⟩
 have hl:=len _ _ _ _ hsp
 have KX:K.In s.heap:=e0.mod.kin.keeps fun b o e=>(e0.bs b o e).1
 have lim:s.heap.NoLimit:=e0.mod.nolimit.keeps fun b o e=>(e0.bs b o e).1
 have hkind:∀ y∈ps.zip us,scope.names.lookup y.1=some .local\/(scope.names.lookup y.1=some .cell/\((cellsFrom (s.heap.objs.size+1) scope.names []).lookup y.1).isSome=true):=fun ⟨n,v⟩ hy=>by
  rcases S.par n (List.of_mem_zip hy).1 with q | q
  ·exact .inl q
  ·exact .inr ⟨q,PySem.W.cellsFrom_some _ _ _ (.inl q)⟩
 refine codeAny_call_function hr.depth (KX _ _ lk) rfl S.co S.gen rfl (PySem.W.codeRec_of KX hcd) (hb _ _ _ _ ?_)
 refine wpAny_newFunctionEnv_cells S.kind hkind fun env he s1 x=>?_
 subst he
 refine ⟨lim.keeps x.toInCall.keep,codeAny_func ?_⟩
 obtain ⟨t,ht,hq⟩:=hbody A outer s H vs Q E (hr.deeper _) hsp
 have I:Inv (ziK CX P w K mg base N qual scope f cdv A outer s H E) [] (zc5 N vs) H s1:=zno S hr.hd e0 hl r x
 refine wpAny_mono (ht [] s1 (zc5 N vs) H _ I hq) (fun fl s' hs=>?_) fun e s' hs=>hs
 have fin:∀ {σ':St} {H':Hp} {v:V} {u:Value},Inv (ziK CX P w K mg base N qual scope f cdv A outer s H E) [] σ' H' s'->zcD v u->Q v H'->CE outer P w H s Q u s' :=
  fun {σ' H' v u} J rv q=>⟨v,H',J.os,J.bare,J.base,J.hok,rv,q⟩
 cases fl with
 | ret u =>
  obtain ⟨v,σ',H',J,rv,q⟩:=hs
  exact fin J rv q
 | next =>
  obtain ⟨σ',H',J,q⟩:=hs
  exact fin (v:=V.non) (u:=Value.none) J rfl q
 | brk =>
  obtain ⟨_,_,_,q⟩:=hs
  exact False.elim q
 | cont =>
  obtain ⟨_,_,_,q⟩:=hs
  exact False.elim q
end L2
namespace L2
open PySem PySem.Spec PyProof.Rows
section
variable {X:Cx} {x:Str} {p pos:Pos} {e:Expr} {es:List Expr} {t:TA} {id T:String} {r:List V->Hp->VK->Prop}
def tCB (r:List V->Hp->VK->Prop) (t:TA):TE:=fun σ H Q=>t σ H fun vs H1=>r vs H1 Q
theorem zk2 (hc:zff X (.builtin id) r) (hg:Gl X x) (hm:X.mg x=none) (hv:bootBuiltins x=some (.builtin id)) (ha:PA X (e::es) t) (hn:x≠"__name__":=by decide) (hdb:(x==("__debug__":Str))=false:=by decide)
  (he:starEach (e::es) X.env=(false,eval e X.env)::starEach es X.env:=by rfl) (hpl:(backTo pos (starEach es X.env)).any (·.1)=false:=by rfl):PE X (.Call (.Name x p) (e::es) [] pos) (tCB r t):=by
 intro pins s σ H Q I h
 refine wpAny_Call_Name_kw (zh5 I hg hm hv ?_ hn hdb)
 exact PyProof.Rows.callWith_builtin1 (thn (ha pos pins s σ H _ I h) fun us s1 ⟨vs,H1,I1,r1,q1⟩=>hc pins s1 σ H1 vs us Q I1 r1 q1) he hpl
theorem zjq (hc:zff X (.type T) r) (hg:Gl X x) (hm:X.mg x=none) (hv:bootBuiltins x=some (.type T)) (ha:PA X (e::es) t) (hn:x≠"__name__":=by decide) (hdb:(x==("__debug__":Str))=false:=by decide)
  (he:starEach (e::es) X.env=(false,eval e X.env)::starEach es X.env:=by rfl) (hpl:(backTo pos (starEach es X.env)).any (·.1)=false:=by rfl):PE X (.Call (.Name x p) (e::es) [] pos) (tCB r t):=by
 intro pins s σ H Q I h
 refine wpAny_Call_Name_kw (zh5 I hg hm hv ?_ hn hdb)
 exact PyProof.Rows.callWith_type1 (thn (ha pos pins s σ H _ I h) fun us s1 ⟨vs,H1,I1,r1,q1⟩=>hc pins s1 σ H1 vs us Q I1 r1 q1) he hpl
end
end L2
end
section
namespace HT
open PySem PyProof.Rows
section
open PySem.SeqAt
open PySem.AutoSeq1 (wpAny_loadPart')
open PySem.MeetsSeq PySem.MeetsSeq2 PySem.MeetsSeq3
end
section
variable {prog:Program} {w:World} {A:Around} {E:Value->Shared->Prop} {s:Shared}
theorem cat_tup {t b:Addr} {vs ws:List Value} {Q:Value->Shared->Prop} (ht:IsTup s.heap t vs.toArray) (hb:IsTup s.heap b ws.toArray) (hv:vs≠[])
  (h1:ws=[]->Q (.ref t) s) (h2:ws≠[]->Q (.ref s.heap.objs.size) { s with heap:=s.heap.push { cls:=.type "tuple",data:=.seq (vs++ws).toArray } })
  (hsz:vs.length+ws.length<=sizeLine):wpAny (model prog w) A (binaryOp .Add (.ref t) (.ref b)) Q E s:=by
 obtain ⟨⟨cls,dd,data,sl⟩,ho,hc,n,hd⟩:=id ht
 obtain ⟨⟨cls2,dd2,data2,sl2⟩,ho2,hc2,n2,hd2⟩:=id hb
 simp only at hc hd hc2 hd2
 subst hc hd hc2 hd2
 have e:vs.toArray++ws.toArray=(vs++ws).toArray:=by simp
 by_cases hw:ws=[]
 ·exact concat_meets ⟨_,ho,rfl⟩ ⟨_,ho2,rfl⟩ noFill_tuple_add seq_tuple_add PySem.F.slot_tuple_add PySem.F.entry_tuple_add (PySem.F.args_tuple_add_2 _ _)
   (tuple_addW1 t b vs.toArray ws.toArray n n2 dd dd2 sl sl2 (by simpa using hv) (by simp [hw])) ⟨ho,ho2,h1 hw⟩
 ·refine concat_meets ⟨_,ho,rfl⟩ ⟨_,ho2,rfl⟩ noFill_tuple_add seq_tuple_add PySem.F.slot_tuple_add PySem.F.entry_tuple_add (PySem.F.args_tuple_add_2 _ _)
   (tuple_addW2 t b vs.toArray ws.toArray n n2 dd dd2 sl sl2 (by simpa using hv) (by simpa using hw) (by rw [qz,qz];exact hsz)) ⟨ho,ho2,?_⟩
  rw [e]
  exact h2 hw
def sIx (n d:Nat):Option Int->Nat
 | none=>d
 | some v=>if v < 0 then (v+(n:Int)).toNat else min v.toNat n
theorem zr5 (n d:Nat) (hd:d<=n) (o:Option Int):sIx n d o<=n:=by
 cases o with
 | none=>exact hd
 | some v =>
  show (if v < 0 then (v+(n:Int)).toNat else min v.toNat n)<=n
  by_cases hv:v < 0
  ·rw [qW hv];omega
  ·rw [qX hv];exact Nat.min_le_right _ _
theorem znT (v:Int) (n d:Nat):(if v < 0 then max (v+(n:Int)) 0 else min v (n:Int))=((sIx n d (some v):Nat):Int):=by
 show (if v < 0 then max (v+(n:Int)) 0 else min v (n:Int))=(((if v < 0 then (v+(n:Int)).toNat else min v.toNat n):Nat):Int)
 by_cases hv:v < 0
 ·simp only [qW hv];omega
 ·simp only [qX hv];omega
theorem zl8 (lo hi:Option Int) (n:Nat):Builtin.Slice.sliceAdjust lo hi 1 (n:Int)=(((sIx n 0 lo:Nat):Int),((sIx n n hi:Nat):Int)):=by
 have h1:¬ ((1:Int) < 0):=by omega
 unfold Builtin.Slice.sliceAdjust
 simp only [h1,if_false]
 refine Prod.ext ?_ ?_
 ·cases lo with
  | none=>rfl
  | some v=>exact znT v n 0
 ·cases hi with
  | none=>rfl
  | some v=>exact znT v n n
theorem zlN (i j:Nat):Builtin.Slice.slicePlaces (i:Int) (j:Int) 1=j - i:=by
 unfold Builtin.Slice.slicePlaces
 have h1:(1:Int) > 0:=by omega
 simp only [h1,if_true,Int.ediv_one]
 split <;> omega
theorem zhU {v:Value} {o:Option Int} {Q:Option Int->Shared->Prop} (p:IsPart v o) (h:Q o s):wpAny (model prog w) A (Builtin.Slice.slicePartIndex v) Q E s:=by
 cases p with
 | none=>exact slicePart_none h
 | int i t=>exact slicePart_int h
theorem zgB {sl:Addr} {vl vu:Value} {lo hi:Option Int} {n:Nat} {Q:Int×Int×Nat->Shared->Prop} (hs:s.heap.IsSliceOf sl vl vu .none) (pl:IsPart vl lo) (pu:IsPart vu hi)
  (h:Q (((sIx n 0 lo:Nat):Int),1,sIx n n hi - sIx n 0 lo) s):wpAny (model prog w) A (Builtin.Slice.sliceApplied (.ref sl) (pure (n:Int))) Q E s:=by
 obtain ⟨os,hos,hcs,hds⟩:=id hs
 unfold Builtin.Slice.sliceApplied Builtin.Slice.sliceFields
 refine qv (qv (wpAny_field hos hds (x:=vl) rfl (qv (wpAny_field hos hds (x:=vu) rfl (qv (wpAny_field hos hds (x:=.none) rfl (qy ?_)))))))
 refine qv (slicePart_none ?_)
 show wpAny _ _ (if ((1:Int)==0)=true then _ else _) _ _ s
 rw [qX (by decide)]
 refine qv (zhU pl (qv (zhU pu (qv (qy ?_)))))
 show wpAny _ _ (match Builtin.Slice.sliceAdjust lo hi 1 (n:Int) with | (lo,hi)=>pure (lo,(1:Int),Builtin.Slice.slicePlaces lo hi 1)) _ _ s
 rw [zl8 lo hi n]
 show wpAny _ _ (pure (((sIx n 0 lo:Nat):Int),(1:Int),Builtin.Slice.slicePlaces ((sIx n 0 lo:Nat):Int) ((sIx n n hi:Nat):Int) 1)) _ _ s
 rw [zlN]
 exact qy h
theorem zow (xs:Array Value) (i k:Nat):((List.range k).filterMap fun (m:Nat)=>xs[((i:Int)+(m:Int)*1).toNat]?).toArray=((xs.toList.drop i).take k).toArray:=by
 have e:(fun (m:Nat)=>xs[((i:Int)+(m:Int)*1).toNat]?)=fun m=>xs[i+m]?:=by
  funext m
  have:((i:Int)+(m:Int)*1).toNat=i+m:=by omega
  rw [this]
 rw [e]
 have:=pick_run xs i k
 rw [List.filterMap_map] at this
 have e2:((fun x=>xs[x]?) ∘ fun x=>i+x)=fun m=>xs[i+m]?:=rfl
 rw [e2] at this
 rw [this]
theorem getItem_tuple_cut {t sl:Addr} {items:Array Value} {vl vu:Value} {lo hi:Option Int} {Q:Value->Shared->Prop} (ht:IsTup s.heap t items) (hs:s.heap.IsSliceOf sl vl vu .none) (pl:IsPart vl lo) (pu:IsPart vu hi)
  (hw:¬ (sIx items.size 0 lo=0/\sIx items.size items.size hi=items.size))
  (h:Q (.ref s.heap.objs.size) { s with heap:=s.heap.push { cls:=.type "tuple",data:=.seq ((items.toList.drop (sIx items.size 0 lo)).take (sIx items.size items.size hi - sIx items.size 0 lo)).toArray } })
  (hsz:items.size<=sizeLine):wpAny (model prog w) A (getItem (.ref t) (.ref sl)) Q E s:=by
 have htake:sizeOk (.seq ((items.toList.drop (sIx items.size 0 lo)).take (sIx items.size items.size hi - sIx items.size 0 lo)).toArray):=by
  show ((items.toList.drop (sIx items.size 0 lo)).take (sIx items.size items.size hi - sIx items.size 0 lo)).toArray.size<=sizeLine
  rw [qz,qC,List.length_drop,Array.length_toList]
  omega
 have hj:sIx items.size items.size hi<=items.size:=zr5 _ _ (qu _) hi
 obtain ⟨os,hos,hcs,hds⟩:=id hs
 have hTs:s.TypeIs (.ref sl) "slice":=⟨os,hos,hcs⟩
 unfold getItem
 try with_reducible refine wpAny_holding ?_
 first | refine qv (qy ?_) | skip
 refine qv (wpAny_sequenceKey ht.typeIs (by decide) ?_)
 refine qv (wpAny_callSpecial?_slot (name:=Str.ofString "__getitem__") ht.typeIs PyProof.Rows.slot_tuple_getitem
  (wpAny_call_entry PyProof.Rows.slot_tuple_getitem ht.typeIs entry_tuple_getitem ?_ (args_tuple_getitem _ _)))
 show wpAny _ _ (Builtin.Tuple.tupleItemsOf (.ref t) >>= _) _ _ s
 refine qv (tupleItemsOf_ ht ?_)
 refine qv (wpAny_typeOf hTs ?_)
 rw [qW (by decide)]
 refine qv (zgB hs pl pu ?_)
 have hno:¬ ((((sIx items.size 0 lo:Nat):Int)==0 && (1:Int)==1 && (sIx items.size items.size hi - sIx items.size 0 lo)==items.size)=true):=by
  intro q
  rw [Bool.and_eq_true,Bool.and_eq_true] at q
  have q1:((sIx items.size 0 lo:Nat):Int)=0:=eq_of_beq q.1.1
  have q2:sIx items.size items.size hi - sIx items.size 0 lo=items.size:=eq_of_beq q.2
  exact hw ⟨by omega,by omega⟩
 show wpAny _ _ (if (((sIx items.size 0 lo:Nat):Int)==0 && (1:Int)==1 && (sIx items.size items.size hi - sIx items.size 0 lo)==items.size)=true then _ else _) _ _ s
 rw [qX hno,zow]
 first
  | exact qv (m:=Builtin.Tuple.tupleExact _) (wpAny_newObj_type (qy ⟨_,rfl,qy h⟩) htake)
  | exact qv (m:=Builtin.Tuple.tupleExact _) (wpAny_newObj_type (qv (qy (qy ⟨_,rfl,qy h⟩))) htake)
  | exact qv (qv (m:=Builtin.Tuple.tupleExact _) (wpAny_newObj_type (qy (qy ⟨_,rfl,qy h⟩)) htake))
  | exact qv (qv (m:=Builtin.Tuple.tupleExact _) (wpAny_newObj_type (qy ⟨_,rfl,qy h⟩) htake))
end
end HT
namespace L2
open PySem PySem.Spec PyProof.Rows
abbrev TO:=St->Hp->(Option Int->Hp->Prop)->Prop
def PO (X:Cx) (e:Option Expr) (t:TO):Prop :=
 ∀ (pins:List (Addr×Obj)) (s:Shared) (σ:St) (H:Hp) (Q:Option Int->Hp->Prop),Inv X pins σ H s->t σ H Q ->
  wpAny (model X.prog X.w) X.A (evalPart e X.env) (fun u s'=>∃ o H',Inv X pins σ H' s'/\IsPart u o/\Q o H') X.xe s
def zmk:TO:=fun _ H Q=>Q none H
def zrS (t:TE):TO:=fun σ H Q=>t σ H fun x H1=>∃ i,x=.int i/\Q (some i) H1
section
variable {X:Cx} {e:Expr} {te:TE} {lo hi:Option Expr} {tl th:TO} {pos p2:Pos}
theorem zmE:PO X none zmk:=by
 intro pins s σ H Q I h
 rw [evalPart_none]
 exact qy ⟨none,H,I,.none,h⟩
theorem zmD (h:PE X e te):PO X (some e) (zrS te):=by
 intro pins s σ H Q I hw
 rw [evalPart_some]
 refine thn (h pins s σ H _ I hw) fun u s1 ⟨x,H1,I1,r1,q1⟩=>?_
 obtain ⟨i,rfl,q⟩:=q1
 obtain ⟨t,rfl⟩:=r1
 exact ⟨some i,H1,I1,.int i t,q⟩
def SlR (X:Cx) (r:V->Option Int->Option Int->Hp->VK->Prop):Prop :=
 ∀ (pins:List (Addr×Obj)) (s:Shared) (σ:St) (H:Hp) (x:V) (v vl vu:Value) (lo hi:Option Int) (sl:Addr) (Q:VK),Inv X pins σ H s->zcD x v->s.heap.IsSliceOf sl vl vu .none->IsPart vl lo->IsPart vu hi->r x lo hi H Q ->
  ∃ T id,typeLookup (.type T) "__getitem__"=pure (some (.builtin id))/\s.TypeIs v T/\wpAny (model X.prog X.w) X.A (getItem v (.ref sl)) (EP X pins σ Q) X.xe s
theorem SlR.or {r r':V->Option Int->Option Int->Hp->VK->Prop} (h:SlR X r) (h':SlR X r'):SlR X (fun x lo hi H Q=>r x lo hi H Q\/r' x lo hi H Q):=by
 intro pins s σ H x v vl vu lo hi sl Q I rx hs pl pu q
 rcases q with q | q
 ·exact h pins s σ H x v vl vu lo hi sl Q I rx hs pl pu q
 ·exact h' pins s σ H x v vl vu lo hi sl Q I rx hs pl pu q
def tSl (r:V->Option Int->Option Int->Hp->VK->Prop) (te:TE) (tl th:TO):TE:=fun σ H Q=>te σ H fun x H1=>tl σ H1 fun l H2=>th σ H2 fun u H3=>r x l u H3 Q
theorem zkZ {r:V->Option Int->Option Int->Hp->VK->Prop} (hr:SlR X r) (he:PE X e te) (hl:PO X lo tl) (hu:PO X hi th):PE X (.Subscript e (.Slice lo hi none p2) pos) (tSl r te tl th):=by
 intro pins s σ H Q I h
 refine Subscript_ (thn (he pins s σ H _ I h) fun v s1 ⟨x,H1,I1,r1,q1⟩=>?_)
 refine wpAny_Slice (thn (hl pins s1 σ H1 _ I1 q1) fun vl s2 ⟨l,H2,I2,pl,q2⟩=>thn (hu pins s2 σ H2 _ I2 q2) fun vu s3 ⟨u,H3,I3,pu,q3⟩=>?_)
 rw [evalPart_none]
 refine qy ?_
 have I4:Inv X pins σ H3 { s3 with heap:=s3.heap.push { cls:=.type "slice",data:=.fields #[vl,vu,.none] } }:=I3.kept (t':=s3.toks) fun b ob q=>qr _ q
 obtain ⟨T,id,hT,ht,hg⟩:=hr pins { s3 with heap:=s3.heap.push { cls:=.type "slice",data:=.fields #[vl,vu,.none] } } σ H3 x v vl vu l u s3.heap.objs.size Q I4 r1 (Heap.IsSliceOf.new ..) pl pu q3
 show wpAny (model X.prog X.w) X.A (subscriptTail e (.Slice lo hi none p2) v (.ref s3.heap.objs.size)) (EP X pins σ Q) X.xe { s3 with heap:=s3.heap.push { cls:=.type "slice",data:=.fields #[vl,vu,.none] } }
 exact tail_any (ops:=[.ref s3.heap.objs.size,v]) ht hT hg (by with_unfolding_all rfl)
def zo6 (xs:List V) (lo hi:Option Int):List V:=(xs.drop (HT.sIx xs.length 0 lo)).take (HT.sIx xs.length xs.length hi - HT.sIx xs.length 0 lo)
theorem zhe (xs:List V) (lo hi:Option Int):(zo6 xs lo hi).length<=xs.length:=by
 unfold zo6
 rw [qC,List.length_drop]
 omega
def zuR (K:PySem.W.Frag):V->Option Int->Option Int->Hp->VK->Prop:=fun x lo hi H Q=>∃ a xs,x=.ref a/\SqT K H a xs /\
 ¬ (HT.sIx xs.length 0 lo=0/\HT.sIx xs.length xs.length hi=xs.length)/\∀ p,H p=none->Q (.ref p) (upd H p (.tup (zo6 xs lo hi)))
theorem zr1:SlR X (zuR X.K):=by
 intro pins s σ H x v vl vu lo hi sl Q I rx hs pl pu h
 obtain ⟨a,xs,rfl,hx,hw,q⟩:=h
 cases rx
 obtain ⟨its,r,ht,hz⟩:=I.tuple hx
 have hlen:its.toArray.size=xs.length:=by rw [qz];exact r.length.symm
 refine ⟨"tuple",_,PyProof.Rows.slot_tuple_getitem.lookup,ht.typeIs,?_⟩
 refine HT.getItem_tuple_cut ht hs pl pu (by rw [hlen];exact hw) ?_ (by rw [hlen];exact hz)
 rw [hlen]
 refine ⟨.ref s.heap.objs.size,_,I.laid (t':=s.toks) (o:=.tup (zo6 xs lo hi)) (fun b ob q=>qr _ q) (qu _) ?_,rfl,q _ (I.hok.fresh (qu _))⟩
 exact ⟨qK (zhe xs lo hi) hz,_,(r.drop (HT.sIx xs.length 0 lo)).take (HT.sIx xs.length xs.length hi - HT.sIx xs.length 0 lo),IsTup.new _ _⟩
def zsb (K:PySem.W.Frag):R2:=fun x y H Q=>∃ a b xs ys,x=.ref a/\y=.ref b/\SqT K H a xs/\SqT K H b ys/\xs≠[]/\xs.length+ys.length<=sizeLine /\
 (ys=[]->Q (.ref a) H)/\(ys≠[]->∀ p,H p=none->Q (.ref p) (upd H p (.tup (xs++ys))))
theorem zbY.nil_iff {xs:List V} {us:List Value} (r:zbY xs us):us=[]↔xs=[]:=by
 cases r with
 | nil=>simp
 | cons _ _=>simp
theorem zqH:OpR X (binaryOp .Add) (zsb X.K):=by
 intro pins s σ H x y v u Q I rx ry h
 obtain ⟨a,b,xs,ys,rfl,rfl,ha,hb,hx,hz,q1,q2⟩:=h
 cases rx
 cases ry
 obtain ⟨its,r1,p1,_⟩:=I.tuple ha
 obtain ⟨its2,r2,p2,_⟩:=I.tuple hb
 refine HT.cat_tup p1 p2 (fun z=>hx (r1.nil_iff.mp z)) (fun z=>⟨.ref a,H,I,rfl,q1 (r2.nil_iff.mp z)⟩) (fun z=>?_) (by rw [← r1.length,← r2.length];exact hz)
 refine ⟨.ref s.heap.objs.size,_,I.laid (t':=s.toks) (o:=.tup (xs++ys)) (fun b ob q=>qr _ q) (qu _) ?_,rfl,q2 (fun w=>z (r2.nil_iff.mpr w)) _ (I.hok.fresh (qu _))⟩
 exact ⟨by rw [qi];exact hz,_,r1.append r2,IsTup.new _ _⟩
end
end L2
namespace L2
open PySem PySem.Spec PyProof.Rows
def ixN (n:Nat) (i:Int):Option Nat:=if 0<=i then (if i < n then some i.toNat else none) else if -(n:Int)<=i then some (i+n).toNat else none
def atI {α:Type} (xs:List α) (i:Int):Option α:=(ixN xs.length i).bind fun j=>xs[j]?
theorem zq7 {n:Nat} {i:Int} {j:Nat} (h:ixN n i=some j):seqIndex? i n=some j/\j < n /\ -(n:Int)<=i/\i < n:=by
 unfold ixN at h
 by_cases h0:0<=i
 ·rw [qW h0] at h
  by_cases h1:i < n
  ·rw [qW h1] at h
   have e:i.toNat=j:=qF h
   exact ⟨by rw [seqIndex_of h0 h1,e],by omega,by omega,h1⟩
  ·rw [qX h1] at h;cases h
 ·rw [qX h0] at h
  by_cases h1 : -(n:Int)<=i
  ·rw [qW h1] at h
   have e:(i+n).toNat=j:=qF h
   exact ⟨by rw [seqIndex_neg (by omega) h1,e],by omega,h1,by omega⟩
  ·rw [qX h1] at h;cases h
theorem zkC {α:Type} {xs:List α} {i:Int} {v:α} (h:atI xs i=some v):∃ j,seqIndex? i xs.length=some j/\xs[j]?=some v/\j < xs.length /\ -(xs.length:Int)<=i/\i < xs.length:=by
 unfold atI at h
 cases e:ixN xs.length i with
 | none=>rw [e] at h;cases h
 | some j =>
  rw [e] at h
  obtain ⟨h1,h2,h3,h4⟩:=zq7 e
  exact ⟨j,h1,h,h2,h3,h4⟩
theorem zdV {α:Type} {xs:List α} {j:Nat} {v:α} (h:xs[j]?=some v):atI xs (j:Int)=some v:=by
 have hj:j < xs.length:=(List.getElem?_eq_some_iff.mp h).1
 have e:ixN xs.length (j:Int)=some j:=by
  unfold ixN
  rw [qW (by omega),qW (by omega)];simp
 unfold atI;rw [e];exact h
def zn8 (b:Expr):Prop:=∀ o i,subscripted b false o i=operate [o,i] (getItem o i)
def IxR (X:Cx) (r:R2):Prop :=
 ∀ (value slice:Expr) (pins:List (Addr×Obj)) (s:Shared) (σ:St) (H:Hp) (x y:V) (v u:Value) (Q:VK),Inv X pins σ H s->zcD x v->zcD y u->r x y H Q ->
  subscripted slice false v u=operate [v,u] (getItem v u)->wpAny (model X.prog X.w) X.A (subscriptTail value slice v u) (EP X pins σ Q) X.xe s
def MtR (X:Cx) (id:String) (r:V->List V->Hp->VK->Prop):Prop :=
 ∀ (pins:List (Addr×Obj)) (s:Shared) (σ:St) (H:Hp) (x:V) (xs:List V) (v:Value) (us:List Value) (Q:VK),Inv X pins σ H s->zcD x v->zbY xs us->r x xs H Q ->
  wpAny (model X.prog X.w) X.A (call (.builtin id) (v::us)) (EP X pins σ Q) X.xe s
section
variable {X:Cx} {a b:Expr} {ta tb:TE} {pos:Pos}
theorem IxR.or {r r':R2} (h:IxR X r) (h':IxR X r'):IxR X (fun x y H Q=>r x y H Q\/r' x y H Q):=by
 intro value slice pins s σ H x y v u Q I rx ry q hs
 rcases q with q | q
 ·exact h value slice pins s σ H x y v u Q I rx ry q hs
 ·exact h' value slice pins s σ H x y v u Q I rx ry q hs
theorem zjp {r:R2} (hr:IxR X r) (ha:PE X a ta) (hb:PE X b tb) (hs:zn8 b):PE X (.Subscript a b pos) (tOp r ta tb):=by
 intro pins s σ H Q I h
 exact Subscript_ (zuj ha hb I h fun v u s2 x y H2 I2 rx ry q=>hr a b pins s2 σ H2 x y v u Q I2 rx ry q (hs _ _))
def zuw (K:PySem.W.Frag):R2:=fun x y H Q=>∃ p xs i v,x=.ref p/\y=.int i/\SqL K H p xs/\atI xs i=some v/\Q v H
def zuu (K:PySem.W.Frag):R2:=fun x y H Q=>∃ p xs i v,x=.ref p/\y=.int i/\SqT K H p xs/\atI xs i=some v/\Q v H
def zuv:R2:=fun x y H Q=>∃ z i c,x=.str z/\y=.int i/\z.length<=sizeLine/\atI z.cps.toList i=some c/\Q (.str ⟨#[c]⟩) H
theorem zq6:IxR X (zuw X.K):=by
 intro value slice pins s σ H x y v u Q I rx ry h hs
 obtain ⟨p,xs,i,z,rfl,rfl,hq,he,q⟩:=h
 cases rx
 obtain ⟨t,rfl⟩:=ry
 obtain ⟨its,r,pl,hz⟩:=I.list hq
 obtain ⟨j,h1,h2,h3,h4,h5⟩:=zkC he
 obtain ⟨w,ew,rw'⟩:=r.get h2
 have hl:=r.length
 have hn:=zlf
 have fin:EP X pins σ Q w s:=⟨z,H,I,rw',q⟩
 by_cases h0:0<=i
 ·have hj:i.toNat=j:=by
   rw [seqIndex_of h0 h5] at h1
   exact qF h1
  exact item_listR pl.isList h0 (by omega) (by rw [hj];simpa using ew) fin hs
 ·have hj:(i+(its.toArray.size:Int)).toNat=j:=by
   rw [seqIndex_neg (by omega) h4] at h1
   rw [qz,← hl]
   exact qF h1
  exact subscriptTail_builtinR (x:=w) pl.isList.typeIs slot_list_getitem.lookup
   (wpAny_getItem_list_neg (Q:=fun r s'=>r=w/\EP X pins σ Q r s') pl.isList (by omega) (by rw [qz] <;> omega) (by omega) (by rw [hj];simpa using ew) ⟨rfl,fin⟩) hs
theorem zsV:IxR X (zuu X.K):=by
 intro value slice pins s σ H x y v u Q I rx ry h hs
 obtain ⟨p,xs,i,z,rfl,rfl,hq,he,q⟩:=h
 cases rx
 obtain ⟨t,rfl⟩:=ry
 obtain ⟨its,r,pl,hz⟩:=I.tuple hq
 obtain ⟨j,h1,h2,h3,h4,h5⟩:=zkC he
 obtain ⟨w,ew,rw'⟩:=r.get h2
 have hl:=r.length
 have hn:=zlf
 have fin:EP X pins σ Q w s:=⟨z,H,I,rw',q⟩
 exact subscriptTail_builtinR (x:=w) pl.typeIs slot_tuple_getitem.lookup
  (getItem_tuple (j:=j) (Q:=fun r s'=>r=w/\EP X pins σ Q r s') pl (by omega) (by omega) (by rw [qz,← hl];exact h1) (by simpa using ew) ⟨rfl,fin⟩) hs
theorem zsW:IxR X zuv:=by
 intro value slice pins s σ H x y v u Q I rx ry h hs
 obtain ⟨z,i,c,rfl,rfl,hz,he,q⟩:=h
 obtain ⟨t,rfl⟩:=rx
 obtain ⟨t',rfl⟩:=ry
 obtain ⟨j,h1,h2,h3,h4,h5⟩:=zkC he
 have hl:z.cps.toList.length=z.length:=by simp [Str.length]
 rw [hl] at h1 h4 h5
 have hn:=zlf
 exact tail_any (typeIs_str s z t) slot_str_getitem.lookup (getItem_str (c:=c) (by
  have e1:decide (i < -(2 ^ 63:Int))=false:=qL (by omega)
  have e2:decide (i ≥ 2 ^ 63)=false:=qL (by omega)
  rw [e1,e2,Bool.or_false]) (by rw [h1];simpa using h2) ⟨.str ⟨#[c]⟩,H,I.tok _,⟨_,rfl⟩,q⟩) hs
def rIx (K:PySem.W.Frag):R2:=fun x y H Q=>zuw K x y H Q\/zuu K x y H Q\/zuv x y H Q
theorem zgn:IxR X (rIx X.K):=zq6.or (zsV.or zsW)
theorem zjb (lo hi:Option Int) (n:Nat):(sliceBounds lo hi none n).1=((HT.sIx n 0 lo:Nat):Int)/\(sliceBounds lo hi none n).2.1=((HT.sIx n n hi:Nat):Int)/\(sliceBounds lo hi none n).2.2=1:=by
 refine ⟨?_,?_,rfl⟩
 ·cases lo with
  | none=>simp [sliceBounds,HT.sIx]
  | some i =>
   simp only [sliceBounds,HT.sIx,Option.getD_none,show (1:Int) > 0 by decide,if_true]
   by_cases h:i < 0
   ·simp only [h,if_true] <;> omega
   ·simp only [h,if_false] <;> omega
 ·cases hi with
  | none=>simp [sliceBounds,HT.sIx]
  | some i =>
   simp only [sliceBounds,HT.sIx,Option.getD_none,show (1:Int) > 0 by decide,if_true]
   by_cases h:i < 0
   ·simp only [h,if_true] <;> omega
   ·simp only [h,if_false] <;> omega
theorem zik (its:List Value) (lo hi:Option Int):slicePick its.toArray lo hi none=((its.drop (HT.sIx its.length 0 lo)).take (HT.sIx its.length its.length hi - HT.sIx its.length 0 lo)).toArray:=by
 obtain ⟨h1,h2,h3⟩:=zjb lo hi its.toArray.size
 unfold slicePick
 rw [h1,h2,h3]
 simp only [sliceRange_one,pick_run,qz] <;> rfl
def zus (K:PySem.W.Frag):V->Option Int->Option Int->Hp->VK->Prop:=fun x lo hi H Q=>∃ a xs,x=.ref a/\SqL K H a xs/\∀ p,H p=none->Q (.ref p) (upd H p (.lst (zo6 xs lo hi)))
theorem zmp:SlR X (zus X.K):=by
 intro pins s σ H x v vl vu lo hi sl Q I rx hs pl pu h
 obtain ⟨a,xs,rfl,hx,q⟩:=h
 cases rx
 obtain ⟨its,r,ht,hz⟩:=I.list hx
 have hlen:=r.length
 refine ⟨"list",_,slot_list_getitem.lookup,ht.isList.typeIs,?_⟩
 refine wpAny_getItem_list_slice ht.isList hs pl pu .none (by simp) ?_ (by rw [qz] <;> omega)
 rw [zik,← hlen]
 refine ⟨.ref s.heap.objs.size,_,I.laid (t':=s.toks) (o:=.lst (zo6 xs lo hi)) (fun b ob q=>qr _ q) (qu _) ?_,rfl,q _ (I.hok.fresh (qu _))⟩
 exact ⟨qK (zhe xs lo hi) hz,_,0,(r.drop (HT.sIx xs.length 0 lo)).take (HT.sIx xs.length xs.length hi - HT.sIx xs.length 0 lo),qE _ rfl⟩
theorem zjE:zff X (.type "list") (fun xs H Q=>∃ p ys,xs=[.ref p]/\(SqL X.K H p ys\/SqT X.K H p ys)/\∀ l,H l=none->Q (.ref l) (upd H l (.lst ys))):=by
 intro pins s σ H xs us Q I r h
 obtain ⟨p,ys,rfl,hq,q⟩:=h
 obtain ⟨u,rfl,rx⟩:=zgA r
 cases rx
 have fin:∀ (its:List Value),zbY ys its->ys.length<=sizeLine->∀ (h':Heap) (c':Nat),(∀ b o',s.heap.get? b=some o'->h'.get? b=some o') ->
   h'.get? s.heap.objs.size=some { cls:=.type "list",dict:=none,data:=.seq its.toArray c',slots:=#[] }->EP X pins σ Q (.ref s.heap.objs.size) { s with heap:=h' }:=fun its r' hz h' c' kp e =>
  ⟨.ref s.heap.objs.size,_,I.laid (t':=s.toks) kp (qu _) (show zcx X.prog X.w _ h' _ (.lst ys) from ⟨hz,its,c',r',e⟩),rfl,q _ (I.hok.fresh (qu _))⟩
 rcases hq with hq | hq
 ·obtain ⟨its,r',pl,hz⟩:=I.list hq
  have hlen:=r'.length
  obtain ⟨o,ho,hc,n,hd⟩:=pl.isList
  exact call_list_seq p (.inl rfl) ho hc hd (fun h' c' kp e=>fin its r' hz h' c' kp e) (by simp only [qz] <;> omega)
 ·obtain ⟨its,r',pl,hz⟩:=I.tuple hq
  have hlen:=r'.length
  obtain ⟨o,ho,hc,n,hd⟩:=pl
  exact call_list_seq p (.inr rfl) ho hc hd (fun h' c' kp e=>fin its r' hz h' c' kp e) (by simp only [qz] <;> omega)
theorem ziO:zff X (.type "tuple") (fun xs H Q=>∃ p ys,xs=[.ref p]/\((SqL X.K H p ys/\∀ l,H l=none->Q (.ref l) (upd H l (.tup ys)))\/(SqT X.K H p ys/\Q (.ref p) H))):=by
 intro pins s σ H xs us Q I r h
 obtain ⟨p,ys,rfl,h⟩:=h
 obtain ⟨u,rfl,rx⟩:=zgA r
 cases rx
 rcases h with ⟨hq,q⟩ | ⟨hq,q⟩
 ·obtain ⟨its,r',pl,hz⟩:=I.list hq
  have hlen:=r'.length
  refine call_tuple_list pl.isList (fun h' kp=>?_) (by simp only [qz] <;> omega)
  have I1:Inv X pins σ H { s with heap:=h' }:=I.kept (t':=s.toks) kp
  have I2:Inv X pins σ (upd H h'.objs.size (.tup ys)) { s with heap:=h'.push { cls:=.type "tuple",data:=.seq its.toArray } } :=
   I1.laid (t':=s.toks) (fun b o e=>qr _ e) (qu _) (show zcx X.prog X.w _ _ _ (.tup ys) from ⟨hz,its,r',IsTup.new _ _⟩)
  exact ⟨.ref h'.objs.size,_,I2,rfl,q _ (I1.hok.fresh (qu _))⟩
 ·obtain ⟨its,r',pl,hz⟩:=I.tuple hq
  exact call_tuple_same pl ⟨.ref p,H,I,rfl,q⟩
def tyV (K:PySem.W.Frag) (T:String) (x:V) (H:Hp):Prop:=match x with
 | .str _=>T="str"
 | .int _=>T="int"
 | .ref p=>(T="list"/\∃ xs,SqL K H p xs)\/(T="tuple"/\∃ o,K.lookup p=some o/\o.cls=.type "tuple"/\o.dict=none) \/
   (T="dict"/\((∃ kvs,H p=some (.dK kvs))\/∃ kvs,H p=some (.dT kvs)))\/(T="set"/\∃ S n,H p=some (.set S n))
 | _=>False
theorem zph {pins:List (Addr×Obj)} {σ:St} {H:Hp} {s:Shared} {T:String} {x:V} {v:Value} (I:Inv X pins σ H s) (r:zcD x v) (ty:tyV X.K T x H) :
  s.TypeIs v T/\∀ a,v=.ref a->∃ ob,s.heap.get? a=some ob/\ob.dict=none:=by
 cases x with
 | str z =>
  obtain ⟨t,rfl⟩:=r
  cases (show T="str" from ty)
  exact ⟨typeIs_str s z t,fun _ e=>nomatch e⟩
 | int i =>
  obtain ⟨t,rfl⟩:=r
  cases (show T="int" from ty)
  exact ⟨typeIs_int s i t,fun _ e=>nomatch e⟩
 | ref p =>
  cases r
  rcases ty with ⟨rfl,xs,hq⟩ | ⟨rfl,o,hk,hc,hd⟩ | ⟨rfl,hk⟩ | ⟨rfl,S,n,hk⟩
  ·obtain ⟨its,_,pl,_⟩:=I.list hq
   refine ⟨pl.isList.typeIs,fun a e=>?_⟩
   cases e
   obtain ⟨o,n,e,c,hd,_⟩:=pl
   exact ⟨o,e,hd⟩
  ·refine ⟨⟨o,I.kIn p o hk,hc⟩,fun a e=>?_⟩
   cases e
   exact ⟨o,I.kIn _ o hk,hd⟩
  ·have z:∃ o,s.heap.get? p=some o/\o.ExactDict:=by
    rcases hk with ⟨kvs,hk⟩ | ⟨kvs,hk⟩
    ·obtain ⟨_,_,_,_,o,_,_,e,ex,_⟩:=I.hok p _ hk
     exact ⟨o,e,ex⟩
    ·obtain ⟨_,_,_,_,o,_,_,e,ex,_⟩:=I.hok p _ hk
     exact ⟨o,e,ex⟩
   obtain ⟨o,e,ex⟩:=z
   refine ⟨⟨o,e,ex.1⟩,fun a e2=>?_⟩
   cases e2
   exact ⟨o,e,ex.2.1⟩
  ·obtain ⟨o,_,_,_,e,ex,_⟩:=I.hok p _ hk
   refine ⟨⟨o,e,ex.1⟩,fun a e2=>?_⟩
   cases e2
   exact ⟨o,e,ex.2.1⟩
 | _=>exact False.elim ty
def zuq (K:PySem.W.Frag) (T:String) (r:V->List V->Hp->VK->Prop) (to:TE):TE:=fun σ H Q=>to σ H fun x H1=>tyV K T x H1/\r x [] H1 Q
def tBM (K:PySem.W.Frag) (T:String) (r:V->List V->Hp->VK->Prop) (to:TE) (t:TA):TE:=fun σ H Q=>to σ H fun x H1=>tyV K T x H1/\t σ H1 fun xs H2=>r x xs H2 Q
variable {o e:Expr} {es:List Expr} {to:TE} {t:TA} {name:Str} {apos cpos:Pos} {T id:String} {r:V->List V->Hp->VK->Prop}
theorem zsq (pa:PlainAttrs T) (slot:Slot T name id) (hty:typeOf (.builtin id)=pure (.type "method_descriptor")) (hm:MtR X id r) (ho:PE X o to)
  (hbase:attributeBase o name X.env (eval o X.env)=eval o X.env:=by rfl) (hline:(apos.endLine==cpos.line)=true:=by rfl):PE X (.Call (.Attribute o name apos) [] [] cpos) (zuq X.K T r to):=by
 intro pins s σ H Q I h
 refine wpAny_Call_method0_late hbase hline (thn (ho pins s σ H _ I h) fun v s1 ⟨x,H1,I1,r1,ty,q1⟩=>?_)
 obtain ⟨h1,h2⟩:=zph I1 r1 ty
 exact ⟨T,id,pa,slot,hty,h1,h2,Calls.callWith_builtin rfl (PySem.evalArgs_none (hm pins s1 σ H1 x [] v [] Q I1 r1 .nil q1))⟩
theorem zkc (pa:PlainAttrs T) (slot:Slot T name id) (hty:typeOf (.builtin id)=pure (.type "method_descriptor")) (hm:MtR X id r) (ho:PE X o to) (ha:PA X (e::es) t)
  (hbase:attributeBase o name X.env (eval o X.env)=eval o X.env:=by rfl)
  (hfew:((backTo cpos (starEach (e::es) X.env)).all (fun x=>!x.1) && (backToKw cpos (keywordEach [] X.env)).all (fun x=>x.1.isSome)
   && decide ((e::es).length+([]:List Keyword).length+(if ([]:List Keyword).isEmpty then 0 else 1) < 30))=true:=by rfl)
  (hline:(apos.endLine==cpos.line)=true:=by rfl) (hs:starEach (e::es) X.env=(false,eval e X.env)::starEach es X.env:=by rfl) (hplain:(backTo cpos (starEach es X.env)).any (·.1)=false:=by rfl) :
  PE X (.Call (.Attribute o name apos) (e::es) [] cpos) (tBM X.K T r to t):=by
 intro pins s σ H Q I h
 refine wpAny_Call_method_late hbase hfew hline rfl (thn (ho pins s σ H _ I h) fun v s1 ⟨x,H1,I1,r1,ty,q1⟩=>?_)
 obtain ⟨h1,h2⟩:=zph I1 r1 ty
 refine ⟨T,id,pa,slot,hty,h1,h2,?_⟩
 have hA:=ha cpos pins s1 σ H1 _ I1 q1
 rw [hs] at hA ⊢
 refine Calls.callWith_builtin (by show (false || (backTo cpos (starEach es X.env)).any (·.1))=false;rw [hplain] <;> rfl) (Calls.evalArgs_plain ?_)
 exact thn hA fun us s2 ⟨vs,H2,I2,r2,q2⟩=>hm pins s2 σ H2 x vs v us Q I2 r1 r2 q2
end
end L2
namespace L2
open PySem PySem.Spec PyProof.Rows
def MtM (X:Cx) (id:String) (r:V->List V->Hp->VK->Prop):Prop :=
 ∀ (pins:List (Addr×Obj)) (s:Shared) (σ:St) (H:Hp) (x:V) (xs:List V) (v:Value) (us:List Value) (Q:VK),Inv X pins σ H s->zcD x v->zbY xs us->r x xs H Q ->
  wpAny (model X.prog X.w) X.A (call (.builtin id) (v::us)) (EP X pins σ Q) X.xe s
theorem zbY.one:∀ {x:V} {us:List Value},zbY [x] us->∃ u,us=[u]/\zcD x u
 | _,_,.cons r .nil=>⟨_,rfl,r⟩
theorem zbY.zero:∀ {us:List Value},zbY [] us->us=[]
 | _,.nil=>rfl
theorem zbY.rep {xs:List V} {us:List Value} (h:zbY xs us):∀ k:Nat,zbY (List.replicate k xs).flatten (List.replicate k us).flatten
 | 0=>.nil
 | k+1=>by
  rw [List.replicate_succ,List.replicate_succ,List.flatten_cons,List.flatten_cons]
  exact zbY.append h (zbY.rep h k)
theorem zjC (its:List Value):∀ (k:Nat) (acc:List Value),
  List.foldl (fun x1 x2=>x1++x2) acc.toArray (List.replicate k its.toArray)=(acc++(List.replicate k its).flatten).toArray
 | 0,acc=>by simp
 | k+1,acc=>by
  have e:acc.toArray++its.toArray=(acc++its).toArray:=by simp
  have e2:(acc++its)++(List.replicate k its).flatten=acc++(List.replicate (k+1) its).flatten:=by
   rw [List.replicate_succ,List.flatten_cons,List.append_assoc]
  rw [← e2,← zjC its k (acc++its),← e,List.replicate_succ,List.foldl_cons]
section
variable {X:Cx} {pins:List (Addr×Obj)} {σ:St} {H:Hp} {s:Shared} {l b:Addr} {xs ys zs:List V}
theorem Inv.lset {its its':List Value} {n:Nat} {f:Array Value->Array Value} {t':Nat} (I:Inv X pins σ H s) (hH:H l=some (.lst xs))
  (e:s.heap.get? l=some { cls:=.type "list",data:=.seq its.toArray n }) (hf:f its.toArray=its'.toArray) (hv:zbY ys its') (hz:ys.length<=sizeLine) :
  Inv X pins σ (upd H l (.lst ys)) { s with heap:=s.heap.update l (Obj.mapSeq f),toks:=t' }:=by
 have q:=PySem.IsL.update e f
 rw [hf] at q
 refine I.write (x:=l) (e:=l) (by rw [hH];exact trivial) (.inl rfl) (fun b' u hb hu=>(Heap.get?_update_other s.heap (Obj.mapSeq f) (Ne.symm hb)).trans hu) ⟨_,q⟩ ?_
 exact ⟨hz,its',_,hv,q⟩
theorem Inv.lnew {its:List Value} {t':Nat} (I:Inv X pins σ H s) (hv:zbY ys its) (hz:ys.length<=sizeLine) :
  Inv X pins σ (upd H s.heap.objs.size (.lst ys)) { s with heap:=s.heap.push { cls:=.type "list",data:=.seq its.toArray },toks:=t' } :=
 I.laid (fun _ _ q=>qr _ q) (qu _) ⟨hz,its,0,hv,qE _ rfl⟩
theorem Inv.fresh (I:Inv X pins σ H s):H s.heap.objs.size=none:=I.hok.fresh (qu _)
theorem Inv.lstM (I:Inv X pins σ H s) (hH:H l=some (.lst xs)):xs.length<=sizeLine/\∃ (its:List Value) (n:Nat),zbY xs its/\xs.length=its.length/\s.heap.get? l=some { cls:=.type "list",data:=.seq its.toArray n }:=by
 obtain ⟨z,its,n,r,e⟩:=I.hok l _ hH
 exact ⟨z,its,n,r,r.length,e⟩
theorem zk6 {n:Nat} (h:n<=sizeLine):Builtin.List.listTooLong n=false:=by
 unfold Builtin.List.listTooLong
 exact qL (by omega)
end
section
variable {X:Cx}
def ze1:V->List V->Hp->VK->Prop:=fun x vs H Q=>∃ l xs y,x=.ref l/\vs=[y]/\H l=some (.lst xs)/\xs.length < sizeLine/\Q .non (upd H l (.lst (xs++[y])))
theorem zda:MtM X "list.append" ze1:=by
 intro pins s σ H x vs v us Q I rx rv h
 obtain ⟨l,xs,y,rfl,rfl,hH,hz,q⟩:=h
 cases rx
 obtain ⟨u,rfl,ru⟩:=rv.one
 obtain ⟨z,its,n,r,hl,e⟩:=I.lstM hH
 refine call_meets F.slot_list_append ⟨_,e,rfl⟩ F.entry_list_append (F.args_list_append_2 _ _) (PySem.list_append l its.toArray n u (by rw [qz];omega)) ⟨e,?_⟩
 refine ⟨.non,_,I.lset (its':=its++[u]) hH e (by simp) (r.append (.cons ru .nil)) ?_,rfl,q⟩
 rw [qi,qT]
 omega
def zql:V->List V->Hp->VK->Prop:=fun x vs H Q=>∃ l b xs zs,x=.ref l/\vs=[.ref b]/\H l=some (.lst xs)/\Rd H b (.lst zs)/\xs.length+zs.length<=sizeLine/\Q .non (upd H l (.lst (xs++zs)))
theorem zm3:MtM X "list.extend" zql:=by
 intro pins s σ H x vs v us Q I rx rv h
 obtain ⟨l,b,xs,zs,rfl,rfl,hH,hB,hz,q⟩:=h
 cases rx
 obtain ⟨u,rfl,ru⟩:=rv.one
 cases ru
 obtain ⟨z,its,n,r,hl,e⟩:=I.lstM hH
 obtain ⟨z2,its2,n2,r2,e2⟩:=hB.ok I.hok
 have hl2:=r2.length
 have hsz:its.toArray.size+its2.toArray.size<=sizeLine:=by rw [qz,qz];omega
 have hlong:¬ (!its.toArray.isEmpty && Builtin.List.listTooLong (its.toArray.size+its2.toArray.size))=true:=by
  rw [zk6 hsz,Bool.and_false]
  exact qq
 refine call_meets F.slot_list_extend ⟨_,e,rfl⟩ F.entry_list_extend (F.args_list_extend_2 _ _)
  (AutoSeq1.list_extend_list_list_0 l its.toArray n b its2.toArray n2 hlong (by rw [qz];omega) (by omega)) ⟨e,e2,?_⟩
 refine ⟨.non,_,I.lset (its':=its++its2) hH e (by simp) (r.append r2) ?_,rfl,q⟩
 rw [qi]
 omega
def zpv:V->List V->Hp->VK->Prop:=fun x vs H Q=>∃ l xs,x=.ref l/\vs=[]/\H l=some (.lst xs)/\Q .non (upd H l (.lst []))
theorem zoI:MtM X "list.clear" zpv:=by
 intro pins s σ H x vs v us Q I rx rv h
 obtain ⟨l,xs,rfl,rfl,hH,q⟩:=h
 cases rx
 have hus:=rv.zero
 subst hus
 obtain ⟨z,its,n,r,hl,e⟩:=I.lstM hH
 refine call_meets F.slot_list_clear ⟨_,e,rfl⟩ F.entry_list_clear (F.args_list_clear_1 _) (AutoSeq1.list_clear_list_0 l its.toArray n (by rw [qz];omega)) ⟨e,?_⟩
 exact ⟨.non,_,I.lset (its':=[]) (ys:=[]) hH e rfl .nil (Nat.zero_le _),rfl,q⟩
def zsc:R2:=fun x y H Q=>∃ l b xs zs,x=.ref l/\y=.ref b/\H l=some (.lst xs)/\H b=some (.lst zs)/\xs.length+zs.length<=sizeLine/\∀ p,H p=none->Q (.ref p) (upd H p (.lst (xs++zs)))
theorem zmV:OpR X (binaryOp .Add) zsc:=by
 intro pins s σ H x y v u Q I rx ry h
 obtain ⟨l,b,xs,zs,rfl,rfl,hH,hB,hz,q⟩:=h
 cases rx
 cases ry
 obtain ⟨z,its,n,r,hl,e⟩:=I.lstM hH
 obtain ⟨z2,its2,n2,r2,hl2,e2⟩:=I.lstM hB
 refine PySem.P.add_list e e2 ?_ (by rw [qz,qz];omega)
 have ea:its.toArray++its2.toArray=(its++its2).toArray:=by simp
 rw [ea]
 exact ⟨.ref _,_,I.lnew (t':=s.toks) (r.append r2) (by rw [qi];omega),rfl,q _ I.fresh⟩
def zut:R2:=fun x y H Q=>∃ l k xs,x=.ref l/\y=.int k/\H l=some (.lst xs) /\ -(2 ^ 63)<=k/\k < 2 ^ 63/\xs.length*k.toNat<=sizeLine /\
 ∀ p,H p=none->Q (.ref p) (upd H p (.lst (List.replicate k.toNat xs).flatten))
theorem zne {α:Type} (xs:List α) (k:Nat):(List.replicate k xs).flatten.length=k*xs.length:=by
 induction k with
 | zero=>simp
 | succ k ih=>rw [List.replicate_succ,List.flatten_cons,qi,ih,Nat.succ_mul,Nat.add_comm]
theorem zsz:OpR X (binaryOp .Mult) zut:=by
 intro pins s σ H x y v u Q I rx ry h
 obtain ⟨l,k,xs,rfl,rfl,hH,h1,h2,hz,q⟩:=h
 cases rx
 obtain ⟨t,rfl⟩:=ry
 obtain ⟨z,its,n,r,hl,e⟩:=I.lstM hH
 have hlen:its.toArray.size*k.toNat<=sizeLine:=by rw [qz,← hl];exact hz
 have hcap:¬ its.toArray.size*k.toNat > (2 ^ 63 - 1) / 8:=by
  have:(sizeLine:Nat)<=(2 ^ 63 - 1) / 8:=by decide
  omega
 have hfit:¬ (!Builtin.List.listFitsIndex k)=true:=by
  rw [fitsIndex_both h1 h2]
  exact qq
 have hlong:¬ Builtin.List.listTooLong (its.toArray.size*k.toNat)=true:=by
  rw [zk6 hlen]
  exact qq
 have hnew:List.foldl (fun x1 x2=>x1++x2) #[] (List.replicate (if its.toArray.isEmpty=true then 0 else k.toNat) its.toArray)=(List.replicate k.toNat its).flatten.toArray:=by
  have f0:∀ m:Nat,List.foldl (fun x1 x2=>x1++x2) #[] (List.replicate m its.toArray)=(List.replicate m its).flatten.toArray:=fun m=>by
   have:=zjC its m []
   rw [qP] at this
   exact this
  rw [f0]
  cases its with
  | nil=>simp
  | cons a r'=>rw [qX (by simp)]
 refine wpAny_binaryOp_repeat_ref (T:="list") (U:="int") (by decide) ⟨_,e,rfl⟩ (fun s'=>typeIs_int s' k t) noFill_list_mul F.fills_int_mul F.slot_int_rmul repeat_list F.slot_int_index.lookup
  (call_meets F.slot_int_rmul (typeIs_int s k t) F.entry_int_rmul (F.args_int_rmul_2 _ _) (int___rmul___int_list k t l its.toArray n)
   ⟨e,rfl,⟨_,e,rfl⟩,call_meets F.slot_list_mul ⟨_,e,rfl⟩ F.entry_list_mul (F.args_list_mul_2 _ _) (AutoListH.list___mul___list_int_3 l its.toArray n k t hfit hcap hlong) ⟨e,?_⟩⟩)
 rw [hnew]
 exact ⟨.ref _,_,I.lnew (t':=s.toks) (r.rep k.toNat) (by rw [zne,Nat.mul_comm];exact hz),rfl,q _ I.fresh⟩
end
section
variable {prog:Program} {w:World} {A:Around} {E:Value->Shared->Prop} {s:Shared}
end
section
variable {X:Cx}
end
end L2
end
section
namespace L2
open PySem PySem.Spec PyProof.Rows
section
variable {κ:Type} [DecidableEq κ]
def zob (kvs:List (κ×V)) (k:κ):Option V:=(kvs.find? fun kv=>decide (kv.1=k)).map (·.2)
def zhY (kvs:List (κ×V)) (k:κ) (v:V):List (κ×V) :=
 if (kvs.any fun kv=>decide (kv.1=k))=true then kvs.map (fun kv=>if kv.1=k then (kv.1,v) else kv) else kvs++[(k,v)]
theorem zif {p:κ×V} {r:List (κ×V)} {k:κ} (e:p.1=k):zob (p::r) k=some p.2:=by simp [zob,List.find?_cons,e]
theorem zig {p:κ×V} {r:List (κ×V)} {k:κ} (e:¬ p.1=k):zob (p::r) k=zob r k:=by simp [zob,List.find?_cons,e]
theorem zkI (k:κ):∀ kvs:List (κ×V),(kvs.any fun kv=>decide (kv.1=k))=(zob kvs k).isSome
 | []=>rfl
 | p::r=>by
  rw [List.any_cons]
  by_cases e:p.1=k
  ·simp only [zif e,qQ e,Bool.true_or,Option.isSome_some]
  ·rw [zig e,qL e,Bool.false_or];exact zkI k r
theorem zg4 (kvs:List (κ×V)) (k:κ) (v:V):(zhY kvs k v).length<=kvs.length+1:=by
 unfold zhY
 split
 ·rw [qe];omega
 ·rw [qi,qh,qk];omega
theorem zl9.isSome_eq {o:Option V} {u:Option Value} (r:zl9 o u):o.isSome=u.isSome:=by
 cases o with
 | none=>cases u with
  | none=>rfl
  | some _=>exact (show False from r).elim
 | some _=>cases u with
  | none=>exact (show False from r).elim
  | some _=>rfl
theorem KV.any {kvs:List (κ×V)} {vs:List (κ×Value)} (r:KV kvs vs) (k:κ):(kvs.any fun kv=>decide (kv.1=k))=vs.any fun kv=>decide (kv.1=k):=by
 unfold KV at r
 induction r with
 | nil=>rfl
 | cons h t ih=>rw [List.any_cons,List.any_cons,ih,h.1]
theorem KV.repl {kvs:List (κ×V)} {vs:List (κ×Value)} (r:KV kvs vs) (k:κ) {y:V} {u:Value} (ry:zcD y u) :
  KV (kvs.map fun kv=>if kv.1=k then (kv.1,y) else kv) (vs.map fun kv=>if kv.1=k then (kv.1,u) else kv):=by
 unfold KV at r ⊢
 induction r with
 | nil=>exact .nil
 | @cons p q ps qs h t ih =>
  rw [ql,ql]
  refine .cons ?_ ih
  obtain ⟨h1,h2⟩:=h
  by_cases e:p.1=k
  ·rw [qW e,qW (h1.symm.trans e)];exact ⟨h1,ry⟩
  ·rw [qX e,qX (fun z=>e (h1.trans z))];exact ⟨h1,h2⟩
theorem KV.put {kvs:List (κ×V)} {vs:List (κ×Value)} (r:KV kvs vs) (k:κ) {y:V} {u:Value} (ry:zcD y u):KV (zhY kvs k y) (stored vs k u):=by
 unfold zhY stored
 rw [r.any k]
 by_cases e:(vs.any fun kv=>decide (kv.1=k))=true
 ·rw [qW e,qW e];exact r.repl k ry
 ·rw [qX e,qX e];exact Paired.snoc r ⟨rfl,ry⟩
theorem KV.length {kvs:List (κ×V)} {vs:List (κ×Value)} (r:KV kvs vs):kvs.length=vs.length:=Paired.length r
end
theorem zoR {P:Program} {w:World} {k:Key} {u:Value} (r:zcD (kV k) u):(zba P w).is k u=true:=by
 cases k with
 | inl i=>obtain ⟨t,e⟩:=(show ∃ t,u=Value.int i t from r);subst e;exact zkg P w i t
 | inr x=>obtain ⟨t,e⟩:=(show ∃ t,u=Value.str x t from r);subst e;exact zkf P w x t
theorem zjx {P:Program} {w:World}:∀ {ks:List Key} {us:List Value},zbY (ks.map kV) us->ItemsAre (zba P w) ks us
 | [],_,r=>by rw [qM] at r;cases r;exact .nil
 | k::ks,_,r=>by
  rw [ql] at r
  cases r with
  | cons h t=>exact .cons (zoR h) (zjx t)
abbrev KT (H:Hp):List (List Key×V)->List (List Key×Addr×Value)->Prop:=Paired fun p q=>p.1=q.1/\H q.2.1=some (.tup (p.1.map kV))/\zcD p.2 q.2.2
theorem KT.val {H:Hp} {kvs:List (List Key×V)} {xs:List (List Key×Addr×Value)} (r:KT H kvs xs) (k:List Key):zl9 (zob kvs k) ((atKey xs k).map (·.2)):=by
 induction r with
 | nil=>exact True.intro
 | @cons p q ps qs h t ih =>
  obtain ⟨h1,_,h2⟩:=h
  by_cases e:p.1=k
  ·have e':q.1=k:=h1.symm.trans e
   have b:atKey (q::qs) k=some q.2:=by simp [atKey,List.find?_cons,e']
   rw [zif e,b];exact h2
  ·have e':¬ q.1=k:=fun z=>e (h1.trans z)
   have b:atKey (q::qs) k=atKey qs k:=by simp [atKey,List.find?_cons,e']
   rw [zig e,b];exact ih
theorem KT.repl {H:Hp} {kvs:List (List Key×V)} {xs:List (List Key×Addr×Value)} (r:KT H kvs xs) (k:List Key) {y:V} {u:Value} (ry:zcD y u) :
  KT H (kvs.map fun kv=>if kv.1=k then (kv.1,y) else kv) (xs.map (putAt k u)):=by
 induction r with
 | nil=>exact .nil
 | @cons p q ps qs h t ih =>
  rw [ql,ql]
  refine .cons ?_ ih
  obtain ⟨h1,h2,h3⟩:=h
  unfold putAt
  by_cases e:p.1=k
  ·rw [qW e,qW (h1.symm.trans e)];exact ⟨h1,h2,ry⟩
  ·rw [qX e,qX (fun z=>e (h1.trans z))];exact ⟨h1,h2,h3⟩
theorem KT.put {H:Hp} {kvs:List (List Key×V)} {xs:List (List Key×Addr×Value)} (r:KT H kvs xs) (k:List Key) {b:Addr} {y:V} {u:Value} (hb:H b=some (.tup (k.map kV))) (ry:zcD y u) :
  KT H (zhY kvs k y) (storedH xs k b u):=by
 have e:(kvs.any fun kv=>decide (kv.1=k))=(atKey xs k).isSome:=by
  rw [zkI,(r.val k).isSome_eq,Option.isSome_map]
 unfold zhY storedH
 rw [e]
 by_cases q:(atKey xs k).isSome=true
 ·rw [qW q,qW q];exact r.repl k ry
 ·rw [qX q,qX q];exact Paired.snoc r ⟨rfl,hb,ry⟩
theorem KT.keeps {H H':Hp} {kvs:List (List Key×V)} {xs:List (List Key×Addr×Value)} (r:KT H kvs xs) (ht:∀ b ys,H b=some (.tup ys)->H' b=some (.tup ys)):KT H' kvs xs :=
 Paired.mapP r fun _ _ z=>⟨z.1,ht _ _ z.2.1,z.2.2⟩
section
variable {P:Program} {w:World} {H:Hp} {h:Heap} {a:Addr}
theorem zr7 {u:HO} (ok:HOk P w H h) (e:Rd H a u):zcx P w H h a u:=e.ok ok
theorem zud {kvs:List (Key×V)} (ok:HOk P w H h) (e:Rd H a (.dK kvs)):kvs.length<=sizeLine/\(a==sysModules)=false/\∃ vs,KV kvs vs/\h.DictOf (zba P w) a vs :=
 show zcx P w H h a (.dK kvs) from zr7 ok e
theorem zue {kvs:List (Key×V)} (ok:HOk P w H h) (e:H a=some (.dK kvs)):kvs.length<=sizeLine/\(a==sysModules)=false/\∃ vs,KV kvs vs/\h.DictOf (zba P w) a vs:=zud ok (.inl e)
theorem zlh {ks:List Key} (ok:HOk P w H h) (e:H a=some (.tup (ks.map kV))):(tupleKind (zba P w)).is h ks a:=by
 obtain ⟨_,its,r,o,h1,h2,n,h3⟩:=(show zcx P w H h a (.tup (ks.map kV)) from ok a _ e)
 exact ⟨o,its.toArray,n,h1,h2,h3,by simpa using zjx r⟩
theorem zua {kvs:List (List Key×V)} (ok:HOk P w H h) (e:Rd H a (.dT kvs)):kvs.length<=sizeLine/\(a==sysModules)=false /\
  ∃ xs,KT H kvs xs/\h.DictOfH (tupleKind (zba P w)) a xs:=by
 obtain ⟨z,y,xs,r,o,es,ep,h1,h2,h3,h4,h5⟩:=(show zcx P w H h a (.dT kvs) from zr7 ok e)
 refine ⟨z,y,xs,r,o,es,ep,h1,h2,h3,h4,fun x hx=>?_,h5⟩
 have all:∀ {l:List (List Key×V)} {m:List (List Key×Addr×Value)},KT H l m->∀ x∈m,(tupleKind (zba P w)).is h x.1 x.2.1:=by
  intro l m q
  induction q with
  | nil=>intro x hx;exact nomatch hx
  | @cons p q ps qs hq t ih =>
   intro x hx
   rcases List.mem_cons.mp hx with e | hx
   ·subst e
    exact zlh ok (by rw [← hq.1];exact hq.2.1)
   ·exact ih x hx
 exact all r x hx
theorem zub {kvs:List (List Key×V)} (ok:HOk P w H h) (e:H a=some (.dT kvs)):kvs.length<=sizeLine/\(a==sysModules)=false /\
  ∃ xs,KT H kvs xs/\h.DictOfH (tupleKind (zba P w)) a xs:=zua ok (.inl e)
end
def ztq (H:Hp) (a:Addr) (y v:V) (H':Hp):Prop :=
 (∃ kvs k,H a=some (.dK kvs)/\y=kV k/\kvs.length < sizeLine/\H'=upd H a (.dK (zhY kvs k v))) \/
 ∃ kvs k b,H a=some (.dT kvs)/\y=.ref b/\H b=some (.tup (k.map kV))/\kvs.length < sizeLine/\H'=upd H a (.dT (zhY kvs k v))
theorem ztq.k {H:Hp} {a:Addr} {kvs:List (Key×V)} {k:Key} {v:V} (e:H a=some (.dK kvs)) (hl:kvs.length < sizeLine):ztq H a (kV k) v (upd H a (.dK (zhY kvs k v))):=.inl ⟨kvs,k,e,rfl,hl,rfl⟩
section
variable {X:Cx} {pins:List (Addr×Obj)} {σ:St} {H:Hp} {s:Shared} {a:Addr} {y v:V} {u r:Value} {o:Option V} {A:Around} {E:Value->Shared->Prop}
theorem Inv.big (I:Inv X pins σ H s):sysModules < s.heap.objs.size:=by
 have h:mainGlobals < s.heap.objs.size:=(I.mod.glob.keeps I.bk).lt
 exact Nat.lt_trans (by decide) h
theorem znQ {h':Heap} {t':Nat} {ob:HO} (I:Inv X pins σ H s) (mu:Mut (H a)) (hs:Heap.SameBut a s.heap h') (he:∃ q,h'.get? a=some q) (new:zcx X.prog X.w (upd H a ob) h' a ob) :
  Inv X pins σ (upd H a ob) { s with heap:=h',toks:=t' } :=
 I.write (x:=a) (e:=a) mu (.inl rfl) (fun b q hb z=>(hs.2 b hb).trans z) he new
theorem ztb {P:Program} {w:World} {H':Hp} {h':Heap} {kvs:List (Key×V)} {vs:List (Key×Value)} (z:kvs.length<=sizeLine) (hd:(a==sysModules)=false) (rel:KV kvs vs) (dd:h'.DictOf (zba P w) a vs) :
  zcx P w H' h' a (.dK kvs):=⟨z,hd,vs,rel,dd⟩
theorem znR {H':Hp} {Q:Unit->Shared->Prop} (hu:A.units+1 < cLine) (I:Inv X pins σ H s) (g:ztq H a y v H') (ry:zcD y u) (rv:zcD v r) (h:∀ s',Inv X pins σ H' s'->Q () s') :
  wpAny (model X.prog X.w) A (setItem (.ref a) u r) Q E s:=by
 rcases g with ⟨kvs,k,e,ey,l,eH⟩ | ⟨kvs,k,b,e,ey,eb,l,eH⟩
 ·subst ey eH
  obtain ⟨z,hd,vs,rel,dd⟩:=zue I.hok e
  have hz:vs.length<=sizeLine:=by rw [← rel.length];exact z
  have hl:(zhY kvs k v).length<=sizeLine:=by have:=zg4 kvs k v;omega
  refine wpAny_setItem_pairs (hsz:=hz) (zoR ry) dd fun h' dd' hs=>h _ ?_
  have he:∃ q,h'.get? a=some q:=let ⟨q,_,_,hq,_⟩:=dd';⟨q,hq⟩
  exact znQ I (by rw [e];exact True.intro) hs he (ztb hl hd (rel.put k rv) dd')
 ·subst ey eH
  cases (show u=Value.ref b from ry)
  obtain ⟨z,hd,xs,rel,dd⟩:=zub I.hok e
  have hz:xs.length<=sizeLine:=by rw [← Paired.length rel];exact z
  have hl:(zhY kvs k v).length<=sizeLine:=by have:=zg4 kvs k v;omega
  refine wpAny_setItem_heap (hsz:=hz) (tupleKind_room_in1 hu) (zlh I.hok eb) dd fun h' dd' hs=>h _ ?_
  obtain ⟨q,es,ep,hq,h2,h3,h4,_,h5⟩:=dd'
  refine znQ I (by rw [e];exact True.intro) hs ⟨q,hq⟩ ⟨hl,hd,_,(rel.put k eb rv).keeps fun c ys ec=>?_,q,es,ep,hq,h2,h3,h4,h5⟩
  rw [zat (zqQ ec e (fun z=>nomatch z))]
  exact ec
end
section
variable {X:Cx} {pins:List (Addr×Obj)} {σ:St} {H:Hp} {s:Shared} {a:Addr} {kvs:List (Key×V)} {k:Key} {u:Value} {A:Around} {E:Value->Shared->Prop}
end
def ztJ (td ty tv:TE):TS:=fun D σ H=>tv σ H fun v H1=>td σ H1 fun x H2=>ty σ H2 fun y H3=>∃ a H4,x=.ref a/\ztq H3 a y v H4/\D.nx σ H4
section
variable {X:Cx} {o i e value:Expr} {pos pos' tpos:Pos} {td ty tv:TE}
theorem zqs (hu:X.A.units+1 < cLine) (ho:PE X o td) (hi:PE X i ty) (hv:PE X value tv) (hs:swapsWith value (some (.Subscript o i pos')) pos.line X.env=pure false) :
  PS X (.Assign [.Subscript o i pos'] value pos) (ztJ td ty tv):=by
 intro pins s σ H D I h
 refine wpAny_Assign_Subscript (thn (hv pins s σ H _ I h) fun r s1 ⟨v,H1,I1,rv,q1⟩=>thn (ho pins s1 σ H1 _ I1 q1) fun u s2 ⟨x,H2,I2,rx,q2⟩=>thn (hi pins s2 σ H2 _ I2 q2) fun iv s3 ⟨y,H3,I3,ry,a,H4,ex,g,q3⟩=>?_) hs
 subst ex
 obtain rfl:u=Value.ref a:=rx
 exact znR hu I3 g ry rv fun s4 I4=>⟨σ,H4,I4,q3⟩
end
theorem zo2 {P:Program} {w:World} {H:Hp} (h:Heap) (hb:sysModules < h.objs.size):zcx P w H (h.push { cls:=.type "dict",data:=.dict #[] }) h.objs.size (.dK []) :=
 ⟨Nat.zero_le _,beq_eq_false_iff_ne.mpr (Ne.symm (qA hb)),[],.nil,Heap.DictOf.new h⟩
def zrU:TE:=fun _ H Q=>∀ p,H p=none->Q (.ref p) (upd H p (.dK []))
section
variable {X:Cx} {pos:Pos}
theorem zox:PE X (.Dict [] [] pos) zrU:=fun pins s σ H Q I h =>
 wpAny_Dict_empty ⟨.ref s.heap.objs.size,_,I.laid (a:=s.heap.objs.size) (o:=.dK []) (t':=s.toks) (fun _ _ q=>qr _ q) (qu _) (zo2 s.heap I.big),rfl,h _ (I.hok.fresh (qu _))⟩
end
structure M1 (X:Cx) (o:Expr) (m:Str) (apos:Pos) (e:Expr) (cpos:Pos):Prop where
 base:attributeBase o m X.env (eval o X.env)=eval o X.env
 few:((backTo cpos (starEach [e] X.env)).all (fun x=>!x.1) && (backToKw cpos (keywordEach [] X.env)).all (fun x=>x.1.isSome)
  && decide (([e]:List Expr).length+([]:List Keyword).length+(if ([]:List Keyword).isEmpty then 0 else 1) < 30))=true
 line:(apos.endLine==cpos.line)=true
 trees:backTo cpos (starEach [e] X.env)=[(false,eval e X.env)]
structure M2 (X:Cx) (o:Expr) (m:Str) (apos:Pos) (e f:Expr) (cpos:Pos):Prop where
 base:attributeBase o m X.env (eval o X.env)=eval o X.env
 few:((backTo cpos (starEach [e,f] X.env)).all (fun x=>!x.1) && (backToKw cpos (keywordEach [] X.env)).all (fun x=>x.1.isSome)
  && decide (([e,f]:List Expr).length+([]:List Keyword).length+(if ([]:List Keyword).isEmpty then 0 else 1) < 30))=true
 line:(apos.endLine==cpos.line)=true
 trees:backTo cpos (starEach [e,f] X.env)=[(false,eval e X.env),(false,eval f X.env)]
section
variable {X:Cx} {pins:List (Addr×Obj)} {σ:St} {H:Hp} {s:Shared} {a:Addr} {y d:V} {u r:Value} {o:Option V} {A:Around} {E:Value->Shared->Prop}
end
section
variable {X:Cx} {o e f:Expr} {apos cpos:Pos} {td ty tx:TE}
end
section
variable {X:Cx} {pins:List (Addr×Obj)} {σ:St} {H:Hp} {s:Shared} {a:Addr} {kvs:List (Key×V)} {A:Around} {E:Value->Shared->Prop}
end
section
variable {X:Cx} {pins:List (Addr×Obj)} {σ:St} {H:Hp} {s:Shared} {a:Addr} {y:V} {u:Value} {A:Around} {E:Value->Shared->Prop}
end
end L2
end
section
namespace Att
open PySem PySem.W PySem.Calls PyProof.Rows
theorem zg7 {P:Params} {h:Heap}:∀ (ns:List Int) (vs:List Value),WellAll P h vs (ns.map WData.int)->IntsAre vs ns:=by
 intro ns
 induction ns with
 | nil =>
  intro vs w
  rw [qM] at w
  cases w
  exact .nil
 | cons n ns ih =>
  intro vs w
  rw [ql] at w
  cases w with
  | cons a b =>
   cases a
   exact .cons _ _ (ih _ b)
theorem zjd {l:OpenLaw} {n:Nat} (hn:l.most=some n) {P:Params} {h:Heap} {args:List WData} {vals:List Value}
  (hpre:l.row.toRowW.claim.pre args=true) (hwl:WellAll P h vals args) :
  ∃ a vs ns,vals=[Value.ref a]/\args=[WData.list (ns.map WData.int)]/\h.get? a=some { cls:=.type "list",data:=.seq vs.toArray }/\IntsAre vs ns/\ns.length<=n:=by
 have hsh:WShape.hasAll [] args [.list .int]=true:=(pre_splitW hpre).1
 have hc:l.pre.holds [] { args:=args }=true:=(pre_splitW hpre).2
 obtain ⟨d,r,rfl,h1,h2⟩:=hasAllW_cons hsh
 obtain rfl:=hasAllW_nil h2
 obtain ⟨xs,rfl,h3⟩:=hasW_list h1
 obtain ⟨ns,rfl⟩:=items_int h3
 have hlen:ns.length<=n:=by
  unfold OpenLaw.pre at hc
  have h4:(WTm.not (.lt (.lit (.int (n:Int))) (.len (.arg 0)))).holds [] { args:=[.list (ns.map .int)] }=true:=by
   have h4:=(holds_andW hc).1
   rw [hn] at h4
   exact h4
  have h5:=condW_of h4 (w_not (w_lt w_lit (w_len_list (w_arg rfl))))
  rw [qe] at h5
  refine Nat.le_of_not_lt fun q=>?_
  have q':(n:Int) < ((ns.length:Nat):Int):=by omega
  first
   | (rw [qQ q'] at h5;exact absurd h5 (by decide))
   | (simp at h5;omega)
 cases hwl with
 | cons w1 w2 =>
  cases w2
  cases w1 with
  | list ho hall=>exact ⟨_,_,ns,rfl,rfl,ho,zg7 ns _ hall,hlen⟩
theorem zjm (l:OpenLaw) (args:List WData):l.row.toRowW.claim.post args (.bool true) args=true :=
 postW_of (r:=l.row.toRowW) (X:=(true==true))
  (show WShape.has [] (.bool true) .bool=true by first | rfl | decide | simp [WShape.has,WShape.arms,WShape.armsAll])
  (show (WTm.eq .res (.lit (.bool true))).value [] { args:=args,res:=some (.bool true),after:=args }=some (.bool (true==true)) from w_eq_bool (w_res rfl) w_lit) rfl
theorem zuI {l:OpenLaw} {n:Nat} {q:Program} {loose:List Str} {XP:(Str->Option Value)->Heap->Prop} {YP:World->Heap->Prop} {d:DefRec} {x:Str}
  (hn:l.most=some n) (hdf:d.params.defaults=[])
  (hbind:∀ pm cd doc v:Value,bindArgs (docDef d.name d.params d.body d.scope pm cd doc) ⟨[v],[]⟩=pure [(x,v)])
  (hx:d.scope.names.lookup x=some .local\/d.scope.names.lookup x=some .cell)
  (hk:d.scope.kind=.function) (hco:d.scope.isCoroutine=false) (hgen:d.scope.isGenerator=false)
  (body:∀ (w:World) (s₀ s₁ s:Shared) (mg mb:Str->Option Value) (fa:Addr) (o:Obj) (pm cd doc:Value) (a:Addr) (vs:List Value) (ns:List Int),
   Ground q loose [] XP w s₀ mg mb s₁.heap->YP w s₁.heap ->
   s₁.heap.get? fa=some o->o.data=.func (docDef d.name d.params d.body d.scope pm cd doc)->s₁.heap.CodeRec cd d.name->mg d.name=some (.ref fa) ->
   s₁.heap.get? a=some { cls:=.type "list",data:=.seq vs.toArray }->IntsAre vs ns->ns.length<=n ->
   s.gens=#[]->s.os=s₁.os ->
   Fr s₁.heap s₁.heap.objs.size s.heap (bindL (envOfC d.name d.scope s₁.heap.objs.size fa cd).kindOf [(x,.ref a)] fun _=>none) ->
   Cl s₁.heap.objs.size (cellsFrom (s₁.heap.objs.size+1) d.scope.names []) s.heap (bindC (envOfC d.name d.scope s₁.heap.objs.size fa cd).kindOf [(x,.ref a)] fun _=>none) ->
   wpAny (model l.prog w) (callerA.deeper (envOfC d.name d.scope s₁.heap.objs.size fa cd)) (execs d.body (envOfC d.name d.scope s₁.heap.objs.size fa cd))
    (fun f s'=>f=.ret (.bool true)/\OldK s₁.heap s'.heap/\s'.os=s₁.os/\AllBare s'.gens) (fun _ _=>False) s) :
  WalkO q loose XP YP l.row.toRowW d [] (fun f vs=>PySem.call f vs):=by
 intro w s₀ s₁ mg mb G Y fa o pm cd doc dV kV ho hd hcd hD hmg hg args vals as hpre hlay hrd hwl hlo
 obtain rfl:dV=.none:=Dflts.none hD hdf
 obtain rfl:kV=.none:=Dflts.noKw hD
 obtain ⟨a,vs,ns,rfl,rfl,hobj,hints,hlen⟩:=zjd hn hpre hwl
 refine enter_call ?_
 refine call_cells_ret (o:=o) (by rw [depth_caller];decide) ho (fd_plain hd) G.T.nolimit hcd (hbind pm cd doc (.ref a)) (fun y hy=>?_) (fun h₁ tk F X=>?_) hco hgen hk
 ·obtain rfl:y=(x,Value.ref a):=List.mem_singleton.mp hy
  rcases hx with e | e
  ·exact .inl e
  ·exact .inr ⟨e,cellsFrom_some _ _ _ (.inl e)⟩
 ·refine wpAny_mono (body w s₀ s₁ { s₁ with heap:=h₁,toks:=tk } mg mb fa o pm cd doc a vs ns G Y ho (fd_plain hd) hcd hmg hobj hints hlen hg rfl F X) (fun f s' hq=>?_) (fun _ _ hq=>hq)
  obtain ⟨rfl,h2,h3,h4⟩:=hq
  exact ⟨.inl ⟨.bool true,.bool true,[],rfl,fun _=>rfl,.bool true,zjm l _,fun _=>⟨List.Pairwise.nil,fun _ hm=>(nomatch hm)⟩⟩,h2,h3,h4⟩
theorem attach_call {l:OpenLaw} {n:Nat} {q:Program} {loose:List Str} {XP:(Str->Option Value)->Heap->Prop} {YP:World->Heap->Prop} {d:DefRec}
  (hn:l.most=some n) (hdf:d.params.defaults=[])
  (call:∀ (w:World) (s₀ s₁:Shared) (mg mb:Str->Option Value) (fa:Addr) (o:Obj) (pm cd doc:Value) (a:Addr) (vs:List Value) (ns:List Int),
   Ground q loose [] XP w s₀ mg mb s₁.heap->YP w s₁.heap ->
   s₁.heap.get? fa=some o->o.data=.func (docDef d.name d.params d.body d.scope pm cd doc)->s₁.heap.CodeRec cd d.name->mg d.name=some (.ref fa) ->
   s₁.heap.get? a=some { cls:=.type "list",data:=.seq vs.toArray }->IntsAre vs ns->ns.length<=n->s₁.gens=#[] ->
   codeAny (model l.prog w) callerA (.call (.ref fa) ⟨[.ref a],[]⟩) (fun r s'=>r=.ok (.ret (.bool true))/\OldK s₁.heap s'.heap/\s'.os=s₁.os/\AllBare s'.gens) s₁) :
  WalkO q loose XP YP l.row.toRowW d [] (fun f vs=>PySem.call f vs):=by
 intro w s₀ s₁ mg mb G Y fa o pm cd doc dV kV ho hd hcd hD hmg hg args vals as hpre hlay hrd hwl hlo
 obtain rfl:dV=.none:=Dflts.none hD hdf
 obtain rfl:kV=.none:=Dflts.noKw hD
 obtain ⟨a,vs,ns,rfl,rfl,hobj,hints,hlen⟩:=zjd hn hpre hwl
 refine enter_call (codeAny_mono (call w s₀ s₁ mg mb fa o pm cd doc a vs ns G Y ho (fd_plain hd) hcd hmg hobj hints hlen hg) fun r s' hq=>?_)
 obtain ⟨rfl,h2,h3,h4⟩:=hq
 exact ⟨.inl ⟨.bool true,.bool true,[],rfl,fun _=>rfl,.bool true,zjm l _,fun _=>⟨List.Pairwise.nil,fun _ hm=>(nomatch hm)⟩⟩,h2,h3,h4⟩
section
variable {prog:Program} {w:World} {A:Around} {E:Value->Shared->Prop} {s:Shared} {K:Frag}
def zmY (h:Heap):Heap:={ h with objs:=#[] }
theorem zlQ (h:Heap) (b:Addr):(zmY h).get? b=none:=by
 cases e:(zmY h).get? b with
 | none=>rfl
 | some o=>exact absurd (qt e) (Nat.not_lt_zero _)
def zuC (h:Heap) (L d:Addr):List (Addr×Obj):=(List.range h.objs.size).filterMap fun a=>if a=L\/a=d then none else (h.get? a).map fun o=>(a,o)
theorem zpO {h:Heap} {L:Addr} {m:Str->Option Value} (n:h.Ns L m):Fr (zmY h) L h m :=
 ⟨n,fun b o e=>(by rw [zlQ] at e;cases e),Nat.zero_le _⟩
end
end Att
namespace L2
open PySem PySem.Spec PyProof.Rows
theorem zi6:∀ {vs:List Value} {ns:List Int},IntsAre vs ns->zbY (ns.map V.int) vs
 | _,_,.nil=>.nil
 | _,_,.cons n t h=>.cons ⟨t,rfl⟩ (zi6 h)
def zum (H:Hp):Prop:=∀ b,H b=none\/∃ o xs,H b=some (.frz o (.lst xs))
theorem zoQ {P:Program} {w:World} {K:PySem.W.Frag} {mg mb:Str->Option Value} {CX:CXT} {k:Nat} {fa a:Addr} {fd:FuncData} {x:Str} {sp:Sp} {s₁:Shared} {vs:List Value} {ns:List Int}
  (KX:K.In s₁.heap) (hns:s₁.heap.Ns mainGlobals mg) (hb:s₁.heap.Ns builtinsNs mb) (hbb:∀ x:Str,x≠"__name__"->mb x=bootBuiltins x) (hlim:s₁.heap.NoLimit) (hg:s₁.gens=#[])
  (ha:s₁.heap.get? a=some { cls:=.type "list",data:=.seq vs.toArray }) (hi:IntsAre vs ns) (hl:ns.length<=sizeLine) (hr:Room k callerA)
  (F:∀ base:Heap,K.In base->base.Ns mainGlobals mg->FnOk P w K mg base CX k fa fd [x] sp) (hbind:∀ (s:Shared) (u:Value),BindsTo s fd ⟨[u],[]⟩ [(x,u)])
  (hsp:∀ H:Hp,zum H->SqL K H a (ns.map V.int)->sp [.ref a] H (fun v _=>v=.bl true) fun _ _ _=>False)
  (hCX:∀ H e s',CX [] H s₁ (fun _ _ _=>False) e s'->False) :
  codeAny (model P w) callerA (.call (.ref fa) ⟨[.ref a],[]⟩) (fun r s'=>r=.ok (.ret (.bool true))/\OldK s₁.heap s'.heap/\s'.os=s₁.os/\AllBare s'.gens) s₁:=by
 have rv:=zi6 hi
 have lenV:=hi.length
 have core:∀ H:Hp,zum H->SqL K H a (ns.map V.int)->HOk P w H s₁.heap->(∀ b,H b≠none->b=a)->(H a≠none->K.lookup a=none) ->
   codeAny (model P w) callerA (.call (.ref fa) ⟨[.ref a],[]⟩) (fun r s'=>r=.ok (.ret (.bool true))/\OldK s₁.heap s'.heap/\s'.os=s₁.os/\AllBare s'.gens) s₁:=by
  intro H hO hS hok hA hK
  have base_of:∀ {b:Addr} {o:Obj},s₁.heap.get? b=some o->H b=none->(zoV s₁.heap H).get? b=some o:=fun e n=>zoU e n
  have noA:∀ {b:Addr} {o:Obj} {es:Array DictEntry} {ep:Nat},s₁.heap.get? b=some o->o.data=.dict es ep->H b=none:=fun {b o es ep} e d=>by
   cases q:H b with
   | none=>rfl
   | some u =>
    have e':b=a:=hA b (by rw [q];simp)
    subst e'
    rw [ha] at e;cases e
    have d':Data.seq vs.toArray _=Data.dict es ep:=d
    cases d'
  have nsK:∀ {b:Addr} {m:Str->Option Value},s₁.heap.Ns b m->(zoV s₁.heap H).Ns b m:=fun {b m} ⟨o,es,ep,e,d,r⟩=>⟨o,es,ep,base_of e (noA e d),d,r⟩
  have hKb:K.In (zoV s₁.heap H):=fun b o e=>base_of (KX b o e) (by
   cases q:H b with
   | none=>rfl
   | some u =>
    have e':b=a:=hA b (by rw [q];simp)
    subst e'
    rw [hK (by rw [q];simp)] at e;cases e)
  have hM:Mod K mg (zoV s₁.heap H):=⟨hKb,nsK hns,⟨mb,nsK hb,hbb⟩,let ⟨mc,h1,h2⟩:=hlim;⟨mc,nsK h1,h2⟩⟩
  have e0:Env0 P w K mg (zoV s₁.heap H) callerA [] s₁ H:=⟨rfl,hM,fun b o e=>zqJ e,Nat.le_of_eq (znp _ _),trivial,fun b hb=>absurd (show b∈([]:List Addr) from hb) (by simp),hok,.of_eq hg⟩
  refine codeAny_mono ((F _ hKb (nsK hns)).run callerA [] s₁ H ⟨[.ref a],[]⟩ [.ref a] [.ref a] _ _ hr e0 (hbind s₁ (.ref a)) (.cons rfl .nil) (hsp H hO hS)) fun r s' h=>?_
  cases r with
  | error e=>exact (hCX H e s' h).elim
  | ok fl =>
   cases fl with
   | next=>exact False.elim h
   | brk=>exact False.elim h
   | cont=>exact False.elim h
   | ret u =>
    obtain ⟨v,H',os,bare,un,hok',r',q⟩:=h
    have q':v=.bl true:=q
    subst q'
    obtain rfl:u=Value.bool true:=r'
    refine ⟨rfl,OldK.of_keep fun b o e=>?_,os,bare⟩
    cases q:H b with
    | none=>exact un.keep b o e q (by intro z;exact absurd (show b∈([]:List Addr) from z) (by simp)) (by simp)
    | some u =>
     rcases hO b with z | ⟨ob,xs,z⟩
     ·rw [q] at z;cases z
     ·have z2:=un.frzs b ob _ z
      obtain ⟨e1,_⟩:=hok b _ z
      obtain ⟨e2,_⟩:=hok' b _ z2
      rw [e] at e1;cases e1
      exact e2
 cases hk:K.lookup a with
 | some o =>
  have e:=KX a o hk
  rw [ha] at e
  cases e
  refine core (fun _=>none) (fun _=>.inl rfl) (.inr ⟨_,vs.toArray,_,hk,rfl,rfl,rfl,by rw [qz,lenV];exact hl,by simpa using rv⟩) (fun b u z=>by have z':(none:Option HO)=some u:=z;cases z') (fun b z=>absurd rfl z) fun z=>absurd rfl z
 | none =>
  refine core (fun b=>if b=a then some (.frz { cls:=.type "list",data:=.seq vs.toArray } (.lst (ns.map V.int))) else none) (fun b=>?_) (.inl (.inr ⟨{ cls:=.type "list",data:=.seq vs.toArray },qW rfl⟩)) (fun b u z=>?_) (fun b z=>?_) fun _=>hk
  ·by_cases hb:b=a
   ·exact .inr ⟨_,_,qW hb⟩
   ·exact .inl (qX hb)
  ·by_cases hb:b=a
   ·have z':=(qW hb).symm.trans z
    cases z'
    subst hb
    exact ⟨ha,by rw [qe];exact hl,vs,_,rv,ha⟩
   ·have z':=(qX hb).symm.trans z
    cases z'
  ·by_cases hb:b=a
   ·exact hb
   ·exact absurd (qX hb) z
end L2
namespace L2
open PySem PySem.Spec PyProof.Rows
abbrev KOf {K:PySem.W.Frag} {h:Heap} (_:K.In h):PySem.W.Frag:=K
theorem walk_of {l:PySem.W.OpenLaw} {n k:Nat} {q:Program} {loose:List Str} {XP:(Str->Option Value)->Heap->Prop} {YP:World->Heap->Prop} {d:DefRec} {K:Params->PySem.W.Frag} {CX:World->CXT} {sp:World->Sp} {x:Str}
  (hn:l.most=some n) (hn2:n<=sizeLine) (hdf:d.params.defaults=[]) (hr:Room k callerA)
  (hY:∀ (w:World) (h:Heap),YP w h->(K w.params).In h)
  (F:∀ (w:World) (mg:Str->Option Value) (fa:Addr) (h:Heap),(K w.params).In h->h.Ns mainGlobals mg->mg d.name=some (.ref fa) ->
   ∃ fd:FuncData,(∀ (s:Shared) (u:Value),BindsTo s fd ⟨[u],[]⟩ [(x,u)]) /\
    ∀ base:Heap,(K w.params).In base->base.Ns mainGlobals mg->FnOk l.prog w (K w.params) mg base (CX w) k fa fd [x] (sp w))
  (hsp:∀ (w:World) (H:Hp) (a:Addr) (ns:List Int),ns.length<=n->zum H->SqL (K w.params) H a (ns.map V.int)->sp w [.ref a] H (fun v _=>v=.bl true) fun _ _ _=>False)
  (hCX:∀ (w:World) (H:Hp) (s:Shared) (e:Value) (s':Shared),CX w [] H s (fun _ _ _=>False) e s'->False) :
  PySem.W.WalkO q loose XP YP l.row.toRowW d [] (fun f vs=>PySem.call f vs):=by
 refine Att.attach_call hn hdf fun w s₀ s₁ mg mb fa o pm cd doc a vs ns G Y ho hd hcd hmg hobj hints hlen hg=>?_
 have KX:=hY w _ Y
 obtain ⟨fd,hb,hF⟩:=F w mg fa _ KX G.T.g hmg
 exact zoQ KX G.T.g G.T.b G.T.builtins G.T.nolimit hg hobj hints (qK hlen hn2) hr hF hb (fun H hO hS=>hsp w H a ns hlen hO hS) fun H e s'=>hCX w H s₁ e s'
end L2
namespace L2
open PySem PySem.Spec PyProof.Rows
def zdv (s:Stmt) (j:Nat):Stmt:=match s with
 | .ClassDef _ _ _ body _ _ _ _ _ _ _=>body.getD j (.Pass ⟨0,0,0,0⟩)
 | _=>.Pass ⟨0,0,0,0⟩
def zbU (s:Stmt):Arguments:=match s with
 | .FunctionDef _ a _ _ _ _ _ _ _ _=>a
 | _=>{ posonlyargs:=[],args:=[],vararg:=none,kwonlyargs:=[],kw_defaults:=[],kwarg:=none,defaults:=[] }
def zaW (s:Stmt):List Stmt:=match s with
 | .FunctionDef _ _ b _ _ _ _ _ _ _=>b
 | _=>[]
def zaf (s:Stmt):Scope:=match s with
 | .FunctionDef _ _ _ _ _ _ sc _ _ _=>sc
 | _=>{ kind:=.function,names:=[],isGenerator:=false,isCoroutine:=false }
abbrev CX0:CXT:=fun _ _ _ _ _ _=>False
abbrev E0:XK:=fun _ _ _=>False
theorem zkd {X:Cx}:zho CX0 X E0:=fun _ _ _ _ _ _ _ h=>h.elim
structure Fun (K:PySem.W.Frag) (x qual:Str) (st:Stmt) (f:Addr) (fd:FuncData):Prop where
 ex:∃ (oc:Value) (od:Option Addr) (kV doc pm:Value) (an:Option Addr) (cdv ct:Value) (osl:Array (Option Value)),
  fd=PySem.W.fnOf x qual (zbU st) (zaW st) (zaf st) .none kV doc pm an cdv ct/\K.lookup f=some ⟨oc,od,.func fd,osl⟩/\PySem.W.codeIn K cdv qual=true
 kp:PySem.W.keepIn K (.ref f)=true
section
variable {P:Program} {w:World} {K:PySem.W.Frag} {mg:Str->Option Value} {base:Heap}
theorem Fun.ok {x qual:Str} {st:Stmt} {f:Addr} {fd:FuncData} {N ps:List Str} {k:Nat} {sp:Sp} (F:Fun K x qual st f fd) (S:FnScope N ps (zaf st)) (len:∀ vs H Q E,sp vs H Q E->vs.length=ps.length)
  (hbody:∀ (cdv:Value) (A:Around) (outer:List Env) (s:Shared) (H:Hp) (vs:List V) (Q:VK) (E:XK),Room k (A.deeper (envOfC qual (zaf st) s.heap.objs.size f cdv))->sp vs H Q E ->
   ∃ t,PSs (ziK CX0 P w K mg base N qual (zaf st) f cdv A outer s H E).nox (zaW st) t/\t { nx:=fun _ H'=>Q .non H',rt:=Q } (zc5 N vs) H):FnOk P w K mg base CX0 (k+1) f fd ps sp:=by
 obtain ⟨oc,od,kV,doc,pm,an,cdv,ct,osl,rfl,lk,hcd⟩:=F.ex
 refine zt8 lk hcd S len fun A outer s H vs Q E hr hsp=>?_
 obtain ⟨t,h,q⟩:=hbody cdv A outer s H vs Q E hr hsp
 exact ⟨t,h.nox,q⟩
theorem Fun.binds {x qual:Str} {st:Stmt} {f:Addr} {fd:FuncData} {ps:List Str} (F:Fun K x qual st f fd)
  (h:∀ (kV doc pm:Value) (an:Option Addr) (cdv ct:Value) (us:List Value),us.length=ps.length->bindArgs (PySem.W.fnOf x qual (zbU st) (zaW st) (zaf st) .none kV doc pm an cdv ct) ⟨us,[]⟩=pure (ps.zip us)):zdJ K fd ps []:=by
 obtain ⟨oc,od,kV,doc,pm,an,cdv,ct,osl,rfl,lk,hcd⟩:=F.ex
 exact .all (h kV doc pm an cdv ct)
theorem znu {x qual:Str} {st:Stmt} {f:Addr} {oc:Value} {od an:Option Addr} {osl:Array (Option Value)} {kV doc pm cdv ct:Value} (l:K.lookup f=some ⟨oc,od,.func (PySem.W.fnOf x qual (zbU st) (zaW st) (zaf st) .none kV doc pm an cdv ct),osl⟩)
  (c:PySem.W.codeIn K cdv qual=true) (k:PySem.W.keepIn K (.ref f)=true):Fun K x qual st f (PySem.W.fnOf x qual (zbU st) (zaW st) (zaf st) .none kV doc pm an cdv ct):=⟨⟨oc,od,kV,doc,pm,an,cdv,ct,osl,rfl,l,c⟩,k⟩
end
section
variable {X:Cx}
theorem pv (i:Nat) {x:Str} {pos:Pos} (hN:X.N[i]?=some x:=by rfl) (hv:Vis X.env.scope x:=by first | exact Or.inl rfl | exact Or.inr (Or.inl rfl) | exact Or.inr (Or.inr rfl)) (hd:(x==("__debug__":Str))=false:=by decide)
  (hcd:(x==("__classdict__":Str))=false:=by decide):PE X (.Name x pos) (zfJ i):=zfr hN hv hd hcd
end
theorem zpK {A B:Prop} (h:B):if false=true then A else B:=by
 rw [qX qq]
 exact h
theorem zrK {A B:Prop} (h:A):if true=true then A else B:=by
 rw [qW rfl]
 exact h
def zbO (H H':Hp):Prop:=∀ b o,H b=some o->H' b=some o
theorem zbO.refl (H:Hp):zbO H H:=fun _ _ h=>h
theorem zbO.trans {H H1 H2:Hp} (a:zbO H H1) (b:zbO H1 H2):zbO H H2:=fun c o h=>b c o (a c o h)
theorem zbO.free {H H':Hp} (e:zbO H H') {l:Addr} (h:H' l=Option.none):H l=Option.none:=by
 cases q:H l with
 | none=>rfl
 | some o =>
  rw [e l o q] at h
  cases h
theorem zbO.seq {K:PySem.W.Frag} {H H':Hp} {a:Addr} {xs:List V} (e:zbO H H') (h:SqL K H a xs):SqL K H' a xs:=by
 rcases h with (h | ⟨o,h⟩) | h
 ·exact .inl (.inl (e _ _ h))
 ·exact .inl (.inr ⟨o,e _ _ h⟩)
 ·exact .inr h
section
variable {κ:Type} [DecidableEq κ]
end
end L2
end
section
namespace L2
open PySem PySem.Spec PyProof.Rows
theorem zey {prog:Program} {w:World} {A:Around} {R:Result->Shared->Prop} {s:Shared} {elt target iter:Expr} {ifs:List Expr} {scope:Scope} {pos:Pos} {it acc:Value} {env:Env} (I:Nat->Shared->Prop)
  (turn:∀ n s,I n s->wpAny (model prog w) A (pyNext it) (fun r s₁=>match r with
   | none=>R (.ok .next) s₁
   | some v=>wpAny (model prog w) A (letOwnedTupleGo target it v) (fun _ s₁'=>wpAny (model prog w) A (assign target env v) (fun _ s₂ =>
     wpAny (model prog w) A (forIn ifs true fun c r=>if r=true then do let ok ← isTrue c env (eval c env);pure (ForInStep.yield ok) else pure (ForInStep.yield r)) (fun ok s₃ =>
      if ok=true then wpAny (model prog w) A (eval elt env) (fun x s₄ =>
       wpAny (model prog w) A (call (.builtin "list.append") [acc,x]) (fun _ s₅=>∃ m,m < n/\I m s₅) (fun _ _=>False) s₄) (fun _ _=>False) s₃
      else ∃ m,m < n/\I m s₃) (fun _ _=>False) s₂) (fun _ _=>False) s₁') (fun _ _=>False) s₁) (fun _ _=>False) s)
  (n:Nat) (h:I n s) :
  codeAny (model prog w) A (.compLoop (.ListComp elt [⟨target,iter,ifs,0⟩] scope pos) 0 it acc env) R s:=by
 refine codeAny_loop rfl I (fun n s hI=>?_) n h
 show wpAny _ A ((compTurn (.ListComp elt [⟨target,iter,ifs,0⟩] scope pos) 0 it acc env).onRaise (fun x=>do noteFrame x env;theTreesLotGoes x)) _ _ s
 refine wpAny_noted ?_
 rw [compTurn_list]
 refine qv (wpAny_standAt (qv (wpAny_mono (turn n s hI) (fun r s₁ h₁=>?_) fun _ _ h'=>h'.elim)))
 cases r with
 | none=>exact qy h₁
 | some v =>
  refine qv (wpAny_mono h₁ (fun _ s₁' h₁'=>?_) fun _ _ h'=>h'.elim)
  refine qv (wpAny_mono h₁' (fun _ s₂ h₂=>qv (wpAny_mono h₂ (fun ok s₃ h₃=>?_) fun _ _ h'=>h'.elim)) fun _ _ h'=>h'.elim)
  cases ok with
  | false=>exact qy ⟨rfl,h₃⟩
  | true =>
   exact qv (qv (wpAny_mono h₃ (fun x s₄ h₄=>qv (wpAny_mono h₄ (fun _ s₅ h₅=>qy (qy ⟨rfl,h₅⟩)) fun _ _ h'=>h'.elim)) fun _ _ h'=>h'.elim))
def zdn (X:Cx) (N':List Str) (scope:Scope) (cl:List (Str×Addr)) (C:Addr) (s₀:Shared) (H₀:Hp) (fp:List Addr):Cx :=
 { X with N:=N',s₀:=s₀,H₀:=H₀,env:=compEnvC scope cl C X.env,outer:=X.stack,stack:=X.stack,ex:=fp,fn:=fun _=>false,pn:=[],xe:=fun _ _=>False }
def zd3 (env:Env):List (Str×NameKind)->List (Str×Addr)->List (Str×Addr)
 | [],acc=>acc
 | (n,k)::r,acc=>zd3 env r (if k==.free then (match env.cells.lookup n with | some c=>(n,c)::acc | none=>acc) else acc)
theorem ziL {env:Env} {scope:Scope} (h:∀ y∈scope.names,y.2=.free->∃ c,env.cells.lookup y.1=some c):closureFor scope env=pure (zd3 env scope.names []):=by
 have all:∀ (l:List (Str×NameKind)) (acc:List (Str×Addr)),(∀ y∈l,y.2=.free->∃ c,env.cells.lookup y.1=some c) ->
   (forIn l acc fun x r=>match x with
    | (name,kind)=>if kind==.free then do let c ← cellOf env name;pure (ForInStep.yield ((name,c)::r)) else pure (ForInStep.yield r):Sem (List (Str×Addr)))=pure (zd3 env l acc):=by
  intro l
  induction l with
  | nil=>intro acc _;rfl
  | cons y r ih =>
   intro acc hl
   obtain ⟨n,k⟩:=y
   rw [List.forIn_cons]
   have hr:∀ y∈r,y.2=.free->∃ c,env.cells.lookup y.1=some c:=fun y hy=>hl y (qg _ hy)
   unfold zd3
   cases hk:(k==NameKind.free) with
   | false =>
    simp only [hk,qp,if_false,pure_bind]
    exact ih acc hr
   | true =>
    obtain ⟨c,hc⟩:=hl (n,k) qf (by simpa using hk)
    have hc':env.cells.lookup n=some c:=hc
    simp only [hk,if_true,cellOf,hc',pure_bind]
    exact ih _ hr
 have e:=all scope.names [] h
 exact Eq.trans (bind_pure _) e
theorem zhf {env:Env}:∀ (l:List (Str×NameKind)) (acc:List (Str×Addr)),(∀ x c,acc.lookup x=some c->env.cells.lookup x=some c)->∀ x c,(zd3 env l acc).lookup x=some c->env.cells.lookup x=some c
 | [],_,h=>h
 | (n,k)::r,acc,h=>by
  unfold zd3
  refine zhf r _ ?_
  split
  ·split
   ·rename_i c hc
    intro x d hx
    rw [List.lookup_cons] at hx
    cases e:x==n with
    | true =>
     rw [e] at hx
     have e':x=n:=by simpa using e
     have e2:c=d:=qF hx
     rw [e',← e2];exact hc
    | false=>rw [e] at hx;exact h x d hx
   ·exact h
  ·exact h
theorem zia {env:Env}:∀ (l:List (Str×NameKind)) (acc:List (Str×Addr)) (x:Str),(acc.lookup x).isSome=true->((zd3 env l acc).lookup x).isSome=true
 | [],_,_,h=>h
 | (n,k)::r,acc,x,h=>by
  unfold zd3
  refine zia r _ x ?_
  split
  ·split
   ·rw [List.lookup_cons]
    split
    ·rfl
    ·exact h
   ·exact h
  ·exact h
theorem zhg {env:Env}:∀ (l:List (Str×NameKind)) (acc:List (Str×Addr)) (x:Str) (c:Addr),(x,NameKind.free)∈l->env.cells.lookup x=some c->((zd3 env l acc).lookup x).isSome=true
 | [],_,_,_,h,_=>nomatch h
 | (n,k)::r,acc,x,c,h,hc=>by
  unfold zd3
  rcases List.mem_cons.mp h with e | h
  ·injection e with e1 e2
   subst e1;subst e2
   refine zia r _ _ ?_
   rw [qW (by rfl),hc]
   simp
  ·exact zhg r _ x c h hc
theorem zcP {env:Env}:∀ (names:List (Str×NameKind)) (x:Str) (k':NameKind),
  (names.map fun (n,k)=>if (k==NameKind.free && env.scope.kind==.function && env.kindOf n==some .cell) then (n,NameKind.cell) else (n,k)).lookup x=some k' ->
  names.lookup x=some k'\/(k'=.cell/\names.lookup x=some .free)
 | [],_,_,h=>by simp at h
 | (n,k)::r,x,k',h=>by
  have ih:=@zcP env r x k'
  have h':List.lookup x ((if (k==NameKind.free && env.scope.kind==.function && env.kindOf n==some .cell)=true then (n,NameKind.cell) else (n,k))::(r.map fun (n,k)=>if (k==NameKind.free && env.scope.kind==.function && env.kindOf n==some .cell) then (n,NameKind.cell) else (n,k)))=some k':=h
  cases hx:x==n with
  | true =>
   by_cases hc:(k==NameKind.free && env.scope.kind==.function && env.kindOf n==some .cell)=true
   ·rw [qW hc] at h'
    simp only [List.lookup_cons,hx] at h' ⊢
    have hk:k=.free:=by
     simp only [Bool.and_eq_true,beq_iff_eq] at hc
     exact hc.1.1
    right
    exact ⟨(qF h').symm,by rw [hk]⟩
   ·rw [qX hc] at h'
    simp only [List.lookup_cons,hx] at h' ⊢
    exact .inl h'
  | false =>
   have h2:List.lookup x (r.map fun (n,k)=>if (k==NameKind.free && env.scope.kind==.function && env.kindOf n==some .cell) then (n,NameKind.cell) else (n,k))=some k':=by
    by_cases hc:(k==NameKind.free && env.scope.kind==.function && env.kindOf n==some .cell)=true
    ·rw [qW hc] at h'
     simpa only [List.lookup_cons,hx] using h'
    ·rw [qX hc] at h'
     simpa only [List.lookup_cons,hx] using h'
   simp only [List.lookup_cons,hx]
   exact ih h2
structure CompScope (X:Cx) (scope:Scope):Prop where
 kind:scope.kind=.function
 nocell:∀ y∈scope.names,y.2≠.cell
 names:∀ y∈scope.names,y.2=.local->scope.names.lookup y.1=some .local
 free:∀ y∈scope.names,y.2=.free->X.env.kindOf y.1=some .cell\/X.env.kindOf y.1=some .free
def znt (fv:List (Option Nat)) (σ:St):St:=fv.map fun o=>o.bind fun j=>(σ[j]?).join
section
variable {X:Cx} {pins:List (Addr×Obj)} {σ:St} {H:Hp} {s:Shared}
theorem zgq (I:Inv X pins σ H s) {scope:Scope} (S:CompScope X scope):closureFor scope X.env=pure (zd3 X.env scope.names []) :=
 ziL fun y hy hf=>I.ok.has y.1 (S.free y hy hf)
theorem zrp (I:Inv X pins σ H s) {N':List Str} {scope:Scope} (S:CompScope X scope) {fp:List Addr} (hf:∀ b∈fp,zma X pins H b) (hlt:∀ b∈fp,b < s.heap.objs.size) {C:Addr} (hC:s.heap.objs.size<=C) :
  (zdn X N' scope (zd3 X.env scope.names []) C s H fp).Ok:=by
 have sub:=zhf (env:=X.env) scope.names [] (fun x c h=>by simp at h)
 refine ⟨I.ok.mod,S.kind,I.ok.glob,I.ok.blt,hC,fun x y c h1 h2=>I.ok.inj x y c (sub x c h1) (sub y c h2),fun x hx=>?_,fun x c h _=>by simp [zdn] at h,I.ok.hd,I.ok.frames,.inl rfl,fun b hb=>⟨?_,fun x c e=>?_⟩,I.bs,qK I.ok.bsz I.sz,
  fun b o e hb=>?_,fun b hb=>?_,I.stack,I.stkFree⟩
 ·have hx':((relabel scope X.env).names.lookup x=some .cell\/(relabel scope X.env).names.lookup x=some .free):=hx
  have hfr:scope.names.lookup x=some .free:=by
   rcases hx' with h | h
   ·rcases zcP _ _ _ h with h | ⟨_,h⟩
    ·exact absurd rfl (S.nocell _ (PySem.mem_of_lookup h))
    ·exact h
   ·rcases zcP _ _ _ h with h | ⟨h,_⟩
    ·exact h
    ·cases h
  have hm:=PySem.mem_of_lookup hfr
  obtain ⟨c,hc⟩:=I.ok.has x (S.free _ hm rfl)
  exact Option.isSome_iff_exists.mp (zhg _ _ x c hm hc)
 ·exact qA (qD (hlt b hb) hC)
 ·exact (hf b hb).2.2.2.2.1 x c (sub x c e)
 ·rcases (hf b hb).2.2.2.1 with z | z
  ·exact I.ok.noex b o e z
  ·exact absurd (qD (qt e) I.ok.bsz) (Nat.not_lt.mpr z)
 ·intro z
  rcases List.mem_cons.mp (I.stkSub b z) with e | e
  ·exact (hf b hb).2.1 e
  ·exact (hf b hb).2.2.1 e
theorem zl1 (I:Inv X pins σ H s) {N':List Str} {scope:Scope} (S:CompScope X scope) {fp:List Addr} (hf:∀ b∈fp,zma X pins H b) (hlt:∀ b∈fp,b < s.heap.objs.size) {C:Addr} (hC:C=s.heap.objs.size) {fv:List (Option Nat)} (hlen:fv.length=N'.length)
  (hfv:∀ (i j:Nat) x,N'[i]?=some x->fv[i]?=some (some j)->X.N[j]?=some x/\(X.env.kindOf x=some .cell\/X.env.kindOf x=some .free)/\scope.names.lookup x=some .free) {h':Heap} {t':Nat} {m:Str->Option Value} (hn:h'.Ns C m) (hk:∀ b o,s.heap.get? b=some o->h'.get? b=some o) :
  Inv (zdn X N' scope (zd3 X.env scope.names []) C s H fp) [] (znt fv σ) H { s with heap:=h',toks:=t' }:=by
 have ok:=zrp (N':=N') I S hf hlt (C:=C) (Nat.le_of_eq hC.symm)
 have sub:=zhf (env:=X.env) scope.names [] (fun x c h=>by simp at h)
 refine ⟨ok,rfl,I.bare,Un.kept hk,⟨m,hn,fun i x v e1 e2 e3=>?_⟩,fun x c e=>?_,?_,fun x c e=>I.freeC x c (sub x c e),fun p hp=>?_,I.hok.kept hk,?_⟩
 ·have e1':N'[i]?=some x:=e1
  have e2':(znt fv σ)[i]?=some (some v):=e2
  unfold znt at e2'
  rw [qj] at e2'
  cases q:fv[i]? with
  | none=>rw [q] at e2';cases e2'
  | some o =>
   rw [q] at e2'
   cases o with
   | none=>cases e2'
   | some j =>
    have e2'':(σ[j]?).join=some v:=by simpa using e2'
    obtain ⟨hN,hkk,hfree⟩:=hfv i j x e1' q
    have hσ:σ[j]?=some (some v):=by
     cases z:σ[j]? with
     | none=>rw [z] at e2'';cases e2''
     | some w=>rw [z] at e2'';cases w with
      | none=>cases e2''
      | some w'=>simp at e2'';rw [e2'']
    obtain ⟨m0,hn0,hl⟩:=I.loc
    obtain ⟨u,r,l⟩:=hl j x v hN hσ (.inr hkk)
    refine ⟨u,r,.inr ⟨?_,?_⟩⟩
    ·rcases e3 with z | z | z
     ·have z':(relabel scope X.env).names.lookup x=some .local:=z
      rcases zcP _ _ _ z' with y | ⟨y,_⟩
      ·rw [hfree] at y;cases y
      ·cases y
     ·exact .inl z
     ·exact .inr z
    ·rcases l with ⟨k,_⟩ | ⟨_,c,hc,hcell⟩
     ·rcases hkk with y | y
      ·rw [k] at y;cases y
      ·rw [k] at y;cases y
     ·obtain ⟨c',hc'⟩:=Option.isSome_iff_exists.mp (zhg scope.names [] x c (PySem.mem_of_lookup hfree) hc)
      have e:=sub x c' hc'
      rw [hc] at e
      cases e
      obtain ⟨oc,ho,hd⟩:=hcell
      exact ⟨c,hc',oc,hk _ _ ho,hd⟩
 ·obtain ⟨v,oc,ho,hd⟩:=I.cell x c (sub x c e)
  exact ⟨v,oc,hk _ _ ho,hd⟩
 ·exact I.hok.fresh (Nat.le_of_eq hC.symm)
 ·exact absurd (show p∈([]:List (Addr×Obj)) from hp) (by simp)
 ·show (znt fv σ).length=N'.length
  unfold znt
  rw [qe,hlen]
theorem zo8 (I:Inv X pins σ H s) {N':List Str} {scope:Scope} {cl:List (Str×Addr)} {fp:List Addr} (hf:∀ b∈fp,zma X pins H b) {C:Addr} (hC:s.heap.objs.size<=C) {σ':St} {H':Hp} {s':Shared} {pl:List (Addr×Obj)}
  (J:Inv (zdn X N' scope cl C s H fp) pl σ' H' s') {h':Heap} (hs:Heap.SameBut C s'.heap h'):Inv X pins σ H' { s' with heap:=h' }:=by
 have hCn:H' C=none:=J.free
 refine I.call' (ch:=fp) (s':={ s' with heap:=h' }) J.os ?_ ?_ J.bare fun b hb=>⟨(hf b hb).2.2.2.1,(hf b hb).2.1,(hf b hb).2.2.2.2.1,(hf b hb).2.2.2.2.2⟩
 ·have U:Un (frs X.stack) fp H H' s.heap s'.heap:=J.base
  have neC:∀ b o,s.heap.get? b=some o->b≠C:=fun b o e=>qA (qD (qt e) hC)
  refine ⟨fun b o e n h1 h2=>?_,fun b o e n h1 h2=>?_,U.free,fun b o e h2=>?_,U.tups,U.frzs,U.tbls⟩
  ·exact (hs.2 b (neC b o e)).trans (U.keep b o e n h1 h2)
  ·obtain ⟨sl,q⟩:=U.slot b o e n h1 h2
   exact ⟨sl,(hs.2 b (neC b o e)).trans q⟩
  ·obtain ⟨o',q⟩:=U.there b o e h2
   exact ⟨o',(hs.2 b (neC b o e)).trans q⟩
 ·intro b u e
  refine (J.hok b u e).stay (fun c v hc q=>(hs.2 c ?_).trans q) (fun _ q=>q) fun _ _ q=>q
  rintro rfl
  rcases hc with z | z
  ·rw [← z,hCn] at e;cases e
  ·rw [hCn] at z;cases z
end
end L2
end
section
namespace L2
open PySem PySem.Spec PyProof.Rows
def PTs (X:Cx) (es:List Expr) (t:TT):Prop :=
 ∀ (pins:List (Addr×Obj)) (s:Shared) (σ:St) (H:Hp) (Q:Bool->Hp->Prop),Inv X pins σ H s->t σ H Q ->
  wpAny (model X.prog X.w) X.A (forIn es true fun c r=>if r=true then do let ok ← isTrue c X.env (eval c X.env);pure (ForInStep.yield ok) else pure (ForInStep.yield r)) (TP X pins σ Q) X.xe s
def ztB:TT:=fun _ H Q=>Q true H
theorem zqo {X:Cx}:PTs X [] ztB:=fun _ _ _ H _ I h=>wpAny_tests_nil ⟨H,I,h⟩
theorem zqn {X:Cx} {c:Expr} {t:TT} (hc:PT X c t):PTs X [c] t:=fun pins s σ H Q I h=>wpAny_tests_one (hc pins s σ H Q I h)
def LcW (J:It) (g:TG) (tc:TT) (te:TE) (acc:Addr) (Q:V->Hp->Prop) (σ0:St) (H1:Hp):Prop :=
 ∃ W:Nat->Nat->List V->St->Hp->Prop,(∃ m,W 0 m [] σ0 (upd H1 acc (.lst [])))/\∀ i m ys σ' H',W i m ys σ' H'->H' acc=some (.lst ys) /\
  ((J.stop i H'/\Q (.ref acc) H')\/(J.go i H'/\∀ x H2,J.yld i H' x H2->g x σ' H2 fun σ2 H3=>tc σ2 H3 fun b H4 =>
   if b=true then te σ2 H4 fun v H5=>H5 acc=some (.lst ys)/\ys.length < sizeLine/\∃ m',m' < m/\W (i+1) m' (ys++[v]) σ2 (upd H5 acc (.lst (ys++[v])))
   else ∃ m',m' < m/\W (i+1) m' ys σ2 H4))
def tLC (wi:TI) (g:TG) (tc:TT) (te:TE) (fv:List (Option Nat)):TE:=fun σ H Q=>wi σ H fun J H1=>∀ acc,H1 acc=none->LcW J g tc te acc Q (znt fv σ) H1
def PB (X:Cx) (N':List Str) (scope:Scope) (tg:Expr) (ifs:List Expr) (elt:Expr) (g:TG) (tc:TT) (te:TE):Prop :=
 ∀ (cl:List (Str×Addr)) (C:Addr) (s₀:Shared) (H₀:Hp) (fp:List Addr),PG (zdn X N' scope cl C s₀ H₀ fp) tg g/\PTs (zdn X N' scope cl C s₀ H₀ fp) ifs tc/\PE (zdn X N' scope cl C s₀ H₀ fp) elt te
structure FvOk (X:Cx) (N':List Str) (scope:Scope) (fv:List (Option Nat)):Prop where
 len:fv.length=N'.length
 at':∀ (i j:Nat) x,N'[i]?=some x->fv[i]?=some (some j)->X.N[j]?=some x/\(X.env.kindOf x=some .cell\/X.env.kindOf x=some .free)/\scope.names.lookup x=some .free
section
variable {X:Cx} {elt tg iter:Expr} {ifs:List Expr} {scope:Scope} {pos:Pos} {N':List Str} {fv:List (Option Nat)} {g:TG} {tc:TT} {te:TE}
theorem zlu {pins:List (Addr×Obj)} {σ:St} {H1:Hp} {s2:Shared} {it:Addr} {fp:List Addr} {tn:Nat->Heap->Prop} {J:It} {Q:VK} {RR:Value->Addr->Result->Shared->Prop} (hc:X.calm=true) (S:CompScope X scope) (F:FvOk X N' scope fv) (hb:PB X N' scope tg ifs elt g tc te)
  (I2:Inv X pins σ H1 s2) (T:Turn X.prog X.w X.K tg J fp it tn) (st2:tn 0 s2.heap) (f2:∀ b∈fp,zma X pins H1 b) (q:∀ acc,H1 acc=none->LcW J g tc te acc Q (znt fv σ) H1)
  (hRR:∀ (a C:Addr) (H':Hp) (s':Shared) (m:Str->Option Value),s'.heap.Ns C m->(∀ h',Heap.SameBut C s'.heap h'->Inv X pins σ H' { s' with heap:=h' })->zma X pins H' C->Q (.ref a) H'->RR (.ref a) C (.ok .next) s') :
  wpAny (model X.prog X.w) X.A (newList []) (fun acc s₃=>wpAny (model X.prog X.w) X.A (newFunctionEnv scope X.env.globals (zd3 X.env scope.names []) [] X.env.qual none .none (some X.env)) (fun cenv s₄ =>
   codeAny (model X.prog X.w) X.A (.compStart (.ListComp elt [⟨tg,iter,ifs,0⟩] scope pos) 0 (.ref it) acc { cenv with scope:=relabel scope X.env }) (RR acc cenv.locals) s₄) X.xe s₃) X.xe s2:=by
 refine wpAny_newObj_type ?_
 have hacc:H1 s2.heap.objs.size=none:=I2.fresh
 have I3:Inv X pins σ (upd H1 s2.heap.objs.size (.lst [])) { s2 with heap:=s2.heap.push { cls:=.type "list",data:=.seq ([]:List Value).toArray } }:=I2.lnew (t':=s2.toks) .nil (Nat.zero_le _)
 generalize hs3:({ s2 with heap:=s2.heap.push { cls:=.type "list",data:=.seq ([]:List Value).toArray } }:Shared)=s3 at I3 ⊢
 have up:∀ b o,s2.heap.get? b=some o->s3.heap.get? b=some o:=fun b o e=>by rw [← hs3];exact qr _ e
 have lt2:∀ b∈fp,b < s2.heap.objs.size:=fun b hb=>by
  obtain ⟨o,e,_⟩:=T.obj 0 _ st2 b hb
  exact qt e
 have sz3:s2.heap.objs.size < s3.heap.objs.size:=by rw [← hs3];show _ < (s2.heap.push _).objs.size;rw [Heap.size_push];exact Nat.lt_succ_self _
 have lt3:∀ b∈fp,b < s3.heap.objs.size:=fun b hb=>Nat.lt_trans (lt2 b hb) sz3
 have f3:∀ b∈fp,zma X pins (upd H1 s2.heap.objs.size (.lst [])) b:=fun b hb=>⟨by rw [zat (qA (lt2 b hb))];exact (f2 b hb).1,(f2 b hb).2⟩
 have st3:tn 0 s3.heap:=T.keep _ _ _ st2 fun b _ o e=>up b o e
 refine wpAny_newFunctionEnv S.nocell (by intro y hy;simp at hy) (fun h4 hn4 sb4=>?_) S.kind
 have k4:∀ b o,s3.heap.get? b=some o->h4.get? b=some o:=fun b o e=>(sb4.2 b (qA (qt e))).trans (qr _ e)
 have st4:tn 0 h4:=T.keep _ _ _ st3 fun b _ o e=>k4 b o e
 have I4:=zl1 I3 S f3 lt3 (C:=s3.heap.objs.size) rfl F.len F.at' hn4 k4 (t':=s3.toks+([]:List (Str×Value)).length)
 generalize hX:zdn X N' scope (zd3 X.env scope.names []) s3.heap.objs.size s3 (upd H1 s2.heap.objs.size (.lst [])) fp=X' at I4
 obtain ⟨bg,bt,be⟩:=hb (zd3 X.env scope.names []) s3.heap.objs.size s3 (upd H1 s2.heap.objs.size (.lst [])) fp
 rw [hX] at bg bt be
 have hprog:X'.prog=X.prog:=by rw [← hX];rfl
 have hw:X'.w=X.w:=by rw [← hX];rfl
 have hK:X'.K=X.K:=by rw [← hX];rfl
 have hA:X'.A=X.A:=by rw [← hX];rfl
 have hcalm:X'.calm=true:=by rw [← hX];exact hc
 have hxe:X'.xe=fun _ _=>False:=by rw [← hX];rfl
 have henv:X'.env=compEnvC scope (zd3 X.env scope.names []) s3.heap.objs.size X.env:=by rw [← hX];rfl
 have stat:∀ {H':Hp},(∀ b∈fp,H' b=none)->∀ b∈fp,zma X' [] H' b:=fun {H'} hn b hb=>by
  have f:=f3 b hb
  have ok:=I4.ok
  refine ⟨hn b hb,(ok.exf b (by rw [← hX];exact hb)).1,ok.exfs b (by rw [← hX];exact hb),.inl (by rw [← hX];exact hb),fun x c e=>(ok.exf b (by rw [← hX];exact hb)).2 x c e,fun p hp=>?_⟩
  rw [← hX] at hp
  exact absurd (show p∈([]:List (Addr×Obj)) from hp) (by simp)
 obtain ⟨W,⟨m0,w0⟩,turn⟩:=q s2.heap.objs.size hacc
 have loop:∀ s5:Shared,s5={ s3 with heap:=h4,toks:=s3.toks+([]:List (Str×Value)).length } ->
   codeAny (model X.prog X.w) X.A (.compLoop (.ListComp elt [⟨tg,iter,ifs,0⟩] scope pos) 0 (.ref it) (.ref s2.heap.objs.size) (compEnvC scope (zd3 X.env scope.names []) s3.heap.objs.size X.env))
    (RR (.ref s2.heap.objs.size) s3.heap.objs.size) s5:=by
  intro s5 hs5
  refine zey (fun n s'=>∃ i ys σ' H',Inv X' [] σ' H' s'/\tn i s'.heap/\(∀ b∈fp,H' b=none)/\W i n ys σ' H') ?_ m0 ⟨0,[],znt fv σ,_,hs5▸I4,hs5▸st4,fun b hb=>(f3 b hb).1,w0⟩
  rintro n s6 ⟨i,ys,σ6,H6,I6,st6,fr6,w6⟩
  obtain ⟨ha6,turn6⟩:=turn i n ys σ6 H6 w6
  rw [← henv]
  rcases turn6 with ⟨stop,qn⟩ | ⟨go,step⟩
  ·have d:=T.done X' hprog hw hK hcalm i [] s6 σ6 H6 (fun _ _=>False) I6 (stat fr6) st6 stop
   rw [hA] at d
   refine thn d fun r s7 ⟨hr,I7⟩=>?_
   subst hr
   obtain ⟨m7,hn7,_⟩:=I7.loc
   have hl:X'.env.locals=s3.heap.objs.size:=by rw [henv];rfl
   refine hRR _ _ H6 s7 m7 (hl▸hn7) (fun h' hs'=>?_) ?_ qn
   ·rw [← hX] at I7
    exact zo8 I3 f3 (qu _) I7 hs'
   ·exact I3.fpOk (qu _) (by have:=I7.free;rw [hl] at this;exact this)
  ·have d:=T.item X' hprog hw hK hcalm i [] s6 σ6 H6 (fun _ _=>False) I6 (stat fr6) st6 go
   rw [hA] at d
   refine thn d fun r s7 ⟨u,hr,h7⟩=>?_
   subst hr
   refine thn h7 fun _ s8 ⟨x,H8,I8,r8,y8,st8,fr8⟩=>?_
   have I8':=I8.pinned (stat fr8) (T.obj _ _ st8)
   have dg:=bg _ s8 σ6 H8 x u _ I8' r8 (step x H8 y8)
   rw [hprog,hw,hA,hxe] at dg
   refine thn dg fun _ s9 ⟨σ9,H9,I9,q9⟩=>?_
   have dt:=bt _ s9 σ9 H9 _ I9 q9
   rw [hprog,hw,hA,hxe] at dt
   refine thn dt fun b s10 ⟨H10,I10,q10⟩=>?_
   have again:∀ {σ7:St} {H7:Hp} {s7:Shared} {ys':List V},Inv X' ([]++zjn fp s8.heap) σ7 H7 s7->(∃ m',m' < n/\W (i+1) m' ys' σ7 H7)->∃ m,m < n/\∃ i ys σ' H',Inv X' [] σ' H' s7/\tn i s7.heap/\(∀ b∈fp,H' b=none)/\W i m ys σ' H':=fun {σ7 H7 s7 ys'} I7 n7=>by
    obtain ⟨m',hm,w7⟩:=n7
    refine ⟨m',hm,i+1,ys',σ7,H7,I7.unpinned,T.keep _ _ _ st8 fun b hb o e=>(I7.pin (b,o) (qO _ (qO _ (zet hb e)))).1,fun b hb=>?_,w7⟩
    obtain ⟨o,e,_⟩:=T.obj _ _ st8 b hb
    exact (I7.pin (b,o) (qO _ (qO _ (zet hb e)))).2.1
   cases b with
   | false =>
    rw [qX qq] at q10 ⊢
    exact again I10 q10
   | true =>
    rw [qW rfl] at q10 ⊢
    have de:=be _ s10 σ9 H10 _ I10 q10
    rw [hprog,hw,hA,hxe] at de
    refine thn de fun v s11 ⟨y,H11,I11,r11,ha11,hz11,n11⟩=>?_
    have da:=zda _ s11 σ9 H11 (.ref s2.heap.objs.size) [y] (.ref s2.heap.objs.size) [v] (fun _ H'=>H'=upd H11 s2.heap.objs.size (.lst (ys++[y]))) I11 rfl (.cons r11 .nil) ⟨_,ys,y,rfl,rfl,ha11,hz11,rfl⟩
    rw [hprog,hw,hA,hxe] at da
    refine thn da fun _ s12 ⟨_,H12,I12,_,e12⟩=>?_
    subst e12
    exact again I12 n11
 exact codeAny_compStart_list (loop _ rfl) (T.self _ 0 _ _ _ st4 (loop _ rfl))
theorem ztN {wi:TI} (hc:X.calm=true) (S:CompScope X scope) (F:FvOk X N' scope fv) (hi:PI X tg iter wi) (hb:PB X N' scope tg ifs elt g tc te) (hs:∀ x,foldedSetIterable iter X.env x=pure x:=by intro _;rfl) :
  PE X (.ListComp elt [⟨tg,iter,ifs,0⟩] scope pos) (tLC wi g tc te fv):=by
 intro pins s σ H Q I h
 rw [eval_ListComp]
 refine wpAny_comprehension_free (use:=none) rfl hs (zgq I S) S.kind S.names (thn (hi pins s σ H _ I h) fun x s1 h1=>thn h1 fun itv s2 h2=>?_)
 obtain ⟨it,fp,tn,J,H1,e,I2,T,st2,f2,q⟩:=h2
 subst e
 refine zlu (RR:=fun acc C=>compPost (model X.prog X.w) X.A X.xe none (EP X pins σ Q) acc C) hc S F hb I2 T st2 f2 q ?_
 intro a C H' s' m hn hI hCL hq
 exact ⟨m,hn,fun h' hs'=>⟨.ref a,H',hI h' hs',rfl,hq⟩⟩
theorem ztL {wi:TI} {i:Nat} {y:Str} {py spos:Pos} (hN:X.N.Nodup) (hy:X.N[i]?=some y) (hyl:X.env.scope.names.lookup y=some .local) (hc:X.calm=true) (S:CompScope X scope) (F:FvOk X N' scope fv) (hi:PI X tg iter wi) (hb:PB X N' scope tg ifs elt g tc te)
  (hsw:swapsWith (.ListComp elt [⟨tg,iter,ifs,0⟩] scope pos) (some (.Name y py)) spos.line X.env=pure true)
  (hs:∀ x,foldedSetIterable iter X.env x=pure x:=by intro _;rfl) :
  PS X (.Assign [.Name y py] (.ListComp elt [⟨tg,iter,ifs,0⟩] scope pos) spos) (zmb (tLC wi g tc te fv) (zdi i)):=by
 intro pins s σ H D I h
 rw [exec_Assign_Name_used _ _ _ _ hsw]
 refine qv (wpAny_standAt (qv ?_))
 show wpAny _ _ (do let _ ← comprehension (.ListComp elt [⟨tg,iter,ifs,0⟩] scope pos) scope X.env _ (newList []) false (eval iter X.env) (some (assign (.Name y py) X.env))) _ _ s
 refine qv (wpAny_mono (wpAny_comprehension_free (use:=some (assign (.Name y py) X.env)) (Q:=fun _ s'=>SP X pins D .next s') rfl hs (zgq I S) S.kind S.names
  (thn (hi pins s σ H _ I h) fun x s1 h1=>thn h1 fun itv s2 h2=>?_)) (fun _ s' hq=>qy (qy hq)) fun _ _ e=>e)
 obtain ⟨it,fp,tn,J,H1,e,I2,T,st2,f2,q⟩:=h2
 subst e
 refine zlu (RR:=fun acc C=>compPost (model X.prog X.w) X.A X.xe (some (assign (.Name y py) X.env)) (fun _ s'=>SP X pins D .next s') acc C) hc S F hb I2 T st2 f2 q ?_
 intro a C H' s' m hn hI hCL hq
 show wpAny _ _ (assign (.Name y py) X.env (.ref a)) _ _ _
 have I':Inv X pins σ H' s':=hI s'.heap (Heap.SameBut.refl _ _)
 refine wpAny_assign_Name ?_
 refine zja (v:=.ref a) I' hN hy (.inl hyl) rfl (fun s'' I'' hch=>?_) (.inr hyl)
 obtain ⟨ad,hsb,had⟩:=hch
 obtain ⟨f0,f1,f2',f3,f4,f5⟩:=hCL
 have hne:C≠ad:=by
  rcases had with z | z
  ·rw [z];exact f1
  ·exact fun e=>f4 y ad z e.symm
 refine ⟨m,hn.sameBut hsb hne,fun h' hs'=>?_⟩
 exact ⟨_,H',I''.turned (t':=s''.toks) (fun b o hb e=>(hs'.2 b hb).trans e) f0 f1 f3 f4 f5,hq⟩
end
end L2
end
section
namespace L2
open PySem PySem.Spec PyProof.Rows
def Its (x:Str):It:=⟨fun i _=>i < x.cps.size,fun i H v H'=>H'=H/\∃ c,x.cps[i]?=some c/\v=.str ⟨#[c]⟩,fun i _=>i=x.cps.size⟩
theorem zrc {M:Model} {A:Around} {E:Value->Shared->Prop} {s:Shared} {n:Str} {p:Pos} {it:Value} {u:Value} {Q:Unit->Shared->Prop} (hQ:Q () s):wpAny M A (letOwnedTupleGo (.Name n p) it u) Q E s:=qy hQ
theorem zkK {P:Program} {w:World} {K:PySem.W.Frag} {n:Str} {p:Pos} {ty:String} (it:Addr) (x:Str) (t:Tok)
  (W:∀ A:Around,A.handled=none->Walks P w A it [it] [it] x.cps.size (SignAt x) (fun i h=>h.IsStrIter it ty x t i))
  (sf:∀ (A:Around) (i:Nat) (s:Shared) (Q:Value->Shared->Prop) (E:Value->Shared->Prop),s.heap.IsStrIter it ty x t i->Q (.ref it) s->wpAny (model P w) A (pyIter (.ref it)) Q E s):Turn P w K (.Name n p) (Its x) [it] it (fun i h=>h.IsStrIter it ty x t i) where
 mem:=by simp
 obj:=fun i h st b hb=>by
  have e:b=it:=by simpa using hb
  subst e
  obtain ⟨o,e,c,d⟩:=st
  exact ⟨o,e,fun v z=>by rw [d] at z;cases z⟩
 keep:=fun i h h' st k=>by
  obtain ⟨o,e,r⟩:=st
  exact ⟨o,k it (by simp) o e,r⟩
 item:=by
  intro X hP hw hK hc i pins s σ H E I hf st hg
  subst hP hw hK
  obtain ⟨f0,f1,f2,f3,f4,f5⟩:=hf it (by simp)
  refine (W X.A (I.ok.hd hc)).item i s _ _ hg st fun v h' tk hv st' kk=>?_
  obtain ⟨c,u,hcc,rfl⟩:=hv
  have I1:Inv X pins σ H { s with heap:=h',toks:=tk }:=I.turned (fun b o hb e=>kk b o (by simpa using hb) e) f0 f1 f3 f4 f5
  exact ⟨_,rfl,zrc ⟨.str ⟨#[c]⟩,H,I1,⟨_,rfl⟩,⟨rfl,c,hcc,rfl⟩,st',fun b hb=>(hf b hb).1⟩⟩
 done:=by
  intro X hP hw hK hc i pins s σ H E I hf st hg
  subst hP hw hK
  obtain ⟨f0,f1,f2,f3,f4,f5⟩:=hf it (by simp)
  have hi:i=x.cps.size:=hg
  subst hi
  exact (W X.A (I.ok.hd hc)).done s _ _ st fun h' tk kk=>⟨rfl,I.turned (fun b o hb e=>kk b o (by simpa using hb) e) f0 f1 f3 f4 f5⟩
 self:=sf
def zuY (te:TE):TI:=fun σ H R=>te σ H fun v H1=>∃ x,v=.str x/\R (Its x) H1
theorem zsm {X:Cx} {e:Expr} {te:TE} {n:Str} {p:Pos} (he:PE X e te):PI X (.Name n p) e (zuY te):=by
 intro pins s σ H R I h
 refine thn (he pins s σ H _ I h) fun v s1 ⟨y,H1,I1,r1,q1⟩=>?_
 obtain ⟨x,e,q⟩:=q1
 subst e
 obtain ⟨t,rfl⟩:=r1
 have fin:∀ (ty:String) (o:Obj),(s1.heap.push o).IsStrIter s1.heap.objs.size ty x t 0->Turn X.prog X.w X.K (.Name n p) (Its x) [s1.heap.objs.size] s1.heap.objs.size (fun i h=>h.IsStrIter s1.heap.objs.size ty x t i) ->
   PIE X pins σ (.Name n p) R (.ref s1.heap.objs.size) { s1 with heap:=s1.heap.push o }:=fun ty o st T=>by
  refine ⟨s1.heap.objs.size,[s1.heap.objs.size],_,_,H1,rfl,I1.kept (t':=s1.toks) fun b o e=>qr _ e,T,st,fun b hb=>?_,q⟩
  have e:b=s1.heap.objs.size:=by simpa using hb
  subst e
  exact I1.fpOk (qu _) (I1.hok.fresh (qu _))
 cases ha:x.cps.all (· < 128)
 ·exact wpAny_pyIter_wide ha (fin _ _ ⟨_,qE _ rfl,rfl,rfl⟩ (zkK _ x t (fun A' hA=>Walks.strWide hA _ x t) fun _ _ _ _ _ st h=>wpAny_pyIter_striter_wide st h))
 ·exact wpAny_pyIter_ascii ha (fin _ _ ⟨_,qE _ rfl,rfl,rfl⟩ (zkK _ x t (fun A' hA=>Walks.strAscii hA _ x t) fun _ _ _ _ _ st h=>wpAny_pyIter_striter_ascii st h))
def Ite (K:PySem.W.Frag) (a:Addr):It :=
 ⟨fun i H=>∃ xs x,SqL K H a xs/\xs[i]?=some x,fun i H v H'=>∃ T x,v=.ref T/\H T=none/\H'=upd H T (.tup [.int i,x])/\∀ xs,SqL K H a xs->xs[i]?=some x,fun i H=>∃ xs,SqL K H a xs/\xs.length<=i⟩
theorem zmg {P:Program} {w:World} {K:PySem.W.Frag} {elts:List Expr} {k1:Nat} {pos:Pos} (e it a:Addr) (hei:e≠it) :
  Turn P w K (.Tuple elts k1 pos) (Ite K a) [e,it] e (fun i h=>(∃ old,IsEnum h e it i old)/\h.IsListIter it a i) where
 mem:=by simp
 obj:=fun i h st b hb=>by
  obtain ⟨⟨old,he⟩,o,ho,c,d⟩:=st
  rcases List.mem_cons.mp hb with z | z
  ·subst z
   exact ⟨_,he,fun v z=>by cases z⟩
  ·have z':b=it:=by simpa using z
   subst z'
   exact ⟨o,ho,fun v z=>by rw [d] at z;cases z⟩
 keep:=fun i h h' st k=>by
  obtain ⟨⟨old,he⟩,hi⟩:=st
  exact ⟨⟨old,k e (by simp) _ he⟩,hi.at fun o x=>k it (by simp) o x⟩
 item:=by
  intro X hP hw hK hc i pins s σ H E I hf st hg
  subst hP hw hK
  obtain ⟨xs,x,hq,hx⟩:=hg
  obtain ⟨its,rv,p,hz⟩:=I.list hq
  obtain ⟨u,hu,ru⟩:=rv.get hx
  obtain ⟨⟨old,he⟩,hit⟩:=st
  obtain ⟨e0,e1,e2,e3,e4,e5⟩:=hf e (by simp)
  obtain ⟨f0,f1,f2,f3,f4,f5⟩:=hf it (by simp)
  have helt:e < s.heap.objs.size:=qt he
  have hilt:it < s.heap.objs.size:=by obtain ⟨_,x,_⟩:=hit;exact qt x
  refine wpAny_pyNext_enum_item he hit p.isList (x:=u) (by simpa using hu) hei fun h' ho hit' hT hsz hk=>?_
  refine ⟨_,rfl,wpAny_letOwnedTupleGo_enum ho fun h2 he2 hs2=>?_⟩
  have hs2':Heap.SameBut e h' h2:=hs2
  have kk:∀ b o,b≠e->b≠it->s.heap.get? b=some o->h2.get? b=some o:=fun b o h1 h3 q=>(hs2'.2 b h1).trans (hk b o h1 h3 q)
  have hT2:h2.get? s.heap.objs.size=some { cls:=.type "tuple",data:=.seq #[.int i s.toks,u] }:=(hs2'.2 _ (Nat.ne_of_gt helt)).trans hT
  have nH:H s.heap.objs.size=none:=I.fresh
  have I1:Inv X pins σ (upd H s.heap.objs.size (.tup [.int i,x])) { s with heap:=h2,toks:=s.toks+1 }:=by
   have ne:∀ b o,H b=some o->b≠e/\b≠it:=fun b o q=>⟨fun z=>(by rw [z,e0] at q;cases q),fun z=>(by rw [z,f0] at q;cases q)⟩
   refine I.step (g':=s.gens) (d':=s.drawn) (ch:=[e,it]) (fun b hb=>?_) (fun b o _ _ hc q _=>kk b o (fun z=>hc (by simp [z])) (fun z=>hc (by simp [z])) q) (fun b o _ _ hc q _=>⟨o.slots,kk b o (fun z=>hc (by simp [z])) (fun z=>hc (by simp [z])) q⟩) (fun b o _ q n=>?_)
    (fun b o hc q=>⟨o,kk b o (fun z=>hc (by simp [z])) (fun z=>hc (by simp [z])) q⟩) (fun b ys q=>?_) (fun b o y q=>?_) (fun b ps q=>⟨#[],?_⟩) (fun m hm=>?_) (fun b v q=>?_) I.bare
   ·rcases List.mem_cons.mp hb with z | z
    ·subst z;exact ⟨e3,e1,e4,e5⟩
    ·have z':b=it:=by simpa using z
     subst z';exact ⟨f3,f1,f4,f5⟩
   ·rw [zat (qA (qt q))];exact n
   ·rw [zat (zao q nH)];exact q
   ·rw [zat (zao q nH)];exact q
   ·rw [zat (zao q nH),q];simp
   ·obtain ⟨o,es,ep,q,r⟩:=hm
    exact ⟨o,es,ep,kk _ o (Ne.symm e1) (Ne.symm f1) q,r⟩
   ·by_cases hb:b=s.heap.objs.size
    ·subst hb
     rw [zax] at q
     cases q
     exact ⟨by show 2<=sizeLine;decide,[.int i s.toks,u],.cons ⟨_,rfl⟩ (.cons ru .nil),⟨_,hT2,rfl,_,rfl⟩⟩
    ·rw [zat hb] at q
     refine (I.hok b v q).stay (fun c v hc r=>?_) (fun c r=>by rw [zat (zao r nH)];exact r) fun c ys r=>by rw [zat (zao r nH)];exact r
     rcases hc with z | z
     ·rw [z] at r ⊢;exact kk b v (ne b _ q).1 (ne b _ q).2 r
     ·exact kk c v (ne c _ z).1 (ne c _ z).2 r
  refine ⟨.ref s.heap.objs.size,_,I1,rfl,⟨_,x,rfl,nH,rfl,fun ys hy=>by rw [I.list_inj hy hq];exact hx⟩,⟨⟨_,by simpa using he2⟩,hit'.at fun o y=>(hs2'.2 it hei.symm).trans y⟩,fun b hb=>?_⟩
  rcases List.mem_cons.mp hb with z | z
  ·subst z;rw [zat (qA helt)];exact e0
  ·have z':b=it:=by simpa using z
   subst z';rw [zat (qA hilt)];exact f0
 done:=by
  intro X hP hw hK hc i pins s σ H E I hf st hg
  subst hP hw hK
  obtain ⟨xs,hq,hx⟩:=hg
  obtain ⟨its,rv,p,hz⟩:=I.list hq
  obtain ⟨⟨old,he⟩,hit⟩:=st
  obtain ⟨f0,f1,f2,f3,f4,f5⟩:=hf it (by simp)
  have hl:=rv.length
  exact wpAny_pyNext_enum_end (I.ok.hd hc) he hit p.isList (by simp;omega) fun h' eb=>⟨rfl,I.turned (t':=s.toks) (fun b o hb e=>eb b o hb e) f0 f1 f3 f4 f5⟩
 self:=fun A i s Q E st h=>by
  obtain ⟨⟨old,he⟩,_⟩:=st
  exact wpAny_pyIter_enum he h
def zt3 (K:PySem.W.Frag) (ta:TA):TI:=fun σ H R=>ta σ H fun vs H1=>∃ a,vs=[.ref a]/\(∃ xs,SqL K H1 a xs)/\R (Ite K a) H1
theorem zqt {X:Cx} {a:Expr} {ta:TA} {p pos:Pos} {elts:List Expr} {k1:Nat} {tpos:Pos} (hg:Gl X "enumerate") (hm:X.mg "enumerate"=none) (ha:PA X [a] ta) (hs:starEach [a] X.env=[(false,eval a X.env)]:=by rfl) :
  PI X (.Tuple elts k1 tpos) (.Call (.Name "enumerate" p) [a] [] pos) (zt3 X.K ta):=by
 intro pins s σ H R I h
 refine Call_ (zh5 I hg hm PyProof.Rows.boot_enumerate (PyProof.Rows.callWith_type1 (thn (ha pos pins s σ H _ I h) fun us s1 ⟨vs,H1,I1,r1,q1⟩=>?_) hs rfl))
 obtain ⟨l,e,⟨xs,hq⟩,q⟩:=q1
 subst e
 obtain ⟨u,rfl,r2⟩:=zgA r1
 cases r2
 obtain ⟨its,rv,pl,hz⟩:=I1.list hq
 refine call_enumerate_list pl.isList fun h' he hit hsz hk=>?_
 have I2:Inv X pins σ H1 { s1 with heap:=h' }:=I1.kept (t':=s1.toks) hk
 refine wpAny_pyIter_enum he ?_
 refine ⟨s1.heap.objs.size+1,[s1.heap.objs.size+1,s1.heap.objs.size],_,_,H1,rfl,I2,zmg _ _ l (Nat.succ_ne_self _),⟨⟨_,he⟩,hit⟩,fun b hb=>?_,q⟩
 rcases List.mem_cons.mp hb with z | z
 ·subst z;exact I1.fpOk (Nat.le_succ _) (I1.hok.fresh (Nat.le_succ _))
 ·have z':b=s1.heap.objs.size:=by simpa using z
  subst z';exact I1.fpOk (qu _) (I1.hok.fresh (qu _))
end L2
end
section
namespace L2
open PySem PySem.Spec PyProof.Rows
inductive D where
 | non | bl (b:Bool) | int (i:Int) | str (x:Str) | tup (l:List D) | lst (l:List D) | flst (l:List D) | scr (ns:List Int)
 | dk (l:List (Key×D)) | dt (l:List (List Key×D)) | ins (c:Str) (fs:List (Str×D)) | ty (n:String)
structure Cn where
 cls:Str->Option Addr
 self:Option Addr:=none
mutual
inductive Rep (Γ:Cn) (K:PySem.W.Frag) (G:Hp):V->D->Prop where
 | non:Rep Γ K G .non .non
 | bl (b:Bool):Rep Γ K G (.bl b) (.bl b)
 | int (i:Int):Rep Γ K G (.int i) (.int i)
 | str (x:Str):Rep Γ K G (.str x) (.str x)
 | ty (n:String):Rep Γ K G (.ty n) (.ty n)
 | tup {a:Addr} {vs:List V} {ds:List D}:G a=some (.tup vs)->Reps Γ K G vs ds->Rep Γ K G (.ref a) (.tup ds)
 | lst {a:Addr} {vs:List V} {ds:List D}:G a=some (.lst vs)->Reps Γ K G vs ds->Rep Γ K G (.ref a) (.lst ds)
 | flst {a:Addr} {o:Obj} {vs:List V} {ds:List D}:G a=some (.frz o (.lst vs))->Reps Γ K G vs ds->Rep Γ K G (.ref a) (.flst ds)
 | scr {a:Addr} {ns:List Int}:SqL K G a (ns.map V.int)->Rep Γ K G (.ref a) (.scr ns)
 | dk {a:Addr} {us:List (Key×V)} {kvs:List (Key×D)}:G a=some (.dK us)->us.map (·.1)=kvs.map (·.1)->Reps Γ K G (us.map (·.2)) (kvs.map (·.2))->Rep Γ K G (.ref a) (.dk kvs)
 | dt {a:Addr} {us:List (List Key×V)} {kvs:List (List Key×D)}:G a=some (.dT us)->us.map (·.1)=kvs.map (·.1)->Reps Γ K G (us.map (·.2)) (kvs.map (·.2))->Rep Γ K G (.ref a) (.dt kvs)
 | ins {a C dx:Addr} {c:Str} {us:List (Str×V)} {fs:List (Str×D)}:G a=some (.ins C dx us)->Γ.cls c=some C->us.map (·.1)=fs.map (·.1)->Reps Γ K G (us.map (·.2)) (fs.map (·.2))->Rep Γ K G (.ref a) (.ins c fs)
inductive Reps (Γ:Cn) (K:PySem.W.Frag) (G:Hp):List V->List D->Prop where
 | nil:Reps Γ K G [] []
 | cons {v:V} {d:D} {vs:List V} {ds:List D}:Rep Γ K G v d->Reps Γ K G vs ds->Reps Γ K G (v::vs) (d::ds)
end
section
variable {Γ:Cn} {K:PySem.W.Frag} {G G' G1 H H' H1 H2 G2:Hp}
mutual
theorem Rep.mono:∀ {v:V} {d:D},Rep Γ K G v d->zbO G G'->Rep Γ K G' v d
 | _,_,.non,_=>.non
 | _,_,.bl b,_=>.bl b
 | _,_,.int i,_=>.int i
 | _,_,.str x,_=>.str x
 | _,_,.ty x,_=>.ty x
 | _,_,.tup h r,s=>.tup (s _ _ h) (r.mono s)
 | _,_,.lst h r,s=>.lst (s _ _ h) (r.mono s)
 | _,_,.flst h r,s=>.flst (s _ _ h) (r.mono s)
 | _,_,.scr h,s=>.scr (s.seq h)
 | _,_,.dk h e r,s=>.dk (s _ _ h) e (r.mono s)
 | _,_,.dt h e r,s=>.dt (s _ _ h) e (r.mono s)
 | _,_,.ins h c e r,s=>.ins (s _ _ h) c e (r.mono s)
theorem Reps.mono:∀ {vs:List V} {ds:List D},Reps Γ K G vs ds->zbO G G'->Reps Γ K G' vs ds
 | _,_,.nil,_=>.nil
 | _,_,.cons h r,s=>.cons (h.mono s) (r.mono s)
end
mutual
theorem Rep.re {Γ':Cn} (hc:Γ'.cls=Γ.cls):∀ {v:V} {d:D},Rep Γ K G v d->Rep Γ' K G v d
 | _,_,.non=>.non
 | _,_,.bl b=>.bl b
 | _,_,.int i=>.int i
 | _,_,.str x=>.str x
 | _,_,.ty x=>.ty x
 | _,_,.tup h r=>.tup h (r.re hc)
 | _,_,.lst h r=>.lst h (r.re hc)
 | _,_,.flst h r=>.flst h (r.re hc)
 | _,_,.scr h=>.scr h
 | _,_,.dk h e r=>.dk h e (r.re hc)
 | _,_,.dt h e r=>.dt h e (r.re hc)
 | _,_,.ins h c e r=>.ins h (by rw [hc];exact c) e (r.re hc)
theorem Reps.re {Γ':Cn} (hc:Γ'.cls=Γ.cls):∀ {vs:List V} {ds:List D},Reps Γ K G vs ds->Reps Γ' K G vs ds
 | _,_,.nil=>.nil
 | _,_,.cons h r=>.cons (h.re hc) (r.re hc)
end
theorem Reps.length:∀ {vs:List V} {ds:List D},Reps Γ K G vs ds->vs.length=ds.length
 | _,_,.nil=>rfl
 | _,_,.cons _ r=>by rw [qh,qh,r.length]
theorem Reps.get:∀ {vs:List V} {ds:List D} {i:Nat} {d:D},Reps Γ K G vs ds->ds[i]?=some d->∃ v,vs[i]?=some v/\Rep Γ K G v d
 | _,_,_,_,.nil,e=>by simp at e
 | _,_,0,_,.cons r _,e=>by simp at e;subst e;exact ⟨_,rfl,r⟩
 | _,_,i+1,d,.cons _ t,e=>by
  obtain ⟨u,h1,h2⟩:=Reps.get (i:=i) (d:=d) t (by simpa using e)
  exact ⟨u,by simpa using h1,h2⟩
theorem Reps.append:∀ {vs ws:List V} {ds es:List D},Reps Γ K G vs ds->Reps Γ K G ws es->Reps Γ K G (vs++ws) (ds++es)
 | _,_,_,_,.nil,s=>s
 | _,_,_,_,.cons r t,s=>.cons r (t.append s)
theorem Reps.take:∀ {vs:List V} {ds:List D} (n:Nat),Reps Γ K G vs ds->Reps Γ K G (vs.take n) (ds.take n)
 | _,_,0,_=>.nil
 | _,_,_+1,.nil=>.nil
 | _,_,n+1,.cons r t=>.cons r (t.take n)
theorem Reps.drop:∀ {vs:List V} {ds:List D} (n:Nat),Reps Γ K G vs ds->Reps Γ K G (vs.drop n) (ds.drop n)
 | _,_,0,r=>r
 | _,_,_+1,.nil=>.nil
 | _,_,n+1,.cons _ t=>t.drop n
theorem Reps.ints:∀ (ns:List Int),Reps Γ K G (ns.map V.int) (ns.map D.int)
 | []=>.nil
 | n::r=>.cons (.int n) (Reps.ints r)
theorem Reps.rep {vs:List V} {ds:List D} (h:Reps Γ K G vs ds):∀ k:Nat,Reps Γ K G (List.replicate k vs).flatten (List.replicate k ds).flatten
 | 0=>.nil
 | k+1=>by
  rw [List.replicate_succ,List.replicate_succ,List.flatten_cons,List.flatten_cons]
  exact h.append (Reps.rep h k)
structure Step (G H G' H':Hp):Prop where
 hh:zbO H H'
 gg:zbO G G'
 gh:zbO G' H'
 out:∀ a o,H a=some o->G' a=G a
theorem Step.refl (gh:zbO G H):Step G H G H:=⟨.refl _,.refl _,gh,fun _ _ _=>rfl⟩
theorem Step.trans (a:Step G H G1 H1) (b:Step G1 H1 G2 H2):Step G H G2 H2 :=
 ⟨a.hh.trans b.hh,a.gg.trans b.gg,b.gh,fun c o e=>(b.out c o (a.hh c o e)).trans (a.out c o e)⟩
theorem Step.new {p:Addr} {o:HO} (gh:zbO G H) (hp:H p=none):Step G H (upd G p o) (upd H p o):=by
 have gp:G p=none:=gh.free hp
 refine ⟨fun b u e=>?_,fun b u e=>?_,fun b u e=>?_,fun b u e=>?_⟩
 ·rw [zat (zao e hp)];exact e
 ·rw [zat (zao e gp)];exact e
 ·by_cases hb:b=p
  ·subst hb;rw [zax] at e ⊢;exact e
  ·rw [zat hb] at e ⊢;exact gh b u e
 ·rw [zat (zao e hp)]
theorem Step.newOwn {p:Addr} {o:HO} (gh:zbO G H) (hp:H p=none):Step G H G (upd H p o):=by
 refine ⟨fun b u e=>?_,.refl _,fun b u e=>?_,fun _ _ _=>rfl⟩
 ·rw [zat (zao e hp)];exact e
 ·rw [zat (zao (gh b u e) hp)];exact gh b u e
end
inductive Slot where
 | sh (d:D)
 | own (ds:List D)
 | obj (c:Str) (fs:List (Str×D))
 | objd (c:Str) (fs:List (Str×D)) (n:Str) (kvs:List (Key×D))
 | odk (kvs:List (Key×D))
 | odt (kvs:List (List Key×D))
 | tlo (ds es:List D)
 | pin (a:Addr)
 | oll (dss:List (List D))
abbrev zaY:=List (Option Slot)
def zt9:D->Bool
 | .non=>true
 | .bl _=>true
 | .int _=>true
 | .str _=>true
 | _=>false
def zhp (H:Hp):List Addr->List (List V)->Prop
 | [],[]=>True
 | p::ps,vs::vss=>H p=some (.lst vs)/\zhp H ps vss
 | _,_=>False
def zn7 (Γ:Cn) (K:PySem.W.Frag) (G:Hp):List (List V)->List (List D)->Prop
 | [],[]=>True
 | vs::vss,ds::dss=>Reps Γ K G vs ds/\zn7 Γ K G vss dss
 | _,_=>False
theorem zhp.mem {H:Hp}:∀ {ps:List Addr} {vss:List (List V)},zhp H ps vss->∀ b∈ps,∃ o,H b=some o
 | [],_,_,b,hb=>by cases hb
 | p::ps,[],h,b,hb=>h.elim
 | p::ps,vs::vss,h,b,hb=>by
  rcases List.mem_cons.mp hb with rfl | hb
  ·exact ⟨_,h.1⟩
  ·exact h.2.mem b hb
theorem zhp.stay {H H':Hp}:∀ {ps:List Addr} {vss:List (List V)},zhp H ps vss->(∀ b∈ps,H' b=H b)->zhp H' ps vss
 | [],[],_,_=>trivial
 | [],_::_,h,_=>h.elim
 | p::ps,[],h,_=>h.elim
 | p::ps,vs::vss,h,e=>⟨(e p qf).trans h.1,h.2.stay fun b hb=>e b (qg _ hb)⟩
theorem zn7.map {Γ:Cn} {K:PySem.W.Frag} {G G':Hp} (f:∀ {vs:List V} {ds:List D},Reps Γ K G vs ds->Reps Γ K G' vs ds):∀ {vss:List (List V)} {dss:List (List D)},zn7 Γ K G vss dss->zn7 Γ K G' vss dss
 | [],[],_=>trivial
 | [],_::_,h=>h.elim
 | _::_,[],h=>h.elim
 | _::_,_::_,h=>⟨f h.1,h.2.map f⟩
theorem zkT:∀ {ps qs:List Addr},ps.map V.ref=qs.map V.ref->ps=qs
 | [],[],_=>rfl
 | [],_::_,h=>by cases h
 | _::_,[],h=>by cases h
 | p::ps,q::qs,h=>by
  have h1:=List.cons.inj h
  rw [V.ref.inj h1.1,zkT h1.2]
inductive SR (Γ:Cn) (K:PySem.W.Frag) (H₀ G H:Hp):Slot->V->List Addr->Prop where
 | sh {d:D} {v:V}:Rep Γ K G v d->SR Γ K H₀ G H (.sh d) v []
 | own {a:Addr} {vs:List V} {ds:List D}:H₀ a=none->G a=none->H a=some (.lst vs)->Reps Γ K G vs ds->SR Γ K H₀ G H (.own ds) (.ref a) [a]
 | obj {c:Str} {a C dx:Addr} {vs:List (Str×V)} {fs:List (Str×D)}:Γ.cls c=some C->H₀ a=none->G a=none->H a=some (.ins C dx vs)->vs.map (·.1)=fs.map (·.1)->Reps Γ K G (vs.map (·.2)) (fs.map (·.2))->Γ.self=some a->SR Γ K H₀ G H (.obj c fs) (.ref a) [a]
 | objd {c n:Str} {a C dx p:Addr} {vs:List (Str×V)} {fs:List (Str×D)} {us:List (Key×V)} {kvs:List (Key×D)}:Γ.cls c=some C->H₀ a=none->G a=none->H a=some (.ins C dx (vs++[(n,.ref p)]))->vs.map (·.1)=fs.map (·.1)->Reps Γ K G (vs.map (·.2)) (fs.map (·.2)) ->
   H₀ p=none->G p=none->H p=some (.dK us)->us.map (·.1)=kvs.map (·.1)->Reps Γ K G (us.map (·.2)) (kvs.map (·.2))->Γ.self=some a->SR Γ K H₀ G H (.objd c fs n kvs) (.ref a) [a,p]
 | odk {a:Addr} {us:List (Key×V)} {kvs:List (Key×D)}:H₀ a=none->G a=none->H a=some (.dK us)->us.map (·.1)=kvs.map (·.1)->Reps Γ K G (us.map (·.2)) (kvs.map (·.2))->SR Γ K H₀ G H (.odk kvs) (.ref a) [a]
 | odt {a:Addr} {us:List (List Key×V)} {kvs:List (List Key×D)}:H₀ a=none->G a=none->H a=some (.dT us)->us.map (·.1)=kvs.map (·.1)->Reps Γ K G (us.map (·.2)) (kvs.map (·.2))->SR Γ K H₀ G H (.odt kvs) (.ref a) [a]
 | tlo {t p:Addr} {vs ws:List V} {ds es:List D}:H₀ p=none->G p=none->H p=some (.lst ws)->G t=some (.tup (vs++[.ref p]))->Reps Γ K G vs ds->Reps Γ K G ws es->SR Γ K H₀ G H (.tlo ds es) (.ref t) [p]
 | pin (a:Addr):SR Γ K H₀ G H (.pin a) (.ref a) []
 | oll {a:Addr} {ps:List Addr} {vss:List (List V)} {dss:List (List D)}:(∀ b∈a::ps,H₀ b=none/\G b=none)->(a::ps).Nodup->H a=some (.lst (ps.map V.ref))->zhp H ps vss->zn7 Γ K G vss dss->SR Γ K H₀ G H (.oll dss) (.ref a) (a::ps)
section
variable {Γ:Cn} {K:PySem.W.Frag} {H₀ G G' H H':Hp} {s:Slot} {v:V} {fp:List Addr}
theorem SR.fpt (r:SR Γ K H₀ G H s v fp):∀ b∈fp,H₀ b=none/\G b=none/\∃ o,H b=some o:=by
 cases r with
 | sh r=>intro b hb;cases hb
 | own h1 h2 h3 _=>intro b hb;rw [List.mem_singleton.mp hb];exact ⟨h1,h2,_,h3⟩
 | obj _ h1 h2 h3 _ _ _=>intro b hb;rw [List.mem_singleton.mp hb];exact ⟨h1,h2,_,h3⟩
 | objd _ h1 h2 h3 _ _ q1 q2 q3 _ _ _ =>
  intro b hb
  rcases List.mem_cons.mp hb with rfl | hb
  ·exact ⟨h1,h2,_,h3⟩
  ·rw [List.mem_singleton.mp hb];exact ⟨q1,q2,_,q3⟩
 | odk h1 h2 h3 _ _=>intro b hb;rw [List.mem_singleton.mp hb];exact ⟨h1,h2,_,h3⟩
 | odt h1 h2 h3 _ _=>intro b hb;rw [List.mem_singleton.mp hb];exact ⟨h1,h2,_,h3⟩
 | tlo h1 h2 h3 _ _ _=>intro b hb;rw [List.mem_singleton.mp hb];exact ⟨h1,h2,_,h3⟩
 | pin a=>intro b hb;cases hb
 | oll h1 h2 h3 h4 _ =>
  intro b hb
  refine ⟨(h1 b hb).1,(h1 b hb).2,?_⟩
  rcases List.mem_cons.mp hb with rfl | hb
  ·exact ⟨_,h3⟩
  ·exact h4.mem b hb
theorem SR.stay (r:SR Γ K H₀ G H s v fp) (gg:zbO G G') (hg:∀ b∈fp,G' b=none) (hh:∀ b∈fp,H' b=H b):SR Γ K H₀ G' H' s v fp:=by
 cases r with
 | sh r=>exact .sh (r.mono gg)
 | own h1 h2 h3 h4=>exact .own h1 (hg _ (List.mem_singleton.mpr rfl)) ((hh _ (List.mem_singleton.mpr rfl)).trans h3) (h4.mono gg)
 | obj c h1 h2 h3 h4 h5 hs=>exact .obj c h1 (hg _ (List.mem_singleton.mpr rfl)) ((hh _ (List.mem_singleton.mpr rfl)).trans h3) h4 (h5.mono gg) hs
 | objd c h1 h2 h3 h4 h5 q1 q2 q3 q4 q5 hs =>
  exact .objd c h1 (hg _ qf) ((hh _ qf).trans h3) h4 (h5.mono gg) q1 (hg _ (qg _ qf)) ((hh _ (qg _ qf)).trans q3) q4 (q5.mono gg) hs
 | odk h1 h2 h3 h4 h5=>exact .odk h1 (hg _ (List.mem_singleton.mpr rfl)) ((hh _ (List.mem_singleton.mpr rfl)).trans h3) h4 (h5.mono gg)
 | odt h1 h2 h3 h4 h5=>exact .odt h1 (hg _ (List.mem_singleton.mpr rfl)) ((hh _ (List.mem_singleton.mpr rfl)).trans h3) h4 (h5.mono gg)
 | pin a=>exact .pin a
 | oll h1 h2 h3 h4 h5=>exact .oll (fun b hb=>⟨(h1 b hb).1,hg b hb⟩) h2 ((hh _ qf).trans h3) (h4.stay fun b hb=>hh b (qg _ hb)) (h5.map fun r=>r.mono gg)
 | tlo h1 h2 h3 h4 h5 h6=>exact .tlo h1 (hg _ (List.mem_singleton.mpr rfl)) ((hh _ (List.mem_singleton.mpr rfl)).trans h3) (gg _ _ h4) (h5.mono gg) (h6.mono gg)
theorem SR.stepS (r:SR Γ K H₀ G H s v fp) (t:Step G H G' H'):SR Γ K H₀ G' H' s v fp:=r.stay t.gg (fun b hb=>by
 obtain ⟨_,h2,o,h3⟩:=r.fpt b hb
 exact (t.out b o h3).trans h2) (fun b hb=>by
 obtain ⟨_,_,o,h3⟩:=r.fpt b hb
 rw [h3];exact t.hh b o h3)
end
theorem SR.uniq {Γ:Cn} {K:PySem.W.Frag} {H₀ G H:Hp} {s:Slot} {v:V} {fp fq:List Addr} (r:SR Γ K H₀ G H s v fp) (q:SR Γ K H₀ G H s v fq):fp=fq:=by
 cases r with
 | sh r=>cases q;rfl
 | own h1 h2 h3 _=>cases q;rfl
 | obj _ h1 h2 h3 _ _ _=>cases q;rfl
 | objd _ h1 h2 h3 _ _ q1 q2 q3 _ _ _ =>
  cases q with
  | objd _ _ _ k3 _ _ _ _ _ _ _ _ =>
   rw [h3] at k3
   have z:=(HO.ins.inj (qF k3)).2.2
   have z2:=(List.append_inj' z rfl).2
   cases z2
   rfl
 | odk h1 h2 h3 _ _=>cases q;rfl
 | odt h1 h2 h3 _ _=>cases q;rfl
 | pin a=>cases q;rfl
 | oll _ _ h3 _ _ =>
  cases q with
  | oll _ _ k3 _ _ =>
   rw [h3] at k3
   rw [zkT (HO.lst.inj (qF k3))]
 | tlo _ _ _ h4 _ _ =>
  cases q with
  | tlo _ _ _ k4 _ _ =>
   rw [h4] at k4
   have z:=HO.tup.inj (qF k4)
   have z2:=(List.append_inj' z rfl).2
   cases z2
   rfl
structure EnvRel (Γ:Cn) (K:PySem.W.Frag) (H₀ G H:Hp) (ρ:zaY) (σ:St):Prop where
 len:ρ.length=σ.length
 sl:∃ fps:Nat->List Addr,(∀ (i:Nat) s,ρ[i]?=some (some s)->∃ v,σ[i]?=some (some v)/\SR Γ K H₀ G H s v (fps i)) /\
  ∀ (i j:Nat) s t,i≠j->ρ[i]?=some (some s)->ρ[j]?=some (some t)->∀ b∈fps i,b∉fps j
structure At (Γ:Cn) (K:PySem.W.Frag) (G₀ H₀ G H:Hp) (ρ:zaY) (σ:St):Prop where
 st:Step G₀ H₀ G H
 env:EnvRel Γ K H₀ G H ρ σ
def zf7 (ρ:zaY):Prop:=∀ (i:Nat) s,ρ[i]?=some (some s)->∃ d,s=.sh d
section
variable {Γ:Cn} {K:PySem.W.Frag} {G₀ H₀ G G' H H':Hp} {ρ:zaY} {σ:St}
theorem EnvRel.ofSh (len:ρ.length=σ.length) (no:zf7 ρ) (sh:∀ (i:Nat) d,ρ[i]?=some (some (.sh d))->∃ v,σ[i]?=some (some v)/\Rep Γ K G v d):EnvRel Γ K H₀ G H ρ σ :=
 ⟨len,fun _=>[],fun i s e=>by
  obtain ⟨d,rfl⟩:=no i s e
  obtain ⟨v,h1,h2⟩:=sh i d e
  exact ⟨v,h1,.sh h2⟩,fun _ _ _ _ _ _ _ b hb=>by cases hb⟩
theorem EnvRel.sh (E:EnvRel Γ K H₀ G H ρ σ) (i:Nat) (d:D) (e:ρ[i]?=some (some (.sh d))):∃ v,σ[i]?=some (some v)/\Rep Γ K G v d:=by
 obtain ⟨fps,h,_⟩:=E.sl
 obtain ⟨v,h1,h2⟩:=h i _ e
 generalize fps i=fp at h2
 cases h2 with
 | sh r=>exact ⟨v,h1,r⟩
theorem EnvRel.own (E:EnvRel Γ K H₀ G H ρ σ) (i:Nat) (ds:List D) (e:ρ[i]?=some (some (.own ds))):∃ a vs,σ[i]?=some (some (.ref a))/\H₀ a=none/\G a=none/\H a=some (.lst vs)/\Reps Γ K G vs ds:=by
 obtain ⟨fps,h,_⟩:=E.sl
 obtain ⟨v,h1,h2⟩:=h i _ e
 generalize fps i=fp at h2
 cases h2 with
 | own q1 q2 q3 q4=>exact ⟨_,_,h1,q1,q2,q3,q4⟩
theorem At.gh (A:At Γ K G₀ H₀ G H ρ σ):zbO G H:=A.st.gh
theorem At.step (A:At Γ K G₀ H₀ G H ρ σ) (s:Step G H G' H'):At Γ K G₀ H₀ G' H' ρ σ:=by
 obtain ⟨fps,h,ap⟩:=A.env.sl
 exact ⟨A.st.trans s,A.env.len,fps,fun i t e=>by
  obtain ⟨v,h1,h2⟩:=h i t e
  exact ⟨v,h1,h2.stepS s⟩,ap⟩
theorem At.put (A:At Γ K G₀ H₀ G H ρ σ) {i:Nat} {s':Slot} {v':V} {fp fp':List Addr}
  (hfp:fp=[]\/∃ s v,ρ[i]?=some (some s)/\σ[i]?=some (some v)/\SR Γ K H₀ G H s v fp)
  (hH:∀ b o,H b=some o->b∉fp->H' b=some o) (hS:SR Γ K H₀ G' H' s' v' fp') (hn:∀ b∈fp',b∈fp\/H b=none)
  (gg:zbO G G') (gh:zbO G' H') (out:∀ b o,H b=some o->b∉fp->G' b=G b) (out2:∀ b∈fp,H₀ b=none):At Γ K G₀ H₀ G' H' (ρ.set i (some s')) (σ.set i (some v')):=by
 obtain ⟨fps,h,ap⟩:=A.env.sl
 have hl:=A.env.len
 have old:∀ b∈fp,∀ j t,j≠i->ρ[j]?=some (some t)->b∉fps j:=fun b hb j t hj e=>by
  rcases hfp with rfl | ⟨s,v,h1,h2,h3⟩
  ·cases hb
  ·obtain ⟨v2,h4,h5⟩:=h i s h1
   rw [h2] at h4
   cases h4
   have efp:fp=fps i:=h3.uniq h5
   subst efp
   exact ap i j s t (Ne.symm hj) h1 e b hb
 have slj:∀ (j:Nat) t,j≠i->ρ[j]?=some (some t)->∃ v,σ[j]?=some (some v)/\SR Γ K H₀ G' H' t v (fps j):=fun j t hj e=>by
  obtain ⟨v,h1,h2⟩:=h j t e
  refine ⟨v,h1,h2.stay gg (fun b hb=>?_) (fun b hb=>?_)⟩
  ·obtain ⟨_,q2,o,q3⟩:=h2.fpt b hb
   exact (out b o q3 fun z=>old b z j t hj e hb).trans q2
  ·obtain ⟨_,_,o,q3⟩:=h2.fpt b hb
   rw [q3];exact hH b o q3 fun z=>old b z j t hj e hb
 have no2:∀ b o,H₀ b=some o->b∉fp:=fun b o e z=>by rw [out2 b z] at e;cases e
 have hst:Step G₀ H₀ G' H':=⟨fun b o e=>hH b o (A.st.hh b o e) (no2 b o e),A.st.gg.trans gg,gh,fun b o e=>(out b o (A.st.hh b o e) (no2 b o e)).trans (A.st.out b o e)⟩
 refine ⟨hst,by simp [hl],fun j=>if j=i then fp' else fps j,fun j t e=>?_,fun j k t u hjk e1 e2 b hb=>?_⟩
 ·by_cases hj:j=i
  ·subst hj
   have hlt:j < ρ.length:=by
    rcases Nat.lt_or_ge j ρ.length with q | q
    ·exact q
    ·rw [List.getElem?_eq_none (by simp;omega)] at e;cases e
   rw [List.getElem?_set_self hlt] at e
   cases e
   show ∃ v,_/\SR _ _ _ _ _ _ v (if j=j then fp' else fps j)
   rw [qW rfl]
   exact ⟨v',by rw [List.getElem?_set_self (by omega)],hS⟩
  ·rw [qw (Ne.symm hj)] at e ⊢
   show ∃ v,_/\SR _ _ _ _ _ _ v (if j=i then fp' else fps j)
   rw [qX hj]
   exact slj j t hj e
 ·have cross:∀ {k:Nat} {u:Slot},k≠i->ρ[k]?=some (some u)->∀ b∈fp',b∉fps k:=fun {k u} hk e b hb hb2=>by
   rcases hn b hb with z | z
   ·exact old b z k u hk e hb2
   ·obtain ⟨v,_,q⟩:=h k u e
    obtain ⟨_,_,o,q3⟩:=q.fpt b hb2
    rw [z] at q3;cases q3
  replace hb:b∈(if j=i then fp' else fps j):=hb
  show b∉(if k=i then fp' else fps k)
  by_cases hj:j=i
  ·subst hj
   have hk:k≠j:=Ne.symm hjk
   rw [qW rfl] at hb
   rw [qX hk]
   rw [qw hjk] at e2
   exact cross hk e2 b hb
  ·rw [qX hj] at hb
   rw [qw (Ne.symm hj)] at e1
   by_cases hk:k=i
   ·subst hk
    rw [qW rfl]
    exact fun z=>cross hj e1 b z hb
   ·rw [qX hk]
    rw [qw (Ne.symm hk)] at e2
    exact ap j k t u hjk e1 e2 b hb
theorem At.setSh (A:At Γ K G₀ H₀ G H ρ σ) {i:Nat} {v:V} {d:D} (r:Rep Γ K G v d):At Γ K G₀ H₀ G H (ρ.set i (some (.sh d))) (σ.set i (some v)) :=
 A.put (fp:=[]) (fp':=[]) (.inl rfl) (fun b o e _=>e) (.sh r) (fun b hb=>by cases hb) (.refl _) A.gh (fun _ _ _ _=>rfl) (fun b hb=>by cases hb)
theorem At.setOwn (A:At Γ K G₀ H₀ G H ρ σ) {i:Nat} {a:Addr} {vs:List V} {ds:List D} (ha:H a=none) (r:Reps Γ K G vs ds):At Γ K G₀ H₀ G (upd H a (.lst vs)) (ρ.set i (some (.own ds))) (σ.set i (some (.ref a))):=by
 have h0:H₀ a=none:=A.st.hh.free ha
 have hg:G a=none:=A.gh.free ha
 refine A.put (fp:=[]) (fp':=[a]) (.inl rfl) (fun b o e _=>by rw [zat (zao e ha)];exact e) (.own h0 hg zax r) (fun b hb=>.inr (by rw [List.mem_singleton.mp hb];exact ha)) (.refl _) (fun b o e=>?_) (fun _ _ _ _=>rfl) (fun b hb=>by cases hb)
 rw [zat (zao e hg)];exact A.gh b o e
theorem zjc {α:Type} {l:List α} {i:Nat} {x:α} (h:l[i]?=some x):l.set i x=l:=by
 apply List.ext_getElem?
 intro j
 by_cases hj:j=i
 ·subst hj
  rw [List.getElem?_set_self (List.getElem?_eq_some_iff.mp h).1,h]
 ·rw [qw (Ne.symm hj)]
theorem At.ch (A:At Γ K G₀ H₀ G H ρ σ) {i:Nat} {s s':Slot} {v:V} {fp fp':List Addr} (hi:ρ[i]?=some (some s)) (hv:σ[i]?=some (some v)) (hs:SR Γ K H₀ G H s v fp)
  (hH:∀ b o,H b=some o->b∉fp->H' b=some o) (hS:SR Γ K H₀ G' H' s' v fp') (hn:∀ b∈fp',b∈fp\/H b=none)
  (gg:zbO G G') (gh:zbO G' H') (out:∀ b o,H b=some o->b∉fp->G' b=G b):At Γ K G₀ H₀ G' H' (ρ.set i (some s')) σ:=by
 have:=A.put (i:=i) (.inr ⟨s,v,hi,hv,hs⟩) hH hS hn gg gh out fun b hb=>(hs.fpt b hb).1
 rwa [zjc hv] at this
theorem At.get (A:At Γ K G₀ H₀ G H ρ σ) {i:Nat} {s:Slot} (hi:ρ[i]?=some (some s)):∃ v fp,σ[i]?=some (some v)/\SR Γ K H₀ G H s v fp:=by
 obtain ⟨fps,h,_⟩:=A.env.sl
 obtain ⟨v,h1,h2⟩:=h i s hi
 exact ⟨v,_,h1,h2⟩
theorem At.chOwn (A:At Γ K G₀ H₀ G H ρ σ) {i:Nat} {a:Addr} {ds es:List D} {ws:List V} (hi:ρ[i]?=some (some (.own ds))) (ha:σ[i]?=some (some (.ref a))) (r:Reps Γ K G ws es):At Γ K G₀ H₀ G (upd H a (.lst ws)) (ρ.set i (some (.own es))) σ:=by
 obtain ⟨v,fp,h1,h2⟩:=A.get hi
 rw [ha] at h1
 cases h1
 cases h2 with
 | own q1 q2 q3 q4 =>
  refine A.ch hi ha (.own q1 q2 q3 q4) (fun b o e hb=>?_) (.own q1 q2 zax r) (fun b hb=>.inl hb) (.refl _) (fun b o e=>?_) (fun _ _ _ _=>rfl)
  ·rw [zat (fun z=>hb (List.mem_singleton.mpr z))];exact e
  ·rw [zat (zao e q2)];exact A.gh b o e
theorem At.freeze (A:At Γ K G₀ H₀ G H ρ σ) {i:Nat} {ds:List D} (hi:ρ[i]?=some (some (.own ds))):∃ G',zbO G G'/\At Γ K G₀ H₀ G' H (ρ.set i (some (.sh (.lst ds)))) σ:=by
 obtain ⟨v,fp,h1,h2⟩:=A.get hi
 cases h2 with
 | own q1 q2 q3 q4 =>
  rename_i a vs
  have sm:zbO G (upd G a (.lst vs)):=fun b o e=>by rw [zat (zao e q2)];exact e
  refine ⟨upd G a (.lst vs),sm,A.ch hi h1 (.own q1 q2 q3 q4) (fun b o e hb=>e) (.sh (.lst zax (q4.mono sm))) (fun b hb=>by cases hb) sm (fun b o e=>?_) (fun b o e hb=>?_)⟩
  ·by_cases hb:b=a
   ·subst hb;rw [zax] at e;cases e;exact q3
   ·rw [zat hb] at e;exact A.gh b o e
  ·rw [zat (fun z=>hb (List.mem_singleton.mpr z))]
end
end L2
end
section
namespace L2
open PySem PySem.Spec PyProof.Rows
mutual
inductive NewL (H G:Hp):V->D->Prop where
 | flat {v:V} {d:D}:zt9 d=true->NewL H G v d
 | tup {a:Addr} {vs:List V} {ds:List D}:G a=some (.tup vs)->NewLs H G vs ds->NewL H G (.ref a) (.tup ds)
 | lst {a:Addr} {vs:List V} {ds:List D}:G a=some (.lst vs)->H a=none->NewLs H G vs ds->NewL H G (.ref a) (.lst ds)
inductive NewLs (H G:Hp):List V->List D->Prop where
 | nil:NewLs H G [] []
 | cons {v:V} {d:D} {vs:List V} {ds:List D}:NewL H G v d->NewLs H G vs ds->NewLs H G (v::vs) (d::ds)
end
section
variable {H H' G G':Hp}
mutual
theorem NewL.mono:∀ {v:V} {d:D},NewL H G v d->zbO G G'->zbO H' H->NewL H' G' v d
 | _,_,.flat h,_,_=>.flat h
 | _,_,.tup h r,s,t=>.tup (s _ _ h) (r.mono s t)
 | _,_,.lst h n r,s,t=>.lst (s _ _ h) (t.free n) (r.mono s t)
theorem NewLs.mono:∀ {vs:List V} {ds:List D},NewLs H G vs ds->zbO G G'->zbO H' H->NewLs H' G' vs ds
 | _,_,.nil,_,_=>.nil
 | _,_,.cons h r,s,t=>.cons (h.mono s t) (r.mono s t)
end
end
inductive Fl where
 | nx | bk | ct | rt (d:D) | ow (ds:List D) | nw (d:D) | od (kvs:List (Key×D))
abbrev FE:=zaY->Option D
abbrev FT:=zaY->Option Bool
abbrev FA:=zaY->Option (List D)
abbrev FS:=zaY->Option (Fl×zaY)
def TD (Γ:Cn) (K:PySem.W.Frag) (f:FE):TE:=fun σ H Q=>∃ G₀ H₀ G ρ d,At Γ K G₀ H₀ G H ρ σ/\f ρ=some d/\∀ v G' H',Step G H G' H'->Rep Γ K G' v d->Q v H'
def TDt (Γ:Cn) (K:PySem.W.Frag) (f:FT):TT:=fun σ H Q=>∃ G₀ H₀ G ρ b,At Γ K G₀ H₀ G H ρ σ/\f ρ=some b/\∀ G' H',Step G H G' H'->Q b H'
def TDa (Γ:Cn) (K:PySem.W.Frag) (f:FA):TA:=fun σ H Q=>∃ G₀ H₀ G ρ ds,At Γ K G₀ H₀ G H ρ σ/\f ρ=some ds/\∀ vs G' H',Step G H G' H'->Reps Γ K G' vs ds->Q vs H'
def zu4 (Γ:Cn) (K:PySem.W.Frag) (E:Ends) (H₀ G' H':Hp) (σ':St):Fl->Prop
 | .nx=>E.nx σ' H'
 | .bk=>E.bk σ' H'
 | .ct=>E.ct σ' H'
 | .rt d=>∀ v,Rep Γ K G' v d->E.rt v H'
 | .ow ds=>∀ p vs,H₀ p=none->G' p=none->H' p=some (.lst vs)->Reps Γ K G' vs ds->E.rt (.ref p) H'
 | .nw d=>∀ v,Rep Γ K G' v d->NewL H₀ G' v d->E.rt v H'
 | .od kvs=>∀ p us,H₀ p=none->G' p=none->H' p=some (.dK us)->us.map (·.1)=kvs.map (·.1)->Reps Γ K G' (us.map (·.2)) (kvs.map (·.2))->E.rt (.ref p) H'
def TDs (Γ:Cn) (K:PySem.W.Frag) (g:FS):TS:=fun E σ H=>∃ G₀ H₀ G ρ fl ρ',At Γ K G₀ H₀ G H ρ σ/\g ρ=some (fl,ρ')/\∀ σ' G' H',zbO G G'->At Γ K G₀ H₀ G' H' ρ' σ'->zu4 Γ K E H₀ G' H' σ' fl
def TDo (Γ:Cn) (K:PySem.W.Frag) (f:FA):TE:=fun σ H Q=>∃ G₀ H₀ G ρ ds,At Γ K G₀ H₀ G H ρ σ/\f ρ=some ds/\∀ p vs G' H',Step G H G' H'->H' p=none->Reps Γ K G' vs ds->Q (.ref p) (upd H' p (.lst vs))
structure DE (Γ:Cn) (X:Cx) (e:Expr) (f:FE):Prop where
 out:PE X e (TD Γ X.K f)
structure DT (Γ:Cn) (X:Cx) (e:Expr) (f:FT):Prop where
 out:PT X e (TDt Γ X.K f)
structure DW (Γ:Cn) (X:Cx) (e:Expr) (f:FT):Prop where
 out:PW X e (TDt Γ X.K f)
structure DA (Γ:Cn) (X:Cx) (es:List Expr) (f:FA):Prop where
 out:PA X es (TDa Γ X.K f)
structure DS (Γ:Cn) (X:Cx) (st:Stmt) (g:FS):Prop where
 out:PS X st (TDs Γ X.K g)
structure DSs (Γ:Cn) (X:Cx) (st:List Stmt) (g:FS):Prop where
 out:PSs X st (TDs Γ X.K g)
structure DO (Γ:Cn) (X:Cx) (e:Expr) (f:FA):Prop where
 out:PE X e (TDo Γ X.K f)
section
variable {Γ:Cn} {X:Cx} {a b c e:Expr} {es:List Expr} {fa fb fc f:FE} {pos:Pos}
theorem PE.imp {t t':TE} (h:PE X e t) (i:∀ σ H Q,t' σ H Q->t σ H Q):PE X e t':=fun pins s σ H Q I q=>h pins s σ H Q I (i _ _ _ q)
theorem PT.imp {t t':TT} (h:PT X e t) (i:∀ σ H Q,t' σ H Q->t σ H Q):PT X e t':=fun pins s σ H Q I q=>h pins s σ H Q I (i _ _ _ q)
theorem PW.imp {t t':TT} (h:PW X e t) (i:∀ σ H Q,t' σ H Q->t σ H Q):PW X e t':=fun wh pins s σ H Q I q=>h wh pins s σ H Q I (i _ _ _ q)
theorem PA.imp {t t':TA} (h:PA X es t) (i:∀ σ H Q,t' σ H Q->t σ H Q):PA X es t':=fun p pins s σ H Q I q=>h p pins s σ H Q I (i _ _ _ q)
theorem PS.imp {st:Stmt} {t t':TS} (h:PS X st t) (i:∀ E σ H,t' E σ H->t E σ H):PS X st t':=fun pins s σ H E I q=>h pins s σ H E I (i _ _ _ q)
theorem PSs.imp {st:List Stmt} {t t':TS} (h:PSs X st t) (i:∀ E σ H,t' E σ H->t E σ H):PSs X st t':=fun pins s σ H E I q=>h pins s σ H E I (i _ _ _ q)
def vSh (i:Nat):FE:=fun ρ=>match ρ[i]? with
 | some (some (.sh d))=>some d
 | _=>none
theorem zkJ {i:Nat} {ρ:zaY} {d:D} (h:vSh i ρ=some d):ρ[i]?=some (some (.sh d)):=by
 unfold vSh at h
 split at h
 ·rename_i e;cases h;exact e
 ·cases h
theorem zac (i:Nat) {x:Str} (hN:X.N[i]?=some x:=by rfl) (hv:Vis X.env.scope x:=by first | exact Or.inl rfl | exact Or.inr (Or.inl rfl) | exact Or.inr (Or.inr rfl)) (hd:(x==("__debug__":Str))=false:=by decide)
  (hcd:(x==("__classdict__":Str))=false:=by decide):DE Γ X (.Name x pos) (vSh i):=⟨(zfr hN hv hd hcd).imp fun σ H Q ⟨G₀,H₀,G,ρ,d,A,h,k⟩=>by
 obtain ⟨v,h1,h2⟩:=A.env.sh i d (zkJ h)
 exact ⟨v,h1,k v G H (.refl A.gh) h2⟩⟩
def vC (d:D):FE:=fun _=>some d
theorem TD.const {d:D} {v:V} (r:∀ G,Rep Γ X.K G v d) (h:PE X e (tC v)):DE Γ X e (vC d):=⟨h.imp fun σ H Q ⟨G₀,H₀,G,ρ,d',A,h,k⟩=>by
 cases h
 exact k v G H (.refl A.gh) (r G)⟩
theorem zad {i j}:DE Γ X (.Constant (.int i) j pos) (vC (.int i)):=TD.const (fun _=>.int i) zdj
theorem zd1 {i j}:DE Γ X (.Constant (.bool i) j pos) (vC (.bl i)):=TD.const (fun _=>.bl i) zoz
theorem zpU {j}:DE Γ X (.Constant .none j pos) (vC .non):=TD.const (fun _=>.non) zpA
theorem zdl {i j}:DE Γ X (.Constant (.str i) j pos) (vC (.str i)):=TD.const (fun _=>.str i) zkY
theorem zce {x:Str} {i:Int} {t:Tok} (hg:Gl X x) (hm:X.mg x=some (.int i t)) (hd:(x==("__debug__":Str))=false:=by decide):DE Γ X (.Name x pos) (vC (.int i)):=TD.const (fun _=>.int i) (zqx hg hm ⟨t,rfl⟩ hd)
def b2 (g:D->D->Option D) (fa fb:FE):FE:=fun ρ=>(fa ρ).bind fun x=>(fb ρ).bind fun y=>g x y
def b1 (g:D->Option D) (fa:FE):FE:=fun ρ=>(fa ρ).bind g
def zjV (Γ:Cn) (K:PySem.W.Frag) (g:D->D->Option D) (r:R2):Prop :=
 ∀ {G H v u x y z},zbO G H->Rep Γ K G v x->Rep Γ K G u y->g x y=some z->∀ Q:VK,(∀ w G' H',Step G H G' H'->Rep Γ K G' w z->Q w H')->r v u H Q
theorem TD.two {g:D->D->Option D} {r:R2} (hr:zjV Γ X.K g r):∀ σ H Q,TD Γ X.K (b2 g fa fb) σ H Q->tOp r (TD Γ X.K fa) (TD Γ X.K fb) σ H Q:=by
 rintro σ H Q ⟨G₀,H₀,G,ρ,d,A,h,k⟩
 unfold b2 at h
 cases ha:fa ρ with
 | none=>rw [ha] at h;cases h
 | some x =>
  cases hb:fb ρ with
  | none=>rw [ha] at h;simp only [qa,hb,Option.bind_none] at h;cases h
  | some y =>
   simp only [ha,hb,qa] at h
   refine ⟨G₀,H₀,G,ρ,x,A,ha,fun v G1 H1 s1 r1=>⟨G₀,H₀,G1,ρ,y,A.step s1,hb,fun u G2 H2 s2 r2=>?_⟩⟩
   exact hr s2.gh (r1.mono s2.gg) r2 h Q fun w G' H' s r=>k w G' H' ((s1.trans s2).trans s) r
theorem zks {op:Operator} {g:D->D->Option D} {r:R2} (ho:OpR X (binaryOp op) r) (hr:zjV Γ X.K g r) (ha:DE Γ X a fa) (hb:DE Γ X b fb):DE Γ X (.BinOp a op b pos) (b2 g fa fb):=⟨(zqu ho ha.1 hb.1).imp (TD.two hr)⟩
def zbF:D->D->Option D
 | .int i,.int j=>some (.int (i+j))
 | .str x,.str y=>if x.length+y.length<=sizeLine then some (.str (x++y)) else none
 | .lst x,.lst y=>if x.length+y.length<=sizeLine then some (.lst (x++y)) else none
 | _,_=>none
def zpm:D->D->Option D
 | .int i,.int j=>some (.int (i - j))
 | _,_=>none
def zoa (x:Str) (n:Nat):Str:=⟨(List.replicate n x.cps.toList).flatten.toArray⟩
def zeF:D->D->Option D
 | .int i,.int j=>if (-(2 ^ 64) < i/\i < 2 ^ 64)\/(-(2 ^ 64) < j/\j < 2 ^ 64) then some (.int (i*j)) else none
 | .lst x,.int j=>if -(2 ^ 63)<=j/\j < 2 ^ 63/\x.length*j.toNat<=sizeLine then some (.lst (List.replicate j.toNat x).flatten) else none
 | .str x,.int j=>if 0<=j/\j < 1000/\x.length < 1000 then some (.str (zoa x j.toNat)) else none
 | _,_=>none
def ze5:D->D->Option D
 | .int i,.int j=>if 0 < j/\j < 1073741824 then some (.int (i / j)) else none
 | _,_=>none
def zcs:D->D->Option D
 | .int i,.int j=>if 0 < j then some (.int (i % j)) else none
 | _,_=>none
def zsk:D->D->Option D
 | .int i,.int j=>if 0<=j/\j<=1000000/\i.natAbs < 2 ^ 64 then some (.int (i ^ j.toNat)) else none
 | _,_=>none
theorem Rep.int_inv {K:PySem.W.Frag} {G:Hp} {v:V} {i:Int} (r:Rep Γ K G v (.int i)):v=.int i:=by cases r;rfl
theorem Rep.str_inv {K:PySem.W.Frag} {G:Hp} {v:V} {i:Str} (r:Rep Γ K G v (.str i)):v=.str i:=by cases r;rfl
theorem Rep.bl_inv {K:PySem.W.Frag} {G:Hp} {v:V} {i:Bool} (r:Rep Γ K G v (.bl i)):v=.bl i:=by cases r;rfl
theorem Rep.flst_inv {K:PySem.W.Frag} {G:Hp} {v:V} {ds:List D} (r:Rep Γ K G v (.flst ds)):∃ a o vs,v=.ref a/\G a=some (.frz o (.lst vs))/\Reps Γ K G vs ds:=by cases r with | flst h r=>exact ⟨_,_,_,rfl,h,r⟩
theorem Rep.lst_inv {K:PySem.W.Frag} {G:Hp} {v:V} {ds:List D} (r:Rep Γ K G v (.lst ds)):∃ a vs,v=.ref a/\G a=some (.lst vs)/\Reps Γ K G vs ds:=by cases r;exact ⟨_,_,rfl,by assumption,by assumption⟩
theorem Rep.tup_inv {K:PySem.W.Frag} {G:Hp} {v:V} {ds:List D} (r:Rep Γ K G v (.tup ds)):∃ a vs,v=.ref a/\G a=some (.tup vs)/\Reps Γ K G vs ds:=by cases r;exact ⟨_,_,rfl,by assumption,by assumption⟩
theorem Rep.scr_inv {K:PySem.W.Frag} {G:Hp} {v:V} {ns:List Int} (r:Rep Γ K G v (.scr ns)):∃ a,v=.ref a/\SqL K G a (ns.map V.int):=by cases r;exact ⟨_,rfl,by assumption⟩
theorem zdP {K:PySem.W.Frag} {G H:Hp} {vs:List V} {ds:List D} {Q:VK} (gh:zbO G H) (r:Reps Γ K G vs ds) (k:∀ w G' H',Step G H G' H'->Rep Γ K G' w (.lst ds)->Q w H'):∀ p,H p=none->Q (.ref p) (upd H p (.lst vs)):=fun p hp=>by
 have s:=Step.new (o:=.lst vs) gh hp
 exact k _ _ _ s (.lst zax (r.mono s.gg))
theorem ziy {K:PySem.W.Frag} {G H:Hp} {vs:List V} {ds:List D} {Q:VK} (gh:zbO G H) (r:Reps Γ K G vs ds) (k:∀ w G' H',Step G H G' H'->Rep Γ K G' w (.tup ds)->Q w H'):∀ p,H p=none->Q (.ref p) (upd H p (.tup vs)):=fun p hp=>by
 have s:=Step.new (o:=.tup vs) gh hp
 exact k _ _ _ s (.tup zax (r.mono s.gg))
theorem zo0 {K:PySem.W.Frag}:zjV Γ K zbF (fun x y H Q=>(rI0 (fun i j=>V.int (i+j)) x y H Q\/(∃ i j,x=.str i/\y=.str j/\i.length+j.length<=sizeLine/\Q (.str (i++j)) H))\/zsc x y H Q):=by
 intro G H v u x y z gh r1 r2 h Q k
 unfold zbF at h
 split at h
 ·cases h
  cases r1.int_inv;cases r2.int_inv
  exact .inl (.inl ⟨_,_,rfl,rfl,k _ G H (.refl gh) (.int _)⟩)
 ·split at h
  ·cases h
   cases r1.str_inv;cases r2.str_inv
   exact .inl (.inr ⟨_,_,rfl,rfl,by assumption,k _ G H (.refl gh) (.str _)⟩)
  ·cases h
 ·split at h
  ·rename_i hz
   cases h
   obtain ⟨a,vs,rfl,ha,ra⟩:=r1.lst_inv
   obtain ⟨b,us,rfl,hb,rb⟩:=r2.lst_inv
   exact .inr ⟨a,b,vs,us,rfl,rfl,gh _ _ ha,gh _ _ hb,by rw [ra.length,rb.length];exact hz,zdP gh (ra.append rb) k⟩
  ·cases h
 ·cases h
theorem zqI:OpR X (binaryOp .Add) (fun x y H Q=>(rI0 (fun i j=>V.int (i+j)) x y H Q\/(∃ i j,x=.str i/\y=.str j/\i.length+j.length<=sizeLine/\Q (.str (i++j)) H))\/zsc x y H Q):=(zsF.or zlP).or zmV
theorem za9 (ha:DE Γ X a fa) (hb:DE Γ X b fb):DE Γ X (.BinOp a .Add b pos) (b2 zbF fa fb):=zks zqI zo0 ha hb
theorem znG {K:PySem.W.Frag} {g:D->D->Option D} {o:Int->Int->Int} (hg:∀ x y z,g x y=some z->∃ i j,x=.int i/\y=.int j/\z=.int (o i j)):zjV Γ K g (rI0 fun i j=>V.int (o i j)):=by
 intro G H v u x y z gh r1 r2 h Q k
 obtain ⟨i,j,rfl,rfl,rfl⟩:=hg x y z h
 cases r1.int_inv;cases r2.int_inv
 exact ⟨_,_,rfl,rfl,k _ G H (.refl gh) (.int _)⟩
theorem zhc {K:PySem.W.Frag} {g:D->D->Option D} {C:Int->Int->Prop} {o:Int->Int->Int} (hg:∀ x y z,g x y=some z->∃ i j,x=.int i/\y=.int j/\C i j/\z=.int (o i j)):zjV Γ K g (rI C fun i j=>V.int (o i j)):=by
 intro G H v u x y z gh r1 r2 h Q k
 obtain ⟨i,j,rfl,rfl,hc,rfl⟩:=hg x y z h
 cases r1.int_inv;cases r2.int_inv
 exact ⟨_,_,rfl,rfl,hc,k _ G H (.refl gh) (.int _)⟩
theorem zpT (ha:DE Γ X a fa) (hb:DE Γ X b fb):DE Γ X (.BinOp a .Sub b pos) (b2 zpm fa fb):=zks zsy (znG fun x y z h=>by
 unfold zpm at h;split at h <;> cases h;exact ⟨_,_,rfl,rfl,rfl⟩) ha hb
theorem zf5 (ha:DE Γ X a fa) (hb:DE Γ X b fb):DE Γ X (.BinOp a .FloorDiv b pos) (b2 ze5 fa fb):=zks zqG (zhc fun x y z h=>by
 unfold ze5 at h;split at h
 ·split at h <;> cases h;exact ⟨_,_,rfl,rfl,by assumption,rfl⟩
 ·cases h) ha hb
theorem zbS (ha:DE Γ X a fa) (hb:DE Γ X b fb):DE Γ X (.BinOp a .Mod b pos) (b2 zcs fa fb):=zks zsD (zhc fun x y z h=>by
 unfold zcs at h;split at h
 ·split at h <;> cases h;exact ⟨_,_,rfl,rfl,by assumption,rfl⟩
 ·cases h) ha hb
theorem ztd (ha:DE Γ X a fa) (hb:DE Γ X b fb):DE Γ X (.BinOp a .Pow b pos) (b2 zsk fa fb):=zks zsA (zhc fun x y z h=>by
 unfold zsk at h;split at h
 ·split at h <;> cases h;exact ⟨_,_,rfl,rfl,by assumption,rfl⟩
 ·cases h) ha hb
theorem zlm (a:Array Nat):∀ (k:Nat) (acc:List Nat),(List.replicate k a).foldl (·++·) acc.toArray=(acc++(List.replicate k a.toList).flatten).toArray
 | 0,acc=>by simp
 | k+1,acc=>by
  rw [List.replicate_succ,List.foldl_cons,List.replicate_succ,List.flatten_cons,← List.append_assoc,← zlm a k (acc++a.toList)]
  congr 1
  simp
def zr8:R2:=fun x y H Q=>∃ z n,x=.str z/\y=.int n/\0<=n/\n < 1000/\z.length < 1000/\Q (.str (zoa z n.toNat)) H
theorem zqF:OpR X (binaryOp .Mult) zr8:=by
 intro pins s σ H x y v u Q I rx ry h
 obtain ⟨z,n,rfl,rfl,h0,h1,h2,q⟩:=h
 obtain ⟨t,rfl⟩:=rx
 obtain ⟨t',rfl⟩:=ry
 have hl:z.length*n.toNat<=1000000:=qK (Nat.mul_le_mul (Nat.le_of_lt h2) (show n.toNat<=1000 by omega)) (by decide)
 have e0:(List.replicate n.toNat z.cps).foldl (·++·) #[]=(zoa z n.toNat).cps:=by
  have:=zlm z.cps n.toNat []
  simpa [zoa] using this
 refine PySem.P.mul_str ?_ (fun h _=>?_) (fun _ _=>?_) ?_
 ·rw [qL (by omega),qL (by omega)];rfl
 ·have e:(z.length:Int)*n=((z.length*n.toNat:Nat):Int):=by rw [Int.natCast_mul];congr 1;omega
  have:(z.length:Int)<=(2 ^ 63 - 1:Int) / n:=Int.le_ediv_of_mul_le (by omega) (by rw [e];omega)
  omega
 ·unfold Builtin.Str.tooLong
  exact qL (by have:=sizeLine_eq;omega)
 ·split
  ·have:n=0:=by omega
   subst this
   exact ⟨by decide,⟨.str _,H,I.tok _,⟨_,rfl⟩,by simpa [zoa,Str.empty] using q⟩⟩
  ·split
   ·rename_i hc
    have ez:zoa z n.toNat=z:=by
     rcases Bool.or_eq_true _ _▸hc with e | e
     ·have:n=1:=by simpa using e
      subst this
      simp [zoa]
     ·have hz:z.cps=#[]:=by
       have:z.cps.size=0:=by simpa [Str.length] using e
       exact Array.eq_empty_of_size_eq_zero this
      cases z
      simp only at hz
      subst hz
      simp [zoa]
    exact ⟨.str _,H,I,⟨_,rfl⟩,by rw [← ez];exact q⟩
   ·rw [e0]
    refine ⟨?_,⟨.str _,H,I.tok _,⟨_,rfl⟩,q⟩⟩
    have e1:(zoa z n.toNat).length=n.toNat*z.length:=by
     show (List.replicate n.toNat z.cps.toList).flatten.toArray.size=_
     rw [qz,zne]
     simp [Str.length]
    show (zoa z n.toNat).length<=sizeLine
    rw [e1,Nat.mul_comm]
    have:=sizeLine_eq
    omega
theorem zoZ {K:PySem.W.Frag}:zjV Γ K zeF (fun x y H Q=>(rI ztA (fun i j=>V.int (i*j)) x y H Q\/zut x y H Q)\/zr8 x y H Q):=by
 intro G H v u x y z gh r1 r2 h Q k
 unfold zeF at h
 split at h
 ·split at h
  ·cases h
   cases r1.int_inv;cases r2.int_inv
   exact .inl (.inl ⟨_,_,rfl,rfl,by assumption,k _ G H (.refl gh) (.int _)⟩)
  ·cases h
 ·split at h
  ·rename_i hz
   cases h
   obtain ⟨a,vs,rfl,ha,ra⟩:=r1.lst_inv
   cases r2.int_inv
   exact .inl (.inr ⟨a,_,vs,rfl,rfl,gh _ _ ha,hz.1,hz.2.1,by rw [ra.length];exact hz.2.2,zdP gh (ra.rep _) k⟩)
  ·cases h
 ·split at h
  ·rename_i hz
   cases h
   cases r1.str_inv
   cases r2.int_inv
   exact .inr ⟨_,_,rfl,rfl,hz.1,hz.2.1,hz.2.2,k _ G H (.refl gh) (.str _)⟩
  ·cases h
 ·cases h
theorem zeI (ha:DE Γ X a fa) (hb:DE Γ X b fb):DE Γ X (.BinOp a .Mult b pos) (b2 zeF fa fb):=zks ((zsC.or zsz).or zqF) zoZ ha hb
end
end L2
end
section
namespace L2
open PySem PySem.Spec PyProof.Rows
section
variable {Γ:Cn} {X:Cx} {a b c e:Expr} {es:List Expr} {fa fb fc f:FE} {pos:Pos}
theorem Rep.non_inv {K:PySem.W.Frag} {G:Hp} {v:V} (r:Rep Γ K G v .non):v=.non:=by cases r;rfl
def ltS (x y:Str):Bool:=decide (x.cps.toList < y.cps.toList)
def ltD:D->D->Option D
 | .int i,.int j=>some (.bl (decide (i < j)))
 | .str x,.str y=>some (.bl (ltS x y))
 | _,_=>none
def leD:D->D->Option D
 | .int i,.int j=>some (.bl (decide (i<=j)))
 | .str x,.str y=>some (.bl (!ltS y x))
 | _,_=>none
def gtD:D->D->Option D
 | .int i,.int j=>some (.bl (decide (j < i)))
 | _,_=>none
def eqS:D->D->Option Bool
 | .int i,.int j=>some (decide (i=j))
 | .bl i,.bl j=>some (decide (i=j))
 | .str i,.str j=>some (decide (i=j))
 | .non,.non=>some true
 | .non,.int _=>some false | .int _,.non=>some false | .non,.bl _=>some false | .bl _,.non=>some false | .non,.str _=>some false | .str _,.non=>some false
 | .int _,.str _=>some false | .str _,.int _=>some false | .bl _,.str _=>some false | .str _,.bl _=>some false
 | _,_=>none
def eqD (x y:D):Option D:=(eqS x y).map D.bl
def neD (x y:D):Option D:=(eqS x y).map fun b=>D.bl (!b)
theorem zpR {K:PySem.W.Frag} {G:Hp} {v u:V} {x y:D} {k:Bool} (r1:Rep Γ K G v x) (r2:Rep Γ K G u y) (h:eqS x y=some k):ztI v u=true/\decide (v=u)=k:=by
 unfold eqS at h
 split at h <;> cases h
 ·cases r1.int_inv;cases r2.int_inv;exact ⟨rfl,by simp⟩
 ·cases r1.bl_inv;cases r2.bl_inv;exact ⟨rfl,by simp⟩
 ·cases r1.str_inv;cases r2.str_inv;exact ⟨rfl,by simp⟩
 ·cases r1.non_inv;cases r2.non_inv;exact ⟨rfl,by simp⟩
 ·cases r1.non_inv;cases r2.int_inv;exact ⟨rfl,by simp⟩
 ·cases r1.int_inv;cases r2.non_inv;exact ⟨rfl,by simp⟩
 ·cases r1.non_inv;cases r2.bl_inv;exact ⟨rfl,by simp⟩
 ·cases r1.bl_inv;cases r2.non_inv;exact ⟨rfl,by simp⟩
 ·cases r1.non_inv;cases r2.str_inv;exact ⟨rfl,by simp⟩
 ·cases r1.str_inv;cases r2.non_inv;exact ⟨rfl,by simp⟩
 ·cases r1.int_inv;cases r2.str_inv;exact ⟨rfl,by simp⟩
 ·cases r1.str_inv;cases r2.int_inv;exact ⟨rfl,by simp⟩
 ·cases r1.bl_inv;cases r2.str_inv;exact ⟨rfl,by simp⟩
 ·cases r1.str_inv;cases r2.bl_inv;exact ⟨rfl,by simp⟩
theorem zrm {K:PySem.W.Frag}:zjV Γ K eqD rEq:=by
 intro G H v u x y z gh r1 r2 h Q k
 unfold eqD at h
 cases e:eqS x y with
 | none=>rw [e] at h;cases h
 | some b =>
  rw [e] at h
  cases h
  obtain ⟨h1,h2⟩:=zpR r1 r2 e
  exact ⟨h1,by rw [h2];exact k _ G H (.refl gh) (.bl _)⟩
theorem zri {K:PySem.W.Frag}:zjV Γ K neD rNe:=by
 intro G H v u x y z gh r1 r2 h Q k
 unfold neD at h
 cases e:eqS x y with
 | none=>rw [e] at h;cases h
 | some b =>
  rw [e] at h
  cases h
  obtain ⟨h1,h2⟩:=zpR r1 r2 e
  exact ⟨h1,by rw [h2];exact k _ G H (.refl gh) (.bl _)⟩
theorem znF {K:PySem.W.Frag} {g:D->D->Option D} {o:Int->Int->Bool} (hg:∀ x y z,g x y=some z->∃ i j,x=.int i/\y=.int j/\z=.bl (o i j)):zjV Γ K g (rI0 fun i j=>V.bl (o i j)):=by
 intro G H v u x y z gh r1 r2 h Q k
 obtain ⟨i,j,rfl,rfl,rfl⟩:=hg x y z h
 cases r1.int_inv;cases r2.int_inv
 exact ⟨_,_,rfl,rfl,k _ G H (.refl gh) (.bl _)⟩
theorem zmU:OpR X (compareOp .LtE) (fun x y H Q=>∃ i j,x=.str i/\y=.str j/\Q (.bl (!ltS j i)) H):=by
 intro pins s σ H x y v u Q I rx ry h
 obtain ⟨i,j,rfl,rfl,q⟩:=h
 obtain ⟨t,rfl⟩:=rx
 obtain ⟨t',rfl⟩:=ry
 exact PySem.P.le_str (zbc I q (by simp [ltS]))
theorem zrj {K:PySem.W.Frag}:zjV Γ K ltD (fun x y H Q=>rI0 (fun i j=>V.bl (decide (i < j))) x y H Q\/∃ i j,x=.str i/\y=.str j/\Q (.bl (decide (i.cps.toList < j.cps.toList))) H):=by
 intro G H v u x y z gh r1 r2 h Q k
 unfold ltD at h
 split at h <;> cases h
 ·cases r1.int_inv;cases r2.int_inv;exact .inl ⟨_,_,rfl,rfl,k _ G H (.refl gh) (.bl _)⟩
 ·cases r1.str_inv;cases r2.str_inv;exact .inr ⟨_,_,rfl,rfl,k _ G H (.refl gh) (.bl _)⟩
theorem zrk {K:PySem.W.Frag}:zjV Γ K leD (fun x y H Q=>rI0 (fun i j=>V.bl (decide (i<=j))) x y H Q\/∃ i j,x=.str i/\y=.str j/\Q (.bl (!ltS j i)) H):=by
 intro G H v u x y z gh r1 r2 h Q k
 unfold leD at h
 split at h <;> cases h
 ·cases r1.int_inv;cases r2.int_inv;exact .inl ⟨_,_,rfl,rfl,k _ G H (.refl gh) (.bl _)⟩
 ·cases r1.str_inv;cases r2.str_inv;exact .inr ⟨_,_,rfl,rfl,k _ G H (.refl gh) (.bl _)⟩
structure CmpD (Γ:Cn) (X:Cx) (op:CmpOp) (g:D->D->Option D):Prop where
 ex:∃ r,OpR X (compareOp op) r/\zjV Γ X.K g r
theorem zrr:CmpD Γ X .Lt ltD:=⟨_,ztR.or zmT,zrj⟩
theorem ziN:CmpD Γ X .LtE leD:=⟨_,ztS.or zmU,zrk⟩
theorem zui:CmpD Γ X .Gt gtD:=⟨_,ztT,znF fun x y z h=>by unfold gtD at h;split at h <;> cases h;exact ⟨_,_,rfl,rfl,rfl⟩⟩
theorem zhH:CmpD Γ X .Eq eqD:=⟨_,ztU,zrm⟩
theorem zuh:CmpD Γ X .NotEq neD:=⟨_,ztQ,zri⟩
theorem zfz {op:CmpOp} {g:D->D->Option D} (h:CmpD Γ X op g) (ha:DE Γ X a fa) (hb:DE Γ X b fb) (hm:behindInMarks op b=false):DE Γ X (.Compare a [op] [b] pos) (b2 g fa fb):=⟨by
 obtain ⟨r,ho,hr⟩:=h.ex
 exact (zqy ho ha.1 hb.1 hm).imp (TD.two hr)⟩
def chD (g g':D->D->Option D) (fa fb fc:FE):FE:=fun ρ=>(fa ρ).bind fun x=>(fb ρ).bind fun y=>(g x y).bind fun z=>match z with
 | .bl true=>(fc ρ).bind fun w=>g' y w
 | .bl false=>some (.bl false)
 | _=>none
theorem TD.chain {g g':D->D->Option D} {r r':R2} (hr:zjV Γ X.K g r) (hr':zjV Γ X.K g' r'):∀ σ H Q,TD Γ X.K (chD g g' fa fb fc) σ H Q->zml r r' (TD Γ X.K fa) (TD Γ X.K fb) (TD Γ X.K fc) σ H Q:=by
 rintro σ H Q ⟨G₀,H₀,G,ρ,d,A,h,k⟩
 unfold chD at h
 obtain ⟨x,ha,h⟩:=oBd h
 obtain ⟨y,hb,h⟩:=oBd h
 obtain ⟨z,hz,h⟩:=oBd h
 refine ⟨G₀,H₀,G,ρ,x,A,ha,fun v G1 H1 s1 r1=>⟨G₀,H₀,G1,ρ,y,A.step s1,hb,fun u G2 H2 s2 r2=>?_⟩⟩
 refine hr s2.gh (r1.mono s2.gg) r2 hz _ fun w G3 H3 s3 r3=>?_
 split at h
 ·cases r3.bl_inv
  obtain ⟨w,hc,h⟩:=oBd h
  refine ⟨true,rfl,zrK ⟨G₀,H₀,G3,ρ,w,((A.step s1).step s2).step s3,hc,fun q G4 H4 s4 r4=>?_⟩⟩
  exact hr' s4.gh ((r2.mono s3.gg).mono s4.gg) r4 h Q fun w' G' H' s r=>k w' G' H' ((((s1.trans s2).trans s3).trans s4).trans s) r
 ·cases r3.bl_inv
  cases h
  exact ⟨false,rfl,zpK (k _ G3 H3 ((s1.trans s2).trans s3) (.bl _))⟩
 ·cases h
theorem ziJ {op op':CmpOp} {g g':D->D->Option D} (h:CmpD Γ X op g) (h':CmpD Γ X op' g') (ha:DE Γ X a fa) (hb:DE Γ X b fb) (hc:DE Γ X c fc) (hm:lastMarks [op,op'] [b,c]=false:=by with_unfolding_all rfl) :
  DE Γ X (.Compare a [op,op'] [b,c] pos) (chD g g' fa fb fc):=⟨by
 obtain ⟨r,ho,hr⟩:=h.ex
 obtain ⟨r',ho',hr'⟩:=h'.ex
 exact (zoy ho ho' ha.1 hb.1 hc.1 hm).imp (TD.chain hr hr')⟩
def toB (f:FE):FT:=fun ρ=>(f ρ).bind fun d=>match d with
 | .bl b=>some b
 | _=>none
theorem TDt.val {f:FE}:∀ σ H Q,TDt Γ X.K (toB f) σ H Q->TD Γ X.K f σ H fun x H'=>∃ k,x=.bl k/\Q k H':=by
 rintro σ H Q ⟨G₀,H₀,G,ρ,b,A,h,k⟩
 unfold toB at h
 obtain ⟨d,hd,h⟩:=oBd h
 split at h <;> cases h
 exact ⟨G₀,H₀,G,ρ,_,A,hd,fun v G' H' s r=>⟨b,r.bl_inv,k G' H' s⟩⟩
theorem zcX {op:CmpOp} {g:D->D->Option D} (h:CmpD Γ X op g) (ha:DE Γ X a fa) (hb:DE Γ X b fb) (hm:behindInMarks op b=false):DT Γ X (.Compare a [op] [b] pos) (toB (b2 g fa fb)):=⟨by
 obtain ⟨r,ho,hr⟩:=h.ex
 exact (zqq ho ha.1 hb.1 hm).imp fun σ H Q q=>TD.two hr σ H _ (TDt.val σ H Q q)⟩
theorem zoY {op op':CmpOp} {g g':D->D->Option D} (h:CmpD Γ X op g) (h':CmpD Γ X op' g') (ha:DE Γ X a fa) (hb:DE Γ X b fb) (hc:DE Γ X c fc) (hm:lastMarks [op,op'] [b,c]=false:=by with_unfolding_all rfl) :
  DT Γ X (.Compare a [op,op'] [b,c] pos) (toB (chD g g' fa fb fc)):=⟨by
 obtain ⟨r,ho,hr⟩:=h.ex
 obtain ⟨r',ho',hr'⟩:=h'.ex
 exact (zou ho ho' ha.1 hb.1 hc.1 hm).imp fun σ H Q q=>TD.chain hr hr' σ H _ (TDt.val σ H Q q)⟩
theorem zaI (h:DE Γ X e f) (he:∀ whole,isTrue e X.env whole=(do let v ← whole;standAt e.pos;holding [v] (truthy v)):=by intro _;rfl):DT Γ X e (toB f):=⟨(zsg h.1 he).imp TDt.val⟩
def zci (f:FT):FT:=fun ρ=>(f ρ).map (!·)
def zl7 (f g:FT):FT:=fun ρ=>(f ρ).bind fun b=>if b=true then g ρ else some false
def orT (f g:FT):FT:=fun ρ=>(f ρ).bind fun b=>if b=true then some true else g ρ
variable {ft gt:FT} {zdf:List Expr}
theorem DW.dt {e:Expr} (h:DW Γ X e ft):DT Γ X e ft:=⟨h.1.pt⟩
theorem zaN (h:DT Γ X a ft):DT Γ X (.UnaryOp .Not a pos) (zci ft):=⟨(zsh h.1).imp fun σ H Q=>by
 rintro ⟨G₀,H₀,G,ρ,b,A,h,k⟩
 unfold zci at h
 obtain ⟨c,hc,h⟩:=oMd h
 exact ⟨G₀,H₀,G,ρ,c,A,hc,fun G' H' s=>by show Q (!c) H';rw [h];exact k G' H' s⟩⟩
theorem zko (h:DT Γ X a ft):DW Γ X (.BoolOp .And [a] pos) ft:=⟨zqm h.1⟩
theorem zcm (h:DT Γ X a ft):DW Γ X (.BoolOp .Or [a] pos) ft:=⟨zsd h.1⟩
theorem znz (h:DT Γ X a ft) (h':DW Γ X (.BoolOp .And (b::zdf) pos) gt):DW Γ X (.BoolOp .And (a::b::zdf) pos) (zl7 ft gt):=⟨(zse h.1 h'.1).imp fun σ H Q=>by
 rintro ⟨G₀,H₀,G,ρ,r,A,h,k⟩
 unfold zl7 at h
 obtain ⟨c,hc,h⟩:=oBd h
 refine ⟨G₀,H₀,G,ρ,c,A,hc,fun G1 H1 s1=>?_⟩
 cases c with
 | true=>exact zrK ⟨G₀,H₀,G1,ρ,r,A.step s1,by simpa using h,fun G' H' s=>k G' H' (s1.trans s)⟩
 | false =>
  rw [qX qq] at h
  cases h
  exact zpK (k _ _ s1)⟩
theorem zc1 (h:DT Γ X a ft) (h':DW Γ X (.BoolOp .Or (b::zdf) pos) gt):DW Γ X (.BoolOp .Or (a::b::zdf) pos) (orT ft gt):=⟨(ztK h.1 h'.1).imp fun σ H Q=>by
 rintro ⟨G₀,H₀,G,ρ,r,A,h,k⟩
 unfold orT at h
 obtain ⟨c,hc,h⟩:=oBd h
 refine ⟨G₀,H₀,G,ρ,c,A,hc,fun G1 H1 s1=>?_⟩
 cases c with
 | false=>exact zpK ⟨G₀,H₀,G1,ρ,r,A.step s1,by simpa using h,fun G' H' s=>k G' H' (s1.trans s)⟩
 | true =>
  rw [qW rfl] at h
  cases h
  exact zrK (k _ _ s1)⟩
def zeJ (fa fb:FE):FE:=fun ρ=>(fa ρ).bind fun d=>match d with
 | .bl true=>fb ρ
 | .bl false=>some (.bl false)
 | _=>none
def ztx (fa:FE):FE:=fun ρ=>(fa ρ).bind fun d=>match d with
 | .bl b=>some (.bl (!b))
 | _=>none
theorem zdE {op} (h:DE Γ X a fa):DE Γ X (.BoolOp op [a] pos) fa:=⟨zso h.1⟩
theorem zcQ (ha:DE Γ X a fa) (hb:DE Γ X (.BoolOp .And (b::zdf) pos) fb):DE Γ X (.BoolOp .And (a::b::zdf) pos) (zeJ fa fb):=⟨(zsr ha.1 hb.1).imp fun σ H Q=>by
 rintro ⟨G₀,H₀,G,ρ,d,A,h,k⟩
 unfold zeJ at h
 obtain ⟨x,hx,h⟩:=oBd h
 refine ⟨G₀,H₀,G,ρ,x,A,hx,fun v G1 H1 s1 r1=>?_⟩
 split at h
 ·cases r1.bl_inv
  exact ⟨true,rfl,zrK ⟨G₀,H₀,G1,ρ,d,A.step s1,h,fun w G' H' s r=>k w G' H' (s1.trans s) r⟩⟩
 ·cases r1.bl_inv
  cases h
  exact ⟨false,rfl,zpK (k _ G1 H1 s1 (.bl _))⟩
 ·cases h⟩
theorem zte (ha:DE Γ X a fa):DE Γ X (.UnaryOp .Not a pos) (ztx fa):=⟨(zsp ha.1).imp fun σ H Q=>by
 rintro ⟨G₀,H₀,G,ρ,d,A,h,k⟩
 unfold ztx at h
 obtain ⟨x,hx,h⟩:=oBd h
 refine ⟨G₀,H₀,G,ρ,x,A,hx,fun v G1 H1 s1 r1=>?_⟩
 split at h
 ·cases r1.bl_inv
  cases h
  exact ⟨_,rfl,k _ G1 H1 s1 (.bl _)⟩
 ·cases h⟩
def zaj:FA:=fun _=>some []
def zab (fa:FE) (fr:FA):FA:=fun ρ=>(fa ρ).bind fun x=>(fr ρ).map (x::·)
variable {fr:FA}
theorem zae:DA Γ X [] zaj:=⟨zbT.imp fun σ H Q=>by
 rintro ⟨G₀,H₀,G,ρ,d,A,h,k⟩
 cases h
 exact k _ G H (.refl A.gh) .nil⟩
theorem zaa (ha:DE Γ X e fa) (hr:DA Γ X es fr) (hs:starEach (e::es) X.env=(false,eval e X.env)::starEach es X.env:=by rfl):DA Γ X (e::es) (zab fa fr):=⟨(zaK ha.1 hr.1 hs).imp fun σ H Q=>by
 rintro ⟨G₀,H₀,G,ρ,d,A,h,k⟩
 unfold zab at h
 obtain ⟨x,hx,h⟩:=oBd h
 obtain ⟨xs,hxs,h⟩:=oMd h
 subst h
 exact ⟨G₀,H₀,G,ρ,x,A,hx,fun v G1 H1 s1 r1=>⟨G₀,H₀,G1,ρ,xs,A.step s1,hxs,fun vs G2 H2 s2 r2=>k _ G2 H2 (s1.trans s2) (.cons (r1.mono s2.gg) r2)⟩⟩⟩
def szF (fr:FA):FA:=fun ρ=>(fr ρ).bind fun l=>if l.length<=sizeLine then some l else none
def zaX (fr:FA):FE:=fun ρ=>(fr ρ).map D.lst
def zca (fr:FA):FE:=fun ρ=>(fr ρ).map D.tup
theorem DO.de (h:DO Γ X e fr):DE Γ X e (zaX fr):=⟨h.1.imp fun σ H Q=>by
 rintro ⟨G₀,H₀,G,ρ,d,A,h,k⟩
 unfold zaX at h
 obtain ⟨ds,hd,rfl⟩:=oMd h
 exact ⟨G₀,H₀,G,ρ,ds,A,hd,fun p vs G' H' s hp r=>zdP s.gh r (fun w G2 H2 s2 r2=>k w G2 H2 (s.trans s2) r2) p hp⟩⟩
theorem zbE (h:DA Γ X es fr):DO Γ X (.List es pos) (szF fr):=⟨(zk1 h.1).imp fun σ H Q=>by
 rintro ⟨G₀,H₀,G,ρ,d,A,h,k⟩
 unfold szF at h
 obtain ⟨ds,hd,h⟩:=oBd h
 split at h
 ·rename_i hz
  cases h
  exact ⟨G₀,H₀,G,ρ,d,A,hd,fun vs G' H' s r=>⟨by rw [r.length];exact hz,fun p hp=>k p vs G' H' s hp r⟩⟩
 ·cases h⟩
theorem zb8 {x1} (h:DA Γ X es fr):DE Γ X (.Tuple es x1 pos) (zca (szF fr)):=⟨(zkX h.1).imp fun σ H Q=>by
 rintro ⟨G₀,H₀,G,ρ,d,A,h,k⟩
 unfold zca szF at h
 obtain ⟨ds',hd',rfl⟩:=oMd h
 obtain ⟨ds,hd,h⟩:=oBd hd'
 split at h
 ·rename_i hz
  cases h
  exact ⟨G₀,H₀,G,ρ,ds',A,hd,fun vs G' H' s r=>⟨by rw [r.length];exact hz,ziy s.gh r fun w G2 H2 s2 r2=>k w G2 H2 (s.trans s2) r2⟩⟩
 ·cases h⟩
def zrB (Γ:Cn) (K:PySem.W.Frag) (g:List D->Option D) (r:List V->Hp->VK->Prop):Prop :=
 ∀ {G H vs ds z},zbO G H->Reps Γ K G vs ds->g ds=some z->∀ Q:VK,(∀ w G' H',Step G H G' H'->Rep Γ K G' w z->Q w H')->r vs H Q
def cF (g:List D->Option D) (fr:FA):FE:=fun ρ=>(fr ρ).bind g
theorem TD.call {g:List D->Option D} {r:List V->Hp->VK->Prop} (hr:zrB Γ X.K g r):∀ σ H Q,TD Γ X.K (cF g fr) σ H Q->tCB r (TDa Γ X.K fr) σ H Q:=by
 rintro σ H Q ⟨G₀,H₀,G,ρ,d,A,h,k⟩
 unfold cF at h
 obtain ⟨ds,hd,h⟩:=oBd h
 exact ⟨G₀,H₀,G,ρ,ds,A,hd,fun vs G1 H1 s1 r1=>hr s1.gh r1 h Q fun w G' H' s r=>k w G' H' (s1.trans s) r⟩
structure BltD (Γ:Cn) (X:Cx) (id:String) (g:List D->Option D):Prop where
 ex:∃ r,zff X (.builtin id) r/\zrB Γ X.K g r
structure TyD (Γ:Cn) (X:Cx) (id:String) (g:List D->Option D):Prop where
 ex:∃ r,zff X (.type id) r/\zrB Γ X.K g r
variable {x:Str} {p:Pos}
theorem zaB {id:String} {g:List D->Option D} (hc:BltD Γ X id g) (hg:Gl X x) (hm:X.mg x=none) (hv:bootBuiltins x=some (.builtin id)) (ha:DA Γ X (e::es) fr) (hn:x≠"__name__":=by decide) (hdb:(x==("__debug__":Str))=false:=by decide)
  (he:starEach (e::es) X.env=(false,eval e X.env)::starEach es X.env:=by rfl) (hpl:(backTo pos (starEach es X.env)).any (·.1)=false:=by rfl):DE Γ X (.Call (.Name x p) (e::es) [] pos) (cF g fr):=⟨by
 obtain ⟨r,h1,h2⟩:=hc.ex
 exact (zk2 h1 hg hm hv ha.1 hn hdb he hpl).imp (TD.call h2)⟩
theorem zbo {id:String} {g:List D->Option D} (hc:TyD Γ X id g) (hg:Gl X x) (hm:X.mg x=none) (hv:bootBuiltins x=some (.type id)) (ha:DA Γ X (e::es) fr) (hn:x≠"__name__":=by decide) (hdb:(x==("__debug__":Str))=false:=by decide)
  (he:starEach (e::es) X.env=(false,eval e X.env)::starEach es X.env:=by rfl) (hpl:(backTo pos (starEach es X.env)).any (·.1)=false:=by rfl):DE Γ X (.Call (.Name x p) (e::es) [] pos) (cF g fr):=⟨by
 obtain ⟨r,h1,h2⟩:=hc.ex
 exact (zjq h1 hg hm hv ha.1 hn hdb he hpl).imp (TD.call h2)⟩
theorem zhd {n:String} (hg:Gl X x) (hm:X.mg x=none) (hv:bootBuiltins x=some (.type n)) (hn:x≠"__name__":=by decide) (hd:(x==("__debug__":Str))=false:=by decide):DE Γ X (.Name x pos) (vC (.ty n)):=TD.const (fun _=>.ty n) (zqz hg hm hv rfl hn hd)
theorem Reps.one {K:PySem.W.Frag} {G:Hp} {vs:List V} {d:D} (r:Reps Γ K G vs [d]):∃ v,vs=[v]/\Rep Γ K G v d:=by
 cases r with
 | cons h t=>cases t;exact ⟨_,rfl,h⟩
theorem Reps.two {K:PySem.W.Frag} {G:Hp} {vs:List V} {d d':D} (r:Reps Γ K G vs [d,d']):∃ v u,vs=[v,u]/\Rep Γ K G v d/\Rep Γ K G u d':=by
 cases r with
 | cons h t=>cases t with
  | cons h2 t2=>cases t2;exact ⟨_,_,rfl,h,h2⟩
def ztz:List D->Option D
 | [.int i]=>some (.int (if i < 0 then -i else i))
 | _=>none
theorem ztn:BltD Γ X "abs" ztz:=⟨_,zpd,fun {G H vs ds z} gh r h Q k=>by
 unfold ztz at h
 split at h <;> cases h
 obtain ⟨v,rfl,r1⟩:=r.one
 cases r1.int_inv
 exact ⟨_,rfl,k _ G H (.refl gh) (.int _)⟩⟩
def zrI:List D->Option D
 | [.int i,.int j]=>some (.int (if j > i then j else i))
 | _=>none
theorem ztm (hc:X.calm=true):BltD Γ X "max" zrI:=⟨_,znW hc,fun {G H vs ds z} gh r h Q k=>by
 unfold zrI at h
 split at h <;> cases h
 obtain ⟨v,u,rfl,r1,r2⟩:=r.two
 cases r1.int_inv;cases r2.int_inv
 exact ⟨_,_,rfl,k _ G H (.refl gh) (.int _)⟩⟩
def zm5:List D->Option D
 | [.int i,.int j]=>some (.int (if j < i then j else i))
 | _=>none
theorem zn3 (hc:X.calm=true):BltD Γ X "min" zm5:=⟨_,znV hc,fun {G H vs ds z} gh r h Q k=>by
 unfold zm5 at h
 split at h <;> cases h
 obtain ⟨v,u,rfl,r1,r2⟩:=r.two
 cases r1.int_inv;cases r2.int_inv
 exact ⟨_,_,rfl,k _ G H (.refl gh) (.int _)⟩⟩
def zdS:List D->Option D
 | [.str x]=>if x.length<=sizeLine then some (.int (x.length:Nat)) else none
 | [.lst l]=>some (.int (l.length:Nat))
 | [.flst l]=>some (.int (l.length:Nat))
 | [.tup l]=>some (.int (l.length:Nat))
 | [.scr l]=>some (.int (l.length:Nat))
 | _=>none
theorem zdF:BltD Γ X "len" zdS:=⟨_,zpc,fun {G H vs ds z} gh r h Q k=>by
 unfold zdS at h
 split at h
 ·split at h
  ·cases h
   obtain ⟨v,rfl,r1⟩:=r.one
   cases r1.str_inv
   exact ⟨_,_,rfl,⟨by assumption,rfl⟩,k _ G H (.refl gh) (.int _)⟩
  ·cases h
 ·cases h
  obtain ⟨v,rfl,r1⟩:=r.one
  obtain ⟨a,vs,rfl,ha,rv⟩:=r1.lst_inv
  exact ⟨_,_,rfl,.inl ⟨vs,.inl (.inl (gh _ _ ha)),rfl⟩,k _ G H (.refl gh) (by rw [rv.length];exact .int _)⟩
 ·cases h
  obtain ⟨v,rfl,r1⟩:=r.one
  obtain ⟨a,o,vs,rfl,ha,rv⟩:=r1.flst_inv
  exact ⟨_,_,rfl,.inl ⟨vs,.inl (.inr ⟨_,gh _ _ ha⟩),rfl⟩,k _ G H (.refl gh) (by rw [rv.length];exact .int _)⟩
 ·cases h
  obtain ⟨v,rfl,r1⟩:=r.one
  obtain ⟨a,vs,rfl,ha,rv⟩:=r1.tup_inv
  exact ⟨_,_,rfl,.inr ⟨vs,.inl (.inl (gh _ _ ha)),rfl⟩,k _ G H (.refl gh) (by rw [rv.length];exact .int _)⟩
 ·cases h
  obtain ⟨v,rfl,r1⟩:=r.one
  obtain ⟨a,rfl,ha⟩:=r1.scr_inv
  exact ⟨_,_,rfl,.inl ⟨_,gh.seq ha,rfl⟩,k _ G H (.refl gh) (by rw [qe];exact .int _)⟩
 ·cases h⟩
def tyD:D->Option String
 | .non=>some "NoneType"
 | .bl _=>some "bool"
 | .int _=>some "int"
 | .str _=>some "str"
 | .lst _=>some "list"
 | .flst _=>some "list"
 | .tup _=>some "tuple"
 | .dk _=>some "dict"
 | .dt _=>some "dict"
 | _=>none
def zkk (t c:String):Option Bool:=if (Value.type t==Value.type c)=true then some true else if PySem.W.kitMeta c=true then Option.map (fun x=>x.contains (Value.type c)) (PySem.fastBuiltinMro t) else none
def zfZ:List D->Option D
 | [d,.ty c]=>(tyD d).bind fun t=>(zkk t c).map D.bl
 | _=>none
theorem zp1 {K:PySem.W.Frag} {G H:Hp} {v:V} {d:D} {t:String} (gh:zbO G H) (r:Rep Γ K G v d) (h:tyD d=some t):TyOf K H v (.type t):=by
 unfold tyD at h
 split at h <;> cases h
 ·cases r.non_inv;exact .non
 ·cases r.bl_inv;exact .bl _
 ·cases r.int_inv;exact .int _
 ·cases r.str_inv;exact .str _
 ·obtain ⟨a,vs,rfl,ha,_⟩:=r.lst_inv;exact .lst (gh _ _ ha)
 ·obtain ⟨a,o,vs,rfl,ha,_⟩:=r.flst_inv;exact .frz (gh _ _ ha)
 ·obtain ⟨a,vs,rfl,ha,_⟩:=r.tup_inv;exact .tup (gh _ _ ha)
 ·cases r with
  | dk h _ _=>exact .dK (gh _ _ h)
 ·cases r with
  | dt h _ _=>exact .dT (gh _ _ h)
theorem zep:BltD Γ X "isinstance" zfZ:=by
 refine ⟨fun vs H Q=>∃ v t c b,vs=[v,.ty c]/\TyOf X.K H v (.type t)/\PySem.W.kitOne X.K (.type t) (.type c)=some b/\Q (.bl b) H,?_,?_⟩
 ·intro pins s σ H xs us Q I r h
  obtain ⟨v,t,c,b,rfl,ty,hk,q⟩:=h
  obtain ⟨u,w',rfl,r1,r2⟩:=zp0 r
  cases r2
  exact znm I r1 ty hk fun tk=>⟨.bl b,H,I.tok tk,rfl,q⟩
 ·intro G H vs ds z gh r h Q k
  unfold zfZ at h
  split at h
  ·obtain ⟨t,ht,h⟩:=oBd h
   obtain ⟨b,hb,rfl⟩:=oMd h
   obtain ⟨v,u,rfl,r1,r2⟩:=r.two
   cases r2
   exact ⟨v,t,_,b,rfl,zp1 gh r1 ht,hb,k _ G H (.refl gh) (.bl _)⟩
  ·cases h
end
end L2
end
section
namespace L2
open PySem PySem.Spec PyProof.Rows
section
variable {Γ:Cn} {X:Cx} {a b c e:Expr} {es:List Expr} {fa fb fc f:FE} {fr:FA} {pos p2:Pos}
theorem Reps.atI {K:PySem.W.Frag} {G:Hp} {vs:List V} {ds:List D} {i:Int} {d:D} (r:Reps Γ K G vs ds) (h:L2.atI ds i=some d):∃ v,L2.atI vs i=some v/\Rep Γ K G v d:=by
 unfold L2.atI at h ⊢
 rw [r.length]
 cases e:ixN ds.length i with
 | none=>rw [e] at h;cases h
 | some j =>
  rw [e] at h
  obtain ⟨v,h1,h2⟩:=r.get (i:=j) (d:=d) h
  exact ⟨v,h1,h2⟩
theorem zrx {α β:Type} (g:α->β) (xs:List α) (i:Int):L2.atI (xs.map g) i=(L2.atI xs i).map g:=by
 unfold L2.atI
 rw [qe]
 cases ixN xs.length i with
 | none=>rfl
 | some j=>simp
def ixD:D->D->Option D
 | .lst l,.int i=>atI l i
 | .flst l,.int i=>atI l i
 | .tup l,.int i=>atI l i
 | .scr l,.int i=>(atI l i).map D.int
 | .str x,.int i=>if x.length<=sizeLine then (atI x.cps.toList i).map fun c=>D.str ⟨#[c]⟩ else none
 | _,_=>none
theorem zrl {K:PySem.W.Frag}:zjV Γ K ixD (rIx K):=by
 intro G H v u x y z gh r1 r2 h Q k
 unfold ixD at h
 split at h
 ·obtain ⟨a,vs,rfl,ha,rv⟩:=r1.lst_inv
  cases r2.int_inv
  obtain ⟨w,hw,rw'⟩:=rv.atI h
  exact .inl ⟨a,vs,_,w,rfl,rfl,.inl (.inl (gh _ _ ha)),hw,k w G H (.refl gh) rw'⟩
 ·obtain ⟨a,o,vs,rfl,ha,rv⟩:=r1.flst_inv
  cases r2.int_inv
  obtain ⟨w,hw,rw'⟩:=rv.atI h
  exact .inl ⟨a,vs,_,w,rfl,rfl,.inl (.inr ⟨_,gh _ _ ha⟩),hw,k w G H (.refl gh) rw'⟩
 ·obtain ⟨a,vs,rfl,ha,rv⟩:=r1.tup_inv
  cases r2.int_inv
  obtain ⟨w,hw,rw'⟩:=rv.atI h
  exact .inr (.inl ⟨a,vs,_,w,rfl,rfl,.inl (.inl (gh _ _ ha)),hw,k w G H (.refl gh) rw'⟩)
 ·obtain ⟨a,rfl,ha⟩:=r1.scr_inv
  cases r2.int_inv
  obtain ⟨n,hn,rfl⟩:=oMd h
  exact .inl ⟨a,_,_,.int n,rfl,rfl,gh.seq ha,by rw [zrx,hn];rfl,k _ G H (.refl gh) (.int _)⟩
 ·split at h
  ·cases r1.str_inv
   cases r2.int_inv
   obtain ⟨n,hn,rfl⟩:=oMd h
   exact .inr (.inr ⟨_,_,n,rfl,rfl,by assumption,hn,k _ G H (.refl gh) (.str _)⟩)
  ·cases h
 ·cases h
theorem zas (ha:DE Γ X a fa) (hb:DE Γ X b fb) (hs:zn8 b:=by intro _ _;rfl):DE Γ X (.Subscript a b pos) (b2 ixD fa fb):=⟨(zjp zgn ha.1 hb.1 hs).imp (TD.two zrl)⟩
def zjU {α:Type} (xs:List α) (lo hi:Option Int):List α:=(xs.drop (HT.sIx xs.length 0 lo)).take (HT.sIx xs.length xs.length hi - HT.sIx xs.length 0 lo)
theorem zo7 {α β:Type} (g:α->β) (xs:List α) (lo hi:Option Int):zjU (xs.map g) lo hi=(zjU xs lo hi).map g:=by
 unfold zjU
 simp
theorem Reps.cut {K:PySem.W.Frag} {G:Hp} {vs:List V} {ds:List D} (r:Reps Γ K G vs ds) (lo hi:Option Int):Reps Γ K G (zo6 vs lo hi) (zjU ds lo hi):=by
 unfold zo6 zjU
 rw [r.length]
 exact (r.drop _).take _
def zrM (x:Str) (lo hi:Option Int):Str:=⟨(zjU x.cps.toList lo hi).toArray⟩
theorem zi9 (lo hi:Option Int) (n:Nat):Builtin.Str.strSliceIndices lo hi 1 n=(List.range (HT.sIx n n hi - HT.sIx n 0 lo)).map (HT.sIx n 0 lo+·):=by
 rw [← sliceRange_one]
 unfold Builtin.Str.strSliceIndices
 have h1:∀ (o:Option Int) (d:Nat),d<=n->(match o with | none=>(d:Int) | some i=>if (1:Int) > 0 then max 0 (min (if i < 0 then i+(n:Int) else i) n) else max (-1) (min (if i < 0 then i+(n:Int) else i) ((n:Int) - 1)))=((HT.sIx n d o:Nat):Int):=fun o d hd=>by
  cases o with
  | none=>simp [HT.sIx]
  | some i =>
   simp only [HT.sIx,show (1:Int) > 0 by decide,if_true]
   by_cases h:i < 0
   ·simp only [h,if_true];omega
   ·simp only [h,if_false];omega
 have e0:=h1 lo 0 (Nat.zero_le _)
 have e1:=h1 hi n (qu _)
 rw [← e0,← e1]
 rfl
theorem zkQ (x:Str) (lo hi:Option Int):Txt.slice x lo hi=zrM x lo hi:=by
 have key:(Builtin.Str.strSliceIndices lo hi 1 x.length).filterMap (x.cps[·]?)=zjU x.cps.toList lo hi:=by
  rw [zi9,pick_run]
  unfold zjU
  rw [show x.cps.toList.length=x.length by simp [Str.length]]
 unfold Txt.slice zrM
 split
 ·rename_i h
  rw [← key]
  have hl:(Builtin.Str.strSliceIndices lo hi 1 x.length).length=x.length:=by simpa using h
  rw [zi9] at hl ⊢
  rw [pick_run]
  rw [qe,qR] at hl
  have hb:HT.sIx x.length x.length hi<=x.length:=by
   cases hi with
   | none=>simp [HT.sIx]
   | some i=>simp only [HT.sIx];split <;> omega
  have h0:HT.sIx x.length 0 lo=0\/x.length=0:=by omega
  have hx:x.cps.toList.length=x.length:=by simp [Str.length]
  have e:(x.cps.toList.drop (HT.sIx x.length 0 lo)).take (HT.sIx x.length x.length hi - HT.sIx x.length 0 lo)=x.cps.toList:=by
   rcases h0 with h0 | h0
   ·rw [h0,List.drop_zero]
    rw [h0] at hl
    exact List.take_of_length_le (by omega)
   ·have:x.cps.toList=[]:=List.length_eq_zero_iff.mp (by omega)
    rw [this];simp
  rw [e]
 ·rw [key]
def pN:zaY->Option (Option Int):=fun _=>some none
def pS (f:FE):zaY->Option (Option Int):=fun ρ=>(f ρ).bind fun d=>match d with
 | .int i=>some (some i)
 | _=>none
def TDp (Γ:Cn) (K:PySem.W.Frag) (f:zaY->Option (Option Int)):TO:=fun σ H Q=>∃ G₀ H₀ G ρ o,At Γ K G₀ H₀ G H ρ σ/\f ρ=some o/\∀ G' H',Step G H G' H'->Q o H'
structure DP (Γ:Cn) (X:Cx) (e:Option Expr) (f:zaY->Option (Option Int)):Prop where
 out:PO X e (TDp Γ X.K f)
theorem zcw:DP Γ X none pN:=⟨fun pins s σ H Q I ⟨G₀,H₀,G,ρ,o,A,h,k⟩=>by
 cases h
 exact zmE pins s σ H Q I (k G H (.refl A.gh))⟩
theorem zcv (h:DE Γ X e f):DP Γ X (some e) (pS f):=⟨fun pins s σ H Q I ⟨G₀,H₀,G,ρ,o,A,q,k⟩=>by
 unfold pS at q
 obtain ⟨d,hd,q⟩:=oBd q
 split at q <;> cases q
 exact zmD h.1 pins s σ H Q I ⟨G₀,H₀,G,ρ,_,A,hd,fun v G' H' s r=>⟨_,r.int_inv,k G' H' s⟩⟩⟩
theorem zr2:SlR X (fun x lo hi H Q=>∃ z,x=.str z/\z.length<=sizeLine/\Q (.str (zrM z lo hi)) H):=by
 intro pins s σ H x v vl vu lo hi sl Q I rx hs pl pu h
 obtain ⟨z,rfl,hz,q⟩:=h
 obtain ⟨t,rfl⟩:=rx
 refine ⟨"str",_,PySem.F.slot_str_getitem.lookup,typeIs_str _ _ _,?_⟩
 obtain ⟨l,rfl,el⟩:∃ l:Option (Int×Tok),vl=partValue l/\l.map (·.1)=lo:=by
  cases pl with
  | none=>exact ⟨none,rfl,rfl⟩
  | int i t=>exact ⟨some (i,t),rfl,rfl⟩
 obtain ⟨u,rfl,eu⟩:∃ l:Option (Int×Tok),vu=partValue l/\l.map (·.1)=hi:=by
  cases pu with
  | none=>exact ⟨none,rfl,rfl⟩
  | int i t=>exact ⟨some (i,t),rfl,rfl⟩
 refine wpAny_getItem_str_slice (l:=l) (u:=u) (st:=none) hs rfl ?_
 have e:(if ((Option.map (fun x=>x.fst) (none:Option (Int×Tok))).getD 1==1 && (slicePicked z l u none).length==z.length)=true then z else { cps:=(List.filterMap (fun x=>z.cps[x]?) (slicePicked z l u none)).toArray })=zrM z lo hi:=by
  have e0:Txt.slice z (l.map (·.1)) (u.map (·.1))=zrM z lo hi:=by
   rw [el,eu]
   exact zkQ z lo hi
  exact e0
 refine post_val_or_str ⟨?_,fun t' k=>?_⟩
 ·rw [e,← zkQ]
  exact qK (Txt.slice_le z _ _) hz
 ·rw [e]
  exact ⟨.str _,H,I.tok k,⟨_,rfl⟩,q⟩
def zhV (lo hi:Option Int):D->Option D
 | .lst l=>some (.lst (zjU l lo hi))
 | .scr l=>some (.lst ((zjU l lo hi).map D.int))
 | .tup l=>if HT.sIx l.length 0 lo=0/\HT.sIx l.length l.length hi=l.length then none else some (.tup (zjU l lo hi))
 | .str x=>if x.length<=sizeLine then some (.str (zrM x lo hi)) else none
 | _=>none
def slF (f:FE) (fl fh:zaY->Option (Option Int)):FE:=fun ρ=>(f ρ).bind fun d=>(fl ρ).bind fun l=>(fh ρ).bind fun h=>zhV l h d
variable {fl fh:zaY->Option (Option Int)} {lo hi:Option Expr}
theorem zbR (he:DE Γ X e f) (hl:DP Γ X lo fl) (hh:DP Γ X hi fh):DE Γ X (.Subscript e (.Slice lo hi none p2) pos) (slF f fl fh):=⟨(zkZ (zmp.or (zr1.or zr2)) he.1 hl.1 hh.1).imp fun σ H Q=>by
 rintro ⟨G₀,H₀,G,ρ,d,A,h,k⟩
 unfold slF at h
 obtain ⟨x,hx,h⟩:=oBd h
 obtain ⟨l,hl,h⟩:=oBd h
 obtain ⟨u,hu,h⟩:=oBd h
 refine ⟨G₀,H₀,G,ρ,x,A,hx,fun v G1 H1 s1 r1=>⟨G₀,H₀,G1,ρ,l,A.step s1,hl,fun G2 H2 s2=>⟨G₀,H₀,G2,ρ,u,(A.step s1).step s2,hu,fun G3 H3 s3=>?_⟩⟩⟩
 have s:=(s1.trans s2).trans s3
 have r:=r1.mono (s2.gg.trans s3.gg)
 have gh:=s3.gh
 unfold zhV at h
 split at h
 ·cases h
  obtain ⟨a,vs,rfl,ha,rv⟩:=r.lst_inv
  exact .inl ⟨a,vs,rfl,.inl (.inl (gh _ _ ha)),zdP gh (rv.cut l u) fun w G4 H4 s4 r4=>k w G4 H4 (s.trans s4) r4⟩
 ·cases h
  obtain ⟨a,rfl,ha⟩:=r.scr_inv
  refine .inl ⟨a,_,rfl,gh.seq ha,zdP gh ?_ fun w G4 H4 s4 r4=>k w G4 H4 (s.trans s4) r4⟩
  show Reps Γ X.K G3 (zjU _ l u) _
  rw [zo7]
  exact Reps.ints _
 ·split at h
  ·cases h
  ·rename_i hw
   cases h
   obtain ⟨a,vs,rfl,ha,rv⟩:=r.tup_inv
   exact .inr (.inl ⟨a,vs,rfl,.inl (.inl (gh _ _ ha)),by rw [rv.length];exact hw,ziy gh (rv.cut l u) fun w G4 H4 s4 r4=>k w G4 H4 (s.trans s4) r4⟩)
 ·split at h
  ·cases h
   cases r.str_inv
   exact .inr (.inr ⟨_,rfl,by assumption,k _ _ _ s (.str _)⟩)
  ·cases h
 ·cases h⟩
structure MtD (Γ:Cn) (X:Cx) (T id:String) (g:D->List D->Option D):Prop where
 ex:∃ r,MtR X id r/\∀ {G H v x vs ds z},zbO G H->Rep Γ X.K G v x->Reps Γ X.K G vs ds->g x ds=some z->∀ Q:VK,(∀ w G' H',Step G H G' H'->Rep Γ X.K G' w z->Q w H')->r v vs H Q
 ty:∀ {G H v x ds z},zbO G H->Rep Γ X.K G v x->g x ds=some z->tyV X.K T v H
variable {name:Str} {apos cpos:Pos} {o:Expr} {fo:FE}
def zrW:List D->Option (List Str)
 | []=>some []
 | .str x::r=>(zrW r).map (x::·)
 | _::_=>none
def zuW:D->List D->Option D
 | .str sep,[.lst l]=>(zrW l).bind fun ys=>if (ys.map (·.length)).sum+ys.length*sep.length<=16777216 then some (.str (Txt.join sep ys)) else none
 | _,_=>none
def zrN:List D->Option (List Bool)
 | []=>some []
 | .bl x::r=>(zrN r).map (x::·)
 | _::_=>none
theorem zn2 {K:PySem.W.Frag} {G:Hp}:∀ {vs:List V} {ds:List D} {ys:List Bool},Reps Γ K G vs ds->zrN ds=some ys->vs=ys.map V.bl
 | _,[],ys,r,h=>by cases r;cases h;rfl
 | _,d::ds,ys,.cons h1 h2,h=>by
  cases d with
  | bl x =>
   obtain ⟨zs,hz,rfl⟩:=oMd (show (zrN ds).map (x::·)=some ys from h)
   rw [h1.bl_inv,zn2 h2 hz];rfl
  | _=>cases h
def zjR:List D->Option D
 | [.lst l]=>(zrN l).map fun bs=>D.bl (bs.all id)
 | _=>none
theorem zmf:∀ {bs:List Bool} {us:List Value},zbY (bs.map V.bl) us->us=bs.map Value.bool
 | [],_,r=>by rw [qM] at r;cases r;rfl
 | y::ys,_,r=>by
  rw [ql] at r
  cases r with
  | cons r1 r2=>cases r1;rw [zmf r2];rfl
theorem zn5 (bs:List Bool):(List.range bs.length).all (fun i=>bs.getD i false)=bs.all id:=by
 rw [Bool.eq_iff_iff,List.all_eq_true,List.all_eq_true]
 constructor
 ·intro h x hx
  obtain ⟨i,hi,e⟩:=List.mem_iff_getElem.mp hx
  have:=h i (List.mem_range.mpr hi)
  simp [List.getD,hi] at this
  rw [← e];exact this
 ·intro h i hi
  have hi':=List.mem_range.mp hi
  have:=h (bs[i]) (List.getElem_mem hi')
  simp [List.getD,hi']
  exact this
theorem zoc {prog:Program} {w:World} {A:Around} {bs:List Bool}:TruthOf prog w A (fun i v=>(bs.map Value.bool).toArray[i]?=some v) (fun i=>bs.getD i false):=fun i v s Q E hP hQ=>by
 have hP':(bs.map Value.bool)[i]?=some v:=by simpa using hP
 rw [qj] at hP'
 obtain ⟨b,hb,rfl⟩:=oMd hP'
 have:bs.getD i false=b:=by simp [List.getD,hb]
 have hQ':Q (bs.getD i false) s:=hQ
 rw [this] at hQ'
 exact wpAny_truthy_bool hQ'
theorem zdX (hc:X.calm=true):BltD Γ X "all" zjR:=by
 refine ⟨fun vs H Q=>∃ (a:Addr) (bs:List Bool),vs=[.ref a]/\H a=some (.lst (bs.map V.bl))/\Q (.bl (bs.all id)) H,?_,?_⟩
 ·intro pins s σ H xs us Q I r h
  obtain ⟨a,bs,rfl,ha,q⟩:=h
  obtain ⟨u,rfl,ru⟩:=zgA r
  cases ru
  obtain ⟨its,rv,pl,_⟩:=I.list (.inl (.inl ha))
  have e:=zmf rv
  subst e
  refine call_all_walk (wpAny_pyIter_list pl.isList ?_)
  have ne:a≠s.heap.objs.size:=by obtain ⟨o,_,h1,_⟩:=pl;exact qA (qt h1)
  refine ⟨s.heap.objs.size,_,_,_,_,_,fun i=>bs.getD i false,rfl,Walks.list (A:=X.A.in1) (show X.A.in1.handled=none from I.ok.hd hc) s.heap.objs.size a ne (bs.map Value.bool).toArray,⟨⟨_,qE _ rfl,rfl,rfl⟩,pl.isList.at fun o q=>qr _ q⟩,zoc,fun h' tk hk=>?_⟩
  have e2:(bs.map Value.bool).toArray.size=bs.length:=by simp
  rw [e2,zn5]
  refine ⟨.bl _,H,I.kept fun b o z=>hk b o ?_ (qr _ z),rfl,q⟩
  intro z'
  have:b=s.heap.objs.size:=by simpa using z'
  exact absurd (qt z) (by rw [this];exact Nat.lt_irrefl _)
 ·intro G H vs ds z gh r h Q k
  unfold zjR at h
  split at h
  ·obtain ⟨bs,hb,rfl⟩:=oMd h
   obtain ⟨v,rfl,r1⟩:=r.one
   obtain ⟨a,ws,rfl,ha,rw'⟩:=r1.lst_inv
   refine ⟨a,bs,rfl,?_,k _ G H (.refl gh) (.bl _)⟩
   rw [← zn2 rw' hb]
   exact gh _ _ ha
  ·cases h
end
end L2
end
section
namespace L2
open PySem PySem.Spec PyProof.Rows
structure Yd (Γ:Cn) (K:PySem.W.Frag) (J:It) (G:Hp) (ds:List D):Prop where
 go:∀ (i:Nat) d G2 H2,ds[i]?=some d->zbO G G2->zbO G2 H2->J.go i H2/\∀ x H3,J.yld i H2 x H3->∃ G3,Step G2 H2 G3 H3/\Rep Γ K G3 x d
 stop:∀ G2 H2,zbO G G2->zbO G2 H2->J.stop ds.length H2
def TDi (Γ:Cn) (K:PySem.W.Frag) (f:FA):TI:=fun σ H R=>∃ G₀ H₀ G ρ ds,At Γ K G₀ H₀ G H ρ σ/\f ρ=some ds/\∀ J G' H',Step G H G' H'->Yd Γ K J G' ds->R J H'
structure DI (Γ:Cn) (X:Cx) (tg e:Expr) (f:FA):Prop where
 out:PI X tg e (TDi Γ X.K f)
theorem PI.imp {X:Cx} {tg e:Expr} {t t':TI} (h:PI X tg e t) (i:∀ σ H R,t' σ H R->t σ H R):PI X tg e t':=fun pins s σ H R I q=>h pins s σ H R I (i _ _ _ q)
section
variable {Γ:Cn} {X:Cx} {a b c e tg iter:Expr} {es:List Expr} {fa fb fc f:FE} {fr fi:FA} {pos p2 p:Pos}
theorem zrO {K:PySem.W.Frag} {G:Hp} {a:Addr} {vs:List V} {ds:List D} (h:G a=some (.tup vs)) (r:Reps Γ K G vs ds):Yd Γ K (Itt K a) G ds:=by
 refine ⟨fun i d G2 H2 hd g1 g2=>?_,fun G2 H2 g1 g2=>⟨vs,.inl (.inl (g2 _ _ (g1 _ _ h))),by rw [r.length];exact qu _⟩⟩
 obtain ⟨v,hv,rv⟩:=r.get hd
 refine ⟨⟨vs,v,.inl (.inl (g2 _ _ (g1 _ _ h))),hv⟩,fun x H3 ⟨e1,e2⟩=>?_⟩
 subst e1
 have:=e2 vs (.inl (.inl (g2 _ _ (g1 _ _ h))))
 rw [hv] at this
 cases this
 exact ⟨G2,.refl g2,rv.mono g1⟩
theorem zmd {K:PySem.W.Frag} {G:Hp} {a:Addr} {vs:List V} {ds:List D} (h:SqL K G a vs) (r:Reps Γ K G vs ds):Yd Γ K (Ite K a) G (ds.mapIdx fun i d=>D.tup [.int i,d]):=by
 refine ⟨fun i d G2 H2 hd g1 g2=>?_,fun G2 H2 g1 g2=>⟨vs,g2.seq (g1.seq h),by rw [List.length_mapIdx,r.length];exact qu _⟩⟩
 rw [List.getElem?_mapIdx] at hd
 obtain ⟨d',hd',rfl⟩:=oMd hd
 obtain ⟨v,hv,rv⟩:=r.get hd'
 refine ⟨⟨vs,v,g2.seq (g1.seq h),hv⟩,fun x H3 ⟨T,y,e0,hT,e1,e2⟩=>?_⟩
 subst e0
 have:=e2 vs (g2.seq (g1.seq h))
 rw [hv] at this
 cases this
 subst e1
 have s:=Step.new (o:=.tup [.int i,v]) g2 hT
 exact ⟨_,s,.tup zax (.cons (.int _) (.cons ((rv.mono g1).mono s.gg) .nil))⟩
def zjy:D->Option (List D)
 | .lst l=>some l
 | .flst l=>some l
 | .tup l=>some l
 | .scr l=>some (l.map D.int)
 | _=>none
def itF (f:FE):FA:=fun ρ=>(f ρ).bind zjy
theorem zsn {l:Expr} {tl:TE} (hl:PE X l tl):PI X tg l (fun σ H R=>tl σ H fun x H1=>(∃ a,x=.ref a/\(∃ xs,SqL X.K H1 a xs)/\R (Itl X.K a) H1)\/(∃ a,x=.ref a/\(∃ xs,SqT X.K H1 a xs)/\R (Itt X.K a) H1)):=by
 intro pins s σ H R I h
 refine thn (hl pins s σ H _ I h) fun v s1 ⟨x,H1,I1,r1,q1⟩=>?_
 rcases q1 with ⟨a,e,⟨xs,hq⟩,q⟩ | ⟨a,e,⟨xs,hq⟩,q⟩
 ·subst e
  cases r1
  obtain ⟨its,rv,p,hz⟩:=I1.list hq
  refine wpAny_pyIter_list p.isList ?_
  refine ⟨s1.heap.objs.size,[s1.heap.objs.size],_,_,H1,rfl,I1.kept (t':=s1.toks) fun b o e=>qr _ e,zi8 a _,⟨_,qE _ rfl,rfl,rfl⟩,fun b hb=>?_,q⟩
  have e:b=s1.heap.objs.size:=by simpa using hb
  subst e
  exact I1.fpOk (qu _) (I1.hok.fresh (qu _))
 ·subst e
  cases r1
  obtain ⟨its,rv,p,hz⟩:=I1.tuple hq
  refine wpAny_pyIter_tuple (show s1.heap.IsTuple a its.toArray from p) ?_
  refine ⟨s1.heap.objs.size,[s1.heap.objs.size],_,_,H1,rfl,I1.kept (t':=s1.toks) fun b o e=>qr _ e,zlC a _,⟨_,qE _ rfl,rfl,rfl⟩,fun b hb=>?_,q⟩
  have e:b=s1.heap.objs.size:=by simpa using hb
  subst e
  exact I1.fpOk (qu _) (I1.hok.fresh (qu _))
theorem zaP (h:DE Γ X iter f):DI Γ X tg iter (itF f):=⟨(zsn h.1).imp fun σ H R=>by
 rintro ⟨G₀,H₀,G,ρ,ds,A,h,k⟩
 unfold itF at h
 obtain ⟨d,hd,h⟩:=oBd h
 refine ⟨G₀,H₀,G,ρ,d,A,hd,fun v G' H' s r=>?_⟩
 unfold zjy at h
 split at h
 ·cases h
  obtain ⟨a,vs,rfl,ha,rv⟩:=r.lst_inv
  refine .inl ⟨a,rfl,⟨vs,.inl (.inl (s.gh _ _ ha))⟩,k _ G' H' s ?_⟩
  refine ⟨fun i d G2 H2 hd g1 g2=>?_,fun G2 H2 g1 g2=>⟨vs,.inl (.inl (g2 _ _ (g1 _ _ ha))),by rw [rv.length];exact qu _⟩⟩
  obtain ⟨v,hv,rv'⟩:=rv.get hd
  refine ⟨⟨vs,v,.inl (.inl (g2 _ _ (g1 _ _ ha))),hv⟩,fun x H3 ⟨e1,e2⟩=>?_⟩
  subst e1
  have:=e2 vs (.inl (.inl (g2 _ _ (g1 _ _ ha))))
  rw [hv] at this
  cases this
  exact ⟨G2,.refl g2,rv'.mono g1⟩
 ·cases h
  obtain ⟨a,o,vs,rfl,ha,rv⟩:=r.flst_inv
  refine .inl ⟨a,rfl,⟨vs,.inl (.inr ⟨_,s.gh _ _ ha⟩)⟩,k _ G' H' s ?_⟩
  refine ⟨fun i d G2 H2 hd g1 g2=>?_,fun G2 H2 g1 g2=>⟨vs,.inl (.inr ⟨_,g2 _ _ (g1 _ _ ha)⟩),by rw [rv.length];exact qu _⟩⟩
  obtain ⟨v,hv,rv'⟩:=rv.get hd
  refine ⟨⟨vs,v,.inl (.inr ⟨_,g2 _ _ (g1 _ _ ha)⟩),hv⟩,fun x H3 ⟨e1,e2⟩=>?_⟩
  subst e1
  have:=e2 vs (.inl (.inr ⟨_,g2 _ _ (g1 _ _ ha)⟩))
  rw [hv] at this
  cases this
  exact ⟨G2,.refl g2,rv'.mono g1⟩
 ·cases h
  obtain ⟨a,vs,rfl,ha,rv⟩:=r.tup_inv
  exact .inr ⟨a,rfl,⟨vs,.inl (.inl (s.gh _ _ ha))⟩,k _ G' H' s (zrO ha rv)⟩
 ·rename_i l
  cases h
  obtain ⟨a,rfl,ha⟩:=r.scr_inv
  refine .inl ⟨a,rfl,⟨_,s.gh.seq ha⟩,k _ G' H' s ?_⟩
  refine ⟨fun i d G2 H2 hd g1 g2=>?_,fun G2 H2 g1 g2=>⟨_,g2.seq (g1.seq ha),by simp⟩⟩
  rw [qj] at hd
  obtain ⟨n,hn,rfl⟩:=oMd hd
  have hv:(List.map V.int l)[i]?=some (V.int n):=by rw [qj,hn];rfl
  refine ⟨⟨_,_,g2.seq (g1.seq ha),hv⟩,fun x H3 ⟨e1,e2⟩=>?_⟩
  subst e1
  have:=e2 _ (g2.seq (g1.seq ha))
  rw [hv] at this
  cases this
  exact ⟨G2,.refl g2,.int _⟩
 ·cases h⟩
def zmq:D->Option (List D)
 | .str x=>some (x.cps.toList.map fun c=>D.str ⟨#[c]⟩)
 | _=>none
def itS (f:FE):FA:=fun ρ=>(f ρ).bind zmq
theorem ztc {n:Str} {q:Pos} (h:DE Γ X iter f):DI Γ X (.Name n q) iter (itS f):=⟨(zsm h.1).imp fun σ H R=>by
 rintro ⟨G₀,H₀,G,ρ,ds,A,h,k⟩
 unfold itS at h
 obtain ⟨d,hd,h⟩:=oBd h
 refine ⟨G₀,H₀,G,ρ,d,A,hd,fun v G' H' s r=>?_⟩
 unfold zmq at h
 split at h <;> cases h
 cases r.str_inv
 rename_i x
 refine ⟨x,rfl,k _ G' H' s ⟨fun i d G2 H2 hd g1 g2=>?_,fun G2 H2 g1 g2=>?_⟩⟩
 ·rw [qj] at hd
  obtain ⟨c,hc,rfl⟩:=oMd hd
  have hc':x.cps[i]?=some c:=by simpa using hc
  refine ⟨(Array.getElem?_eq_some_iff.mp hc').1,fun y H3 ⟨e1,c2,h2,e2⟩=>?_⟩
  subst e1
  subst e2
  rw [hc'] at h2
  cases h2
  exact ⟨G2,.refl g2,.str _⟩
 ·show _=x.cps.size
  simp⟩
def zs7:D->Option (List D)
 | .lst l=>some (l.mapIdx fun i d=>D.tup [.int i,d])
 | .scr l=>some ((l.map D.int).mapIdx fun i d=>D.tup [.int i,d])
 | _=>none
def itE (f:FE):FA:=fun ρ=>(f ρ).bind zs7
theorem ze6 {elts:List Expr} {k1:Nat} {tpos:Pos} (hg:Gl X "enumerate") (hm:X.mg "enumerate"=none) (h:DE Γ X a f) (hs:starEach [a] X.env=[(false,eval a X.env)]:=by rfl) (hs0:starEach ([a]:List Expr) X.env=(false,eval a X.env)::starEach [] X.env:=by rfl) :
  DI Γ X (.Tuple elts k1 tpos) (.Call (.Name "enumerate" p) [a] [] pos) (itE f):=⟨(zqt hg hm (zaK h.1 zbT hs0) hs).imp fun σ H R=>by
 rintro ⟨G₀,H₀,G,ρ,ds,A,h,k⟩
 unfold itE at h
 obtain ⟨d,hd,h⟩:=oBd h
 refine ⟨G₀,H₀,G,ρ,d,A,hd,fun v G' H' s r=>?_⟩
 unfold zs7 at h
 split at h
 ·cases h
  obtain ⟨a,vs,rfl,ha,rv⟩:=r.lst_inv
  exact ⟨a,rfl,⟨vs,.inl (.inl (s.gh _ _ ha))⟩,k _ G' H' s (zmd (.inl (.inl ha)) rv)⟩
 ·cases h
  obtain ⟨a,rfl,ha⟩:=r.scr_inv
  exact ⟨a,rfl,⟨_,s.gh.seq ha⟩,k _ G' H' s (zmd ha (Reps.ints _))⟩
 ·cases h⟩
theorem zkH {K:PySem.W.Frag} {G:Hp} {lo:Int} {n:Nat}:Yd Γ K (Itr lo n) G ((List.range n).map fun i:Nat=>D.int (lo+i)):=by
 refine ⟨fun i d G2 H2 hd g1 g2=>?_,fun G2 H2 g1 g2=>?_⟩
 ·rw [qj] at hd
  obtain ⟨j,hj,rfl⟩:=oMd hd
  have hi:i < n:=by
   have:=(List.getElem?_eq_some_iff.mp hj).1
   simpa using this
  have e:j=i:=by simpa [hi] using hj.symm
  subst e
  refine ⟨hi,fun x H3 ⟨e1,e2⟩=>?_⟩
  subst e1
  subst e2
  exact ⟨G2,.refl g2,.int _⟩
 ·show n<=_
  simp
def zkS:List D->Option (List D)
 | [.int j]=>if -(2 ^ 62)<=j/\j < 2 ^ 62 then some ((List.range j.toNat).map fun i:Nat=>D.int (0+i)) else none
 | _=>none
def zqk:List D->Option (List D)
 | [.int i,.int j]=>if -(2 ^ 62)<=i/\i < 2 ^ 62 /\ -(2 ^ 62)<=j/\j < 2 ^ 62 then some ((List.range (j - i).toNat).map fun k:Nat=>D.int (i+k)) else none
 | _=>none
def itR (g:List D->Option (List D)) (fr:FA):FA:=fun ρ=>(fr ρ).bind g
theorem zel (hg:Gl X "range") (hm:X.mg "range"=none) (h:DA Γ X [a] fr) (hs:starEach [a] X.env=[(false,eval a X.env)]:=by rfl):DI Γ X tg (.Call (.Name "range" p) [a] [] pos) (itR zkS fr):=⟨(zjo hg hm h.1 hs).imp fun σ H R=>by
 rintro ⟨G₀,H₀,G,ρ,ds,A,h,k⟩
 unfold itR at h
 obtain ⟨d,hd,h⟩:=oBd h
 refine ⟨G₀,H₀,G,ρ,d,A,hd,fun v G' H' s r=>?_⟩
 unfold zkS at h
 split at h
 ·split at h
  ·rename_i hz
   cases h
   obtain ⟨v,rfl,r1⟩:=r.one
   cases r1.int_inv
   exact ⟨_,rfl,hz.1,hz.2,k _ G' H' s zkH⟩
  ·cases h
 ·cases h⟩
theorem znK (hg:Gl X "range") (hm:X.mg "range"=none) (h:DA Γ X [a,b] fr) (hs:starEach [a,b] X.env=[(false,eval a X.env),(false,eval b X.env)]:=by rfl) (hs2:starEach [b] X.env=[(false,eval b X.env)]:=by rfl):DI Γ X tg (.Call (.Name "range" p) [a,b] [] pos) (itR zqk fr):=⟨(zmH hg hm h.1 hs hs2).imp fun σ H R=>by
 rintro ⟨G₀,H₀,G,ρ,ds,A,h,k⟩
 unfold itR at h
 obtain ⟨d,hd,h⟩:=oBd h
 refine ⟨G₀,H₀,G,ρ,d,A,hd,fun v G' H' s r=>?_⟩
 unfold zqk at h
 split at h
 ·split at h
  ·rename_i hz
   cases h
   obtain ⟨v,u,rfl,r1,r2⟩:=r.two
   cases r1.int_inv
   cases r2.int_inv
   exact ⟨_,_,rfl,hz,k _ G' H' s zkH⟩
  ·cases h
 ·cases h⟩
abbrev FG:=D->zaY->Option zaY
abbrev FGs:=List D->zaY->Option zaY
def TDg (Γ:Cn) (K:PySem.W.Frag) (g:FG):TG:=fun v σ H Q=>∃ G₀ H₀ G ρ d ρ',At Γ K G₀ H₀ G H ρ σ/\Rep Γ K G v d/\g d ρ=some ρ'/\∀ σ',At Γ K G₀ H₀ G H ρ' σ'->Q σ' H
def zu1 (Γ:Cn) (K:PySem.W.Frag) (g:FGs):TGs:=fun vs σ H Q=>∃ G₀ H₀ G ρ ds ρ',At Γ K G₀ H₀ G H ρ σ/\Reps Γ K G vs ds/\g ds ρ=some ρ'/\∀ σ',At Γ K G₀ H₀ G H ρ' σ'->Q σ' H
structure DG (Γ:Cn) (X:Cx) (tg:Expr) (g:FG):Prop where
 pg:PG X tg (TDg Γ X.K g)
 no:∀ d ρ ρ',g d ρ=some ρ'->zf7 ρ->zf7 ρ'
structure DGs (Γ:Cn) (X:Cx) (ts:List Expr) (g:FGs):Prop where
 pg:PGs X ts (zu1 Γ X.K g)
 no:∀ d ρ ρ',g d ρ=some ρ'->zf7 ρ->zf7 ρ'
theorem PG.imp {t t':TG} (h:PG X tg t) (i:∀ v σ H Q,t' v σ H Q->t v σ H Q):PG X tg t':=fun pins s σ H v u Q I r q=>h pins s σ H v u Q I r (i _ _ _ _ q)
theorem PGs.imp {ts:List Expr} {t t':TGs} (h:PGs X ts t) (i:∀ v σ H Q,t' v σ H Q->t v σ H Q):PGs X ts t':=fun pins s σ H v u Q I r q=>h pins s σ H v u Q I r (i _ _ _ _ q)
def zaV (i:Nat):FG:=fun d ρ=>some (ρ.set i (some (.sh d)))
theorem zmX {ρ:zaY} {i:Nat} {d:D} (h:zf7 ρ):zf7 (ρ.set i (some (.sh d))):=fun j ds e=>by
 by_cases hj:j=i
 ·subst hj
  rw [List.getElem?_set,qW rfl] at e
  split at e <;> cases e
  exact ⟨_,rfl⟩
 ·rw [qw (Ne.symm hj)] at e
  exact h j ds e
theorem zau (i:Nat) {x:Str} (hN:X.N.Nodup) (hi:X.N[i]?=some x:=by rfl) (hx:Loc X.env.scope x:=by first | exact Or.inl rfl | exact Or.inr rfl) (hf:X.fn x=true\/X.env.scope.names.lookup x=some .local:=by first | exact .inl rfl | exact .inr rfl | assumption):DG Γ X (.Name x pos) (zaV i):=by
 refine ⟨(zds hN hi hx hf).imp fun v σ H Q=>?_,fun d ρ ρ' e h=>?_⟩
 ·rintro ⟨G₀,H₀,G,ρ,d,ρ',A,r,h,k⟩
  cases h
  exact k _ (A.setSh r)
 ·cases e
  exact zmX h
def zdg:FGs:=fun ds ρ=>match ds with
 | []=>some ρ
 | _=>none
def zaR (g:FG) (gs:FGs):FGs:=fun ds ρ=>match ds with
 | d::r=>(g d ρ).bind fun ρ'=>gs r ρ'
 | _=>none
theorem zem:DGs Γ X [] zdg:=by
 refine ⟨zka.imp fun vs σ H Q=>?_,fun d ρ ρ' e h=>?_⟩
 ·rintro ⟨G₀,H₀,G,ρ,ds,ρ',A,r,h,k⟩
  unfold zdg at h
  split at h <;> cases h
  cases r
  exact ⟨rfl,k σ A⟩
 ·unfold zdg at e
  split at e <;> cases e
  exact h
theorem zbx {ts:List Expr} {g:FG} {gs:FGs} (h1:DG Γ X e g) (h2:DGs Γ X ts gs) (hs:(assignEach (e::ts) X.env).map (·.2)=assign e X.env::(assignEach ts X.env).map (·.2):=by rfl):DGs Γ X (e::ts) (zaR g gs):=by
 refine ⟨(zes h1.pg h2.pg hs).imp fun vs σ H Q=>?_,fun ds ρ ρ' e h=>?_⟩
 ·rintro ⟨G₀,H₀,G,ρ,ds,ρ',A,r,h,k⟩
  unfold zaR at h
  split at h
  ·obtain ⟨ρ1,h1,h⟩:=oBd h
   cases r with
   | cons r1 r2=>exact ⟨_,_,rfl,G₀,H₀,G,ρ,_,ρ1,A,r1,h1,fun σ1 A1=>⟨G₀,H₀,G,ρ1,_,ρ',A1,r2,h,k⟩⟩
  ·cases h
 ·unfold zaR at e
  split at e
  ·obtain ⟨ρ1,e1,e⟩:=oBd e
   exact h2.no _ _ _ e (h1.no _ _ _ e1 h)
  ·cases e
def zdh (n:Nat) (gs:FGs):FG:=fun d ρ=>match d with
 | .tup ds=>if ds.length=n then gs ds ρ else none
 | _=>none
theorem zgp {ts:List Expr} {k:Nat} {gs:FGs} {n:Nat} (hc:X.calm=true) (h:DGs Γ X ts gs) (hn:(assignEach ts X.env).length=n:=by rfl) (hst:(assignEach ts X.env).findIdx? (·.1)=none:=by rfl):DG Γ X (.Tuple ts k pos) (zdh n gs):=by
 refine ⟨(zmI hc h.pg hn hst).imp fun v σ H Q=>?_,fun ds ρ ρ' e q=>?_⟩
 ·rintro ⟨G₀,H₀,G,ρ,d,ρ',A,r,h,k⟩
  unfold zdh at h
  split at h
  ·split at h
   ·rename_i hl
    obtain ⟨a,vs,rfl,ha,rv⟩:=r.tup_inv
    exact ⟨a,vs,rfl,.inl (.inl (A.gh _ _ ha)),by rw [rv.length];exact hl,G₀,H₀,G,ρ,_,ρ',A,rv,h,k⟩
   ·cases h
  ·cases h
 ·unfold zdh at e
  split at e
  ·split at e
   ·exact h.no _ _ _ e q
   ·cases e
  ·cases e
def zhG (g:FG) (ft:FT) (fe:FE):List D->zaY->Option (List D)
 | [],_=>some []
 | x::xs,ρ=>(g x ρ).bind fun ρ1=>(ft ρ1).bind fun b=>if b=true then (fe ρ1).bind fun d=>(zhG g ft fe xs ρ1).map (d::·) else zhG g ft fe xs ρ1
def ze4 (fv:List (Option Nat)) (ρ:zaY):zaY:=fv.map fun o=>o.bind fun j=>match ρ[j]? with
 | some (some (.sh d))=>some (.sh d)
 | _=>none
def zaH (fi:FA) (g:FG) (ft:FT) (fe:FE) (fv:List (Option Nat)):FA:=fun ρ=>(fi ρ).bind fun xs=>if xs.length<=sizeLine then zhG g ft fe xs (ze4 fv ρ) else none
structure DTs (Γ:Cn) (X:Cx) (es:List Expr) (f:FT):Prop where
 out:PTs X es (TDt Γ X.K f)
theorem PTs.imp {t t':TT} (h:PTs X es t) (i:∀ σ H Q,t' σ H Q->t σ H Q):PTs X es t':=fun pins s σ H Q I q=>h pins s σ H Q I (i _ _ _ q)
def tT:FT:=fun _=>some true
theorem zaE:DTs Γ X [] tT:=⟨zqo.imp fun σ H Q=>by
 rintro ⟨G₀,H₀,G,ρ,b,A,h,k⟩
 cases h
 exact k G H (.refl A.gh)⟩
theorem znA {ft:FT} (h:DT Γ X c ft):DTs Γ X [c] ft:=⟨zqn h.1⟩
variable {scope:Scope} {N':List Str} {fv:List (Option Nat)} {g:FG} {ft:FT} {fe:FE} {ifs:List Expr} {elt:Expr}
structure DB (Γ:Cn) (X:Cx) (N':List Str) (scope:Scope) (tg:Expr) (ifs:List Expr) (elt:Expr) (g:FG) (ft:FT) (fe:FE):Prop where
 out:∀ (cl:List (Str×Addr)) (C:Addr) (s₀:Shared) (H₀:Hp) (fp:List Addr),DG Γ (zdn X N' scope cl C s₀ H₀ fp) tg g/\DTs Γ (zdn X N' scope cl C s₀ H₀ fp) ifs ft/\DE Γ (zdn X N' scope cl C s₀ H₀ fp) elt fe
theorem DB.pb (h:DB Γ X N' scope tg ifs elt g ft fe):PB X N' scope tg ifs elt (TDg Γ X.K g) (TDt Γ X.K ft) (TD Γ X.K fe):=fun cl C s₀ H₀ fp=>⟨(h.1 cl C s₀ H₀ fp).1.pg,(h.1 cl C s₀ H₀ fp).2.1.1,(h.1 cl C s₀ H₀ fp).2.2.1⟩
theorem zs3 {K:PySem.W.Frag} {G₀ H₀ G H:Hp} {ρ:zaY} {σ:St} (A:At Γ K G₀ H₀ G H ρ σ):At Γ K G H G H (ze4 fv ρ) (znt fv σ)/\zf7 (ze4 fv ρ):=by
 have no:zf7 (ze4 fv ρ):=fun i ds e=>by
  unfold ze4 at e
  rw [qj] at e
  obtain ⟨o,ho,e⟩:=oMd e
  cases o with
  | none=>cases e
  | some j =>
   simp only [qa] at e
   split at e <;> cases e
   exact ⟨_,rfl⟩
 refine ⟨⟨.refl A.gh,.ofSh (by simp [ze4,znt]) no fun i d e=>?_⟩,no⟩
 unfold ze4 at e
 unfold znt
 rw [qj] at e ⊢
 obtain ⟨o,ho,e⟩:=oMd e
 rw [ho]
 cases o with
 | none=>cases e
 | some j =>
  simp only [qa] at e
  split at e
  ·rename_i d' hd'
   cases e
   obtain ⟨v,h1,h2⟩:=A.env.sh j d hd'
   exact ⟨v,by simp [h1],h2⟩
  ·cases e
theorem zlt (no:∀ d ρ ρ',g d ρ=some ρ'->zf7 ρ->zf7 ρ'):∀ σ H Q,TDo Γ X.K (zaH fi g ft fe fv) σ H Q->tLC (TDi Γ X.K fi) (TDg Γ X.K g) (TDt Γ X.K ft) (TD Γ X.K fe) fv σ H Q:=by
 rintro σ H Q ⟨G₀,H₀,G,ρ,ds,A,h,k⟩
 unfold zaH at h
 obtain ⟨xs,hx,h⟩:=oBd h
 split at h
 case isFalse=>cases h
 rename_i hz
 refine ⟨G₀,H₀,G,ρ,xs,A,hx,fun J G1 H1 s1 Y acc hacc=>?_⟩
 have gacc:G1 acc=none:=s1.gh.free hacc
 obtain ⟨A0,no0⟩:=zs3 (fv:=fv) (A.step s1)
 refine ⟨fun i m ys σ' H'=>m=xs.length - i/\i<=xs.length/\ys.length<=i/\∃ G' ρ' done zdf,At Γ X.K G1 H1 G' H' ρ' σ'/\zf7 ρ'/\H' acc=some (.lst ys)/\G' acc=none/\Reps Γ X.K G' ys done/\zhG g ft fe (xs.drop i) ρ'=some zdf/\done++zdf=ds,?_,?_⟩
 ·refine ⟨xs.length,rfl,Nat.zero_le _,qu _,G1,ze4 fv ρ,[],ds,?_,no0,zax,gacc,.nil,by rw [List.drop_zero];exact h,rfl⟩
  have sn:=Step.newOwn (o:=.lst []) s1.gh hacc
  exact ⟨sn,.ofSh A0.env.len no0 A0.env.sh⟩
 ·rintro i m ys σ' H' ⟨hm,hi,hyi,G',ρ',done,zdf,A',no',hacc',gacc',ry,hr,hd⟩
  subst hm
  refine ⟨hacc',?_⟩
  by_cases hlt:i < xs.length
  ·right
   have hxi:xs[i]?=some xs[i]:=by simp [hlt]
   obtain ⟨go,yl⟩:=Y.go i _ G' H' hxi A'.st.gg A'.gh
   refine ⟨go,fun x H2 hy=>?_⟩
   obtain ⟨G2,s2,r2⟩:=yl x H2 hy
   have A2:=A'.step s2
   have hdr:xs.drop i=xs[i]::xs.drop (i+1):=List.drop_eq_getElem_cons hlt
   rw [hdr] at hr
   unfold zhG at hr
   obtain ⟨ρ1,h1,hr⟩:=oBd hr
   obtain ⟨b,h2,hr⟩:=oBd hr
   refine ⟨G1,H1,G2,ρ',_,ρ1,A2,r2,h1,fun σ2 A3=>⟨G1,H1,G2,ρ1,b,A3,h2,fun G4 H4 s4=>?_⟩⟩
   have no1:=no _ _ _ h1 no'
   have hH4:H4 acc=some (.lst ys):=s4.hh _ _ (s2.hh _ _ hacc')
   have hG4:G4 acc=none:=(s4.out _ _ (s2.hh _ _ hacc')).trans ((s2.out _ _ hacc').trans gacc')
   cases b with
   | false =>
    rw [qX qq] at hr
    refine zpK ⟨xs.length - (i+1),by omega,rfl,hlt,by omega,G4,ρ1,done,zdf,A3.step s4,no1,hH4,hG4,(ry.mono s2.gg).mono s4.gg,hr,hd⟩
   | true =>
    rw [qW rfl] at hr
    obtain ⟨d,h3,hr⟩:=oBd hr
    obtain ⟨zs,h5,rfl⟩:=oMd hr
    refine zrK ⟨G1,H1,G4,ρ1,d,A3.step s4,h3,fun v G5 H5 s5 r5=>?_⟩
    have A5:=(A3.step s4).step s5
    have hH5:H5 acc=some (.lst ys):=s5.hh _ _ hH4
    have hG5:G5 acc=none:=(s5.out _ _ hH4).trans hG4
    refine ⟨hH5,by omega,xs.length - (i+1),by omega,rfl,hlt,by rw [qi,qT];omega,G5,ρ1,done++[d],zs,?_,no1,zax,hG5,((((ry.mono s2.gg).mono s4.gg).mono s5.gg).append (.cons r5 .nil)),h5,by rw [List.append_assoc];exact hd⟩
    refine ⟨⟨fun b o e=>?_,A5.st.gg,fun b o e=>?_,A5.st.out⟩,.ofSh A5.env.len no1 A5.env.sh⟩
    ·rw [zat (zao e hacc)];exact A5.st.hh b o e
    ·rw [zat (zao e hG5)];exact A5.st.gh b o e
  ·left
   have e:i=xs.length:=by omega
   subst e
   rw [List.drop_length] at hr
   cases hr
   rw [List.append_nil] at hd
   subst hd
   refine ⟨Y.stop G' H' A'.st.gg A'.gh,?_⟩
   have hf:H'=upd (fun b=>if b=acc then none else H' b) acc (.lst ys):=by
    funext b
    by_cases hb:b=acc
    ·subst hb;rw [zax];exact hacc'
    ·rw [zat hb,qX hb]
   rw [hf]
   refine k acc ys G' (fun b=>if b=acc then none else H' b) (s1.trans ⟨fun b o e=>?_,A'.st.gg,fun b o e=>?_,A'.st.out⟩) (qW rfl) ry
   ·show (if b=acc then none else H' b)=some o
    rw [qX (zao e hacc)];exact A'.st.hh b o e
   ·show (if b=acc then none else H' b)=some o
    rw [qX (zao e gacc')];exact A'.st.gh b o e
theorem zbD (hc:X.calm=true) (S:CompScope X scope) (F:FvOk X N' scope fv) (hi:DI Γ X tg iter fi) (hb:DB Γ X N' scope tg ifs elt g ft fe) (hs:∀ x,foldedSetIterable iter X.env x=pure x:=by intro _;rfl) :
  DO Γ X (.ListComp elt [⟨tg,iter,ifs,0⟩] scope pos) (zaH fi g ft fe fv):=⟨(ztN hc S F hi.1 hb.pb hs).imp (zlt (hb.1 [] 0 X.s₀ X.H₀ []).1.no)⟩
end
end L2
end
section
namespace L2
open PySem PySem.Spec PyProof.Rows
section
variable {Γ:Cn} {X:Cx} {a b c e tg iter:Expr} {es:List Expr} {fa fb fc f:FE} {fr fi:FA} {pos p2 p:Pos} {g g':FS} {st:Stmt} {sts:List Stmt} {ft:FT}
def zcC:FS:=fun ρ=>some (.nx,ρ)
def zaF (g g':FS):FS:=fun ρ=>(g ρ).bind fun r=>match r.1 with
 | .nx=>g' r.2
 | fl=>some (fl,r.2)
theorem zaM:DSs Γ X [] zcC:=⟨zj8.imp fun E σ H=>by
 rintro ⟨G₀,H₀,G,ρ,fl,ρ',A,h,k⟩
 cases h
 exact k σ G H (.refl _) A⟩
theorem zan (h:DS Γ X st g):DSs Γ X [st] g:=⟨zcJ h.1⟩
theorem zah (h1:DS Γ X st g) (h2:DSs Γ X sts g'):DSs Γ X (st::sts) (zaF g g'):=⟨(zbk h1.1 h2.1).imp fun E σ H=>by
 rintro ⟨G₀,H₀,G,ρ,fl,ρ',A,h,k⟩
 unfold zaF at h
 obtain ⟨⟨fl1,ρ1⟩,h1,h⟩:=oBd h
 refine ⟨G₀,H₀,G,ρ,fl1,ρ1,A,h1,fun σ1 G1 H1 sm A1=>?_⟩
 cases fl1 with
 | nx=>exact ⟨G₀,H₀,G1,ρ1,fl,ρ',A1,h,fun σ' G' H' sm' A'=>k σ' G' H' (sm.trans sm') A'⟩
 | bk=>cases h;exact k σ1 G1 H1 sm A1
 | ct=>cases h;exact k σ1 G1 H1 sm A1
 | rt d=>cases h;exact k σ1 G1 H1 sm A1
 | ow d=>cases h;exact k σ1 G1 H1 sm A1
 | nw d=>cases h;exact k σ1 G1 H1 sm A1
 | od d=>cases h;exact k σ1 G1 H1 sm A1⟩
def zbj (f:FE):FS:=fun ρ=>(f ρ).map fun d=>(.rt d,ρ)
theorem zaz (h:DE Γ X e f):DS Γ X (.Return (some e) pos) (zbj f):=⟨(zgl h.1).imp fun E σ H=>by
 rintro ⟨G₀,H₀,G,ρ,fl,ρ',A,h,k⟩
 unfold zbj at h
 obtain ⟨d,hd,h⟩:=oMd h
 cases h
 exact ⟨G₀,H₀,G,ρ,d,A,hd,fun v G' H' s r=>k σ G' H' s.gg (A.step s) v r⟩⟩
def zb1 (i:Nat) (f:FE):FS:=fun ρ=>(f ρ).map fun d=>(.nx,ρ.set i (some (.sh d)))
theorem zbh (i:Nat) {x:Str} {pos':Pos} (hN:X.N.Nodup) (h:DE Γ X e f) (hi:X.N[i]?=some x:=by rfl) (hx:Loc X.env.scope x:=by first | exact Or.inl rfl | exact Or.inr rfl) (hs:swapsWith e (some (.Name x pos')) pos.line X.env=pure false:=by rfl) (hf:X.fn x=true\/X.env.scope.names.lookup x=some .local:=by first | exact .inl rfl | exact .inr rfl | assumption) :
  DS Γ X (.Assign [.Name x pos'] e pos) (zb1 i f):=⟨(zfq hN hi hx h.1 hs hf).imp fun E σ H=>by
 rintro ⟨G₀,H₀,G,ρ,fl,ρ',A,h,k⟩
 unfold zb1 at h
 obtain ⟨d,hd,h⟩:=oMd h
 cases h
 exact ⟨G₀,H₀,G,ρ,d,A,hd,fun v G' H' s r=>k _ G' H' s.gg ((A.step s).setSh r)⟩⟩
def zgD (i:Nat) (f:FA):FS:=fun ρ=>(f ρ).map fun d=>(.nx,ρ.set i (some (.own d)))
theorem zsv {i:Nat}:∀ E σ H,TDs Γ X.K (zgD i fr) E σ H->zmb (TDo Γ X.K fr) (zdi i) E σ H:=by
 rintro E σ H ⟨G₀,H₀,G,ρ,fl,ρ',A,h,k⟩
 unfold zgD at h
 obtain ⟨d,hd,h⟩:=oMd h
 cases h
 exact ⟨G₀,H₀,G,ρ,d,A,hd,fun p vs G' H' s hp r=>k _ G' _ s.gg ((A.step s).setOwn hp r)⟩
theorem zdk (i:Nat) {x:Str} {pos':Pos} (hN:X.N.Nodup) (h:DO Γ X e fr) (hi:X.N[i]?=some x:=by rfl) (hx:Loc X.env.scope x:=by first | exact Or.inl rfl | exact Or.inr rfl) (hs:swapsWith e (some (.Name x pos')) pos.line X.env=pure false:=by rfl) (hf:X.fn x=true\/X.env.scope.names.lookup x=some .local:=by first | exact .inl rfl | exact .inr rfl | assumption) :
  DS Γ X (.Assign [.Name x pos'] e pos) (zgD i fr):=⟨(zfq hN hi hx h.1 hs hf).imp zsv⟩
theorem zr4 {i:Nat}:∀ E σ H,TDs Γ X.K (zb1 i (zaX fr)) E σ H->zmb (TDo Γ X.K fr) (zdi i) E σ H:=by
 rintro E σ H ⟨G₀,H₀,G,ρ,fl,ρ',A,h,k⟩
 unfold zb1 zaX at h
 obtain ⟨d,hd,h⟩:=oMd h
 obtain ⟨ds,hd',rfl⟩:=oMd hd
 cases h
 refine ⟨G₀,H₀,G,ρ,ds,A,hd',fun p vs G' H' s hp r=>?_⟩
 have s2:=Step.new (o:=.lst vs) s.gh hp
 exact k _ _ _ (s.gg.trans s2.gg) (((A.step s).step s2).setSh (.lst zax (r.mono s2.gg)))
variable {scope:Scope} {N':List Str} {fv:List (Option Nat)} {gg:FG} {fe:FE} {ifs:List Expr} {elt:Expr}
theorem znD (i:Nat) {y:Str} {py spos:Pos} (hN:X.N.Nodup) (hc:X.calm=true) (S:CompScope X scope) (F:FvOk X N' scope fv) (hi:DI Γ X tg iter fi) (hb:DB Γ X N' scope tg ifs elt gg ft fe)
  (hy:X.N[i]?=some y:=by rfl) (hyl:X.env.scope.names.lookup y=some .local:=by rfl) (hsw:swapsWith (.ListComp elt [⟨tg,iter,ifs,0⟩] scope pos) (some (.Name y py)) spos.line X.env=pure true:=by rfl) (hs:∀ x,foldedSetIterable iter X.env x=pure x:=by intro _;rfl) :
  DS Γ X (.Assign [.Name y py] (.ListComp elt [⟨tg,iter,ifs,0⟩] scope pos) spos) (zb1 i (zaX (zaH fi gg ft fe fv))):=⟨(ztL hN hy hyl hc S F hi.1 hb.pb hsw hs).imp fun E σ H q=>zlt (hb.1 [] 0 X.s₀ X.H₀ []).1.no σ H _ (zr4 E σ H q)⟩
def zfg (i:Nat) (f:FE):FS:=fun ρ=>match ρ[i]? with
 | some (some (.own ds))=>(f ρ).bind fun d=>if ds.length < sizeLine then some (.nx,ρ.set i (some (.own (ds++[d])))) else none
 | _=>none
theorem zbC (i:Nat) {x:Str} {vp apos cpos:Pos} (h:DE Γ X e f) (hN:X.N[i]?=some x:=by rfl) (hv:Vis X.env.scope x:=by first | exact Or.inl rfl | exact Or.inr (Or.inl rfl) | exact Or.inr (Or.inr rfl)) (hd:(x==("__debug__":Str))=false:=by decide)
  (hcd:(x==("__classdict__":Str))=false:=by decide)
  (hbase:attributeBase (.Name x vp) "append" X.env (eval (.Name x vp) X.env)=eval (.Name x vp) X.env:=by rfl)
  (hfew:((backTo cpos (starEach [e] X.env)).all (fun x=>!x.1) && (backToKw cpos (keywordEach [] X.env)).all (fun x=>x.1.isSome)
   && decide ([e].length+([]:List Keyword).length+(if ([]:List Keyword).isEmpty then 0 else 1) < 30))=true:=by rfl)
  (hline:(apos.endLine==cpos.line)=true:=by rfl) (hs:starEach [e] X.env=(false,eval e X.env)::starEach [] X.env:=by rfl) (hplain:(backTo cpos (starEach [] X.env)).any (·.1)=false:=by rfl)
  (hsw:swapsWith (.Call (.Attribute (.Name x vp) "append" apos) [e] [] cpos) none pos.line X.env=pure false:=by rfl) :
  DS Γ X (.Expr (.Call (.Attribute (.Name x vp) "append" apos) [e] [] cpos) pos) (zfg i f):=⟨(zdr (zkc PySem.F.plainAttrs_list PySem.F.slot_list_append PySem.F.type_list_append zda (zfr hN hv hd hcd) (zaK h.1 zbT hs) hbase hfew hline hs hplain) hsw).imp fun E σ H=>by
  rintro ⟨G₀,H₀,G,ρ,fl,ρ',A,h,k⟩
  unfold zfg at h
  split at h
  ·rename_i ds hi
   obtain ⟨d,hd,h⟩:=oBd h
   split at h
   ·rename_i hz
    cases h
    obtain ⟨a,vs,h1,h2,h3,h4,h5⟩:=A.env.own i ds hi
    refine ⟨.ref a,h1,.inl ⟨rfl,vs,.inl (.inl h4)⟩,G₀,H₀,G,ρ,d,A,hd,fun v G1 H1 s1 r1=>?_⟩
    have A1:=A.step s1
    refine ⟨a,vs,v,rfl,rfl,s1.hh _ _ h4,by rw [h5.length];exact hz,?_⟩
    exact k σ G1 _ s1.gg (A1.chOwn hi h1 ((h5.mono s1.gg).append (.cons r1 .nil)))
   ·cases h
  ·cases h⟩
def zi4 (i:Nat) (g:FS):FS:=fun ρ=>match ρ[i]? with
 | some (some (.own ds))=>g (ρ.set i (some (.sh (.lst ds))))
 | _=>none
theorem TDs.frz (i:Nat):∀ E σ H,TDs Γ X.K (zi4 i g) E σ H->TDs Γ X.K g E σ H:=by
 rintro E σ H ⟨G₀,H₀,G,ρ,fl,ρ',A,h,k⟩
 unfold zi4 at h
 split at h
 ·rename_i ds hi
  obtain ⟨G',sm,A'⟩:=A.freeze hi
  exact ⟨G₀,H₀,G',_,fl,ρ',A',h,fun σ1 G1 H1 sm1 A1=>k σ1 G1 H1 (sm.trans sm1) A1⟩
 ·cases h
theorem zdw (i:Nat) (h:DSs Γ X sts g):DSs Γ X sts (zi4 i g):=⟨h.1.imp (TDs.frz i)⟩
def sIf (ft:FT) (g g':FS):FS:=fun ρ=>(ft ρ).bind fun c=>if c=true then g ρ else g' ρ
theorem zbQ {sa sb:List Stmt} (hc:DT Γ X c ft) (ha:DSs Γ X sa g) (hb:DSs Γ X sb g'):DS Γ X (.If c sa sb pos) (sIf ft g g'):=⟨(zqr hc.1 ha.1 hb.1).imp fun E σ H=>by
 rintro ⟨G₀,H₀,G,ρ,fl,ρ',A,h,k⟩
 unfold sIf at h
 obtain ⟨x,hx,h⟩:=oBd h
 refine ⟨G₀,H₀,G,ρ,x,A,hx,fun G1 H1 s1=>?_⟩
 cases x with
 | true=>exact zrK ⟨G₀,H₀,G1,ρ,fl,ρ',A.step s1,by simpa using h,fun σ2 G2 H2 sm2 A2=>k σ2 G2 H2 (s1.gg.trans sm2) A2⟩
 | false=>exact zpK ⟨G₀,H₀,G1,ρ,fl,ρ',A.step s1,by simpa using h,fun σ2 G2 H2 sm2 A2=>k σ2 G2 H2 (s1.gg.trans sm2) A2⟩⟩
def znx (gg:FG) (body:FS):List D->FS
 | [],ρ=>some (.nx,ρ)
 | x::xs,ρ=>(gg x ρ).bind fun ρ1=>(body ρ1).bind fun r=>match r.1 with
  | .nx=>znx gg body xs r.2
  | .ct=>znx gg body xs r.2
  | .bk=>some (.nx,r.2)
  | .rt d=>some (.rt d,r.2)
  | .ow d=>some (.ow d,r.2)
  | .nw d=>some (.nw d,r.2)
  | .od d=>some (.od d,r.2)
def zgG (fi:FA) (gg:FG) (body:FS):FS:=fun ρ=>(fi ρ).bind fun xs=>znx gg body xs ρ
theorem zek {body:List Stmt} (hp:PassesOwn (model X.prog X.w) X.A X.env X.xe) (hc:X.calm=true) (hi:DI Γ X tg iter fi) (hg:DG Γ X tg gg) (hb:DSs Γ X body g) (hs:∀ x,foldedSetIterable iter X.env x=pure x:=by intro _;rfl) :
  DS Γ X (.For tg iter body [] pos) (zgG fi gg g):=⟨(zgU hp hc hi.1 hg.pg hb.1 hs).imp fun E σ H=>by
 rintro ⟨G₀,H₀,G,ρ,fl,ρ',A,h,k⟩
 unfold zgG at h
 obtain ⟨xs,hx,h⟩:=oBd h
 refine ⟨G₀,H₀,G,ρ,xs,A,hx,fun J G1 H1 s1 Y=>?_⟩
 refine ⟨fun i m σ' H'=>m=xs.length - i/\i<=xs.length/\∃ G' ρ1,zbO G1 G'/\At Γ X.K G₀ H₀ G' H' ρ1 σ'/\znx gg g (xs.drop i) ρ1=some (fl,ρ'),⟨xs.length,rfl,Nat.zero_le _,G1,ρ,.refl _,A.step s1,by rw [List.drop_zero];exact h⟩,?_⟩
 rintro i m σ' H' ⟨rfl,hi,G',ρ1,sm,A',hr⟩
 by_cases hlt:i < xs.length
 ·right
  have hxi:xs[i]?=some xs[i]:=by simp [hlt]
  obtain ⟨go,yl⟩:=Y.go i _ G' H' hxi sm A'.gh
  have hdr:xs.drop i=xs[i]::xs.drop (i+1):=List.drop_eq_getElem_cons hlt
  rw [hdr] at hr
  unfold znx at hr
  obtain ⟨ρ2,h2,hr⟩:=oBd hr
  obtain ⟨⟨fl3,ρ3⟩,h3,hr⟩:=oBd hr
  refine ⟨go,fun σ3 H3=>(fl3=.nx\/fl3=.ct)/\∃ G3,zbO G1 G3/\At Γ X.K G₀ H₀ G3 H3 ρ3 σ3,fun σ3 H3 ⟨hfl,G3,sm3,A3⟩=>?_,fun x H2 hy=>?_⟩
  ·refine ⟨xs.length - (i+1),by omega,rfl,hlt,G3,ρ3,sm3,A3,?_⟩
   rcases hfl with e | e <;> subst e <;> exact hr
  ·obtain ⟨G2,s2,r2⟩:=yl x H2 hy
   refine ⟨G₀,H₀,G2,ρ1,_,ρ2,A'.step s2,r2,h2,fun σ2 A2=>⟨G₀,H₀,G2,ρ2,fl3,ρ3,A2,h3,fun σ3 G3 H3 sm3 A3=>?_⟩⟩
   have smm:zbO G1 G3:=(sm.trans s2.gg).trans sm3
   cases fl3 with
   | nx=>exact ⟨.inl rfl,G3,smm,A3⟩
   | ct=>exact ⟨.inr rfl,G3,smm,A3⟩
   | bk=>cases hr;exact k σ3 G3 H3 (s1.gg.trans smm) A3
   | rt d=>cases hr;exact k σ3 G3 H3 (s1.gg.trans smm) A3
   | ow d=>cases hr;exact k σ3 G3 H3 (s1.gg.trans smm) A3
   | nw d=>cases hr;exact k σ3 G3 H3 (s1.gg.trans smm) A3
   | od d=>cases hr;exact k σ3 G3 H3 (s1.gg.trans smm) A3
 ·left
  have e:i=xs.length:=by omega
  subst e
  rw [List.drop_length] at hr
  cases hr
  exact ⟨Y.stop G' H' sm A'.gh,k σ' G' H' (s1.gg.trans sm) A'⟩⟩
end
end L2
end
section
namespace L2
open PySem PySem.Spec PyProof.Rows
section
variable {Γ:Cn} {X:Cx} {a b c e tg iter:Expr} {es:List Expr} {fa fb fc f fk fw:FE} {fr fi:FA} {pos p2 p:Pos}
def spF (Γ:Cn) (K:PySem.W.Frag) (n:Nat) (F:List D->Option D):Sp:=fun vs H Q _=>∃ G ds d,zbO G H/\Reps Γ K G vs ds/\ds.length=n/\F ds=some d/\∀ v G' H',Step G H G' H'->Rep Γ K G' v d->Q v H'
def zb9 (n:Nat) (g:FS):List D->Option D:=fun ds=>(g (ds.map (fun d=>some (Slot.sh d))++List.replicate n none)).bind fun r=>match r.1 with
 | .rt d=>some d
 | .nx=>some .non
 | _=>none
theorem zd4 {K:PySem.W.Frag} {G H:Hp} {vs:List V} {ds:List D} {N:List Str} {m:Nat} (gh:zbO G H) (r:Reps Γ K G vs ds) (hm:m=N.length - vs.length):At Γ K G H G H (ds.map (fun d=>some (Slot.sh d))++List.replicate m none) (zc5 N vs):=by
 have no:zf7 (ds.map (fun d=>some (Slot.sh d))++List.replicate m none):=fun i es e=>by
  by_cases hi:i < ds.length
  ·rw [qx (by simpa using hi),qj] at e
   obtain ⟨d,_,e⟩:=oMd e
   cases e
   exact ⟨_,rfl⟩
  ·rw [qI (by simpa using hi),List.getElem?_replicate] at e
   split at e <;> cases e
 refine ⟨.refl gh,.ofSh (by simp [zc5,r.length,hm]) no fun i d e=>?_⟩
 by_cases hi:i < ds.length
 ·rw [qx (by simpa using hi),qj] at e
  obtain ⟨d',hd,e⟩:=oMd e
  cases e
  obtain ⟨v,hv,rv⟩:=r.get hd
  refine ⟨v,?_,rv⟩
  unfold zc5
  rw [qx (by rw [qe,r.length];exact hi),qj,hv]
  rfl
 ·rw [qI (by simpa using hi),List.getElem?_replicate] at e
  split at e <;> cases e
theorem Fun.okD {P:Program} {w:World} {K:PySem.W.Frag} {mg:Str->Option Value} {base:Heap} {x qual:Str} {st:Stmt} {f:Addr} {fd:FuncData} {N ps:List Str} {k:Nat} {g:FS} (F:Fun K x qual st f fd) (S:FnScope N ps (zaf st))
  (hbody:∀ (cdv:Value) (A:Around) (outer:List Env) (s:Shared) (H:Hp) (E:XK),Room k (A.deeper (envOfC qual (zaf st) s.heap.objs.size f cdv)) ->
   DSs Γ (ziK CX0 P w K mg base N qual (zaf st) f cdv A outer s H E).nox (zaW st) g):FnOk P w K mg base CX0 (k+1) f fd ps (spF Γ K ps.length (zb9 (N.length - ps.length) g)):=by
 refine F.ok S (fun vs H Q E h=>?_) (fun cdv A outer s H vs Q E hr h=>?_)
 ·obtain ⟨G,ds,d,_,r,hl,_⟩:=h
  rw [r.length,hl]
 ·obtain ⟨G,ds,d,gh,r,hl,hd,k⟩:=h
  refine ⟨_,(hbody cdv A outer s H E hr).1,?_⟩
  unfold zb9 at hd
  obtain ⟨⟨fl,ρ'⟩,hg,hd⟩:=oBd hd
  refine ⟨G,H,G,_,fl,ρ',zd4 gh r (by rw [r.length,hl]),hg,fun σ' G' H' sm A'=>?_⟩
  cases fl with
  | rt d'=>cases hd;exact fun v rv=>k v G' H' A'.st rv
  | nx=>cases hd;exact k .non G' H' A'.st .non
  | bk=>cases hd
  | ct=>cases hd
  | ow d=>cases hd
  | nw d=>cases hd
  | od d=>cases hd
theorem zro {k:Nat} {fx:Addr} {fd:FuncData} {ps:List Str} {n:Nat} {F:List D->Option D} {x:Str} (Fo:FnOk X.prog X.w X.K X.mg X.base CX0 k fx fd ps (spF Γ X.K n F)) (hr:Room k X.A) (hg:Gl X x) (hm:X.mg x=some (.ref fx)) (hk:PySem.W.keepIn X.K (.ref fx)=true) (hb:zdJ X.K fd ps [])
  (ha:DA Γ X (e::es) fr) (hn:∀ ρ ds,fr ρ=some ds->ds.length=n) (hdb:(x==("__debug__":Str))=false:=by decide) (he:starEach (e::es) X.env=(false,eval e X.env)::starEach es X.env:=by rfl) (hpl:(backTo pos (starEach es X.env)).any (·.1)=false:=by rfl) :
  DE Γ X (.Call (.Name x p) (e::es) [] pos) (cF F fr):=⟨(zkb Fo hr hg hm hk hb .nil zkd ha.1 hdb he hpl).imp fun σ H Q=>by
 rintro ⟨G₀,H₀,G,ρ,d,A,h,k⟩
 unfold cF at h
 obtain ⟨ds,hd,h⟩:=oBd h
 refine ⟨G₀,H₀,G,ρ,ds,A,hd,fun vs G1 H1 s1 r1=>?_⟩
 show spF Γ X.K n F (vs++[]) H1 Q E0
 rw [List.append_nil]
 exact ⟨G1,ds,d,s1.gh,r1,hn ρ ds hd,h,fun v G' H' s r=>k v G' H' (s1.trans s) r⟩⟩
theorem zpg {ρ:zaY} {ds:List D} (h:zaj ρ=some ds):ds.length=0:=by cases h;rfl
theorem zdd {n:Nat} (hn:∀ ρ ds,fr ρ=some ds->ds.length=n):∀ ρ ds,zab fa fr ρ=some ds->ds.length=n+1:=fun ρ ds h=>by
 unfold zab at h
 obtain ⟨x,hx,h⟩:=oBd h
 obtain ⟨xs,hxs,rfl⟩:=oMd h
 rw [qh,hn ρ xs hxs]
end
end L2
end
section
namespace L2
open PySem PySem.Spec PyProof.Rows
structure Cal (Γ:Cn) (P:Program) (w:World) (K:PySem.W.Frag) (mg:Str->Option Value) (base:Heap) (x:Str) (n k:Nat) (F:List D->Option D):Prop where
 ex:∃ f fd ps,FnOk P w K mg base CX0 k f fd ps (spF Γ K n F)/\mg x=some (.ref f)/\PySem.W.keepIn K (.ref f)=true/\zdJ K fd ps []
structure Dfn (K:PySem.W.Frag) (mg:Str->Option Value) (x:Str) (st:Stmt):Prop where
 ex:∃ f fd,Fun K x x st f fd/\mg x=some (.ref f)
section
variable {Γ:Cn} {X:Cx} {e:Expr} {es:List Expr} {fr:FA} {pos p:Pos}
theorem znP {x:Str} {n k:Nat} {F:List D->Option D} (C:Cal Γ X.prog X.w X.K X.mg X.base x n k F) {j:Nat} (hr:Room j X.A) (hk:k<=j) (hg:Gl X x) (ha:DA Γ X (e::es) fr) (hn:∀ ρ ds,fr ρ=some ds->ds.length=n)
  (hdb:(x==("__debug__":Str))=false:=by decide) (he:starEach (e::es) X.env=(false,eval e X.env)::starEach es X.env:=by rfl) (hpl:(backTo pos (starEach es X.env)).any (·.1)=false:=by rfl) :
  DE Γ X (.Call (.Name x p) (e::es) [] pos) (cF F fr):=by
 obtain ⟨f,fd,ps,h1,h2,h3,h4⟩:=C.ex
 exact zro h1 (hr.mono hk) hg h2 h3 h4 ha hn hdb he hpl
theorem Dfn.cal {P:Program} {w:World} {K:PySem.W.Frag} {mg:Str->Option Value} {base:Heap} {x:Str} {st:Stmt} {N ps:List Str} {k:Nat} {g:FS} (F:Dfn K mg x st) (S:FnScope N ps (zaf st))
  (hb:∀ (kV doc pm:Value) (an:Option Addr) (cdv ct:Value) (us:List Value),us.length=ps.length->bindArgs (PySem.W.fnOf x x (zbU st) (zaW st) (zaf st) .none kV doc pm an cdv ct) ⟨us,[]⟩=pure (ps.zip us))
  (hbody:∀ (f:Addr) (cdv:Value) (A:Around) (outer:List Env) (s:Shared) (H:Hp) (E:XK),Room k (A.deeper (envOfC x (zaf st) s.heap.objs.size f cdv)) ->
   DSs Γ (ziK CX0 P w K mg base N x (zaf st) f cdv A outer s H E).nox (zaW st) g):Cal Γ P w K mg base x ps.length (k+1) (zb9 (N.length - ps.length) g):=by
 obtain ⟨f,fd,h1,h2⟩:=F.ex
 exact ⟨f,fd,ps,h1.okD S (hbody f),h2,h1.kp,h1.binds hb⟩
theorem Dfn.mk' {K:PySem.W.Frag} {h:Heap} {mg:Str->Option Value} {x:Str} {st:Stmt} {f:Addr} {oc:Value} {od an:Option Addr} {osl:Array (Option Value)} {kV doc pm cdv ct:Value} (X:K.In h) (G:h.Ns mainGlobals mg) (a:PySem.W.nsIn K mainGlobals x=some (some (.ref f)))
  (l:K.lookup f=some ⟨oc,od,.func (PySem.W.fnOf x x (zbU st) (zaW st) (zaf st) .none kV doc pm an cdv ct),osl⟩) (c:PySem.W.codeIn K cdv x=true) (k:PySem.W.keepIn K (.ref f)=true):Dfn K mg x st :=
 ⟨f,_,znu l c k,PySem.W.mg_of X G a⟩
def zth (names:List (Str×NameKind)) (outer:List (Str×NameKind)):Bool :=
 names.all fun y=>y.2 != .cell && (y.2 != .local || names.lookup y.1==some .local) && (y.2 != .free || outer.lookup y.1==some .cell || outer.lookup y.1==some .free)
theorem CompScope.of {X:Cx} {scope:Scope} (hk:scope.kind=.function) (h:zth scope.names X.env.scope.names=true):CompScope X scope:=by
 unfold zth at h
 rw [List.all_eq_true] at h
 refine ⟨hk,fun y hy e=>?_,fun y hy e=>?_,fun y hy e=>?_⟩
 ·have:=h y hy
  rw [e] at this
  simp at this
 ·have:=h y hy
  rw [e] at this
  simpa using this
 ·have:=h y hy
  rw [e] at this
  simpa [Env.kindOf] using this
def zs4 (N':List Str) (fv:List (Option Nat)) (N:List Str) (outer names:List (Str×NameKind)):Bool :=
 fv.length==N'.length && (N'.zip fv).all fun y=>match y.2 with
  | none=>true
  | some j=>N[j]?==some y.1 && (outer.lookup y.1==some .cell || outer.lookup y.1==some .free) && names.lookup y.1==some .free
theorem FvOk.of {X:Cx} {N':List Str} {scope:Scope} {fv:List (Option Nat)} (h:zs4 N' fv X.N X.env.scope.names scope.names=true):FvOk X N' scope fv:=by
 unfold zs4 at h
 rw [Bool.and_eq_true,List.all_eq_true] at h
 obtain ⟨h1,h2⟩:=h
 refine ⟨by simpa using h1,fun i j x e1 e2=>?_⟩
 have hm:(x,some j)∈N'.zip fv:=by
  refine List.mem_iff_getElem?.mpr ⟨i,?_⟩
  rw [List.getElem?_zip_eq_some]
  exact ⟨e1,e2⟩
 have:=h2 _ hm
 simp only [Bool.and_eq_true,Bool.or_eq_true,beq_iff_eq] at this
 exact ⟨this.1.1,this.1.2,this.2⟩
end
end L2
end
section
namespace L2
open PySem PySem.Spec PyProof.Rows
mutual
def pdD:D->Option PyData
 | .non=>some .none
 | .bl b=>some (.bool b)
 | .int i=>some (.int i)
 | .str x=>some (.str x)
 | .tup l=>(zgX l).map PyData.tuple
 | .lst l=>(zgX l).map PyData.list
 | .flst l=>(zgX l).map PyData.list
 | .scr ns=>some (.list (ns.map PyData.int))
 | _=>none
def zgX:List D->Option (List PyData)
 | []=>some []
 | d::r=>(pdD d).bind fun p=>(zgX r).map (p::·)
end
section
variable {Γ:Cn} {X:Cx} {pins:List (Addr×Obj)} {σ:St} {G H:Hp} {s:Shared}
theorem zhX {h:Heap}:∀ {ns:List Int} {us:List Value},zbY (ns.map V.int) us->∃ as,ReadsAll h us (ns.map PyData.int) as
 | [],_,r=>by rw [qM] at r;cases r;exact ⟨_,.nil⟩
 | n::ns,_,r=>by
  rw [ql] at r
  cases r with
  | cons r1 r2 =>
   obtain ⟨t,e⟩:=r1
   subst e
   obtain ⟨as,q⟩:=zhX r2
   exact ⟨_,.cons (.int n t) q⟩
mutual
theorem Rep.reads (I:Inv X pins σ H s) (gh:zbO G H):∀ {v:V} {d:D} {u:Value} {p:PyData},Rep Γ X.K G v d->zcD v u->pdD d=some p->∃ as,Reads s.heap u p as
 | _,_,u,p,.non,r,h=>by cases r;rw [pdD] at h;cases h;exact ⟨_,.none⟩
 | _,_,u,p,.bl b,r,h=>by cases r;rw [pdD] at h;cases h;exact ⟨_,.bool b⟩
 | _,_,u,p,.int i,r,h=>by obtain ⟨t,rfl⟩:=r;rw [pdD] at h;cases h;exact ⟨_,.int i t⟩
 | _,_,u,p,.str x,r,h=>by obtain ⟨t,rfl⟩:=r;rw [pdD] at h;cases h;exact ⟨_,.str x t⟩
 | _,_,u,p,.ty n,r,h=>by rw [pdD] at h;cases h;all_goals (intros;contradiction)
 | _,_,u,p,.tup ha rs,r,h=>by
  cases r
  rw [pdD] at h
  obtain ⟨ps,hp,rfl⟩:=oMd h
  obtain ⟨its,rv,⟨o,e1,e2,n,e3⟩,_⟩:=I.tuple (.inl (.inl (gh _ _ ha)))
  obtain ⟨as,q⟩:=Reps.reads I gh rs rv hp
  exact ⟨_,.tuple e1 e2 e3 (by simpa using q)⟩
 | _,_,u,p,.lst ha rs,r,h=>by
  cases r
  rw [pdD] at h
  obtain ⟨ps,hp,rfl⟩:=oMd h
  obtain ⟨its,rv,⟨o,n,e1,e2,_,e3⟩,_⟩:=I.list (.inl (.inl (gh _ _ ha)))
  obtain ⟨as,q⟩:=Reps.reads I gh rs rv hp
  exact ⟨_,.list e1 e2 e3 (by simpa using q)⟩
 | _,_,u,p,.flst ha rs,r,h=>by
  cases r
  rw [pdD] at h
  obtain ⟨ps,hp,rfl⟩:=oMd h
  obtain ⟨its,rv,⟨o,n,e1,e2,_,e3⟩,_⟩:=I.list (.inl (.inr ⟨_,gh _ _ ha⟩))
  obtain ⟨as,q⟩:=Reps.reads I gh rs rv hp
  exact ⟨_,.list e1 e2 e3 (by simpa using q)⟩
 | _,_,u,p,.scr hs,r,h=>by
  cases r
  rw [pdD] at h
  cases h
  obtain ⟨its,rv,⟨o,n,e1,e2,_,e3⟩,_⟩:=I.list (gh.seq hs)
  obtain ⟨as,q⟩:=zhX (h:=s.heap) rv
  exact ⟨_,.list e1 e2 e3 (by simpa using q)⟩
 | _,_,u,p,.dk ha _ _,r,h=>by rw [pdD] at h;cases h;all_goals (intros;contradiction)
 | _,_,u,p,.dt ha _ _,r,h=>by rw [pdD] at h;cases h;all_goals (intros;contradiction)
 | _,_,u,p,.ins ha _ _ _,r,h=>by rw [pdD] at h;cases h;all_goals (intros;contradiction)
theorem Reps.reads (I:Inv X pins σ H s) (gh:zbO G H):∀ {vs:List V} {ds:List D} {us:List Value} {ps:List PyData},Reps Γ X.K G vs ds->zbY vs us->zgX ds=some ps->∃ as,ReadsAll s.heap us ps as
 | _,_,_,_,.nil,r,h=>by cases r;rw [zgX] at h;cases h;exact ⟨_,.nil⟩
 | _,_,_,_,.cons r1 r2,r,h=>by
  cases r with
  | cons q1 q2 =>
   rw [zgX] at h
   obtain ⟨p,hp,h⟩:=oBd h
   obtain ⟨ps,hps,rfl⟩:=oMd h
   obtain ⟨as,a1⟩:=Rep.reads I gh r1 q1 hp
   obtain ⟨bs,a2⟩:=Reps.reads I gh r2 q2 hps
   exact ⟨_,.cons a1 a2⟩
end
end
section
variable {Γ:Cn} {X:Cx} {a b c e:Expr} {es:List Expr} {fa fb fc f:FE} {fr:FA} {pos:Pos}
def eqX (x y:D):Option Bool:=(pdD x).bind fun p=>(pdD y).bind fun q=>if SeqAt.shaped p=true/\SeqAt.shaped q=true then some (PyData.eqv p q) else none
def zqR (x y:D):Option D:=(eqX x y).map fun b=>D.bl (!b)
def rX (Γ:Cn) (K:PySem.W.Frag) (neg:Bool):R2:=fun x y H Q=>∃ G d e b,zbO G H/\Rep Γ K G x d/\Rep Γ K G y e/\eqX d e=some b/\Q (.bl (if neg then !b else b)) H
theorem zoX {x y:D} {b:Bool} (h:eqX x y=some b):∃ p q,pdD x=some p/\pdD y=some q/\SeqAt.shaped p=true/\SeqAt.shaped q=true/\b=PyData.eqv p q:=by
 unfold eqX at h
 obtain ⟨p,hp,h⟩:=oBd h
 obtain ⟨q,hq,h⟩:=oBd h
 split at h
 ·rename_i hz
  cases h
  exact ⟨p,q,hp,hq,hz.1,hz.2,rfl⟩
 ·cases h
theorem zsB (hu:X.A.units+64 < cLine):OpR X (compareOp .NotEq) (rX Γ X.K true):=by
 intro pins s σ H x y v u Q I rx ry h
 obtain ⟨G,d,e,b,gh,r1,r2,hb,q⟩:=h
 obtain ⟨p,q',hp,hq,s1,s2,rfl⟩:=zoX hb
 obtain ⟨as,a1⟩:=r1.reads I gh rx hp
 obtain ⟨bs,a2⟩:=r2.reads I gh ry hq
 exact ne_dataH a1 a2 s1 s2 hu ⟨.bl _,H,I,rfl,q⟩
theorem zti (hu:X.A.units+64 < cLine):CmpD Γ X .NotEq zqR:=⟨_,zsB (Γ:=Γ) hu,fun {G H v u x y z} gh r1 r2 h Q k=>by
 unfold zqR at h
 obtain ⟨b,hb,rfl⟩:=oMd h
 exact ⟨G,x,y,b,gh,r1,r2,hb,k _ G H (.refl gh) (.bl _)⟩⟩
def inX (x y:D):Option Bool:=(pdD x).bind fun p=>(pdD y).bind fun q=>match q with
 | .list l=>if SeqAt.shaped p=true/\PyData.canLayAll0 l=true then some (l.any fun z=>PyData.eqv z p) else none
 | _=>none
def zsZ (x y:D):Option D:=(inX x y).map D.bl
def zhF (x y:D):Option D:=(inX x y).map fun b=>D.bl (!b)
def zux (Γ:Cn) (K:PySem.W.Frag) (neg:Bool):R2:=fun x y H Q=>∃ G d e b,zbO G H/\Rep Γ K G x d/\Rep Γ K G y e/\inX d e=some b/\Q (.bl (if neg then !b else b)) H
theorem zlj {x y:D} {b:Bool} (h:inX x y=some b):∃ p l,pdD x=some p/\pdD y=some (.list l)/\SeqAt.shaped p=true/\PyData.canLayAll0 l=true/\b=l.any fun z=>PyData.eqv z p:=by
 unfold inX at h
 obtain ⟨p,hp,h⟩:=oBd h
 obtain ⟨q,hq,h⟩:=oBd h
 split at h
 ·split at h
  ·rename_i hz
   cases h
   exact ⟨p,_,hp,hq,hz.1,hz.2,rfl⟩
  ·cases h
 ·cases h
theorem zhW {p:PyData} (h:SeqAt.shaped p=true):p.canLay0=true/\p.depth<=64:=by
 unfold SeqAt.shaped at h
 rw [Bool.and_eq_true] at h
 exact ⟨h.1,of_decide_eq_true h.2⟩
theorem zsE (hu:X.A.units+66 < cLine):OpR X (compareOp .In) (zux Γ X.K false):=by
 intro pins s σ H x y v u Q I rx ry h
 obtain ⟨G,d,e,b,gh,r1,r2,hb,q⟩:=h
 obtain ⟨p,l,hp,hq,s1,s2,rfl⟩:=zlj hb
 obtain ⟨as,a1⟩:=r1.reads I gh rx hp
 obtain ⟨bs,a2⟩:=r2.reads I gh ry hq
 obtain ⟨c1,c2⟩:=zhW s1
 have:=Nat.min_le_right (PyData.depthAll l) p.depth
 exact SeqAt.in_list_reads a2 a1 s2 c1 (by omega) ⟨.bl _,H,I,rfl,q⟩
theorem zqE (hu:X.A.units+66 < cLine):OpR X (compareOp .NotIn) (zux Γ X.K true):=by
 intro pins s σ H x y v u Q I rx ry h
 obtain ⟨G,d,e,b,gh,r1,r2,hb,q⟩:=h
 obtain ⟨p,l,hp,hq,s1,s2,rfl⟩:=zlj hb
 obtain ⟨as,a1⟩:=r1.reads I gh rx hp
 obtain ⟨bs,a2⟩:=r2.reads I gh ry hq
 obtain ⟨c1,c2⟩:=zhW s1
 have:=Nat.min_le_right (PyData.depthAll l) p.depth
 exact SeqAt.notIn_list_reads a2 a1 s2 c1 (by omega) ⟨.bl _,H,I,rfl,q⟩
theorem ztj (hu:X.A.units+66 < cLine):CmpD Γ X .In zsZ:=⟨_,zsE (Γ:=Γ) hu,fun {G H v u x y z} gh r1 r2 h Q k=>by
 unfold zsZ at h
 obtain ⟨b,hb,rfl⟩:=oMd h
 exact ⟨G,x,y,b,gh,r1,r2,hb,k _ G H (.refl gh) (.bl _)⟩⟩
theorem znU (hu:X.A.units+66 < cLine):CmpD Γ X .NotIn zhF:=⟨_,zqE (Γ:=Γ) hu,fun {G H v u x y z} gh r1 r2 h Q k=>by
 unfold zhF at h
 obtain ⟨b,hb,rfl⟩:=oMd h
 exact ⟨G,x,y,b,gh,r1,r2,hb,k _ G H (.refl gh) (.bl _)⟩⟩
theorem zpM {k:Nat} (hr:Room k X.A):X.A.units+66 < cLine:=by have:=hr.un;omega
theorem zrL {k:Nat} (hr:Room k X.A):X.A.units+64 < cLine:=by have:=hr.un;omega
def zkl (d:D):Bool:=match d with
 | .non=>true
 | _=>false
def znn (x y:D):Option D:=match y with
 | .non=>some (.bl (!zkl x))
 | _=>none
theorem zlL {K:PySem.W.Frag} {G:Hp} {v:V} {d:D} (r:Rep Γ K G v d):decide (v=.non)=zkl d:=by
 cases r <;> simp [zkl]
theorem zpa:CmpD Γ X .IsNot znn:=⟨_,zqD,fun {G H v u x y z} gh r1 r2 h Q k=>by
 unfold znn at h
 split at h <;> cases h
 exact ⟨r2.non_inv,by rw [zlL r1];exact k _ G H (.refl gh) (.bl _)⟩⟩
end
end L2
end
section
namespace L2
open PySem PySem.Spec PyProof.Rows
section
variable {Γ:Cn} {X:Cx} {a b c e o i:Expr} {es:List Expr} {fa fb fc f fo fk fx:FE} {fr fi:FA} {pos p apos cpos:Pos} {ft:FT} {g:FS} {x:Str}
def bwT (i:Nat) (ft:FT):FT:=fun ρ=>match ρ[i]? with
 | some (some (.own ds))=>ft (ρ.set i (some (.sh (.lst ds))))
 | _=>none
theorem Step.back {G G1 G' H H':Hp} (gh:zbO G H) (s1:zbO G G1) (s:Step G1 H G' H'):Step G H G H':=⟨s.hh,.refl _,(s1.trans s.gg).trans s.gh,fun _ _ _=>rfl⟩
theorem zs8 (i:Nat) (h:DT Γ X c ft):DT Γ X c (bwT i ft):=⟨h.1.imp fun σ H Q=>by
 rintro ⟨G₀,H₀,G,ρ,b,A,h,k⟩
 unfold bwT at h
 split at h
 ·rename_i ds hi
  obtain ⟨G1,sm,A1⟩:=A.freeze hi
  exact ⟨G₀,H₀,G1,_,b,A1,h,fun G' H' s=>k G H' (s.back A.gh sm)⟩
 ·cases h⟩
def zrF (i:Nat) (f:FE):FS:=fun ρ=>match ρ[i]? with
 | some (some (.own ds))=>(f ρ).bind fun d=>match d with
  | .lst l=>if ds.length+l.length<=sizeLine then some (.nx,ρ.set i (some (.own (ds++l)))) else none
  | .flst l=>if ds.length+l.length<=sizeLine then some (.nx,ρ.set i (some (.own (ds++l)))) else none
  | _=>none
 | _=>none
theorem znE (i:Nat) {vp:Pos} (h:DE Γ X e f) (hN:X.N[i]?=some x:=by rfl) (hv:Vis X.env.scope x:=by first | exact Or.inl rfl | exact Or.inr (Or.inl rfl) | exact Or.inr (Or.inr rfl)) (hd:(x==("__debug__":Str))=false:=by decide)
  (hcd:(x==("__classdict__":Str))=false:=by decide)
  (hbase:attributeBase (.Name x vp) "extend" X.env (eval (.Name x vp) X.env)=eval (.Name x vp) X.env:=by rfl)
  (hfew:((backTo cpos (starEach [e] X.env)).all (fun x=>!x.1) && (backToKw cpos (keywordEach [] X.env)).all (fun x=>x.1.isSome)
   && decide ([e].length+([]:List Keyword).length+(if ([]:List Keyword).isEmpty then 0 else 1) < 30))=true:=by rfl)
  (hline:(apos.endLine==cpos.line)=true:=by rfl) (hs:starEach [e] X.env=(false,eval e X.env)::starEach [] X.env:=by rfl) (hplain:(backTo cpos (starEach [] X.env)).any (·.1)=false:=by rfl)
  (hsw:swapsWith (.Call (.Attribute (.Name x vp) "extend" apos) [e] [] cpos) none pos.line X.env=pure false:=by rfl) :
  DS Γ X (.Expr (.Call (.Attribute (.Name x vp) "extend" apos) [e] [] cpos) pos) (zrF i f):=⟨(zdr (zkc PySem.F.plainAttrs_list PySem.F.slot_list_extend PySem.F.type_list_extend zm3 (zfr hN hv hd hcd) (zaK h.1 zbT hs) hbase hfew hline hs hplain) hsw).imp fun E σ H=>by
  rintro ⟨G₀,H₀,G,ρ,fl,ρ',A,h,k⟩
  unfold zrF at h
  split at h
  ·rename_i ds hi
   obtain ⟨d,hd,h⟩:=oBd h
   split at h
   ·rename_i l
    split at h
    ·rename_i hz
     cases h
     obtain ⟨a,vs,h1,h2,h3,h4,h5⟩:=A.env.own i ds hi
     refine ⟨.ref a,h1,.inl ⟨rfl,vs,.inl (.inl h4)⟩,G₀,H₀,G,ρ,_,A,hd,fun v G1 H1 s1 r1=>?_⟩
     have A1:=A.step s1
     obtain ⟨b,us,rfl,hb,rb⟩:=r1.lst_inv
     refine ⟨a,b,vs,us,rfl,rfl,s1.hh _ _ h4,.inl (s1.gh _ _ hb),by rw [h5.length,rb.length];exact hz,?_⟩
     exact k σ G1 _ s1.gg (A1.chOwn hi h1 ((h5.mono s1.gg).append rb))
    ·cases h
   ·rename_i l
    split at h
    ·rename_i hz
     cases h
     obtain ⟨a,vs,h1,h2,h3,h4,h5⟩:=A.env.own i ds hi
     refine ⟨.ref a,h1,.inl ⟨rfl,vs,.inl (.inl h4)⟩,G₀,H₀,G,ρ,_,A,hd,fun v G1 H1 s1 r1=>?_⟩
     have A1:=A.step s1
     obtain ⟨b,o,us,rfl,hb,rb⟩:=r1.flst_inv
     refine ⟨a,b,vs,us,rfl,rfl,s1.hh _ _ h4,.inr ⟨_,s1.gh _ _ hb⟩,by rw [h5.length,rb.length];exact hz,?_⟩
     exact k σ G1 _ s1.gg (A1.chOwn hi h1 ((h5.mono s1.gg).append rb))
    ·cases h
   ·cases h
  ·cases h⟩
def zoS:List D->Option D
 | [.int i]=>some (.int i)
 | [.bl k]=>some (.int (if k then 1 else 0))
 | _=>none
theorem zpk:TyD Γ X "int" zoS:=⟨_,znX,fun {G H vs ds z} gh r h Q k=>by
 unfold zoS at h
 split at h <;> cases h
 ·obtain ⟨v,rfl,r1⟩:=r.one
  cases r1.int_inv
  exact .inl ⟨_,rfl,k _ G H (.refl gh) (.int _)⟩
 ·obtain ⟨v,rfl,r1⟩:=r.one
  cases r1.bl_inv
  exact .inr ⟨_,rfl,k _ G H (.refl gh) (.int _)⟩⟩
def zkL:List D->Option D
 | [.lst l]=>some (.tup l)
 | [.tup l]=>some (.tup l)
 | _=>none
theorem zkM:TyD Γ X "tuple" zkL:=⟨_,ziO,fun {G H vs ds z} gh r h Q k=>by
 unfold zkL at h
 split at h <;> cases h
 ·obtain ⟨v,rfl,r1⟩:=r.one
  obtain ⟨a,us,rfl,ha,ra⟩:=r1.lst_inv
  exact ⟨a,us,rfl,.inl ⟨.inl (.inl (gh _ _ ha)),ziy gh ra k⟩⟩
 ·obtain ⟨v,rfl,r1⟩:=r.one
  obtain ⟨a,us,rfl,ha,ra⟩:=r1.tup_inv
  exact ⟨a,us,rfl,.inr ⟨.inl (.inl (gh _ _ ha)),k _ G H (.refl gh) (.tup ha ra)⟩⟩⟩
def zei:List D->Option D
 | [.lst l]=>some (.lst l)
 | [.flst l]=>some (.lst l)
 | [.tup l]=>some (.lst l)
 | [.scr l]=>some (.lst (l.map D.int))
 | _=>none
theorem zeM:TyD Γ X "list" zei:=⟨_,zjE,fun {G H vs ds z} gh r h Q k=>by
 unfold zei at h
 split at h <;> cases h
 ·obtain ⟨v,rfl,r1⟩:=r.one
  obtain ⟨a,us,rfl,ha,ra⟩:=r1.lst_inv
  exact ⟨a,us,rfl,.inl (.inl (.inl (gh _ _ ha))),zdP gh ra k⟩
 ·obtain ⟨v,rfl,r1⟩:=r.one
  obtain ⟨a,o,us,rfl,ha,ra⟩:=r1.flst_inv
  exact ⟨a,us,rfl,.inl (.inl (.inr ⟨_,gh _ _ ha⟩)),zdP gh ra k⟩
 ·obtain ⟨v,rfl,r1⟩:=r.one
  obtain ⟨a,us,rfl,ha,ra⟩:=r1.tup_inv
  exact ⟨a,us,rfl,.inr (.inl (.inl (gh _ _ ha))),zdP gh ra k⟩
 ·obtain ⟨v,rfl,r1⟩:=r.one
  obtain ⟨a,rfl,ha⟩:=r1.scr_inv
  exact ⟨a,_,rfl,.inl (gh.seq ha),zdP gh (Reps.ints _) k⟩⟩
def zts {κ α:Type} [DecidableEq κ] (kvs:List (κ×α)) (k:κ):Option α:=(kvs.find? fun kv=>decide (kv.1=k)).map (·.2)
def zit {κ α:Type} [DecidableEq κ] (kvs:List (κ×α)) (k:κ) (v:α):List (κ×α) :=
 if (kvs.any fun kv=>decide (kv.1=k))=true then kvs.map (fun kv=>if kv.1=k then (kv.1,v) else kv) else kvs++[(k,v)]
theorem zsO {κ:Type} [DecidableEq κ] {K:PySem.W.Frag} {G:Hp} {k:κ}:∀ {us:List (κ×V)} {kvs:List (κ×D)},us.map (·.1)=kvs.map (·.1)->Reps Γ K G (us.map (·.2)) (kvs.map (·.2)) ->
  (zts kvs k=none/\zob us k=none)\/∃ d v,zts kvs k=some d/\zob us k=some v/\Rep Γ K G v d
 | [],[],_,_=>.inl ⟨rfl,rfl⟩
 | [],_::_,e,_=>by cases e
 | _::_,[],e,_=>by cases e
 | (k1,v)::us,(k2,d)::kvs,e,r=>by
  have e1:k1=k2:=(List.cons.inj e).1
  have e2:us.map (·.1)=kvs.map (·.1):=(List.cons.inj e).2
  subst e1
  have r:Reps Γ K G (v::us.map (·.2)) (d::kvs.map (·.2)):=r
  cases r with
  | cons r1 r2 =>
   by_cases h:k1=k
   ·exact .inr ⟨d,v,by simp [zts,List.find?_cons,h],zif h,r1⟩
   ·have:=zsO (k:=k) e2 r2
    rw [zig (p:=(k1,v)) h]
    simpa [zts,List.find?_cons,h] using this
theorem zpH {κ:Type} [DecidableEq κ] {k:κ} {α β:Type}:∀ {us:List (κ×α)} {kvs:List (κ×β)},us.map (·.1)=kvs.map (·.1)->(us.any fun kv=>decide (kv.1=k))=(kvs.any fun kv=>decide (kv.1=k))
 | [],[],_=>rfl
 | [],_::_,e=>by cases e
 | _::_,[],e=>by cases e
 | (k1,v)::us,(k2,d)::kvs,e=>by
  have e1:k1=k2:=(List.cons.inj e).1
  subst e1
  rw [List.any_cons,List.any_cons,zpH (us:=us) (kvs:=kvs) (List.cons.inj e).2]
theorem zpG {κ:Type} [DecidableEq κ] {K:PySem.W.Frag} {G:Hp} {k:κ} {v:V} {d:D} (rv:Rep Γ K G v d):∀ {us:List (κ×V)} {kvs:List (κ×D)},us.map (·.1)=kvs.map (·.1)->Reps Γ K G (us.map (·.2)) (kvs.map (·.2)) ->
  (us.map fun kv=>if kv.1=k then (kv.1,v) else kv).map (·.1)=(kvs.map fun kv=>if kv.1=k then (kv.1,d) else kv).map (·.1)/\Reps Γ K G ((us.map fun kv=>if kv.1=k then (kv.1,v) else kv).map (·.2)) ((kvs.map fun kv=>if kv.1=k then (kv.1,d) else kv).map (·.2))
 | [],[],_,_=>⟨rfl,.nil⟩
 | [],_::_,e,_=>by cases e
 | _::_,[],e,_=>by cases e
 | (k1,u)::us,(k2,x)::kvs,e,r=>by
  have e1:k1=k2:=(List.cons.inj e).1
  have e2:us.map (·.1)=kvs.map (·.1):=(List.cons.inj e).2
  subst e1
  have r:Reps Γ K G (u::us.map (·.2)) (x::kvs.map (·.2)):=r
  cases r with
  | cons r1 r2 =>
   obtain ⟨h1,h2⟩:=zpG (k:=k) rv e2 r2
   by_cases h:k1=k
   ·subst h
    simp only [ql,if_true]
    exact ⟨by rw [h1],.cons rv h2⟩
   ·simp only [ql,qX h]
    exact ⟨by rw [h1],.cons r1 h2⟩
theorem zpF {κ:Type} [DecidableEq κ] {K:PySem.W.Frag} {G:Hp} {k:κ} {v:V} {d:D} (rv:Rep Γ K G v d) {us:List (κ×V)} {kvs:List (κ×D)} (e:us.map (·.1)=kvs.map (·.1)) (r:Reps Γ K G (us.map (·.2)) (kvs.map (·.2))) :
  (zhY us k v).map (·.1)=(zit kvs k d).map (·.1)/\Reps Γ K G ((zhY us k v).map (·.2)) ((zit kvs k d).map (·.2)):=by
 unfold zhY zit
 rw [zpH (k:=k) e]
 split
 ·exact zpG rv e r
 ·simp only [List.map_append,ql,qM]
  exact ⟨by rw [e],r.append (.cons rv .nil)⟩
def zo1:D->Option Key
 | .int i=>some (.inl i)
 | .str x=>some (.inr x)
 | _=>none
def zf3:List D->Option (List Key)
 | []=>some []
 | d::r=>(zo1 d).bind fun k=>(zf3 r).map (k::·)
theorem zkq {K:PySem.W.Frag} {G:Hp} {v:V} {d:D} {k:Key} (r:Rep Γ K G v d) (h:zo1 d=some k):v=kV k:=by
 unfold zo1 at h
 split at h <;> cases h
 ·exact r.int_inv
 ·exact r.str_inv
theorem zdT {K:PySem.W.Frag} {G:Hp}:∀ {vs:List V} {ds:List D} {ks:List Key},Reps Γ K G vs ds->zf3 ds=some ks->vs=ks.map kV
 | _,[],ks,r,h=>by cases r;cases h;rfl
 | _,d::ds,ks,.cons h1 h2,h=>by
  unfold zf3 at h
  obtain ⟨k,hk,h⟩:=oBd h
  obtain ⟨zs,hz,rfl⟩:=oMd h
  rw [zkq h1 hk,zdT h2 hz];rfl
def b3 (g:D->D->D->Option D) (fa fb fc:FE):FE:=fun ρ=>(fa ρ).bind fun x=>(fb ρ).bind fun y=>(fc ρ).bind fun z=>g x y z
def sNo:FS:=fun _=>none
theorem zuc {st:Stmt}:DS Γ X st sNo:=⟨fun pins s σ H E I q=>by
 obtain ⟨G₀,H₀,G,ρ,fl,ρ',A,h,k⟩:=q
 cases h⟩
end
end L2
end
section
namespace L2
open PySem PySem.Spec PyProof.Rows
structure CF (Γ:Cn) (K:PySem.W.Frag) (c:Str) (attrs:List Str):Prop where
 ex:∃ C,Γ.cls c=some C/\Cls K C/\∀ f∈attrs,zgs K C f
section
variable {Γ:Cn} {X:Cx} {a b c e o i value:Expr} {es:List Expr} {fa fb fc f fo fk fx fv:FE} {fr fi:FA} {pos pos' p apos cpos:Pos} {ft:FT} {g:FS} {x cl fl n m:Str} {attrs:List Str}
theorem zcb {K:PySem.W.Frag} {G:Hp} {k:Str}:∀ {us:List (Str×V)} {fs:List (Str×D)},us.map (·.1)=fs.map (·.1)->Reps Γ K G (us.map (·.2)) (fs.map (·.2)) ->
  (fs.lookup k=none/\us.lookup k=none)\/∃ d v,fs.lookup k=some d/\us.lookup k=some v/\Rep Γ K G v d
 | [],[],_,_=>.inl ⟨rfl,rfl⟩
 | [],_::_,e,_=>by cases e
 | _::_,[],e,_=>by cases e
 | (k1,v)::us,(k2,d)::fs,e,r=>by
  have e1:k1=k2:=(List.cons.inj e).1
  have e2:us.map (·.1)=fs.map (·.1):=(List.cons.inj e).2
  subst e1
  have r:Reps Γ K G (v::us.map (·.2)) (d::fs.map (·.2)):=r
  cases r with
  | cons r1 r2 =>
   by_cases h:k=k1
   ·subst h
    exact .inr ⟨d,v,by simp [List.lookup],by simp [List.lookup],r1⟩
   ·have hb:(k==k1)=false:=by simpa using h
    have:=zcb (k:=k) e2 r2
    simpa [List.lookup,hb] using this
theorem ziu {f:Str} {v:V}:∀ {fs:List (Str×V)},fs.lookup f=none->zi5 f v fs=fs++[(f,v)]
 | [],_=>rfl
 | (g,x)::r,h=>by
  by_cases e:f=g
  ·subst e;simp [List.lookup] at h
  ·have hb:(f==g)=false:=by simpa using e
   rw [zi5,qX (fun z=>e z.symm),ziu (by simpa [List.lookup,hb] using h)]
   rfl
def zuE (c f:Str):D->Option D
 | .ins c' fs=>if c'=c then fs.lookup f else none
 | _=>none
def zln (c f:Str) (fo:FE):FE:=fun ρ=>(fo ρ).bind (zuE c f)
theorem zfy (hc:CF Γ X.K cl attrs) (hf:fl∈attrs) (ho:DE Γ X o fo) (hb:attributeBase o fl X.env (eval o X.env)=eval o X.env:=by rfl):DE Γ X (.Attribute o fl pos) (zln cl fl fo):=⟨(zmJ ho.1 hb).imp fun σ H Q=>by
 rintro ⟨G₀,H₀,G,ρ,d,A,h,k⟩
 unfold zln at h
 obtain ⟨x,hx,hq⟩:=oBd h
 clear h
 refine ⟨G₀,H₀,G,ρ,x,A,hx,fun v G1 H1 s1 r1=>?_⟩
 unfold zuE at hq
 split at hq
 ·split at hq
  ·rename_i ec
   subst ec
   obtain ⟨C,q1,q2,q3⟩:=hc.ex
   cases r1 with
   | ins h1 h2 h3 h4 =>
    rw [q1] at h2
    cases h2
    rcases zcb (k:=fl) h3 h4 with ⟨z1,_⟩ | ⟨d',v',z1,z2,z3⟩
    ·rw [z1] at hq;cases hq
    ·rw [z1] at hq
     cases hq
     exact ⟨_,C,_,_,v',rfl,s1.gh _ _ h1,q2,q3 fl hf,z2,k v' G1 H1 s1 z3⟩
  ·cases hq
 ·cases hq⟩
def zmo (f:Str):Slot->Option D
 | .obj _ fs=>fs.lookup f
 | .objd _ fs n _=>if f=n then none else fs.lookup f
 | _=>none
def zqb:Slot->Option Str
 | .obj c _=>some c
 | .objd c _ _ _=>some c
 | _=>none
def zhE (c f:Str) (i:Nat):FE:=fun ρ=>match ρ[i]? with
 | some (some s)=>if zqb s=some c then zmo f s else none
 | _=>none
theorem zoK {vs:List (Str×V)} {n f:Str} {v w:V} (h:vs.lookup f=some v):(vs++[(n,w)]).lookup f=some v:=by
 induction vs with
 | nil=>cases h
 | cons p r ih =>
  obtain ⟨g,x⟩:=p
  by_cases e:f=g
  ·subst e;simpa [List.lookup] using h
  ·have hb:(f==g)=false:=by simpa using e
   simp only [qo,List.lookup,hb] at h ⊢
   exact ih h
theorem ziI (i:Nat) (hc:CF Γ X.K cl attrs) (hf:fl∈attrs) {vp:Pos} (hN:X.N[i]?=some x:=by rfl) (hv:Vis X.env.scope x:=by first | exact Or.inl rfl | exact Or.inr (Or.inl rfl) | exact Or.inr (Or.inr rfl)) (hd:(x==("__debug__":Str))=false:=by decide)
  (hcd:(x==("__classdict__":Str))=false:=by decide) (hb:attributeBase (.Name x vp) fl X.env (eval (.Name x vp) X.env)=eval (.Name x vp) X.env:=by rfl):DE Γ X (.Attribute (.Name x vp) fl pos) (zhE cl fl i):=⟨(zmJ (zfr hN hv hd hcd) hb).imp fun σ H Q=>by
 rintro ⟨G₀,H₀,G,ρ,d,A,h,k⟩
 unfold zhE at h
 split at h
 ·rename_i s hi
  split at h
  ·rename_i hcl
   obtain ⟨C,q1,q2,q3⟩:=hc.ex
   obtain ⟨v,fp,h1,h2⟩:=A.get hi
   cases h2 with
   | sh _=>cases h
   | own _ _ _ _=>cases h
   | odk _ _ _ _ _=>cases h
   | odt _ _ _ _ _=>cases h
   | tlo _ _ _ _ _ _=>cases h
   | oll _ _ _ _ _=>cases h
   | pin _=>cases h
   | obj g1 g2 g3 g4 g5 g6 g7 =>
    cases hcl
    rw [q1] at g1
    cases g1
    have h:List.lookup fl _=some d:=h
    rcases zcb (k:=fl) g5 g6 with ⟨z1,_⟩ | ⟨d',v',z1,z2,z3⟩
    ·rw [z1] at h;cases h
    ·rw [z1] at h
     cases h
     exact ⟨_,h1,_,C,_,_,v',rfl,g4,q2,q3 fl hf,z2,k v' G H (.refl A.gh) z3⟩
   | objd g1 g2 g3 g4 g5 g6 _ _ _ _ _ g7 =>
    cases hcl
    rw [q1] at g1
    cases g1
    unfold zmo at h
    simp only at h
    split at h
    ·cases h
    ·rcases zcb (k:=fl) g5 g6 with ⟨z1,_⟩ | ⟨d',v',z1,z2,z3⟩
     ·rw [z1] at h;cases h
     ·rw [z1] at h
      cases h
      exact ⟨_,h1,_,C,_,_,v',rfl,g4,q2,q3 fl hf,zoK z2,k v' G H (.refl A.gh) z3⟩
  ·cases h
 ·cases h⟩
def zfp (c f:Str) (i:Nat) (fv:FE):FS:=fun ρ=>(fv ρ).bind fun d=>match ρ[i]? with
 | some (some (.obj c' fs))=>if c'=c/\fs.lookup f=none/\fs.length < 100 then some (.nx,ρ.set i (some (.obj c (fs++[(f,d)])))) else none
 | _=>none
theorem zdx (i:Nat) (hc:CF Γ X.K cl attrs) (hf:fl∈attrs) {vp:Pos} (hv':DE Γ X value fv) (hN:X.N[i]?=some x:=by rfl) (hv:Vis X.env.scope x:=by first | exact Or.inl rfl | exact Or.inr (Or.inl rfl) | exact Or.inr (Or.inr rfl)) (hd:(x==("__debug__":Str))=false:=by decide)
  (hcd:(x==("__classdict__":Str))=false:=by decide) (hs:swapsWith value (some (.Attribute (.Name x vp) fl pos')) pos.line X.env=pure false:=by rfl):DS Γ X (.Assign [.Attribute (.Name x vp) fl pos'] value pos) (zfp cl fl i fv):=⟨(zpx (zfr hN hv hd hcd) hv'.1 hs).imp fun E σ H=>by
 rintro ⟨G₀,H₀,G,ρ,flw,ρ',A,h,k⟩
 unfold zfp at h
 obtain ⟨d,hd,h⟩:=oBd h
 split at h
 ·rename_i c' fs hi
  split at h
  ·rename_i hz
   obtain ⟨rfl,hz2,hz3⟩:=hz
   cases h
   obtain ⟨C,q1,q2,q3⟩:=hc.ex
   refine ⟨G₀,H₀,G,ρ,d,A,hd,fun v G1 H1 s1 r1=>?_⟩
   have A1:=A.step s1
   obtain ⟨w,fp,h1,h2⟩:=A1.get hi
   cases h2 with
   | obj g1 g2 g3 g4 g5 g6 g7 =>
    rename_i a C' dx vs
    have g1':=g1
    rw [q1] at g1
    cases g1
    have hl:vs.lookup fl=none:=by
     rcases zcb (k:=fl) g5 g6 with ⟨_,z2⟩ | ⟨d',v',z1,_,_⟩
     ·exact z2
     ·rw [z1] at hz2;cases hz2
    have hlen:vs.length=fs.length:=by simpa using congrArg List.length g5
    refine ⟨_,h1,a,C,dx,vs,rfl,g4,q2,q3 fl hf,by omega,?_⟩
    rw [ziu hl]
    refine k σ G1 _ s1.gg (A1.ch hi h1 (.obj g1' g2 g3 g4 g5 g6 g7) (fun b o e hb=>?_) (.obj (vs:=vs++[(fl,v)]) g1' g2 g3 zax (by simp [g5]) (by simpa using g6.append (.cons r1 .nil)) g7) (fun b hb=>.inl hb) (.refl _) (fun b o e=>?_) (fun _ _ _ _=>rfl))
    ·rw [zat (fun z=>hb (List.mem_singleton.mpr z))];exact e
    ·rw [zat (zao e g3)];exact A1.gh b o e
  ·cases h
 ·cases h⟩
def zrE (c f:Str) (i:Nat):FS:=fun ρ=>match ρ[i]? with
 | some (some (.obj c' fs))=>if c'=c/\fs.lookup f=none/\fs.length < 100 then some (.nx,ρ.set i (some (.objd c fs f []))) else none
 | _=>none
theorem zs9 (i:Nat) (hc:CF Γ X.K cl attrs) (hf:fl∈attrs) {vp dp:Pos} (hN:X.N[i]?=some x:=by rfl) (hv:Vis X.env.scope x:=by first | exact Or.inl rfl | exact Or.inr (Or.inl rfl) | exact Or.inr (Or.inr rfl)) (hd:(x==("__debug__":Str))=false:=by decide)
  (hcd:(x==("__classdict__":Str))=false:=by decide) (hs:swapsWith (.Dict [] [] dp) (some (.Attribute (.Name x vp) fl pos')) pos.line X.env=pure false:=by rfl):DS Γ X (.Assign [.Attribute (.Name x vp) fl pos'] (.Dict [] [] dp) pos) (zrE cl fl i):=⟨(zpx (zfr hN hv hd hcd) zox hs).imp fun E σ H=>by
 rintro ⟨G₀,H₀,G,ρ,flw,ρ',A,h,k⟩ p hp
 unfold zrE at h
 split at h
 ·rename_i c' fs hi
  split at h
  ·rename_i hz
   obtain ⟨rfl,hz2,hz3⟩:=hz
   cases h
   obtain ⟨C,q1,q2,q3⟩:=hc.ex
   obtain ⟨w,fp,h1,h2⟩:=A.get hi
   cases h2 with
   | obj g1 g2 g3 g4 g5 g6 g7 =>
    rename_i a C' dx vs
    have g1':=g1
    rw [q1] at g1
    cases g1
    have hl:vs.lookup fl=none:=by
     rcases zcb (k:=fl) g5 g6 with ⟨_,z2⟩ | ⟨d',v',z1,_,_⟩
     ·exact z2
     ·rw [z1] at hz2;cases hz2
    have hlen:vs.length=fs.length:=by simpa using congrArg List.length g5
    have npa:a≠p:=zao g4 hp
    refine ⟨_,h1,a,C,dx,vs,rfl,by rw [zat npa];exact g4,q2,q3 fl hf,by omega,?_⟩
    rw [ziu hl]
    have hp0:H₀ p=none:=A.st.hh.free hp
    have hpg:G p=none:=A.gh.free hp
    refine k σ G _ (.refl _) (A.ch hi h1 (.obj g1' g2 g3 g4 g5 g6 g7) (fun b o e hb=>?_) (.objd (vs:=vs) (p:=p) (us:=[]) (kvs:=[]) g1' g2 g3 zax g5 g6 hp0 hpg (by rw [zat npa.symm,zax]) rfl .nil g7) (fun b hb=>?_) (.refl _) (fun b o e=>?_) (fun _ _ _ _=>rfl))
    ·rw [zat (fun z=>hb (List.mem_singleton.mpr z)),zat (zao e hp)];exact e
    ·rcases List.mem_cons.mp hb with rfl | hb
     ·exact .inl (List.mem_singleton.mpr rfl)
     ·rw [List.mem_singleton.mp hb];exact .inr hp
    ·rw [zat (zao e g3),zat (zao e hpg)];exact A.gh b o e
  ·cases h
 ·cases h⟩
def zdq (c f:Str) (i:Nat) (fk fv:FE):FS:=fun ρ=>(fv ρ).bind fun d=>(fk ρ).bind fun kd=>(zo1 kd).bind fun k=>match ρ[i]? with
 | some (some (.objd c' fs n kvs))=>if c'=c/\n=f/\fs.lookup f=none/\kvs.length < 100000 then some (.nx,ρ.set i (some (.objd c fs n (zit kvs k d)))) else none
 | _=>none
theorem znb {vs:List (Str×V)} {f:Str} {w:V} (h:vs.lookup f=none):(vs++[(f,w)]).lookup f=some w:=by
 induction vs with
 | nil=>simp [List.lookup]
 | cons p r ih =>
  obtain ⟨g,x⟩:=p
  by_cases e:f=g
  ·subst e;simp [List.lookup] at h
  ·have hb:(f==g)=false:=by simpa using e
   simp only [qo,List.lookup,hb] at h ⊢
   exact ih h
theorem znC (i:Nat) (hu:X.A.units+66 < cLine) (hc:CF Γ X.K cl attrs) (hf:fl∈attrs) {vp ap:Pos} {ke:Expr} (hk:DE Γ X ke fk) (hv':DE Γ X value fv) (hN:X.N[i]?=some x:=by rfl) (hv:Vis X.env.scope x:=by first | exact Or.inl rfl | exact Or.inr (Or.inl rfl) | exact Or.inr (Or.inr rfl)) (hd:(x==("__debug__":Str))=false:=by decide)
  (hcd:(x==("__classdict__":Str))=false:=by decide) (hb:attributeBase (.Name x vp) fl X.env (eval (.Name x vp) X.env)=eval (.Name x vp) X.env:=by rfl) (hs:swapsWith value (some (.Subscript (.Attribute (.Name x vp) fl ap) ke pos')) pos.line X.env=pure false:=by rfl) :
  DS Γ X (.Assign [.Subscript (.Attribute (.Name x vp) fl ap) ke pos'] value pos) (zdq cl fl i fk fv):=⟨(zqs (by omega) (zmJ (zfr hN hv hd hcd) hb) hk.1 hv'.1 hs).imp fun E σ H=>by
 rintro ⟨G₀,H₀,G,ρ,flw,ρ',A,h,k⟩
 unfold zdq at h
 obtain ⟨d,hd,ha⟩:=oBd h
 clear h
 obtain ⟨kd,hkd,hb1⟩:=oBd ha
 clear ha
 obtain ⟨kk,hkk,hq⟩:=oBd hb1
 clear hb1
 split at hq
 ·rename_i c' fs n kvs hi
  split at hq
  ·rename_i hz
   obtain ⟨rfl,rfl,hz2,hz3⟩:=hz
   cases hq
   obtain ⟨C,q1,q2,q3⟩:=hc.ex
   refine ⟨G₀,H₀,G,ρ,d,A,hd,fun v G1 H1 s1 r1=>?_⟩
   have A1:=A.step s1
   obtain ⟨w,fp,h1,h2⟩:=A1.get hi
   cases h2 with
   | objd g1 g2 g3 g4 g5 g6 y1 y2 y3 y4 y5 g7 =>
    rename_i a C' dx p vs us
    have g1':=g1
    rw [q1] at g1
    cases g1
    have hl:vs.lookup n=none:=by
     rcases zcb (k:=n) g5 g6 with ⟨_,z2⟩ | ⟨d',v',z1,_,_⟩
     ·exact z2
     ·rw [z1] at hz2;cases hz2
    refine ⟨_,h1,a,C,dx,_,.ref p,rfl,g4,q2,q3 n hf,znb hl,G₀,H₀,G1,ρ,kd,A1,hkd,fun u G2 H2 s2 r2=>?_⟩
    have A2:=A1.step s2
    have eu:=zkq r2 hkk
    subst eu
    have hp2:H2 p=some (.dK us):=s2.hh _ _ y3
    have ha2:H2 a=some (.ins C dx (vs++[(n,.ref p)])):=s2.hh _ _ g4
    have ga2:G2 a=none:=(s2.out _ _ g4).trans g3
    have gp2:G2 p=none:=(s2.out _ _ y3).trans y2
    have npa:a≠p:=zqQ ha2 hp2 (by intro z;cases z)
    have hlen:us.length=kvs.length:=by simpa using congrArg List.length y4
    obtain ⟨w1,w2⟩:=zpF (k:=kk) (r1.mono s2.gg) y4 (y5.mono s2.gg)
    refine ⟨p,_,rfl,ztq.k hp2 (by have:=sizeLine_eq;omega),?_⟩
    refine k σ G2 _ (s1.gg.trans s2.gg) (A2.ch hi h1 (.objd g1' g2 ga2 ha2 g5 (g6.mono s2.gg) y1 gp2 hp2 y4 (y5.mono s2.gg) g7) (fun b o e hb=>?_) (.objd (p:=p) g1' g2 ga2 (by rw [zat npa];exact ha2) g5 (g6.mono s2.gg) y1 gp2 zax w1 w2 g7) (fun b hb=>.inl hb) (.refl _) (fun b o e=>?_) (fun _ _ _ _=>rfl))
    ·rw [zat (fun z=>hb (by rw [z];exact qg _ qf))];exact e
    ·rw [zat (zao e gp2)];exact A2.gh b o e
  ·cases hq
 ·cases hq⟩
def zmn:Slot->Option D
 | .obj c fs=>some (.ins c fs)
 | .objd c fs n kvs=>some (.ins c (fs++[(n,.dk kvs)]))
 | _=>none
theorem At.done {K:PySem.W.Frag} {G₀ H₀ G H:Hp} {ρ:zaY} {σ:St} (A:At Γ K G₀ H₀ G H ρ σ) {i:Nat} {s:Slot} {d:D} (hi:ρ[i]?=some (some s)) (hd:zmn s=some d):∃ a G',Γ.self=some a/\Step G₀ H₀ G' H/\Rep Γ K G' (.ref a) d:=by
 obtain ⟨v,fp,h1,h2⟩:=A.get hi
 cases h2 with
 | sh _=>cases hd
 | own _ _ _ _=>cases hd
 | odk _ _ _ _ _=>cases hd
 | odt _ _ _ _ _=>cases hd
 | tlo _ _ _ _ _ _=>cases hd
 | oll _ _ _ _ _=>cases hd
 | pin _=>cases hd
 | obj g1 g2 g3 g4 g5 g6 g7 =>
  cases hd
  rename_i a C dx vs fs
  have sm:zbO G (upd G a (.ins C dx vs)):=fun b o e=>by rw [zat (zao e g3)];exact e
  refine ⟨a,upd G a (.ins C dx vs),g7,⟨A.st.hh,A.st.gg.trans sm,fun b o e=>?_,fun b o e=>?_⟩,.ins zax g1 g5 (g6.mono sm)⟩
  ·by_cases hb:b=a
   ·subst hb;rw [zax] at e;cases e;exact g4
   ·rw [zat hb] at e;exact A.gh b o e
  ·rw [zat (zao e g2)];exact A.st.out b o e
 | objd g1 g2 g3 g4 g5 g6 y1 y2 y3 y4 y5 g7 =>
  cases hd
  rename_i n a C dx p vs fs us kvs
  have npa:a≠p:=zqQ g4 y3 (by intro z;cases z)
  have sm:zbO G (upd (upd G p (.dK us)) a (.ins C dx (vs++[(n,.ref p)]))):=fun b o e=>by rw [zat (zao e g3),zat (zao e y2)];exact e
  refine ⟨a,_,g7,⟨A.st.hh,A.st.gg.trans sm,fun b o e=>?_,fun b o e=>?_⟩,.ins (us:=vs++[(n,.ref p)]) (fs:=fs++[(n,.dk kvs)]) zax g1 (by simp [g5]) ?_⟩
  ·by_cases hb:b=a
   ·subst hb;rw [zax] at e;cases e;exact g4
   ·rw [zat hb] at e
    by_cases hb':b=p
    ·subst hb';rw [zax] at e;cases e;exact y3
    ·rw [zat hb'] at e;exact A.gh b o e
  ·rw [zat (zao e g2),zat (zao e y1)];exact A.st.out b o e
  ·have r2:Rep Γ K (upd (upd G p (.dK us)) a (.ins C dx (vs++[(n,.ref p)]))) (.ref p) (.dk kvs):=.dk (us:=us) (by rw [zat npa.symm,zax]) y4 (y5.mono sm)
   simpa using (g6.mono sm).append (.cons r2 .nil)
end
end L2
end
section
namespace L2
open PySem PySem.Spec PyProof.Rows
def Cn.mk1 (Γ:Cn) (x:Addr):Cn:=⟨Γ.cls,some x⟩
section
variable {Γ:Cn} {P:Program} {w:World} {K:PySem.W.Frag} {mg:Str->Option Value} {base:Heap} {c:Str} {attrs:List Str} {x:Addr}
theorem Rep.to1 {G:Hp} {v:V} {d:D} (x:Addr) (r:Rep Γ K G v d):Rep (Γ.mk1 x) K G v d:=Rep.re (Γ:=Γ) (Γ':=Γ.mk1 x) rfl r
theorem Rep.of1 {G:Hp} {v:V} {d:D} {x:Addr} (r:Rep (Γ.mk1 x) K G v d):Rep Γ K G v d:=Rep.re (Γ:=Γ.mk1 x) (Γ':=Γ) rfl r
theorem Reps.of1 {G:Hp} {v:List V} {d:List D} {x:Addr} (r:Reps (Γ.mk1 x) K G v d):Reps Γ K G v d:=Reps.re (Γ:=Γ.mk1 x) (Γ':=Γ) rfl r
theorem CF.re (h:CF Γ K c attrs) (x:Addr):CF (Γ.mk1 x) K c attrs:=⟨h.ex⟩
theorem zrY {n:Nat} {F:List D->Option D} {vs:List V} {H:Hp} {Q:VK} {E:XK} (x:Addr) (h:spF (Γ.mk1 x) K n F vs H Q E):spF Γ K n F vs H Q E:=by
 obtain ⟨G,ds,d,h1,h2,h3,h4,k⟩:=h
 exact ⟨G,ds,d,h1,h2.of1,h3,h4,fun v G' H' s r=>k v G' H' s (r.to1 x)⟩
theorem Cal.re {y:Str} {n k:Nat} {F:List D->Option D} (C:Cal Γ P w K mg base y n k F) (x:Addr):Cal (Γ.mk1 x) P w K mg base y n k F:=by
 obtain ⟨f,fd,ps,h1,h2,h3,h4⟩:=C.ex
 exact ⟨f,fd,ps,h1.imp fun vs H Q E q=>zrY x q,h2,h3,h4⟩
structure CalM (Γ:Cn) (P:Program) (w:World) (K:PySem.W.Frag) (mg:Str->Option Value) (base:Heap) (c m:Str) (n k:Nat) (F:List D->Option D):Prop where
 ex:∃ C f fd ps,Γ.cls c=some C/\Cls K C/\Meth K C m f/\FnOk P w K mg base CX0 k f fd ps (spF Γ K n F)/\zdJ K fd ps []
def spI (Γ:Cn) (K:PySem.W.Frag) (C:Addr) (n:Nat) (F:List D->Option D):Sp:=fun vs H Q _=>∃ x dx H1 G ds d us,vs=.ref x::us/\H=upd (upd H1 dx (.own x)) x (.ins C dx [])/\H1 x=none/\H1 dx=none/\dx≠x/\zbO G H1/\Reps Γ K G us ds/\ds.length=n/\F ds=some d /\
 ∀ G' H',Step G H1 G' H'->Rep Γ K G' (.ref x) d->Q .non H'
structure CalI (Γ:Cn) (P:Program) (w:World) (K:PySem.W.Frag) (mg:Str->Option Value) (base:Heap) (c:Str) (n k:Nat) (F:List D->Option D):Prop where
 ex:∃ C f fd ps,Γ.cls c=some C/\Mk K C f/\mg c=some (.ref C)/\FnOk P w K mg base CX0 k f fd ps (spI Γ K C n F)/\zdJ K fd ps []
end
section
variable {Γ:Cn} {X:Cx} {e o:Expr} {es:List Expr} {fo:FE} {fr:FA} {pos p apos:Pos} {c m:Str}
def zfU (c m:Str) (F:List D->Option D) (fo:FE) (fr:FA):FE:=fun ρ=>(fo ρ).bind fun d=>match d with
 | .ins c' fs=>if c'=c/\fs.lookup m=none then (fr ρ).bind fun ds=>F (d::ds) else none
 | _=>none
theorem zuf {n k j:Nat} {F:List D->Option D} {pl:Sem Bool} (C:CalM Γ X.prog X.w X.K X.mg X.base c m (n+1) k F) (hr:Room j X.A) (hk:k<=j) (ho:DE Γ X o fo) (ha:DA Γ X (e::es) fr) (hn:∀ ρ ds,fr ρ=some ds->ds.length=n)
  (hst:starEach (e::es) X.env=(false,eval e X.env)::starEach es X.env:=by rfl) (hpl:(backTo pos (starEach es X.env)).any (·.1)=false:=by rfl)
  (ht:eval (.Call (.Attribute o m apos) (e::es) [] pos) X.env=(do
   let ov ← eval o X.env
   standAt apos.atName
   let (f,first) ← holding [ov] (getMethod ov m pl)
   callWith pos f first (backTo pos (starEach (e::es) X.env)) (backToKw pos (keywordEach [] X.env))):=by rfl) :
  DE Γ X (.Call (.Attribute o m apos) (e::es) [] pos) (zfU c m F fo fr):=⟨by
 obtain ⟨Ca,f,fd,ps,h0,h1,h2,h3,h4⟩:=C.ex
 refine (zqv ho.1 h1 h2 h3 (hr.mono hk) h4 .nil zkd ha.1 hst hpl ht).imp fun σ H Q=>?_
 rintro ⟨G₀,H₀,G,ρ,d,A,h,k⟩
 unfold zfU at h
 obtain ⟨x,hx,hq⟩:=oBd h
 clear h
 refine ⟨G₀,H₀,G,ρ,x,A,hx,fun v G1 H1 s1 r1=>?_⟩
 split at hq
 ·rename_i c' fs
  split at hq
  ·rename_i hz
   obtain ⟨rfl,hz2⟩:=hz
   obtain ⟨ds,hds,hF⟩:=oBd hq
   have r1':=r1
   cases r1 with
   | ins g1 g2 g3 g4 =>
    rw [h0] at g2
    cases g2
    rename_i _ _ us0
    have hl:List.lookup m us0=none:=by
     rcases zcb (k:=m) g3 g4 with ⟨_,z2⟩ | ⟨d',v',z1,_,_⟩
     ·exact z2
     ·rw [z1] at hz2;cases hz2
    refine ⟨_,_,_,rfl,s1.gh _ _ g1,hl,G₀,H₀,G1,ρ,ds,A.step s1,hds,fun vs G2 H2 s2 r2=>?_⟩
    show spF Γ X.K (n+1) F (_::(vs++[])) H2 Q E0
    rw [List.append_nil]
    exact ⟨G2,_,d,s2.gh,.cons (r1'.mono s2.gg) r2,by rw [qh,hn ρ ds hds],hF,fun v G' H' s r=>k v G' H' ((s1.trans s2).trans s) r⟩
  ·cases hq
 ·cases hq⟩
theorem zdU {k j:Nat} {F:List D->Option D} {pl:Sem Bool} (C:CalM Γ X.prog X.w X.K X.mg X.base c m 1 k F) (hr:Room j X.A) (hk:k<=j) (ho:DE Γ X o fo)
  (ht:eval (.Call (.Attribute o m apos) [] [] pos) X.env=(do
   let ov ← eval o X.env
   standAt apos.atName
   let (f,first) ← holding [ov] (getMethod ov m pl)
   callWith pos f first (backTo pos (starEach [] X.env)) (backToKw pos (keywordEach [] X.env))):=by rfl) :
  DE Γ X (.Call (.Attribute o m apos) [] [] pos) (zfU c m F fo zaj):=⟨by
 obtain ⟨Ca,f,fd,ps,h0,h1,h2,h3,h4⟩:=C.ex
 refine (zk0 ho.1 h1 h2 h3 (hr.mono hk) h4 .nil zkd ht).imp fun σ H Q=>?_
 rintro ⟨G₀,H₀,G,ρ,d,A,h,k⟩
 unfold zfU at h
 obtain ⟨x,hx,hq⟩:=oBd h
 clear h
 refine ⟨G₀,H₀,G,ρ,x,A,hx,fun v G1 H1 s1 r1=>?_⟩
 split at hq
 ·rename_i c' fs
  split at hq
  ·rename_i hz
   obtain ⟨rfl,hz2⟩:=hz
   obtain ⟨ds,hds,hF⟩:=oBd hq
   cases hds
   have r1':=r1
   cases r1 with
   | ins g1 g2 g3 g4 =>
    rw [h0] at g2
    cases g2
    rename_i _ _ us0
    have hl:List.lookup m us0=none:=by
     rcases zcb (k:=m) g3 g4 with ⟨_,z2⟩ | ⟨d',v',z1,_,_⟩
     ·exact z2
     ·rw [z1] at hz2;cases hz2
    refine ⟨_,_,_,rfl,s1.gh _ _ g1,hl,?_⟩
    exact ⟨G1,_,d,s1.gh,.cons r1' .nil,rfl,hF,fun v G' H' s r=>k v G' H' (s1.trans s) r⟩
  ·cases hq
 ·cases hq⟩
theorem zrn {n k j:Nat} {F:List D->Option D} (C:CalI Γ X.prog X.w X.K X.mg X.base c n k F) (hr:Room j X.A) (hk:k+1<=j) (hg:Gl X c) (ha:DA Γ X (e::es) fr) (hn:∀ ρ ds,fr ρ=some ds->ds.length=n)
  (hdb:(c==("__debug__":Str))=false:=by decide) (he:starEach (e::es) X.env=(false,eval e X.env)::starEach es X.env:=by rfl) (hpl:(backTo pos (starEach es X.env)).any (·.1)=false:=by rfl) :
  DE Γ X (.Call (.Name c p) (e::es) [] pos) (cF F fr):=⟨by
 obtain ⟨Ca,f,fd,ps,h0,h1,h2,h3,h4⟩:=C.ex
 refine (zqw h1 h3 (hr.mono hk) hg h2 h4 .nil zkd ha.1 hdb he hpl).imp fun σ H Q=>?_
 rintro ⟨G₀,H₀,G,ρ,d,A,h,k⟩
 unfold cF at h
 obtain ⟨ds,hd,hq⟩:=oBd h
 refine ⟨G₀,H₀,G,ρ,ds,A,hd,fun vs G1 H1 s1 r1 x dx hx hdx hne=>?_⟩
 rw [List.append_nil]
 exact ⟨x,dx,H1,G1,ds,d,vs,rfl,rfl,hx,hdx,hne,s1.gh,r1,hn ρ ds hd,hq,fun G' H' s r=>⟨rfl,k _ G' H' (s1.trans s) r⟩⟩⟩
end
def zrG (n:Nat) (c:Str) (g:FS):List D->Option D:=fun ds=>(g (some (.obj c [])::ds.map (fun d=>some (Slot.sh d))++List.replicate n none)).bind fun r=>match r.1 with
 | .nx=>match r.2[0]? with
  | some (some s)=>zmn s
  | _=>none
 | _=>none
section
variable {Γ:Cn} {P:Program} {w:World} {K:PySem.W.Frag} {mg:Str->Option Value} {base:Heap} {c:Str} {attrs:List Str}
theorem Fun.okI {x qual:Str} {st:Stmt} {f C:Addr} {fd:FuncData} {N ps:List Str} {s0:Str} {k:Nat} {g:FS} (F:Fun K x qual st f fd) (S:FnScope N (s0::ps) (zaf st)) (hC:Γ.cls c=some C)
  (hbody:∀ (y:Addr) (cdv:Value) (A:Around) (outer:List Env) (s:Shared) (H:Hp) (E:XK),Room k (A.deeper (envOfC qual (zaf st) s.heap.objs.size f cdv)) ->
   DSs (Γ.mk1 y) (ziK CX0 P w K mg base N qual (zaf st) f cdv A outer s H E).nox (zaW st) g):FnOk P w K mg base CX0 (k+1) f fd (s0::ps) (spI Γ K C ps.length (zrG (N.length - (ps.length+1)) c g)):=by
 refine F.ok S (fun vs H Q E h=>?_) (fun cdv A outer s H vs Q E hr h=>?_)
 ·obtain ⟨y,dx,H1,G,ds,d,us,rfl,_,_,_,_,_,r,hl,_⟩:=h
  rw [qh,r.length,hl,qh]
 ·obtain ⟨y,dx,H1,G,ds,d,us,rfl,rfl,hx,hdx,hne,gh,r,hl,hd,k⟩:=h
  refine ⟨_,(hbody y cdv A outer s _ E hr).1,?_⟩
  unfold zrG at hd
  obtain ⟨⟨fl,ρ'⟩,hg,hd⟩:=oBd hd
  have s1:=Step.newOwn (o:=.own y) gh hdx
  have hx1:(upd H1 dx (.own y)) y=none:=by rw [zat (Ne.symm hne)];exact hx
  have s2:=s1.trans (Step.newOwn (o:=.ins C dx []) s1.gh hx1)
  have hlen:us.length=ds.length:=r.length
  have A0:At (Γ.mk1 y) K G H1 G (upd (upd H1 dx (.own y)) y (.ins C dx [])) (some (.obj c [])::ds.map (fun d=>some (Slot.sh d))++List.replicate (N.length - (ps.length+1)) none) (zc5 N (.ref y::us)):=by
   refine ⟨s2,by simp [zc5,hlen,hl],fun i=>if i=0 then [y] else [],fun i t e=>?_,fun i j t u hij e1 e2 b hb=>?_⟩
   ·cases i with
    | zero =>
     cases e
     exact ⟨.ref y,rfl,.obj (vs:=[]) (fs:=[]) hC hx (gh.free hx) zax rfl .nil rfl⟩
    | succ i =>
     have e:(ds.map (fun d=>some (Slot.sh d))++List.replicate (N.length - (ps.length+1)) none)[i]?=some (some t):=e
     by_cases hi:i < ds.length
     ·rw [qx (by simpa using hi),qj] at e
      obtain ⟨d',hd',e⟩:=oMd e
      cases e
      obtain ⟨v,hv,rv⟩:=r.get hd'
      refine ⟨v,?_,.sh (rv.to1 y)⟩
      unfold zc5
      show ((us.map some)++_)[i]?=some (some v)
      rw [qx (by rw [qe,hlen];exact hi),qj,hv]
      rfl
     ·rw [qI (by simpa using hi),List.getElem?_replicate] at e
      split at e <;> cases e
   ·have hb:b∈(if i=0 then [y] else []):=hb
    show b∉(if j=0 then [y] else [])
    by_cases hi:i=0
    ·subst hi
     rw [qX (Ne.symm hij)]
     exact fun z=>by cases z
    ·rw [qX hi] at hb;cases hb
  refine ⟨G,H1,G,_,fl,ρ',A0,hg,fun σ' G' H' sm A'=>?_⟩
  cases fl with
  | nx =>
   simp only at hd
   split at hd
   ·rename_i sl hs
    obtain ⟨a,G2,e1,st2,rp⟩:=A'.done hs hd
    cases e1
    exact k G2 H' st2 rp.of1
   ·cases hd
  | rt d'=>cases hd
  | ow d'=>cases hd
  | nw d'=>cases hd
  | od d'=>cases hd
  | bk=>cases hd
  | ct=>cases hd
structure DfnM (K:PySem.W.Frag) (C:Addr) (c m qual:Str) (st:Stmt):Prop where
 ex:∃ f fd,Fun K m qual st f fd/\PySem.W.findIn K (.ref C) m=some (some (.ref f))/\PySem.W.isFn K (.ref f)=true
structure ClsOk (Γ:Cn) (K:PySem.W.Frag) (mg:Str->Option Value) (c:Str) (C:Addr):Prop where
 cn:Γ.cls c=some C
 cl:Cls K C
 mgC:mg c=some (.ref C)
 makes:PySem.W.makesIn K C=true
 kp:PySem.W.keepIn K (.ref C)=true
theorem DfnM.cal {m qual:Str} {C:Addr} {st:Stmt} {N ps:List Str} {k:Nat} {g:FS} (O:ClsOk Γ K mg c C) (F:DfnM K C c m qual st) (S:FnScope N ps (zaf st))
  (hb:∀ (kV doc pm:Value) (an:Option Addr) (cdv ct:Value) (us:List Value),us.length=ps.length->bindArgs (PySem.W.fnOf m qual (zbU st) (zaW st) (zaf st) .none kV doc pm an cdv ct) ⟨us,[]⟩=pure (ps.zip us))
  (hbody:∀ (f:Addr) (cdv:Value) (A:Around) (outer:List Env) (s:Shared) (H:Hp) (E:XK),Room k (A.deeper (envOfC qual (zaf st) s.heap.objs.size f cdv)) ->
   DSs Γ (ziK CX0 P w K mg base N qual (zaf st) f cdv A outer s H E).nox (zaW st) g):CalM Γ P w K mg base c m ps.length (k+1) (zb9 (N.length - ps.length) g):=by
 obtain ⟨f,fd,h1,h2,h3⟩:=F.ex
 exact ⟨C,f,fd,ps,O.cn,O.cl,⟨h2,h3,h1.kp⟩,h1.okD S (hbody f),h1.binds hb⟩
theorem DfnM.calI {qual:Str} {C:Addr} {st:Stmt} {N ps:List Str} {s0:Str} {k:Nat} {g:FS} (O:ClsOk Γ K mg c C) (F:DfnM K C c "__init__" qual st) (S:FnScope N (s0::ps) (zaf st))
  (hb:∀ (kV doc pm:Value) (an:Option Addr) (cdv ct:Value) (us:List Value),us.length=(s0::ps).length->bindArgs (PySem.W.fnOf "__init__" qual (zbU st) (zaW st) (zaf st) .none kV doc pm an cdv ct) ⟨us,[]⟩=pure ((s0::ps).zip us))
  (hbody:∀ (f y:Addr) (cdv:Value) (A:Around) (outer:List Env) (s:Shared) (H:Hp) (E:XK),Room k (A.deeper (envOfC qual (zaf st) s.heap.objs.size f cdv)) ->
   DSs (Γ.mk1 y) (ziK CX0 P w K mg base N qual (zaf st) f cdv A outer s H E).nox (zaW st) g):CalI Γ P w K mg base c ps.length (k+1) (zrG (N.length - (ps.length+1)) c g):=by
 obtain ⟨f,fd,h1,h2,h3⟩:=F.ex
 exact ⟨C,f,fd,s0::ps,O.cn,⟨O.makes,h2,h3,O.kp⟩,O.mgC,h1.okI S O.cn (hbody f),h1.binds hb⟩
theorem ClsOk.cf {C:Addr} (O:ClsOk Γ K mg c C) (h:∀ f∈attrs,zgs K C f):CF Γ K c attrs:=⟨C,O.cn,O.cl,h⟩
end
end L2
end
section
namespace ST
open PySem
structure Pr where
 j:Nat
 more:Nat
 i:Nat
 pt:Nat
def adv (M:Nat) (p:Pr):Pr:=if p.more > 0 then { p with j:=p.j+1,more:=p.more - 1 } else
 { j:=(SetTable.leap M p.i p.pt).1,more:=SetTable.runEnd M (SetTable.leap M p.i p.pt).1 - (SetTable.leap M p.i p.pt).1,i:=(SetTable.leap M p.i p.pt).1,pt:=(SetTable.leap M p.i p.pt).2 }
def st0 (M:Nat) (h:Int):Pr:={ j:=SetTable.bits h % (M+1),more:=SetTable.runEnd M (SetTable.bits h % (M+1)) - SetTable.bits h % (M+1),i:=SetTable.bits h % (M+1),pt:=SetTable.bits h }
def it (M:Nat) (h:Int):Nat->Pr
 | 0=>st0 M h
 | n+1=>adv M (it M h n)
def J (M:Nat) (h:Int) (n:Nat):Nat:=(it M h n).j
def lp (M:Nat) (h:Int):Nat->Nat×Nat
 | 0=>(SetTable.bits h % (M+1),SetTable.bits h)
 | r+1=>SetTable.leap M (lp M h r).1 (lp M h r).2
def zkB (M:Nat) (x:Nat×Nat):Pr:={ j:=x.1,more:=SetTable.runEnd M x.1 - x.1,i:=x.1,pt:=x.2 }
theorem zli (M:Nat) (h:Int) (n:Nat):∀ k,it M h (n+k)=(Nat.repeat (adv M) k (it M h n))
 | 0=>rfl
 | k+1=>by rw [← Nat.add_assoc,it,zli M h n k];rfl
theorem zqh (M i:Nat):SetTable.runEnd M i - i<=9:=by
 unfold SetTable.runEnd
 split <;> omega
theorem zoh (M:Nat):∀ (k:Nat) (p:Pr),k<=p.more->Nat.repeat (adv M) k p={ p with j:=p.j+k,more:=p.more - k }
 | 0,p,_=>rfl
 | k+1,p,h=>by
  rw [Nat.repeat,zoh M k p (by omega)]
  unfold adv
  rw [qW (by show p.more - k > 0;omega)]
  simp only [Nat.sub_sub,Nat.add_assoc]
theorem zpu (M:Nat) (h:Int):∀ r,∃ n,n<=10*r/\it M h n=zkB M (lp M h r)
 | 0=>⟨0,qu _,rfl⟩
 | r+1=>by
  obtain ⟨n,hn,e⟩:=zpu M h r
  have hl:=zqh M (lp M h r).1
  refine ⟨n+(SetTable.runEnd M (lp M h r).1 - (lp M h r).1)+1,by omega,?_⟩
  have e2:=zoh M (SetTable.runEnd M (lp M h r).1 - (lp M h r).1) (zkB M (lp M h r)) (qu _)
  rw [it,zli,e,e2]
  unfold adv
  rw [qX (by show ¬ ((SetTable.runEnd M (lp M h r).1 - (lp M h r).1) - (SetTable.runEnd M (lp M h r).1 - (lp M h r).1) > 0);omega)]
  rfl
theorem zrv (h:Int):SetTable.bits h < 2 ^ 64:=by
 unfold SetTable.bits
 have h1:=qV h (show (2 ^ 64:Int)≠0 by decide)
 have h2:=qS h (show (0:Int) < 2 ^ 64 by decide)
 omega
theorem zsi (M:Nat) (h:Int):∀ r,(lp M h r).2=SetTable.bits h / 32 ^ r
 | 0=>by simp [lp]
 | r+1=>by
  show (lp M h r).2 / 32=_
  rw [zsi M h r,Nat.div_div_eq_div_mul,Nat.pow_succ]
theorem zqp (M:Nat) (h:Int) {r:Nat} (hr:13<=r):(lp M h r).2=0:=by
 rw [zsi]
 refine Nat.div_eq_of_lt (qD (zrv h) ?_)
 exact qK (show 2 ^ 64<=32 ^ 13 by decide) (Nat.pow_le_pow_right (by decide) hr)
def fl (M i:Nat):Nat:=(i*5+1) % (M+1)
def orb (M:Nat):Nat->Nat->Nat
 | 0,i=>i
 | m+1,i=>fl M (orb M m i)
theorem zna (M:Nat) (h:Int):∀ m,(lp M h (13+m)).1=orb M m (lp M h 13).1
 | 0=>rfl
 | m+1=>by
  show (SetTable.leap M (lp M h (13+m)).1 (lp M h (13+m)).2).1=_
  rw [zqp M h (by omega),zna M h m]
  simp [SetTable.leap,orb,fl]
theorem ziw (M i:Nat) (a:Nat):∀ b,orb M (a+b) i=orb M b (orb M a i)
 | 0=>rfl
 | b+1=>by rw [← Nat.add_assoc,orb,ziw M i a b];rfl
def ztP (M:Nat):Nat->Nat->List Nat
 | 0,_=>[]
 | n+1,i=>i::ztP M n (fl M i)
theorem zk4 (M:Nat):∀ m i,orb M (m+1) i=orb M m (fl M i)
 | 0,_=>rfl
 | m+1,i=>by rw [orb,zk4 M m i];rfl
theorem zk5 (M:Nat):∀ (n i j:Nat),j∈ztP M n i->∃ m,m < n/\orb M m i=j
 | 0,_,_,h=>nomatch h
 | n+1,i,j,h=>by
  rcases List.mem_cons.mp h with e | h
  ·exact ⟨0,Nat.succ_pos _,e.symm⟩
  ·obtain ⟨m,hm,e⟩:=zk5 M n (fl M i) j h
   exact ⟨m+1,by omega,by rw [zk4];exact e⟩
structure Full (M:Nat):Prop where
 all:∀ j,j<=M->∃ m,m < M+1/\orb M m 0=j
 back:orb M (M+1) 0=0
def chk (M:Nat):Bool:=(List.range (M+1)).all (fun j=>(ztP M (M+1) 0).contains j) && orb M (M+1) 0==0
theorem ziE {M:Nat} (h:chk M=true):Full M:=by
 unfold chk at h
 rw [Bool.and_eq_true,List.all_eq_true] at h
 refine ⟨fun j hj=>?_,by simpa using h.2⟩
 have:=h.1 j (List.mem_range.mpr (by omega))
 exact zk5 M (M+1) 0 j (by simpa using this)
theorem zs5:Full 7:=ziE (by decide +kernel)
theorem zs6:Full 31:=ziE (by decide +kernel)
theorem zrh:Full 127:=ziE (by decide +kernel)
theorem zrg:Full 511:=ziE (by decide +kernel)
theorem Full.reach {M:Nat} (F:Full M) {i j:Nat} (hi:i<=M) (hj:j<=M):∃ m,m<=M/\orb M m i=j:=by
 obtain ⟨a,ha,ea⟩:=F.all i hi
 obtain ⟨b,hb,eb⟩:=F.all j hj
 by_cases h:a<=b
 ·refine ⟨b - a,by omega,?_⟩
  rw [← ea,← ziw,show a+(b - a)=b by omega,eb]
 ·refine ⟨M+1 - a+b,by omega,?_⟩
  rw [← ea,← ziw,show a+(M+1 - a+b)=(M+1)+b by omega,ziw,F.back,eb]
theorem zqZ (M:Nat) (h:Int):∀ r,(lp M h r).1<=M
 | 0=>Nat.lt_succ_iff.mp (Nat.mod_lt _ (Nat.succ_pos _))
 | r+1=>Nat.lt_succ_iff.mp (Nat.mod_lt _ (Nat.succ_pos _))
theorem Full.covers {M:Nat} (F:Full M) (h:Int) {j:Nat} (hj:j<=M):∃ n,n < 10*(M+15)/\J M h n=j:=by
 obtain ⟨m,hm,e⟩:=F.reach (zqZ M h 13) hj
 obtain ⟨n,hn,en⟩:=zpu M h (13+m)
 refine ⟨n,by omega,?_⟩
 unfold J
 rw [en]
 show (lp M h (13+m)).1=j
 rw [zna,e]
theorem zsY (M:Nat) (h:Int):∀ n,(it M h n).j+(it M h n).more<=M
 | 0=>by
  have:=zqZ M h 0
  show (lp M h 0).1+(SetTable.runEnd M (lp M h 0).1 - (lp M h 0).1)<=M
  unfold SetTable.runEnd
  split <;> omega
 | n+1=>by
  have ih:=zsY M h n
  rw [it]
  unfold adv
  split
  ·show (it M h n).j+1+((it M h n).more - 1)<=M
   omega
  ·show (SetTable.leap M (it M h n).i (it M h n).pt).1+(SetTable.runEnd M (SetTable.leap M (it M h n).i (it M h n).pt).1 - (SetTable.leap M (it M h n).i (it M h n).pt).1)<=M
   have:(SetTable.leap M (it M h n).i (it M h n).pt).1<=M:=Nat.lt_succ_iff.mp (Nat.mod_lt _ (Nat.succ_pos _))
   unfold SetTable.runEnd
   split <;> omega
theorem zun (M:Nat) (h:Int) (n:Nat):J M h n<=M:=qK (Nat.le_add_right _ _) (zsY M h n)
theorem Full.first {M:Nat} (F:Full M) (h:Int) (occ:Nat->Bool) (hf:∃ j,j<=M/\occ j=false):∃ n,n < 10*(M+15)/\occ (J M h n)=false/\∀ m,m < n->occ (J M h m)=true:=by
 obtain ⟨j,hj,hof⟩:=hf
 obtain ⟨n,hn,e⟩:=F.covers h hj
 have key:∀ n,n < 10*(M+15)->occ (J M h n)=false->∃ n,n < 10*(M+15)/\occ (J M h n)=false/\∀ m,m < n->occ (J M h m)=true:=by
  intro n
  induction n using Nat.strongRecOn with
  | ind n ih =>
   intro hn ho
   by_cases hx:∃ m,m < n/\occ (J M h m)=false
   ·obtain ⟨m,hm,hm2⟩:=hx
    exact ih m hm (by omega) hm2
   ·refine ⟨n,hn,ho,fun m hm=>?_⟩
    cases q:occ (J M h m) with
    | true=>rfl
    | false=>exact absurd ⟨m,hm,q⟩ hx
 exact key n hn (by rw [e];exact hof)
end ST
end
section
namespace ST
open PySem
theorem zi1 (xs:Array Nat) (j:Nat) (hs:xs.toList.Pairwise (· < ·)):∀ (fuel lo hi:Nat),hi - lo<=fuel->lo<=hi->hi<=xs.size->(∀ i,i < lo->∀ v,xs[i]?=some v->v < j)->(∀ i,hi<=i->∀ v,xs[i]?=some v->j<=v) ->
  (SetTable.below.go xs j fuel lo hi<=xs.size)/\(∀ i,i < SetTable.below.go xs j fuel lo hi->∀ v,xs[i]?=some v->v < j)/\∀ i,SetTable.below.go xs j fuel lo hi<=i->∀ v,xs[i]?=some v->j<=v
 | 0,lo,hi,hf,hl,hh,h1,h2=>by
  have e:lo=hi:=by omega
  subst e
  exact ⟨hh,h1,h2⟩
 | fuel+1,lo,hi,hf,hl,hh,h1,h2=>by
  have mono:∀ a b va vb,a < b->xs[a]?=some va->xs[b]?=some vb->va < vb:=fun a b va vb hab ha hb=>by
   have:=List.pairwise_iff_getElem.mp hs a b
   obtain ⟨a1,a2⟩:=Array.getElem?_eq_some_iff.mp ha
   obtain ⟨b1,b2⟩:=Array.getElem?_eq_some_iff.mp hb
   have q:=this (by simpa using a1) (by simpa using b1) hab
   simpa [a2,b2] using q
  unfold SetTable.below.go
  by_cases hlt:lo < hi
  ·rw [qW hlt]
   have hm1:lo<=(lo+hi) / 2:=by omega
   have hm2:(lo+hi) / 2 < hi:=by omega
   have hget:∃ v,xs[(lo+hi) / 2]?=some v:=⟨xs[(lo+hi) / 2]'(by omega),by simp [show (lo+hi) / 2 < xs.size by omega]⟩
   obtain ⟨v,hv⟩:=hget
   have hd:xs.getD ((lo+hi) / 2) j=v:=by simp [Array.getD_eq_getD_getElem?,hv]
   dsimp only
   rw [hd]
   by_cases hvj:v < j
   ·rw [qW hvj]
    refine zi1 xs j hs fuel _ _ (by omega) (by omega) hh (fun i hi' w hw=>?_) h2
    rcases Nat.lt_or_ge i ((lo+hi) / 2) with hi2 | hi2
    ·exact Nat.lt_trans (mono i _ w v hi2 hw hv) hvj
    ·have e:i=(lo+hi) / 2:=by omega
     subst e
     rw [hv] at hw;cases hw;exact hvj
   ·rw [qX hvj]
    refine zi1 xs j hs fuel _ _ (by omega) (by omega) (by omega) h1 fun i hi' w hw=>?_
    rcases Nat.lt_or_ge ((lo+hi) / 2) i with hi2 | hi2
    ·exact qK (by omega) (Nat.le_of_lt (mono _ i v w hi2 hv hw))
    ·have e:i=(lo+hi) / 2:=by omega
     subst e
     rw [hv] at hw;cases hw;omega
  ·rw [qX hlt]
   have e:lo=hi:=by omega
   subst e
   exact ⟨hh,h1,h2⟩
theorem zi0 (xs:Array Nat) (j:Nat) (hs:xs.toList.Pairwise (· < ·)):SetTable.below xs j<=xs.size/\(∀ i,i < SetTable.below xs j->∀ v,xs[i]?=some v->v < j)/\∀ i,SetTable.below xs j<=i->∀ v,xs[i]?=some v->j<=v :=
 zi1 xs j hs xs.size 0 xs.size (qu _) (Nat.zero_le _) (qu _) (fun i h=>absurd h (Nat.not_lt_zero _)) fun i h v hv=>by
  have:=(Array.getElem?_eq_some_iff.mp hv).1
  omega
theorem zhm (xs:Array Nat) (j i:Nat) (hs:xs.toList.Pairwise (· < ·)) (h:xs[i]?=some j):SetTable.below xs j=i:=by
 obtain ⟨h0,h1,h2⟩:=zi0 xs j hs
 rcases Nat.lt_trichotomy (SetTable.below xs j) i with hl | hl | hl
 ·have hi:=(Array.getElem?_eq_some_iff.mp h).1
  have hg:xs[SetTable.below xs j]?=some (xs[SetTable.below xs j]'(by omega)):=by simp [show SetTable.below xs j < xs.size by omega]
  have q1:=h2 _ (qu _) _ hg
  have:=List.pairwise_iff_getElem.mp hs (SetTable.below xs j) i (by simp;omega) (by simpa using hi) hl
  obtain ⟨_,e⟩:=Array.getElem?_eq_some_iff.mp h
  simp only [Array.getElem_toList] at this
  omega
 ·exact hl
 ·have:=h1 i hl j h
  omega
structure Tb (t:SetTable) (es:Array (Int×Value)):Prop where
 full:Full t.mask
 sz:t.place.size=es.size
 dm:t.dummies=#[]
 ri:t.place.toList.Pairwise (· < ·)
 le:∀ j∈t.place.toList,j<=t.mask
 few:es.size*5 < t.mask*3
 rc:∀ (i j:Nat) (h:Int) (x:Value),t.place[i]?=some j->es[i]?=some (h,x)->∃ n,J t.mask h n=j/\∀ m,m < n->J t.mask h m∈t.place.toList
section
variable {t:SetTable} {es:Array (Int×Value)}
theorem Tb.live (T:Tb t es) {j i:Nat} (h:t.place[i]?=some j):t.slot j=.live i:=by
 unfold SetTable.slot
 rw [zhm _ _ _ T.ri h]
 simp [h]
theorem Tb.empty (T:Tb t es) {j:Nat} (h:j∉t.place.toList):t.slot j=.empty:=by
 unfold SetTable.slot
 have h1:t.place[SetTable.below t.place j]?≠some j:=fun e=>h (by
  rw [← qG] at e
  exact qN e)
 have h2:SetTable.has t.dummies j=false:=by rw [T.dm];rfl
 simp [h1,h2]
theorem Tb.occ (T:Tb t es) {j:Nat} (h:j∈t.place.toList):∃ i:Nat,t.place[i]?=some j:=by
 obtain ⟨i,hi⟩:=List.mem_iff_getElem?.mp h
 exact ⟨i,by rw [← qG];exact hi⟩
theorem Tb.fits (T:Tb t es):t.fits es.size=true:=by
 have h1:=T.sz
 have h2:=T.few
 simp only [SetTable.fits,SetTable.fill,T.dm,Array.size_empty,Bool.and_eq_true,beq_iff_eq,decide_eq_true_eq]
 omega
theorem zgM:∀ (a b:List Nat),a.Nodup->(∀ x∈a,x∈b)->a.length<=b.length
 | [],_,_,_=>Nat.zero_le _
 | x::r,b,nd,h=>by
  have hx:=h x qf
  have nd':=List.nodup_cons.mp nd
  have:=zgM r (b.erase x) nd'.2 fun y hy=>(List.mem_erase_of_ne (show y≠x from fun e=>nd'.1 (by rw [← e];exact hy))).mpr (h y (qg _ hy))
  have hl:=List.length_erase_of_mem hx
  have hp:0 < b.length:=List.length_pos_of_mem hx
  rw [qh]
  omega
theorem Tb.free (T:Tb t es):∃ j,j<=t.mask/\decide (j∈t.place.toList)=false:=by
 by_cases hx:∃ j,j<=t.mask/\j∉t.place.toList
 ·obtain ⟨j,h1,h2⟩:=hx
  exact ⟨j,h1,qL h2⟩
 ·exfalso
  have all:∀ j,j<=t.mask->j∈t.place.toList:=fun j hj=>Classical.byContradiction fun hn=>hx ⟨j,hj,hn⟩
  have h1:=zgM (List.range (t.mask+1)) t.place.toList List.nodup_range fun j hj=>all j (by have:=List.mem_range.mp hj;omega)
  have h2:=T.sz
  have h3:=T.few
  simp only [qR,Array.length_toList] at h1
  omega
theorem Tb.first (T:Tb t es) (h:Int):∃ n,n < 10*(t.mask+15)/\J t.mask h n∉t.place.toList/\∀ m,m < n->J t.mask h m∈t.place.toList:=by
 obtain ⟨n,h1,h2,h3⟩:=T.full.first h (fun j=>decide (j∈t.place.toList)) T.free
 exact ⟨n,h1,of_decide_eq_false h2,fun m hm=>of_decide_eq_true (h3 m hm)⟩
def zcK (p:Pr):SetTable.Probe:={ j:=p.j,more:=p.more,i:=p.i,perturb:=p.pt,dummy:=none }
theorem zpX (t:SetTable) (p:Pr):t.advance (zcK p)=zcK (adv t.mask p):=by
 unfold SetTable.advance adv zcK
 by_cases h:p.more > 0
 ·simp only [h,if_true]
 ·simp only [h,if_false]
theorem Tb.probe_go (T:Tb t es) (hashAt:Nat->Int) (h:Int) {n0:Nat} (hf:J t.mask h n0∉t.place.toList) (ho:∀ m,m < n0->J t.mask h m∈t.place.toList):∀ (fuel n:Nat),n<=n0->n0 < n+fuel ->
  (∃ n' i,n<=n'/\n' < n0/\t.place[i]?=some (J t.mask h n')/\hashAt i=h/\(∀ m i,n<=m->m < n'->t.place[i]?=some (J t.mask h m)->hashAt i≠h)/\SetTable.probe.go t hashAt h fuel (zcK (it t.mask h n))=some (.candidate (J t.mask h n') i (zcK (it t.mask h (n'+1))))) \/
  ((∀ m i,n<=m->m < n0->t.place[i]?=some (J t.mask h m)->hashAt i≠h)/\SetTable.probe.go t hashAt h fuel (zcK (it t.mask h n))=some (.empty (J t.mask h n0) none))
 | 0,n,h1,h2=>by omega
 | fuel+1,n,h1,h2=>by
  unfold SetTable.probe.go
  by_cases hn:n=n0
  ·subst hn
   right
   refine ⟨fun m i a b=>by omega,?_⟩
   have hs:t.slot (zcK (it t.mask h n)).j=.empty:=T.empty hf
   rw [hs]
   rfl
  ·obtain ⟨i,hi⟩:=T.occ (ho n (by omega))
   have hs:t.slot (zcK (it t.mask h n)).j=.live i:=T.live hi
   rw [hs]
   dsimp only
   by_cases hh:hashAt i=h
   ·left
    refine ⟨n,i,qu _,by omega,hi,hh,fun m i a b=>by omega,?_⟩
    rw [qW (by simpa using hh),zpX]
    rfl
   ·rw [qX (by simpa using hh),zpX]
    have inj:∀ i',t.place[i']?=some (J t.mask h n)->i'=i:=fun i' h'=>by
     rw [← zhm _ _ _ T.ri h',← zhm _ _ _ T.ri hi]
    have ext:∀ {b:Nat},(∀ m i,n+1<=m->m < b->t.place[i]?=some (J t.mask h m)->hashAt i≠h)->∀ m i,n<=m->m < b->t.place[i]?=some (J t.mask h m)->hashAt i≠h:=fun {b} q m i' a c d=>by
     by_cases e:m=n
     ·subst e
      rw [inj i' d];exact hh
     ·exact q m i' (by omega) c d
    rcases T.probe_go hashAt h hf ho fuel (n+1) (by omega) (by omega) with ⟨n',i',a,b,c,d,e,f⟩ | ⟨e,f⟩
    ·exact .inl ⟨n',i',by omega,b,c,d,ext e,f⟩
    ·exact .inr ⟨ext e,f⟩
theorem zcu {α:Type} (xs:Array α) (p:Nat) (x:α) (hp:p<=xs.size):(SetTable.insertAt xs p x).toList=xs.toList.take p++x::xs.toList.drop p:=by
 unfold SetTable.insertAt
 simp [Array.toList_extract,List.extract_eq_take_drop]
 exact List.take_of_length_le (by simp)
theorem zh7 {α:Type} (l:List α) (p:Nat) (x:α) (hp:p<=l.length) (i:Nat):(l.take p++x::l.drop p)[i]?=if i < p then l[i]? else if i=p then some x else l[i - 1]?:=by
 by_cases h1:i < p
 ·rw [qW h1,qx (by rw [qC];omega),List.getElem?_take_of_lt h1]
 ·rw [qX h1,qI (by rw [qC];omega),qC,Nat.min_eq_left hp]
  by_cases h2:i=p
  ·rw [qW h2,h2];simp
  ·rw [qX h2]
   obtain ⟨k,hk⟩:∃ k,i - p=k+1:=⟨i - p - 1,by omega⟩
   rw [hk,qc,List.getElem?_drop]
   congr 1
   omega
theorem zf0 {α:Type} (l:List α) (p:Nat) (x y:α):y∈l.take p++x::l.drop p↔y=x\/y∈l:=by
 rw [List.mem_append,qJ]
 constructor
 ·rintro (h | h | h)
  ·exact .inr (List.mem_of_mem_take h)
  ·exact .inl h
  ·exact .inr (List.mem_of_mem_drop h)
 ·rintro (h | h)
  ·exact .inr (.inl h)
  ·have:y∈l.take p++l.drop p:=by rw [List.take_append_drop];exact h
   rcases List.mem_append.mp this with h | h
   ·exact .inl h
   ·exact .inr (.inr h)
theorem Tb.put (T:Tb t es) {h:Int} {x:Value} {n0:Nat} (hf:J t.mask h n0∉t.place.toList) (ho:∀ m,m < n0->J t.mask h m∈t.place.toList) (few:(es.size+1)*5 < t.mask*3) (pl:Bool) :
  Tb { (t.put (J t.mask h n0)).1 with plain:=pl } (SetTable.insertAt es (t.put (J t.mask h n0)).2 (h,x)):=by
 obtain ⟨b0,b1,b2⟩:=zi0 t.place (J t.mask h n0) T.ri
 have bes:SetTable.below t.place (J t.mask h n0)<=es.size:=by rw [← T.sz];exact b0
 have pl1:(SetTable.insertAt t.place (SetTable.below t.place (J t.mask h n0)) (J t.mask h n0)).toList=t.place.toList.take (SetTable.below t.place (J t.mask h n0))++J t.mask h n0::t.place.toList.drop (SetTable.below t.place (J t.mask h n0)):=zcu _ _ _ b0
 have el1:(SetTable.insertAt es (SetTable.below t.place (J t.mask h n0)) (h,x)).toList=es.toList.take (SetTable.below t.place (J t.mask h n0))++(h,x)::es.toList.drop (SetTable.below t.place (J t.mask h n0)):=zcu _ _ _ bes
 have szp:(SetTable.insertAt t.place (SetTable.below t.place (J t.mask h n0)) (J t.mask h n0)).size=t.place.size+1:=by
  rw [← Array.length_toList,pl1];simp;omega
 have sze:(SetTable.insertAt es (SetTable.below t.place (J t.mask h n0)) (h,x)).size=es.size+1:=by
  rw [← Array.length_toList,el1];simp;omega
 refine ⟨T.full,?_,?_,?_,?_,?_,?_⟩
 ·show (SetTable.insertAt t.place _ _).size=_
  rw [szp]
  show _=(SetTable.insertAt es (SetTable.below t.place (J t.mask h n0)) (h,x)).size
  rw [sze,T.sz]
 ·show (if SetTable.has t.dummies (J t.mask h n0)=true then _ else t.dummies)=#[]
  rw [T.dm];rfl
 ·show (SetTable.insertAt t.place (SetTable.below t.place (J t.mask h n0)) (J t.mask h n0)).toList.Pairwise (· < ·)
  rw [pl1,List.pairwise_append,List.pairwise_cons]
  have tk:∀ a∈t.place.toList.take (SetTable.below t.place (J t.mask h n0)),a < J t.mask h n0:=fun a ha=>by
   obtain ⟨i,hi⟩:=List.mem_iff_getElem?.mp ha
   have hi':i < SetTable.below t.place (J t.mask h n0):=by
    have:=(List.getElem?_eq_some_iff.mp hi).1
    rw [qC] at this;omega
   rw [List.getElem?_take_of_lt hi',qG] at hi
   exact b1 i hi' a hi
  have dr:∀ a∈t.place.toList.drop (SetTable.below t.place (J t.mask h n0)),J t.mask h n0 < a:=fun a ha=>by
   obtain ⟨i,hi⟩:=List.mem_iff_getElem?.mp ha
   rw [List.getElem?_drop,qG] at hi
   have h1:=b2 _ (Nat.le_add_right _ i) a hi
   rcases Nat.lt_or_ge (J t.mask h n0) a with q | q
   ·exact q
   ·exact absurd (by rw [← qG] at hi;have e:a=J t.mask h n0:=(by omega);rw [e] at hi;exact qN hi) hf
  refine ⟨T.ri.sublist (List.take_sublist _ _),⟨dr,T.ri.sublist (List.drop_sublist _ _)⟩,fun a ha b hb=>?_⟩
  rcases List.mem_cons.mp hb with e | hb
  ·rw [e];exact tk a ha
  ·exact Nat.lt_trans (tk a ha) (dr b hb)
 ·intro j hj
  have hj':j∈(SetTable.insertAt t.place (SetTable.below t.place (J t.mask h n0)) (J t.mask h n0)).toList:=hj
  rw [pl1,zf0] at hj'
  rcases hj' with e | hj'
  ·rw [e];exact zun _ _ _
  ·exact T.le j hj'
 ·show (SetTable.insertAt es (SetTable.below t.place (J t.mask h n0)) (h,x)).size*5 < t.mask*3
  rw [sze];exact few
 ·intro i j h' x' e1 e2
  have e1':(SetTable.insertAt t.place (SetTable.below t.place (J t.mask h n0)) (J t.mask h n0)).toList[i]?=some j:=by rw [qG];exact e1
  have e2':(SetTable.insertAt es (SetTable.below t.place (J t.mask h n0)) (h,x)).toList[i]?=some (h',x'):=by rw [qG];exact e2
  rw [pl1,zh7 _ _ _ (by simpa using b0)] at e1'
  rw [el1,zh7 _ _ _ (by simpa using bes)] at e2'
  have up:∀ {n:Nat},(∀ m,m < n->J t.mask h' m∈t.place.toList)->∀ m,m < n->J t.mask h' m∈(SetTable.insertAt t.place (SetTable.below t.place (J t.mask h n0)) (J t.mask h n0)).toList:=fun q m hm=>by
   rw [pl1,zf0];exact .inr (q m hm)
  by_cases c1:i < SetTable.below t.place (J t.mask h n0)
  ·rw [qW c1] at e1' e2'
   rw [qG] at e1' e2'
   obtain ⟨n,hn,q⟩:=T.rc i j h' x' e1' e2'
   exact ⟨n,hn,up q⟩
  ·rw [qX c1] at e1' e2'
   by_cases c2:i=SetTable.below t.place (J t.mask h n0)
   ·rw [qW c2] at e1' e2'
    cases e1'
    cases e2'
    exact ⟨n0,rfl,up ho⟩
   ·rw [qX c2] at e1' e2'
    rw [qG] at e1' e2'
    obtain ⟨n,hn,q⟩:=T.rc _ j h' x' e1' e2'
    exact ⟨n,hn,up q⟩
end
end ST
end
section
namespace ST
open PySem
def zct (owner:Array (Option Nat)) (j:Nat):Bool:=(owner.getD j (some 0)).isNone
theorem zmw {M:Nat} {h:Int} {n r:Nat} (e:it M h n=zkB M (lp M h r)) {k:Nat} (hk:k < SetTable.runEnd M (lp M h r).1+1 - (lp M h r).1):J M h (n+k)=(lp M h r).1+k:=by
 unfold J
 rw [zli,e,zoh M k _ (by show k<=SetTable.runEnd M (lp M h r).1 - (lp M h r).1;omega)]
 rfl
theorem zop {M:Nat} {h:Int} {n r:Nat} (e:it M h n=zkB M (lp M h r)):it M h (n+(SetTable.runEnd M (lp M h r).1+1 - (lp M h r).1))=zkB M (lp M h (r+1)):=by
 have hge:(lp M h r).1<=SetTable.runEnd M (lp M h r).1:=by unfold SetTable.runEnd;split <;> omega
 have e2:=zoh M (SetTable.runEnd M (lp M h r).1 - (lp M h r).1) (zkB M (lp M h r)) (qu _)
 rw [show n+(SetTable.runEnd M (lp M h r).1+1 - (lp M h r).1)=n+(SetTable.runEnd M (lp M h r).1 - (lp M h r).1)+1 by omega,it,zli,e,e2]
 unfold adv
 rw [qX (by show ¬ ((SetTable.runEnd M (lp M h r).1 - (lp M h r).1) - (SetTable.runEnd M (lp M h r).1 - (lp M h r).1) > 0);omega)]
 rfl
theorem znw {M:Nat} {h:Int} (owner:Array (Option Nat)) {rs:Nat} (hfr:zct owner (lp M h rs).1=true):∀ (fuel r n:Nat),it M h n=zkB M (lp M h r)->r<=rs->rs < r+fuel->(∀ m,m < n->zct owner (J M h m)=false) ->
  ∃ n',zct owner (J M h n')=true/\(∀ m,m < n'->zct owner (J M h m)=false)/\SetTable.layClean.free M owner fuel (lp M h r).1 (lp M h r).2=some (J M h n')
 | 0,r,n,_,h1,h2,_=>by omega
 | fuel+1,r,n,e,h1,h2,h3=>by
  unfold SetTable.layClean.free
  cases hf:(List.range (SetTable.runEnd M (lp M h r).1+1 - (lp M h r).1)).find? (fun k=>(owner.getD ((lp M h r).1+k) (some 0)).isNone) with
  | some k =>
   have hk:=List.mem_range.mp (List.mem_of_find?_eq_some hf)
   have hp:zct owner ((lp M h r).1+k)=true:=by
    have:=List.find?_some hf
    exact this
   refine ⟨n+k,by rw [zmw e hk];exact hp,fun m hm=>?_,?_⟩
   ·rcases Nat.lt_or_ge m n with c | c
    ·exact h3 m c
    ·obtain ⟨d,rfl⟩:∃ d,m=n+d:=⟨m - n,by omega⟩
     rw [zmw e (by omega)]
     obtain ⟨as,bs,hab,hno⟩:=(List.find?_eq_some_iff_append.mp hf).2
     have hd:d∈as:=by
      have hl:as=List.range k:=by
       have hlen:as.length=k:=by
        have:(List.range (SetTable.runEnd M (lp M h r).1+1 - (lp M h r).1))[as.length]?=some k:=by rw [hab];simp
        rw [List.getElem?_range] at this
        ·exact qF this
        ·have:=congrArg List.length hab
         simp at this
         omega
       have:=congrArg (List.take k) hab
       rw [List.take_range,Nat.min_eq_left (by omega),← hlen,List.take_left'] at this
       ·rw [hlen] at this;exact this.symm
       ·rfl
      rw [hl];exact List.mem_range.mpr (by omega)
     have:=hno d hd
     exact Bool.eq_false_iff.mpr (fun z=>by rw [show (owner.getD ((lp M h r).1+d) (some 0)).isNone=true from z] at this;cases this)
   ·rw [zmw e hk]
  | none =>
   have hn:∀ k,k < SetTable.runEnd M (lp M h r).1+1 - (lp M h r).1->zct owner (J M h (n+k))=false:=fun k hk=>by
    rw [zmw e hk]
    have:=List.find?_eq_none.mp hf k (List.mem_range.mpr hk)
    exact Bool.eq_false_iff.mpr this
   have hge:(lp M h r).1<=SetTable.runEnd M (lp M h r).1:=by unfold SetTable.runEnd;split <;> omega
   have hr:r≠rs:=fun z=>by
    subst z
    have:=hn 0 (by omega)
    rw [zmw e (by omega),Nat.add_zero,hfr] at this
    cases this
   exact znw owner hfr fuel (r+1) _ (zop e) (by omega) (by omega) fun m hm=>by
    rcases Nat.lt_or_ge m n with c | c
    ·exact h3 m c
    ·obtain ⟨d,rfl⟩:∃ d,m=n+d:=⟨m - n,by omega⟩
     exact hn d (by omega)
theorem Full.free {M:Nat} (F:Full M) (h:Int) (owner:Array (Option Nat)) (hf:∃ j,j<=M/\zct owner j=true) :
  ∃ n,zct owner (J M h n)=true/\(∀ m,m < n->zct owner (J M h m)=false)/\SetTable.layClean.free M owner (SetTable.turns M) (SetTable.bits h % (M+1)) (SetTable.bits h)=some (J M h n):=by
 obtain ⟨j,hj,hjf⟩:=hf
 obtain ⟨m,hm,e⟩:=F.reach (zqZ M h 13) hj
 have hl:(lp M h (13+m)).1=j:=by rw [zna,e]
 exact znw owner (rs:=13+m) (by rw [hl];exact hjf) (SetTable.turns M) 0 0 rfl (Nat.zero_le _) (by unfold SetTable.turns;omega) fun m hm=>absurd hm (Nat.not_lt_zero _)
structure Own (M:Nat) (hs:List Int) (owner:Array (Option Nat)):Prop where
 sz:owner.size=M+1
 lt:∀ (j k:Nat),owner[j]?=some (some k)->k < hs.length
 on:∀ k,k < hs.length->∃ j:Nat,owner[j]?=some (some k)
 inj:∀ (j j' k:Nat),owner[j]?=some (some k)->owner[j']?=some (some k)->j=j'
 rc:∀ (j k:Nat) h,owner[j]?=some (some k)->hs[k]?=some h->∃ n,J M h n=j/\∀ m,m < n->zct owner (J M h m)=false
theorem zdC {owner:Array (Option Nat)} {j:Nat}:zct owner j=true↔owner[j]?=some none:=by
 unfold zct
 rw [Array.getD_eq_getD_getElem?]
 cases e:owner[j]? with
 | none=>simp
 | some o=>cases o <;> simp
theorem Own.empty (M:Nat):Own M [] (Array.replicate (M+1) none):=by
 have no:∀ (j k:Nat),(Array.replicate (M+1) (none:Option Nat))[j]?=some (some k)->False:=fun j k h=>by
  rw [Array.getElem?_replicate] at h
  split at h <;> cases h
 exact ⟨by simp,fun j k h=>(no j k h).elim,fun k h=>absurd h (Nat.not_lt_zero _),fun j _ k h _=>(no j k h).elim,fun j k _ h _=>(no j k h).elim⟩
theorem Own.room {M:Nat} {hs:List Int} {owner:Array (Option Nat)} (O:Own M hs owner) (hr:hs.length<=M):∃ j,j<=M/\zct owner j=true:=by
 by_cases hx:∃ j,j<=M/\zct owner j=true
 ·exact hx
 ·exfalso
  have all:∀ j,j<=M->∃ k,owner[j]?=some (some k):=fun j hj=>by
   have h1:zct owner j≠true:=fun z=>hx ⟨j,hj,z⟩
   have h2:j < owner.size:=by rw [O.sz];omega
   cases q:owner[j] with
   | none=>exact absurd (zdC.mpr (by simp [h2,q])) h1
   | some k=>exact ⟨k,by simp [h2,q]⟩
  have pig:=zgM ((List.range (M+1)).map fun j=>((owner[j]?).join).getD 0) (List.range hs.length) ?_ ?_
  ·rw [qe,qR,qR] at pig
   omega
  ·refine List.nodup_iff_pairwise_ne.mpr (List.pairwise_map.mpr (List.Pairwise.imp_of_mem ?_ List.nodup_range))
   intro a b ha hb hab e
   obtain ⟨k,hk⟩:=all a (by have:=List.mem_range.mp ha;omega)
   obtain ⟨k',hk'⟩:=all b (by have:=List.mem_range.mp hb;omega)
   simp only [hk,hk',Option.join_some,Option.getD_some] at e
   subst e
   exact hab (O.inj a b k hk hk')
  ·intro x hx'
   obtain ⟨j,hj,rfl⟩:=List.mem_map.mp hx'
   obtain ⟨k,hk⟩:=all j (by have:=List.mem_range.mp hj;omega)
   simp only [hk,Option.join_some,Option.getD_some]
   exact List.mem_range.mpr (O.lt j k hk)
theorem Own.more {M:Nat} {hs:List Int} {owner:Array (Option Nat)} (O:Own M hs owner) {h:Int} {n:Nat} (hf:zct owner (J M h n)=true) (ho:∀ m,m < n->zct owner (J M h m)=false) :
  Own M (hs++[h]) (owner.setIfInBounds (J M h n) (some hs.length)):=by
 have hlt:J M h n < owner.size:=by rw [O.sz];have:=zun M h n;omega
 have hold:=zdC.mp hf
 have get:∀ j:Nat,(owner.setIfInBounds (J M h n) (some hs.length))[j]?=if j=J M h n then some (some hs.length) else owner[j]?:=fun j=>by
  rw [Array.getElem?_setIfInBounds]
  by_cases e:J M h n=j
  ·subst e;simp [hlt]
  ·rw [qX e,qX (Ne.symm e)]
 have stay:∀ {j k:Nat},owner[j]?=some (some k)->(owner.setIfInBounds (J M h n) (some hs.length))[j]?=some (some k):=fun {j k} q=>by
  rw [get,qX]
  ·exact q
  ·intro e;rw [e,hold] at q;cases q
 have notfree:∀ {j:Nat},zct owner j=false->zct (owner.setIfInBounds (J M h n) (some hs.length)) j=false:=fun {j} q=>by
  refine Bool.eq_false_iff.mpr fun z=>?_
  have z':=zdC.mp z
  rw [get] at z'
  split at z'
  ·cases z'
  ·rw [zdC.mpr z'] at q;cases q
 refine ⟨by simp [O.sz],fun j k q=>?_,fun k hk=>?_,fun j j' k q q'=>?_,fun j k h' q q'=>?_⟩
 ·rw [get] at q
  rw [qi,qT]
  split at q
  ·cases q;omega
  ·have:=O.lt j k q;omega
 ·rw [qi,qT] at hk
  by_cases e:k=hs.length
  ·exact ⟨J M h n,by rw [get,qW rfl,e]⟩
  ·obtain ⟨j,hj⟩:=O.on k (by omega)
   exact ⟨j,stay hj⟩
 ·rw [get] at q q'
  split at q
  ·rename_i c
   cases q
   split at q'
   ·rename_i c';rw [c,c']
   ·have:=O.lt j' _ q';omega
  ·split at q'
   ·cases q'
    have:=O.lt j _ q;omega
   ·exact O.inj j j' k q q'
 ·rw [get] at q
  split at q
  ·rename_i c
   cases q
   rw [qI (qu _)] at q'
   simp at q'
   subst q'
   exact ⟨n,c.symm,fun m hm=>notfree (ho m hm)⟩
  ·have hk:=O.lt j k q
   rw [qx hk] at q'
   obtain ⟨n',e,r⟩:=O.rc j k h' q q'
   exact ⟨n',e,fun m hm=>notfree (r m hm)⟩
theorem Full.lays {M:Nat} (F:Full M) (hs:Array Int) (hr:hs.size<=M):∃ owner,SetTable.layClean M hs=some owner/\Own M hs.toList owner:=by
 have all:∀ (zdf done:List Int) (owner:Array (Option Nat)),Own M done owner->(done++zdf).length<=M->∃ owner',Own M (done++zdf) owner' /\
   zdf.foldl (fun (acc:Option (Array (Option Nat)×Nat)) h=>do
    let (owner,k) ← acc
    let j ← SetTable.layClean.free M owner (SetTable.turns M) (SetTable.bits h % (M+1)) (SetTable.bits h)
    pure (owner.setIfInBounds j (some k),k+1)) (some (owner,done.length))=some (owner',(done++zdf).length):=by
  intro zdf
  induction zdf with
  | nil=>intro done owner O _;exact ⟨owner,by rw [List.append_nil];exact O,by simp⟩
  | cons h r ih =>
   intro done owner O hl
   obtain ⟨n,h1,h2,h3⟩:=F.free h owner (O.room (by simp at hl;omega))
   have O':=O.more h1 h2
   obtain ⟨owner',O2,e⟩:=ih (done++[h]) _ O' (by simpa using hl)
   refine ⟨owner',by simpa using O2,?_⟩
   rw [List.foldl_cons]
   have e1:(do
    let (owner,k) ← some (owner,done.length)
    let j ← SetTable.layClean.free M owner (SetTable.turns M) (SetTable.bits h % (M+1)) (SetTable.bits h)
    pure (owner.setIfInBounds j (some k),k+1):Option (Array (Option Nat)×Nat))=some (owner.setIfInBounds (J M h n) (some done.length),done.length+1):=by
    show (SetTable.layClean.free M owner (SetTable.turns M) (SetTable.bits h % (M+1)) (SetTable.bits h) >>= fun j=>pure (owner.setIfInBounds j (some done.length),done.length+1))=_
    rw [h3];rfl
   rw [e1]
   rw [qi,qT] at e
   rw [e]
   simp
 obtain ⟨owner',O,e⟩:=all hs.toList [] _ (Own.empty M) (by simpa using hr)
 refine ⟨owner',?_,by simpa using O⟩
 unfold SetTable.layClean
 rw [← Array.foldl_toList]
 have e':=congrArg (Option.map (·.1)) e
 exact e'
end ST
end
section
namespace ST
open PySem
theorem zpQ {α β:Type} (f:α->Option β):∀ (l:List α),(∀ k∈l,∃ y,f k=some y)->∀ i:Nat,(l.filterMap f)[i]?=(l[i]?).bind f
 | [],_,i=>by simp
 | k::r,h,i=>by
  obtain ⟨y,hy⟩:=h k qf
  rw [List.filterMap_cons_some hy]
  cases i with
  | zero=>simp [hy]
  | succ i=>simp only [qc];exact zpQ f r (fun k hk=>h k (qg _ hk)) i
theorem zpP {α β:Type} (f:α->Option β):∀ (l:List α),(∀ k∈l,∃ y,f k=some y)->(l.filterMap f).length=l.length
 | [],_=>rfl
 | k::r,h=>by
  obtain ⟨y,hy⟩:=h k qf
  rw [List.filterMap_cons_some hy,qh,qh,zpP f r fun k hk=>h k (qg _ hk)]
def zdR (M:Nat) (owner:Array (Option Nat)):List (Nat×Nat):=(List.range (M+1)).filterMap fun j=>(owner.getD j none).map (j,·)
theorem zc0 {M:Nat} {owner:Array (Option Nat)} (hsz:owner.size=M+1) {j k:Nat}:(j,k)∈zdR M owner↔owner[j]?=some (some k):=by
 unfold zdR
 rw [List.mem_filterMap]
 constructor
 ·rintro ⟨j',hj',e⟩
  rw [Array.getD_eq_getD_getElem?] at e
  cases q:owner[j']? with
  | none=>rw [q] at e;cases e
  | some o =>
   rw [q] at e
   cases o with
   | none=>cases e
   | some k'=>cases e;exact q
 ·intro q
  have hj:j < owner.size:=(Array.getElem?_eq_some_iff.mp q).1
  exact ⟨j,List.mem_range.mpr (by omega),by rw [Array.getD_eq_getD_getElem?,q];rfl⟩
theorem zg3 (M:Nat) (owner:Array (Option Nat)):((zdR M owner).map (·.1)).Pairwise (· < ·):=by
 unfold zdR
 rw [List.pairwise_map]
 refine List.Pairwise.filterMap _ ?_ (List.pairwise_lt_range (n:=M+1))
 intro a a' haa b hb b' hb'
 obtain ⟨k,_,rfl⟩:=oMd hb
 obtain ⟨k',_,rfl⟩:=oMd hb'
 exact haa
theorem zlX {M:Nat} {hs:List Int} {owner:Array (Option Nat)} (O:Own M hs owner):((zdR M owner).map (·.2)).Nodup:=by
 have h1:=List.pairwise_map.mp (zg3 M owner)
 refine List.nodup_iff_pairwise_ne.mpr (List.pairwise_map.mpr (List.Pairwise.imp_of_mem ?_ h1))
 rintro ⟨j,k⟩ ⟨j',k'⟩ ha hb hlt e
 have e':k=k':=e
 subst e'
 have:=O.inj j j' k ((zc0 O.sz).mp ha) ((zc0 O.sz).mp hb)
 have hlt':j < j':=hlt
 omega
theorem zoM {M:Nat} {hs:List Int} {owner:Array (Option Nat)} (O:Own M hs owner):(zdR M owner).length=hs.length:=by
 have h1:=zgM ((zdR M owner).map (·.2)) (List.range hs.length) (zlX O) fun k hk=>by
  obtain ⟨⟨j,k'⟩,hm,rfl⟩:=List.mem_map.mp hk
  exact List.mem_range.mpr (O.lt j k' ((zc0 O.sz).mp hm))
 have h2:=zgM (List.range hs.length) ((zdR M owner).map (·.2)) List.nodup_range fun k hk=>by
  obtain ⟨j,hj⟩:=O.on k (List.mem_range.mp hk)
  exact List.mem_map.mpr ⟨(j,k),(zc0 O.sz).mpr hj,rfl⟩
 rw [qe,qR] at h1 h2
 omega
theorem Full.relaid {t:SetTable} {es:Array (Int×Value)} {wanted:Nat} (F:Full (SetTable.sizeAbove wanted - 1)) (few:es.size*5 < (SetTable.sizeAbove wanted - 1)*3) :
  ∃ t' order,t.relaid (es.map (·.1)) wanted=some (t',order)/\(order.filterMap (es[·]?)).size=es.size/\Tb t' (order.filterMap (es[·]?))/\(∀ e,e∈(order.filterMap (es[·]?)).toList↔e∈es.toList)/\t'.mask=SetTable.sizeAbove wanted - 1/\t'.led=t.led:=by
 generalize hM:SetTable.sizeAbove wanted - 1=M at F few
 obtain ⟨owner,hl,O⟩:=F.lays (es.map (·.1)) (by simp;omega)
 have hlen:(es.map (·.1)).toList.length=es.size:=by simp
 have llen:(zdR M owner).length=es.size:=by rw [zoM O,hlen]
 refine ⟨{ mask:=M,place:=((zdR M owner).map (·.1)).toArray,dummies:=#[],finger:=t.finger,led:=t.led,moves:=t.movedTo M,plain:=t.plain },((zdR M owner).map (·.2)).toArray,?_,?_⟩
 ·unfold SetTable.relaid
  rw [hM]
  unfold SetTable.laid
  rw [hl]
  rfl
 ·have hall:∀ k∈(zdR M owner).map (·.2),∃ y,es[k]?=some y:=fun k hk=>by
   obtain ⟨⟨j,k'⟩,hm,rfl⟩:=List.mem_map.mp hk
   have:=O.lt j k' ((zc0 O.sz).mp hm)
   rw [hlen] at this
   exact ⟨es[k'],by simp [this]⟩
  have etl:(Array.filterMap (fun x=>es[x]?) ((zdR M owner).map (·.2)).toArray).toList=((zdR M owner).map (·.2)).filterMap (fun x=>es[x]?):=by simp
  have esz:(Array.filterMap (fun x=>es[x]?) ((zdR M owner).map (·.2)).toArray).size=es.size:=by
   rw [← Array.length_toList,etl,zpP _ _ hall,qe,llen]
  refine ⟨esz,⟨F,?_,rfl,?_,?_,?_,?_⟩,fun e=>?_,rfl,rfl⟩
  ·rw [esz];simp [llen]
  ·show ((zdR M owner).map (·.1)).toArray.toList.Pairwise (· < ·)
   exact zg3 M owner
  ·intro j hj
   have hj':j∈(zdR M owner).map (·.1):=hj
   obtain ⟨⟨j',k⟩,hm,rfl⟩:=List.mem_map.mp hj'
   have:=(Array.getElem?_eq_some_iff.mp ((zc0 O.sz).mp hm)).1
   rw [O.sz] at this
   show j'<=M
   omega
  ·rw [esz];exact few
  ·intro i j h x e1 e2
   have e1':((zdR M owner).map (·.1))[i]?=some j:=by simpa using e1
   rw [← qG,etl,zpQ _ _ hall,qj] at e2
   rw [qj] at e1'
   obtain ⟨⟨j',k⟩,hm,rfl⟩:=oMd e1'
   rw [hm] at e2
   have e2':es[k]?=some (h,x):=e2
   have ho:=(zc0 O.sz).mp (qN hm)
   obtain ⟨n,hn,q⟩:=O.rc j' k h ho (by simp [e2'])
   refine ⟨n,hn,fun m hm'=>?_⟩
   have hnf:=q m hm'
   have hle:=zun M h m
   have hlt:J M h m < owner.size:=by rw [O.sz];omega
   cases c:owner[J M h m] with
   | none =>
    rw [zdC.mpr (by simp [hlt,c])] at hnf;cases hnf
   | some k' =>
    show J M h m∈(zdR M owner).map (·.1)
    exact List.mem_map.mpr ⟨(J M h m,k'),(zc0 O.sz).mpr (by simp [hlt,c]),rfl⟩
  ·rw [etl,List.mem_filterMap]
   constructor
   ·rintro ⟨k,_,hk⟩
    rw [← qG] at hk
    exact qN hk
   ·intro he
    obtain ⟨k,hk⟩:=List.mem_iff_getElem?.mp he
    rw [qG] at hk
    have hlt:=(Array.getElem?_eq_some_iff.mp hk).1
    obtain ⟨j,hj⟩:=O.on k (by rw [hlen];exact hlt)
    exact ⟨k,List.mem_map.mpr ⟨(j,k),(zc0 O.sz).mpr hj,rfl⟩,hk⟩
def Mk (M:Nat):Prop:=M=7\/M=31\/M=127\/M=511
theorem Mk.full {M:Nat} (h:Mk M):Full M:=by
 rcases h with h | h | h | h <;> subst h
 ·exact zs5
 ·exact zs6
 ·exact zrh
 ·exact zrg
theorem Mk.grow {M n:Nat} (h:Mk M) (h1:n*5 < M*3) (h2:¬ (n+1)*5 < M*3) (hn:n<=300):Mk (SetTable.sizeAbove (SetTable.grown (n+1)) - 1)/\(n+1)*5 < (SetTable.sizeAbove (SetTable.grown (n+1)) - 1)*3/\SetTable.sizeAbove (SetTable.grown (n+1))<=512:=by
 rcases h with h | h | h | h <;> subst h
 ·have:n=4:=by omega
  subst this
  exact ⟨.inr (.inl (by decide)),by decide,by decide⟩
 ·have:n=18:=by omega
  subst this
  exact ⟨.inr (.inr (.inl (by decide))),by decide,by decide⟩
 ·have:n=76:=by omega
  subst this
  exact ⟨.inr (.inr (.inr (by decide))),by decide,by decide⟩
 ·omega
end ST
end
section
namespace ST
open PySem PySem.Spec PyProof.Rows
section
variable {prog:Program} {w:World} {A:Around} {R:Result->Shared->Prop} {I:Addr} {fp wr:List Addr} {G:Array GenState->Array GenState->Prop} {n:Nat} {P:Nat->Value->Prop} {St:Nat->Shared->Prop}
def zuK (prog:Program) (w:World) (A:Around) (S:Addr) (Ba:Heap->Prop) (P:Nat->Value->Prop) (n:Nat) (J:Nat->Obj->Prop):Prop :=
 ∀ (i:Nat) (v:Value) (s:Shared) (o:Obj) (Q:Bool->Shared->Prop) (E:Value->Shared->Prop),i < n->P i v->s.heap.get? S=some o->J i o->Ba s.heap ->
  (∀ b h' tk o',s.toks<=tk->Heap.SameBut S s.heap h'->h'.get? S=some o'->J (i+1) o'->Q b { s with heap:=h',toks:=tk })->wpAny (model prog w) A (setAdd S v) Q E s
theorem zon (W:WalksS prog w A.in1 I fp wr G n P St) (S:Addr) (hSf:S∉fp) (Ba:Heap->Prop) (hBa:∀ h h',Ba h->(∀ b o,b∉S::wr->h.get? b=some o->h'.get? b=some o)->Ba h') (J:Nat->Obj->Prop) (hadd:zuK prog w A.in1 S Ba P n J) :
  ∀ (k i:Nat) (s:Shared) (o:Obj),n - i=k->i<=n->St i s->s.heap.get? S=some o->J i o->Ba s.heap ->
   (∀ s' o',Moved (S::wr) G s s'->s'.heap.get? S=some o'->J n o'->R (.ok (.ret .none)) s') ->
   codeAny (model prog w) A (.builtin "set.update.loop" ⟨[.ref S,.ref I],[]⟩) R s:=by
 have hSw:S∉wr:=fun h=>hSf (W.sub _ h)
 have hsub:∀ b∈wr,b∈S::wr:=fun b hb=>qg _ hb
 intro k
 induction k with
 | zero =>
  intro i s o hk hi hst hS hJ hB hR
  have hin:i=n:=by omega
  subst hin
  refine codeAny_builtin F.entry_set_update_loop ?_
  rw [Around.under_plainId F.plain_set_update_loop _]
  show wpAny _ A.in1 (pyNext (.ref I) >>= _) _ _ s
  refine qv (W.done s _ _ hst fun s' hm=>?_)
  show wpAny _ A.in1 (ret Value.none) _ _ s'
  exact qy (hR s' o (hm.mono hsub) (hm.heap S _ hSw hS) hJ)
 | succ k ih =>
  intro i s o hk hi hst hS hJ hB hR
  have hlt:i < n:=by omega
  refine codeAny_builtin F.entry_set_update_loop ?_
  rw [Around.under_plainId F.plain_set_update_loop _]
  show wpAny _ A.in1 (pyNext (.ref I) >>= _) _ _ s
  refine qv (W.item i s _ _ hlt hst fun v s' hP hst' hm=>?_)
  show wpAny _ A.in1 (holding [v] (setAdd S v) >>= _) _ _ s'
  refine qv (wpAny_holding ?_)
  refine hadd i v s' o _ _ hlt hP (hm.heap S _ hSw hS) hJ (hBa _ _ hB fun b o hb e=>hm.heap b o (fun z=>hb (hsub b z)) e) fun b h' tk o' htk hsb hS' hJ'=>?_
  refine qy ⟨plainId_quiet F.plain_set_update_loop _,ih (i+1) _ o' (by omega) hlt (W.frame _ s' _ _ hst' htk fun b hb o e=>?_) hS' hJ' ?_ fun s'' o'' hm'' hS'' hJ''=>?_⟩
  ·rw [hsb.2 b (fun h:b=S=>hSf (by rw [← h];exact hb))];exact e
  ·refine hBa _ _ (hBa _ _ hB fun b o hb e=>hm.heap b o (fun z=>hb (hsub b z)) e) fun b o hb e=>?_
   show h'.get? b=some o
   rw [hsb.2 b (fun h:b=S=>hb (by rw [h];exact qf))];exact e
  ·refine hR s'' o'' (Moved.trans W.gtrans ((hm.mono hsub).then_heap htk fun b o hb e=>?_) hm'') hS'' hJ''
   rw [hsb.2 b (fun h:b=S=>hb (by rw [h];exact qf))];exact e
end
section
variable {prog:Program} {w:World} {A:Around} {E:Value->Shared->Prop} {s:Shared}
set_option maxRecDepth 100000 in
set_option maxHeartbeats 3200000 in
theorem zgr {l:Addr} {items:Array Value} {Q:Value->Shared->Prop} (hh:A.handled=none) (hl:s.heap.IsList l items) (J:Nat->Obj->Prop)
  (hJ0:∀ led:Bool,J 0 { cls:=.type "set",dict:=none,data:=.set #[] 0 (.fresh 0 0 led) })
  (hadd:∀ A':Around,A'.units<=A.units+16->zuK prog w A' s.heap.objs.size (fun h=>∀ b o,b < s.heap.objs.size->s.heap.get? b=some o->h.get? b=some o) (fun i v=>items[i]?=some v) items.size J)
  (h:∀ (h':Heap) (tk:Nat) (o:Obj),h'.get? s.heap.objs.size=some o->J items.size o ->
   (∀ b o,b < s.heap.objs.size->s.heap.get? b=some o->h'.get? b=some o)->Q (.ref s.heap.objs.size) { s with heap:=h',toks:=tk }) :
  wpAny (model prog w) A (call (.type "set") [.ref l]) Q E s:=by
 obtain ⟨c,tl,hmro⟩:=F.called_set.mro
 have hmade:=F.called_set.made
 have hsub:=F.called_set.sub
 refine wpAny_call (codeAny_of_tree ?_)
 show wpAny _ _ (callAny (.type "set") _) _ _ _
 refine qy ⟨Code.quiet_builtin _ (by decide +kernel),codeAny_builtin F.entry_type_call ?_⟩
 rw [Around.under_plain (weight_type_call_type "set" [.ref l] []) rfl]
 have h1:=F.called_set.notType
 have h2:=F.called_set.canCreate
 have hct:=F.typeCall_set_1 (.ref l)
 repeat (any_goals (first | assumption | wp_step))
 refine codeAny_mono (code_set_new_1 (.ref l) (E:=E) (Q₁:=fun obj s₁=>∃ led:Bool,obj=.ref s.heap.objs.size/\s₁={ s with heap:=s.heap.push { cls:=.type "set",dict:=none,data:=.set #[] 0 (.fresh 0 0 led) } }) fun led=>⟨led,rfl,rfl⟩) fun r s₁ hr=>?_
 cases r with
 | error e=>exact hr
 | ok fl =>
  cases fl with
  | ret obj =>
   obtain ⟨led,rfl,rfl⟩:=hr
   have hS:(s.heap.push { cls:=.type "set",dict:=none,data:=.set #[] 0 (.fresh 0 0 led) }).get? s.heap.objs.size=some { cls:=.type "set",dict:=none,data:=.set #[] 0 (.fresh 0 0 led) }:=qE _ rfl
   have hT:Shared.TypeIs { s with heap:=s.heap.push { cls:=.type "set",dict:=none,data:=.set #[] 0 (.fresh 0 0 led) } } (.ref s.heap.objs.size) "set":=⟨_,hS,rfl⟩
   have hli:=F.called_set.init.lookup
   have hbi:=F.called_set.init.bind (.ref s.heap.objs.size)
   repeat (any_goals (first | assumption | wp_step))
   refine codeAny_mono (codeAny_call_builtin (R:=wants (fun r s₂=>r=.none/\∃ h' tk o,s₂={ s with heap:=h',toks:=tk }/\h'.get? s.heap.objs.size=some o/\J items.size o /\
     (∀ b o,b < s.heap.objs.size->s.heap.get? b=some o->h'.get? b=some o)) E) F.called_set.init.plain F.entry_set_init (check_set_init_1 hT ?_)) fun r₂ s₂ hr₂=>?_
   ·obtain ⟨ol,hol,hcl,nl,hdl⟩:=hl
    obtain ⟨ocls,odict,odata,oslots⟩:=ol
    simp only at hcl hdl
    subst hcl;subst hdl
    have hol':(s.heap.push { cls:=.type "set",dict:=none,data:=.set #[] 0 (.fresh 0 0 led) }).get? l=some { cls:=.type "list",dict:=odict,data:=.seq items nl,slots:=oslots }:=qr _ hol
    have hsls:=F.sub_list_set
    have hslf:=F.sub_list_frozenset
    have hne:(Value.type "list"==Value.type "dict")=false:=by decide
    have hl1:(s.heap.push { cls:=.type "set",dict:=none,data:=.set #[] 0 (.fresh 0 0 led) }).IsList l items:=⟨_,hol',rfl,nl,rfl⟩
    unfold Builtin.«set.__init__» noKeywords Builtin.Frozenset.updateFrom
    generalize hPI:pyIter=PI
    wp_walk
    subst hPI
    refine wpAny_pyIter_list hl1 ?_
    refine qv (wpAny_runValue ?_)
    have hlS:l < s.heap.objs.size:=qt hol
    have hh3:A.in1.in1.in1.handled=none:=by simp [hh]
    have hneI:l≠(s.heap.push { cls:=.type "set",dict:=none,data:=.set #[] 0 (.fresh 0 0 led) }).objs.size:=by
     rw [Heap.size_push];exact qA (Nat.lt_succ_of_lt hlS)
    have hSf:s.heap.objs.size∉[(s.heap.push { cls:=.type "set",dict:=none,data:=.set #[] 0 (.fresh 0 0 led) }).objs.size,l]:=by
     rw [Heap.size_push];simp only [qJ,List.mem_singleton,qH,or_false,not_or]
     exact ⟨qA (Nat.lt_succ_self _),Nat.ne_of_gt hlS⟩
    have hget:((s.heap.push { cls:=.type "set",dict:=none,data:=.set #[] 0 (.fresh 0 0 led) }).push { cls:=.type "list_iterator",data:=.fields #[.ref l,.int 0 0] }).get? s.heap.objs.size
       = some { cls:=.type "set",dict:=none,data:=.set #[] 0 (.fresh 0 0 led) }:=qr _ hS
    refine zon ((Walks.list hh3 _ l hneI items).toS) s.heap.objs.size
     hSf (fun h=>∀ b o,b < s.heap.objs.size->s.heap.get? b=some o->h.get? b=some o) (fun h h' hB hk b o hb e=>hk b o ?_ (hB b o hb e)) J (hadd _ (by show A.units+3<=_;omega)) (items.size - 0) 0 _ _ (by omega) (Nat.zero_le _)
     ⟨⟨_,qE _ rfl,rfl,rfl⟩,(hl1.push _)⟩ hget (hJ0 led) (fun b o hb e=>qr _ (qr _ e)) ?hR
    ·have hb1:b≠s.heap.objs.size:=qA hb
     have hb2:b≠(s.heap.push { cls:=.type "set",dict:=none,data:=.set #[] 0 (.fresh 0 0 led) }).objs.size:=by
      rw [Heap.size_push];exact qA (Nat.lt_succ_of_lt hb)
     simp only [qJ,List.mem_singleton,qH,or_false,not_or];exact ⟨hb1,hb2⟩
    case hR =>
     intro s' o' hm hS' hJ'
     obtain ⟨h',g',d',tk',os'⟩:=s'
     have eg:g'=s.gens:=hm.gens
     have ed:d'=s.drawn:=hm.drawn
     have eo:os'=s.os:=hm.os
     subst eg;subst ed;subst eo
     show wpAny _ _ _ _ _ _
     refine qy ?_
     show wpAny _ _ (ret Value.none) _ _ _
     refine qy ⟨rfl,h',tk',o',rfl,hS',hJ',fun b o hb e=>?_⟩
     have hb1:b≠s.heap.objs.size:=qA hb
     have hb2:b≠(s.heap.push { cls:=.type "set",dict:=none,data:=.set #[] 0 (.fresh 0 0 led) }).objs.size:=by
      rw [Heap.size_push];exact qA (Nat.lt_succ_of_lt hb)
     exact hm.heap b o (by simp only [qJ,List.mem_singleton,qH,or_false,not_or];exact ⟨hb1,hb2⟩) (qr _ (qr _ e))
   ·cases r₂ with
    | error e=>exact hr₂
    | ok fl₂ =>
     cases fl₂ with
     | ret r =>
      obtain ⟨rfl,h',tk,o',rfl,hS',hJ',hk'⟩:=hr₂
      repeat (any_goals (first | assumption | wp_step))
      exact h _ _ _ hS' hJ' hk'
     | _=>exact hr₂.elim
  | _=>exact hr.elim
end
end ST
end
section
namespace ST
open PySem PySem.Spec PyProof.Rows
def dd {κ:Type} [DecidableEq κ] (l:List κ):List κ:=l.foldl (fun a k=>if k∈a then a else a++[k]) []
theorem zku {κ:Type} [DecidableEq κ] (l:List κ) (k:κ):dd (l++[k])=if k∈dd l then dd l else dd l++[k]:=by
 unfold dd;rw [List.foldl_append];rfl
theorem zh9 {κ:Type} [DecidableEq κ] (l:List κ):(dd l).length<=l.length:=by
 have key:∀ (l a:List κ),(l.foldl (fun a k=>if k∈a then a else a++[k]) a).length<=a.length+l.length:=by
  intro l
  induction l with
  | nil=>intro a;exact qu _
  | cons k r ih =>
   intro a
   rw [List.foldl_cons]
   refine qK (ih _) ?_
   split
   ·simp only [qh];omega
   ·simp only [qi,qh,qk];omega
 have:=key l []
 simpa [dd] using this
section
variable {prog:Program} {w:World} {κ:Type} [DecidableEq κ] {knd:KeyKind prog w κ} {A:Around} {E:Value->Shared->Prop} {s:Shared}
theorem zf1 {ks:List κ} {a:Addr} {Q:Bool->Shared->Prop} (hk:IsTupleKey knd s.heap ks a) (hsc:∀ v k,knd.is k v=true->v.scannable=true) (h:∀ b,Q b s):wpAny (model prog w) A (hashByValue 8 (.ref a)) Q E s:=by
 have hT:=hk.typeIs
 obtain ⟨o,items,n,ho,_,hd,hi⟩:=hk
 unfold hashByValue
 refine qv (wpAny_specialOf hT F.slot_tuple_hash.lookup ?_)
 refine qv (wpAny_seqItems ho hd ?_)
 refine qv ?_
 show wpAny _ _ (forIn items _ _) _ _ s
 rw [← Array.forIn_toList]
 have hall:∀ v∈items.toList,v.scannable=true:=by
  have:∀ {x:List κ} {vs:List Value},ItemsAre knd x vs->∀ v∈vs,v.scannable=true:=by
   intro x vs q
   induction q with
   | nil=>intro v hv;cases hv
   | cons h1 _ ih =>
    intro v hv
    rcases List.mem_cons.mp hv with rfl | hv
    ·exact hsc _ _ h1
    ·exact ih v hv
  exact this hi
 refine wpAny_forIn_list _ (fun zdf r s'=>s'=s/\∀ v∈zdf,v.scannable=true) _ ?_ ?_ _ _ ⟨rfl,hall⟩
 ·rintro v zdf r s' ⟨rfl,hv⟩
  rw [hashByValue_scannable _ (hv v qf)]
  refine qv (qy ?_)
  cases hp:plainKind v with
  | true =>
   simp only [Bool.not_true,qp,if_false]
   exact qy ⟨rfl,fun u hu'=>hv u (qg _ hu')⟩
  | false =>
   simp only [Bool.not_false,if_true]
   first | exact qy (qy (h _)) | exact qy (h _) | exact qv (qy (qy (qy (h _))))
 ·rintro ⟨r1,r2⟩ s' ⟨rfl,_⟩
  first | exact qy (h _) | (cases r1 <;> exact qy (h _))
theorem zfs {ks:List κ} {a:Addr} {Q:Bool->Shared->Prop} (hk:IsTupleKey knd s.heap ks a) (h:Q false s):wpAny (model prog w) A (ofAClassStatement 8 (.ref a)) Q E s:=by
 have hT:=hk.typeIs
 obtain ⟨o,items,n,ho,_,hd,hi⟩:=hk
 unfold ofAClassStatement
 refine qv (wpAny_typeOf hT ?_)
 dsimp only
 rw [qW (by decide)]
 refine qv (qy ?_)
 simp only [Bool.not_true,qp,if_false]
 refine qv (wpAny_seqItems ho hd ?_)
 refine qv ?_
 show wpAny _ _ (forIn items _ _) _ _ s
 rw [← Array.forIn_toList]
 refine wpAny_forIn_list _ (fun zdf r s'=>r.1=none/\s'=s/\∀ v∈zdf,carriedByValue v=true) _ ?_ ?_ _ _ ⟨rfl,rfl,hi.byValue⟩
 ·rintro v zdf r s' ⟨hr,rfl,hv⟩
  have e:ofAClassStatement 7 v=pure false:=by
   have:=hv v qf
   cases v with
   | ref b=>simp [carriedByValue] at this
   | _=>rfl
  rw [e]
  refine qv (qy ?_)
  simp only [qp,if_false]
  exact qy ⟨rfl,rfl,fun u hu'=>hv u (qg _ hu')⟩
 ·rintro ⟨r1,r2⟩ s' ⟨hr,rfl,_⟩
  simp only at hr
  subst hr
  exact qy h
theorem zrQ {ks:List κ} {a:Addr} {Q:Bool->Shared->Prop} (hk:IsTupleKey knd s.heap ks a) (st:List Value) (hst:∀ y∈st,∃ k b,y=.ref b/\IsTupleKey knd s.heap k b) (h:Q false s):wpAny (model prog w) A (searchCouldBeSeen (.ref a) st) Q E s:=by
 unfold searchCouldBeSeen
 refine qv ?_
 refine wpAny_forIn_list _ (fun zdf r s'=>r.1=none/\s'=s/\∀ y∈zdf,∃ k b,y=.ref b/\IsTupleKey knd s.heap k b) _ ?_ ?_ _ _ ⟨rfl,rfl,hst⟩
 ·rintro v zdf r s' ⟨hr,rfl,hv⟩
  obtain ⟨k,b,rfl,hb⟩:=hv v qf
  dsimp only
  split
  ·exact qy ⟨rfl,rfl,fun u hu'=>hv u (qg _ hu')⟩
  ·refine qv (wpAny_eqIsQuiet_tuple hk ?_)
   simp only [Bool.not_true,qp,if_false]
   refine qv (wpAny_eqIsQuiet_tuple hb ?_)
   simp only [Bool.not_true,qp,if_false]
   refine qv (zfs hk ?_)
   simp only [qp,if_false]
   refine qv (zfs hb ?_)
   simp only [qp,if_false]
   exact qy ⟨rfl,rfl,fun u hu'=>hv u (qg _ hu')⟩
 ·rintro ⟨r1,r2⟩ s' ⟨hr,rfl,_⟩
  simp only at hr
  subst hr
  exact qy h
end
end ST
end
section
namespace ST
open PySem PySem.Spec PyProof.Rows
theorem zgV {t:SetTable} {es:Array (Int×Value)} (T:Tb t es) {hashAt:Nat->Int} {h:Int} {p:SetTable.Probe} {r:Option SetTable.Met} {n n0:Nat} (hp:t.probe hashAt h p=r) (hpp:p=zcK (it t.mask h n)) (hn:n<=n0) (hn0:n0 < 10*(t.mask+15))
  (hf:J t.mask h n0∉t.place.toList) (ho:∀ m,m < n0->J t.mask h m∈t.place.toList) :
  (∃ n' i,n<=n'/\n' < n0/\t.place[i]?=some (J t.mask h n')/\hashAt i=h/\(∀ m i,n<=m->m < n'->t.place[i]?=some (J t.mask h m)->hashAt i≠h)/\r=some (.candidate (J t.mask h n') i (zcK (it t.mask h (n'+1))))) \/
  ((∀ m i,n<=m->m < n0->t.place[i]?=some (J t.mask h m)->hashAt i≠h)/\r=some (.empty (J t.mask h n0) none)):=by
 subst hpp
 subst hp
 unfold SetTable.probe
 exact T.probe_go hashAt h hf ho (10*SetTable.turns t.mask) n hn (by unfold SetTable.turns;omega)
theorem zj9 {t:SetTable} {es:Array (Int×Value)} (T:Tb t es) {hashAt:Nat->Int} {h:Int} {p:SetTable.Probe} {n n0:Nat} (hp:∀ met,t.probe hashAt h p=some met->False) (hpp:p=zcK (it t.mask h n)) (hn:n<=n0) (hn0:n0 < 10*(t.mask+15))
  (hf:J t.mask h n0∉t.place.toList) (ho:∀ m,m < n0->J t.mask h m∈t.place.toList):False:=by
 rcases zgV T (r:=t.probe hashAt h p) rfl hpp hn hn0 hf ho with ⟨n',i,_,_,_,_,_,g6⟩ | ⟨_,g2⟩
 ·exact hp _ g6
 ·exact hp _ g2
section
variable {prog:Program} {w:World} {κ:Type} [DecidableEq κ] {knd:KeyKind prog w κ} {A:Around} {E:Value->Shared->Prop} {s:Shared}
def ztp (knd:KeyKind prog w κ) (h:Heap) (es:Array (Int×Value)):Prop:=∀ (i:Nat) e,es[i]?=some e->∃ k b,e=(tupleKeyHash knd k,.ref b)/\IsTupleKey knd h k b
theorem Mk.odd {M:Nat} (h:Mk M):(M % 2==0)=false:=by
 rcases h with rfl | rfl | rfl | rfl <;> rfl
theorem zms {S a:Addr} {o:Obj} {es:Array (Int×Value)} {ep:Nat} {t:SetTable} {k:List κ} {n0:Nat} {Q:SetFound->Shared->Prop} (hu:A.units < cLine) (ho:s.heap.get? S=some o) (hd:o.data=.set es ep t) (T:Tb t es) (hM:Mk t.mask)
  (hk:IsTupleKey knd s.heap k a) (he:ztp knd s.heap es) (hf:J t.mask (tupleKeyHash knd k) n0∉t.place.toList) (hocc:∀ m,m < n0->J t.mask (tupleKeyHash knd k) m∈t.place.toList) (hn0:n0 < 10*(t.mask+15))
  (hyes:∀ (i:Nat) (b:Addr),es[i]?=some (tupleKeyHash knd k,.ref b)->IsTupleKey knd s.heap k b->Q (.there none) s)
  (hno:(∀ (i:Nat) (b:Addr),es[i]?=some (tupleKeyHash knd k,.ref b)->¬ IsTupleKey knd s.heap k b)->Q (.free (J t.mask (tupleKeyHash knd k) n0) false) s) :
  ∀ (fuel n:Nat) (stand:Option SetTable.Probe),n0 - n < fuel->n<=n0->(stand.getD (t.probeStart (tupleKeyHash knd k))=zcK (it t.mask (tupleKeyHash knd k) n)) ->
   (∀ (m i:Nat) (b:Addr),m < n->t.place[i]?=some (J t.mask (tupleKeyHash knd k) m)->es[i]?=some (tupleKeyHash knd k,.ref b)->¬ IsTupleKey knd s.heap k b) ->
   wpAny (model prog w) A (setSearchFrom S (.ref a) (tupleKeyHash knd k) true fuel stand) Q E s:=by
 intro fuel
 induction fuel with
 | zero=>intro n stand h1;omega
 | succ fuel ih =>
  intro n stand h1 h2 hs hw
  unfold setSearchFrom
  refine qv (wpAny_setState_of ho hd T.fits ?_)
  dsimp only
  have hg:t.gaveWay=false:=hM.odd
  rw [hg]
  simp only [qp,if_false]
  split
  ·rename_i met hp
   rcases zgV T hp hs h2 hn0 hf hocc with ⟨n',i,g1,g2,g3,g4,g5,g6⟩ | ⟨g1,g2⟩
   ·cases g6
    have hi:i < es.size:=by
     have:=(Array.getElem?_eq_some_iff.mp g3).1
     rw [T.sz] at this
     exact this
    have hei:es[i]?=some es[i]:=by simp [hi]
    obtain ⟨k',b,e1,hb⟩:=he i _ hei
    rw [e1] at hei
    have hh:tupleKeyHash knd k'=tupleKeyHash knd k:=by
     have g4':((es[i]?).map (·.1)).getD 0=tupleKeyHash knd k:=g4
     rw [hei] at g4'
     exact g4'
    rw [hh] at hei
    have zdf:wpAny (model prog w) A (do
      let some (_,y):=es[i]? | unsupported "internal:set-entry"
      let equal ← holding [y] (eqBool y (.ref a))
      let (es',_,t') ← setState S
      if true && equal then return .there none
      let some same:=t'.sameMemory t.moves t.mask | unsupported "set.changed-during-lookup:is-the-new-block-at-the-old-address"
      let still ← match (if same then t'.slot (J t.mask (tupleKeyHash knd k) n') else .empty) with
       | .live i'=>match es'[i']? with
        | some (_,y')=>do pure (if ← isSame y' y then some i' else none)
        | none=>pure none
       | _=>pure none
      match still with
      | none=>rule "set.search.anew";setSearchFrom S (.ref a) (tupleKeyHash knd k) true fuel none
      | some i'=>if equal then return .there (some i') else setSearchFrom S (.ref a) (tupleKeyHash knd k) true fuel (some (zcK (it t.mask (tupleKeyHash knd k) (n'+1))))) Q E s:=by
     rw [hei]
     dsimp only
     refine qv (wpAny_holding (wpAny_eqBool_tuple hu hb hk ?_))
     refine qv (wpAny_setState_of ho hd T.fits ?_)
     dsimp only
     by_cases hkk:k'=k
     ·subst hkk
      rw [qQ rfl]
      simp only [Bool.true_and,if_true]
      exact qy (hyes i b hei hb)
     ·rw [qL hkk]
      simp only [Bool.true_and,qp,if_false]
      have hsm:t.sameMemory t.moves t.mask=some true:=by unfold SetTable.sameMemory;simp
      rw [hsm]
      dsimp only
      simp only [if_true]
      rw [T.live g3]
      dsimp only
      rw [hei]
      dsimp only
      refine qv (wpAny_isSame_ref_self ?_)
      simp only [if_true]
      refine qv (qy ?_)
      dsimp only
      refine ih (n'+1) _ (by omega) (by omega) rfl ?_
      intro m i2 b2 hm hp2 he2
      by_cases h3:m < n
      ·exact hw m i2 b2 h3 hp2 he2
      ·by_cases h4:m=n'
       ·subst h4
        have ei:i2=i:=by
         have q1:=T.live hp2
         have q2:=T.live g3
         rw [q1] at q2
         injection q2
        subst ei
        rw [hei] at he2
        cases he2
        exact fun z=>hkk (hb.inj z)
       ·exfalso
        refine g5 m i2 (by omega) (by omega) hp2 ?_
        show ((es[i2]?).map (·.1)).getD 0=_
        rw [he2]
        rfl
    cases hled:t.led with
    | true =>
     simp only [Bool.not_true,qp,if_false]
     exact zdf
    | false =>
     simp only [Bool.not_false,if_true]
     refine qv (zrQ hk _ (fun y hy=>?_) ?_)
     ·obtain ⟨e,he1,rfl⟩:=List.mem_map.mp hy
      have he2:e∈es.toList:=by
       have:=Array.mem_toList_iff.mp he1
       rw [Array.mem_filter] at this
       exact Array.mem_toList_iff.mpr this.1
      obtain ⟨j,hj,ej⟩:=List.mem_iff_getElem.mp he2
      obtain ⟨k2,b2,q1,q2⟩:=he j e (by rw [← qG,qB hj,ej])
      exact ⟨k2,b2,by rw [q1],q2⟩
     ·simp only [qp,if_false]
      exact zdf
   ·cases g2
    dsimp only
    refine qy (hno fun i b hei hb=>?_)
    have hi:i < es.size:=(Array.getElem?_eq_some_iff.mp hei).1
    have hpi:t.place[i]?=some t.place[i]! := by
     have:i < t.place.size:=by rw [T.sz];exact hi
     simp [this]
    obtain ⟨m,q1,q2⟩:=T.rc i _ _ _ hpi hei
    have hmem:J t.mask (tupleKeyHash knd k) m∈t.place.toList:=by
     rw [q1]
     rw [← qG] at hpi
     exact qN hpi
    have hm:m < n0:=by
     rcases Nat.lt_trichotomy m n0 with z | z | z
     ·exact z
     ·subst z;exact absurd hmem hf
     ·exact absurd (q2 n0 z) hf
    by_cases h3:m < n
    ·exact hw m i b h3 (by rw [q1];exact hpi) hei hb
    ·refine g1 m i (by omega) hm (by rw [q1];exact hpi) ?_
     show ((es[i]?).map (·.1)).getD 0=_
     rw [hei]
     rfl
  ·rename_i hp
   exact (zj9 T hp hs h2 hn0 hf hocc).elim
structure TS (knd:KeyKind prog w κ) (h:Heap) (ks:List (List κ)) (o:Obj):Prop where
 cls:o.ExactSet
 ex:∃ es ep t,o.data=.set es ep t/\Tb t es/\Mk t.mask/\ztp knd h es/\es.size=(dd ks).length/\(∀ k∈dd ks,∃ (i:Nat) (b:Addr),es[i]?=some (tupleKeyHash knd k,.ref b)/\IsTupleKey knd h k b)/\∀ (i:Nat) (k:List κ) (b:Addr),es[i]?=some (tupleKeyHash knd k,.ref b)->IsTupleKey knd h k b->k∈dd ks
theorem IsTupleKey.mono {h h':Heap} {k:List κ} {a:Addr} (x:IsTupleKey knd h k a) (q:∀ o,h.get? a=some o->h'.get? a=some o):IsTupleKey knd h' k a:=by
 obtain ⟨o,items,n,h1,h2⟩:=x
 exact ⟨o,items,n,q o h1,h2⟩
theorem ze3 {es:Array (Int×Value)} {e:Int×Value}:e∈es.toList↔∃ i:Nat,es[i]?=some e:=by
 constructor
 ·intro h
  obtain ⟨i,hi,q⟩:=List.mem_iff_getElem.mp h
  exact ⟨i,by rw [← qG,qB hi,q]⟩
 ·rintro ⟨i,h⟩
  rw [← qG] at h
  exact qN h
theorem zqT {h0:Heap} {ks:List (List κ)} {k:List κ} {a:Addr} {es es':Array (Int×Value)} (hk:IsTupleKey knd h0 k a) (hE:ztp knd h0 es) (hsz:es.size=(dd ks).length) (hin:∀ k∈dd ks,∃ (i:Nat) (b:Addr),es[i]?=some (tupleKeyHash knd k,.ref b)/\IsTupleKey knd h0 k b)
  (hout:∀ (i:Nat) (k:List κ) (b:Addr),es[i]?=some (tupleKeyHash knd k,.ref b)->IsTupleKey knd h0 k b->k∈dd ks) (hnew:k∉dd ks) (mem:∀ e,e∈es'.toList↔e=(tupleKeyHash knd k,.ref a)\/e∈es.toList) (size:es'.size=es.size+1) :
  ztp knd h0 es'/\es'.size=(dd (ks++[k])).length/\(∀ k'∈dd (ks++[k]),∃ (i:Nat) (b:Addr),es'[i]?=some (tupleKeyHash knd k',.ref b)/\IsTupleKey knd h0 k' b)/\∀ (i:Nat) (k':List κ) (b:Addr),es'[i]?=some (tupleKeyHash knd k',.ref b)->IsTupleKey knd h0 k' b->k'∈dd (ks++[k]):=by
 rw [zku,qX hnew]
 refine ⟨fun i e he=>?_,by rw [size,hsz,qi,qT],fun k' hk'=>?_,fun i k' b he hb=>?_⟩
 ·rcases (mem e).mp (ze3.mpr ⟨i,he⟩) with rfl | q
  ·exact ⟨k,a,rfl,hk⟩
  ·obtain ⟨j,q⟩:=ze3.mp q
   exact hE j e q
 ·rcases List.mem_append.mp hk' with q | q
  ·obtain ⟨i,b,q1,q2⟩:=hin k' q
   obtain ⟨j,q3⟩:=ze3.mp ((mem _).mpr (.inr (ze3.mpr ⟨i,q1⟩)))
   exact ⟨j,b,q3,q2⟩
  ·rw [List.mem_singleton.mp q]
   obtain ⟨j,q3⟩:=ze3.mp ((mem _).mpr (.inl rfl))
   exact ⟨j,a,q3,hk⟩
 ·rcases (mem _).mp (ze3.mpr ⟨i,he⟩) with q | q
  ·have e:b=a:=by have:=(Prod.mk.inj q).2;injection this
   subst e
   exact List.mem_append.mpr (.inr (List.mem_singleton.mpr (hb.inj hk)))
  ·obtain ⟨j,q⟩:=ze3.mp q
   exact List.mem_append.mpr (.inl (hout j k' b q hb))
theorem zhT {h:Heap} {S:Addr} {o:Obj} {es es':Array (Int×Value)} {ep:Nat} {t t':SetTable} (ho:h.get? S=some o) (hd:o.data=.set es ep t):(h.update S (Obj.putSet es' t')).get? S=some { o with data:=.set es' (ep+1) t' }:=by
 have q:=Heap.get?_update_self (Obj.putSet es' t') ho (by rw [putSet_of es' t' hd];rfl)
 rwa [putSet_of es' t' hd] at q
set_option maxHeartbeats 1000000 in
theorem zn6 {S a:Addr} {o:Obj} {h0:Heap} {ks:List (List κ)} {k:List κ} {Q:Bool->Shared->Prop} (hsc:∀ v k,knd.is k v=true->v.scannable=true) (hu:A.units < cLine) (ho:s.heap.get? S=some o) (T:TS knd h0 ks o) (hk:IsTupleKey knd h0 k a)
  (hB:∀ b o,h0.get? b=some o->s.heap.get? b=some o) (hlen:ks.length<=300)
  (h:∀ b h' tk o',s.toks<=tk->Heap.SameBut S s.heap h'->h'.get? S=some o'->TS knd h0 (ks++[k]) o'->Q b { s with heap:=h',toks:=tk }):wpAny (model prog w) A (setAdd S (.ref a)) Q E s:=by
 obtain ⟨hc,es,ep,t,hd,TB,hM,hE,hsz,hin,hout⟩:=T
 have up:∀ {k:List κ} {b:Addr},IsTupleKey knd h0 k b->IsTupleKey knd s.heap k b:=fun q=>IsTupleKey.mono q fun o e=>hB _ _ e
 have down:∀ {k k':List κ} {b:Addr},IsTupleKey knd h0 k' b->IsTupleKey knd s.heap k b->k=k':=fun q1 q2=>q2.inj (up q1)
 have hE':ztp knd s.heap es:=fun i e he=>by
  obtain ⟨k,b,q1,q2⟩:=hE i e he
  exact ⟨k,b,q1,up q2⟩
 have hddl:=zh9 ks
 obtain ⟨n0,f1,f2,f3⟩:=TB.first (tupleKeyHash knd k)
 unfold setAdd
 refine wpAny_holding (qv (wpAny_pyHash_tuple hu (up hk) ?_))
 unfold setAddHashed setAddHashedIn
 refine wpAny_holding (qv (wpAny_setState_of (s:={ s with toks:=s.toks+(k.length+1) }) ho hd TB.fits ?_))
 dsimp only
 rw [show byScan (.ref a) es=false from rfl]
 simp only [qp,if_false]
 unfold setSearch
 refine qv (zms (s:={ s with toks:=s.toks+(k.length+1) }) hu ho hd TB hM (up hk) hE' f2 f3 f1 (fun i b hei hb=>?_) (fun hall=>?_) 100000 0 none ?_ (Nat.zero_le _) rfl (fun m i b hm=>by omega))
 ·
  dsimp only
  obtain ⟨k',b',q1,q2⟩:=hE i _ hei
  have:b'=b:=by
   have:=(Prod.mk.inj q1).2
   injection this with e
   exact e.symm
  subst this
  have ek:=down q2 hb
  subst ek
  have hmem:=hout i k _ hei q2
  refine qy (h false s.heap _ o (by show s.toks<=s.toks+(k.length+1);omega) (Heap.SameBut.refl S s.heap) ho ⟨hc,es,ep,t,hd,TB,hM,hE,?_⟩)
  rw [zku,qW hmem]
  exact ⟨hsz,hin,hout⟩
 ·
  dsimp only
  have hnew:k∉dd ks:=fun hm=>by
   obtain ⟨i,b,q1,q2⟩:=hin k hm
   exact hall i b q1 (up q2)
  have hpl:SetTable.below t.place (J t.mask (tupleKeyHash knd k) n0)<=es.size:=by
   have:=(zi0 t.place (J t.mask (tupleKeyHash knd k) n0) TB.ri).1
   rw [TB.sz] at this
   exact this
  have hmaskle:t.mask<=511:=by rcases hM with e | e | e | e <;> omega
  have hmem:∀ e,e∈(SetTable.insertAt es (SetTable.below t.place (J t.mask (tupleKeyHash knd k) n0)) (tupleKeyHash knd k,Value.ref a)).toList↔e=(tupleKeyHash knd k,Value.ref a)\/e∈es.toList:=fun e=>by
   rw [zcu _ _ _ hpl]
   exact zf0 _ _ _ _
  have hsize:(SetTable.insertAt es (SetTable.below t.place (J t.mask (tupleKeyHash knd k) n0)) (tupleKeyHash knd k,Value.ref a)).size=es.size+1:=by
   have:=congrArg List.length (zcu es _ (tupleKeyHash knd k,Value.ref a) hpl)
   simp only [Array.length_toList,qi,qh,qC,List.length_drop] at this
   omega
  have hpsz:(SetTable.insertAt t.place (SetTable.below t.place (J t.mask (tupleKeyHash knd k) n0)) (J t.mask (tupleKeyHash knd k) n0)).size=es.size+1:=by
   have:=congrArg List.length (zcu t.place _ (J t.mask (tupleKeyHash knd k) n0) (by rw [TB.sz];exact hpl))
   have h3:=TB.sz
   simp only [Array.length_toList,qi,qh,qC,List.length_drop] at this
   omega
  refine qv (wpAny_setState_of (s:={ s with toks:=s.toks+(k.length+1) }) ho hd TB.fits ?_)
  dsimp only
  have fin:∀ (es':Array (Int×Value)) (t':SetTable) (h':Heap) (o':Obj),Tb t' es'->Mk t'.mask->(∀ e,e∈es'.toList↔e=(tupleKeyHash knd k,Value.ref a)\/e∈es.toList)->es'.size=es.size+1->Heap.SameBut S s.heap h'->h'.get? S=some o'->o'.ExactSet->(∃ ep',o'.data=.set es' ep' t')->Q true { s with heap:=h',toks:=s.toks+(k.length+1) }:=fun es' t' h' o' q1 q2 q3 q4 q5 q6 q7 q8=>by
   obtain ⟨ep',q8⟩:=q8
   obtain ⟨w1,w2,w3,w4⟩:=zqT hk hE hsz hin hout hnew q3 q4
   exact h true h' _ o' (by omega) q5 q6 ⟨q7,es',ep',t',q8,q1,q2,w1,w2,w3,w4⟩
  have zdf:∀ pl:Bool,wpAny (model prog w) A (do
    storeSet S (SetTable.insertAt es (t.put (J t.mask (tupleKeyHash knd k) n0)).2 (tupleKeyHash knd k,Value.ref a)) { (t.put (J t.mask (tupleKeyHash knd k) n0)).1 with plain:=pl }
    if (!false && SetTable.tooFull { (t.put (J t.mask (tupleKeyHash knd k) n0)).1 with plain:=pl })=true then do
     setRelay S (SetTable.grown (es.size+1))
     pure true
    else pure true) Q E { s with toks:=s.toks+(k.length+1) }:=fun pl=>by
   refine qv (wpAny_storeSet_of (s:={ s with toks:=s.toks+(k.length+1) }) ho hd ?_ (by show (SetTable.insertAt es (SetTable.below t.place (J t.mask (tupleKeyHash knd k) n0)) (tupleKeyHash knd k,Value.ref a)).size<=sizeLine;rw [hsize,sizeLine_eq];omega))
   have hg1:=zhT (es':=SetTable.insertAt es (t.put (J t.mask (tupleKeyHash knd k) n0)).2 (tupleKeyHash knd k,Value.ref a)) (t':={ (t.put (J t.mask (tupleKeyHash knd k) n0)).1 with plain:=pl }) ho hd
   have hsb1:=Heap.SameBut.update s.heap S (Obj.putSet (SetTable.insertAt es (t.put (J t.mask (tupleKeyHash knd k) n0)).2 (tupleKeyHash knd k,Value.ref a)) { (t.put (J t.mask (tupleKeyHash knd k) n0)).1 with plain:=pl })
   have hdum:(t.put (J t.mask (tupleKeyHash knd k) n0)).1.dummies=#[]:=by
    show (if SetTable.has t.dummies _ then _ else t.dummies)=#[]
    rw [TB.dm]
    rfl
   have hfill:SetTable.fill { (t.put (J t.mask (tupleKeyHash knd k) n0)).1 with plain:=pl }=es.size+1:=by
    show (SetTable.insertAt t.place _ _).size+(t.put (J t.mask (tupleKeyHash knd k) n0)).1.dummies.size=_
    rw [hdum]
    exact hpsz
   by_cases few:(es.size+1)*5 < t.mask*3
   ·have hfull:SetTable.tooFull { (t.put (J t.mask (tupleKeyHash knd k) n0)).1 with plain:=pl }=false:=by
     unfold SetTable.tooFull
     rw [hfill]
     exact qL (by show ¬ ((es.size+1)*5 ≥ t.mask*3);omega)
    rw [hfull]
    simp only [Bool.not_false,Bool.and_false,qp,if_false]
    refine qy (fin _ _ _ _ (TB.put (x:=.ref a) f2 f3 few pl) hM hmem hsize hsb1 hg1 hc ⟨_,rfl⟩)
   ·have hfull:SetTable.tooFull { (t.put (J t.mask (tupleKeyHash knd k) n0)).1 with plain:=pl }=true:=by
     unfold SetTable.tooFull
     rw [hfill]
     exact qQ (by show ((es.size+1)*5 ≥ t.mask*3);omega)
    rw [hfull]
    simp only [Bool.not_false,Bool.and_true,if_true]
    obtain ⟨m1,m2,m3⟩:=hM.grow TB.few few (by omega)
    have hes1:(SetTable.insertAt es (t.put (J t.mask (tupleKeyHash knd k) n0)).2 (tupleKeyHash knd k,Value.ref a)).size=es.size+1:=hsize
    obtain ⟨t',order,r1,r2,r3,r4,r5,r6⟩:=Full.relaid (t:={ (t.put (J t.mask (tupleKeyHash knd k) n0)).1 with plain:=pl }) (es:=SetTable.insertAt es (t.put (J t.mask (tupleKeyHash knd k) n0)).2 (tupleKeyHash knd k,Value.ref a)) m1.full (by rw [hes1];exact m2)
    unfold setRelay
    have hfits:SetTable.fits { (t.put (J t.mask (tupleKeyHash knd k) n0)).1 with plain:=pl } (SetTable.insertAt es (t.put (J t.mask (tupleKeyHash knd k) n0)).2 (tupleKeyHash knd k,Value.ref a)).size=true:=by
     unfold SetTable.fits
     rw [hfill,hes1,Bool.and_eq_true]
     have:=TB.few
     exact ⟨by rw [beq_iff_eq];exact hpsz,qQ (by show es.size+1<=t.mask;omega)⟩
    refine qv ?_
    refine qv (wpAny_setState_of (s:={ s with heap:=_,toks:=s.toks+(k.length+1) }) hg1 rfl hfits ?_)
    dsimp only
    rw [qX (by rw [sizeLine_eq];omega),r1]
    refine qv ?_
    show wpAny _ _ (if ((order.filterMap ((SetTable.insertAt es (t.put (J t.mask (tupleKeyHash knd k) n0)).2 (tupleKeyHash knd k,Value.ref a))[·]?)).size != (SetTable.insertAt es (t.put (J t.mask (tupleKeyHash knd k) n0)).2 (tupleKeyHash knd k,Value.ref a)).size)=true then _ else _) _ _ _
    rw [qX (by rw [r2];simp)]
    refine qy ?_
    dsimp only
    refine wpAny_storeSet_of (s:={ s with heap:=_,toks:=s.toks+(k.length+1) }) hg1 rfl ?_ (by rw [r2,hes1,sizeLine_eq];omega)
    refine qy (fin _ t' _ _ r3 (by rw [r5];exact m1) (fun e=>(r4 e).trans (hmem e)) (by rw [r2,hes1]) (hsb1.trans (Heap.SameBut.update _ S _)) (zhT hg1 rfl) hc ⟨_,rfl⟩)
  split
  ·refine qv (zf1 (s:={ s with toks:=s.toks+(k.length+1) }) (up hk) hsc fun bv=>?_)
   cases bv
   ·exact zdf false
   ·exact zdf _
  ·refine qv (qy ?_)
   exact zdf _
 ·show n0 - 0 < 100000
  have:t.mask<=511:=by rcases hM with e | e | e | e <;> omega
  omega
end
end ST
end
section
namespace L2
open PySem PySem.Spec PyProof.Rows ST
instance (priority:=high) keyBEq:BEq Key:=instBEqOfDecidableEq
instance (priority:=high) keyLaw:LawfulBEq Key:=inferInstanceAs (@LawfulBEq Key instBEqOfDecidableEq)
def zuJ (n:Nat) (o:Obj):Prop:=o.ExactSet/\∃ es ep t,o.data=.set es ep t/\t.fits es.size=true/\es.size=n
def zpY (p:Addr) (n:Nat):HO:=.ext fun h=>∃ o,h.get? p=some o/\zuJ n o
section
variable {X:Cx}
theorem zlc {P:Program} {w:World} (v:Value) (k:Key) (h:(zba P w).is k v=true):v.scannable=true:=by
 rcases zbv h with ⟨i,t,rfl,rfl⟩ | ⟨x,t,rfl,rfl⟩ <;> rfl
def zuS:List V->Hp->VK->Prop:=fun xs H Q=>∃ a vs,xs=[.ref a]/\Rd H a (.lst vs)/\vs.length<=300 /\
 ((∃ ks:List Key,vs=ks.map kV/\∀ p,H p=none->Q (.ref p) (upd H p (zpY p (dd ks).length))) \/
 (∃ ts:List (List Key),vs.length=ts.length/\(∀ (i:Nat) t,ts[i]?=some t->∃ b,vs[i]?=some (.ref b)/\H b=some (.tup (t.map kV)))/\∀ p,H p=none->Q (.ref p) (upd H p (zpY p (dd ts).length))))
theorem zpb (hc:X.calm=true) (hu:X.A.units+66 < cLine):zff X (.type "set") zuS:=by
 intro pins s σ H xs us Q I r h
 obtain ⟨a,vs,rfl,ha,hl,h⟩:=h
 obtain ⟨u,rfl,ru⟩:=zgA r
 cases ru
 obtain ⟨its,rv,pl,hz⟩:=I.list (.inl ha)
 have hlen:=rv.length
 have hsz:its.toArray.size=vs.length:=by rw [qz,hlen]
 have fin:∀ (n:Nat) (h':Heap) (tk:Nat) (o:Obj),h'.get? s.heap.objs.size=some o->zuJ n o->(∀ b o,b < s.heap.objs.size->s.heap.get? b=some o->h'.get? b=some o) ->
   (∀ p,H p=none->Q (.ref p) (upd H p (zpY p n)))->EP X pins σ Q (.ref s.heap.objs.size) { s with heap:=h',toks:=tk }:=fun n h' tk o ho hn hk q=>by
  refine ⟨.ref s.heap.objs.size,_,I.laid (a:=s.heap.objs.size) (o:=zpY s.heap.objs.size n) (fun b u e=>hk b u (qt e) e) (qu _) ?_,rfl,q _ I.fresh⟩
  refine ⟨⟨o,ho,hn⟩,⟨o,ho⟩,fun h1 h2 hp hk2=>?_⟩
  obtain ⟨o1,q1,q2⟩:=hp
  exact ⟨o1,hk2 o1 q1,q2⟩
 rcases h with ⟨ks,rfl,q⟩ | ⟨ts,ht,hts,q⟩
 ·
  have hkl:ks.length=its.length:=by rw [← hlen,qe]
  refine zgr (I.ok.hd hc) pl.isList (fun i o=>o.SetObjOf (zba X.prog X.w) (fun k=>decide (k∈dd (ks.take i))) (dd (ks.take i)).length) (fun led=>?_) (fun A' hA' i v sh o Q' E' hi hv ho hJ hB hQ=>?_) fun h' tk o ho hJ hk=>?_
  ·have:=setObjOf_fresh (knd:=zba X.prog X.w) led
   simpa [dd] using this
  ·have hi':i < ks.length:=by rw [qz] at hi;omega
   obtain ⟨u2,hu2,ru2⟩:=rv.get (i:=i) (x:=kV ks[i]) (by simp [hi'])
   have ev:v=u2:=by
    have hv':its[i]?=some v:=by simpa using hv
    rw [hu2] at hv'
    exact (qF hv').symm
   subst ev
   have hkey:=zoR (P:=X.prog) (w:=X.w) ru2
   have hle:(dd (ks.take i)).length<=300:=by
    have h1:=zh9 (ks.take i)
    rw [qC] at h1
    rw [qe] at hl
    omega
   unfold setAdd
   refine wpAny_holding (qv ((zba X.prog X.w).pyHash hkey ?_))
   refine wpAny_setAddHashed_of (knd:=zba X.prog X.w) (s:={ sh with toks:=sh.toks+1 }) hkey (zlc _ _ hkey) (hJ.setOf ho (by unfold scanBound;omega)) (by unfold scanBound;omega) fun h' hsb hS2=>?_
   obtain ⟨o',ho',hso⟩:=hS2.objOf
   refine hQ _ h' _ o' (Nat.le_succ _) hsb ho' ?_
   have htk:ks.take (i+1)=ks.take i++[ks[i]]:=by rw [List.take_succ,qB hi'];rfl
   show Obj.SetObjOf (zba X.prog X.w) o' (fun k=>decide (k∈dd (List.take (i+1) ks))) (dd (List.take (i+1) ks)).length
   rw [htk,zku]
   by_cases hm:ks[i]∈dd (ks.take i)
   ·rw [qW hm]
    rw [qW (by simpa using hm)] at hso
    have e:(fun k'=>decide (k'∈dd (ks.take i)) || decide (k'=ks[i]))=fun k'=>decide (k'∈dd (ks.take i)):=by
     funext k'
     by_cases hk':k'=ks[i]
     ·subst hk';simp [hm]
     ·simp [hk']
    rw [e] at hso
    exact hso
   ·rw [qX hm]
    rw [qX (by simpa using hm)] at hso
    have e:(fun k'=>decide (k'∈dd (ks.take i)) || decide (k'=ks[i]))=fun k'=>decide (k'∈dd (ks.take i)++[ks[i]]):=by
     funext k'
     rw [Bool.eq_iff_iff]
     simp
    rw [e] at hso
    simpa using hso
  ·have e:ks.take its.toArray.size=ks:=by rw [qz,← hkl];exact List.take_length
   rw [e] at hJ
   have hS:=hJ.setOf ho (by have:=zh9 ks;rw [qe] at hl;unfold scanBound;omega)
   obtain ⟨o1,es,ep,t,v0,v1,v2,_,_,_,v3,v4⟩:=hS
   rw [ho] at v0
   cases v0
   exact fin _ h' tk o ho ⟨v1,es,ep,t,v2,v3,v4⟩ hk q
 ·
  have hkl:ts.length=its.length:=by rw [← hlen,ht]
  refine zgr (I.ok.hd hc) pl.isList (fun i o=>ST.TS (zba X.prog X.w) s.heap (ts.take i) o) (fun led=>?_) (fun A' hA' i v sh o Q' E' hi hv ho hJ hB hQ=>?_) fun h' tk o ho hJ hk=>?_
  ·refine ⟨⟨rfl,rfl,rfl⟩,#[],0,SetTable.fresh 0 0 led,rfl,?_,.inl rfl,fun i e he=>by simp at he,rfl,fun k hk=>by simp [dd] at hk,fun i k b he=>by simp at he⟩
   exact ⟨zs5,rfl,rfl,by simp [SetTable.fresh],by simp [SetTable.fresh],by simp [SetTable.fresh],fun i j h x hp=>by simp [SetTable.fresh] at hp⟩
  ·have hi':i < ts.length:=by rw [qz] at hi;omega
   obtain ⟨b,hb1,hb2⟩:=hts i ts[i] (by simp [hi'])
   obtain ⟨u2,hu2,ru2⟩:=rv.get hb1
   have ev:v=u2:=by
    have hv':its[i]?=some v:=by simpa using hv
    rw [hu2] at hv'
    exact (qF hv').symm
   subst ev
   cases ru2
   have hkey:=zlh I.hok hb2
   have htk:ts.take (i+1)=ts.take i++[ts[i]]:=by rw [List.take_succ,qB hi'];rfl
   refine zn6 (fun v k=>zlc v k) (by omega) ho hJ hkey (fun b' o' e=>hB b' o' (qt e) e) (by rw [qC];have:=hl;omega) fun bb h' tk o' h1 h2 h3 h4=>hQ bb h' tk o' h1 h2 h3 (by show ST.TS _ _ (List.take (i+1) ts) o';rw [htk];exact h4)
  ·have e:ts.take its.toArray.size=ts:=by rw [qz,← hkl];exact List.take_length
   rw [e] at hJ
   obtain ⟨hc',es,ep,t,w1,w2,w3,w4,w5,w6,w7⟩:=hJ
   exact fin _ h' tk o ho ⟨hc',es,ep,t,w1,w2.fits,w5⟩ hk q
theorem zkv:zff X (.builtin "len") (fun xs H Q=>∃ p n,xs=[.ref p]/\H p=some (zpY p n)/\n<=300/\Q (.int n) H):=by
 intro pins s σ H xs us Q I r h
 obtain ⟨p,n,rfl,hp,hn,q⟩:=h
 obtain ⟨u,rfl,ru⟩:=zgA r
 cases ru
 obtain ⟨⟨o,ho,hex,es,ep,t,w1,w2,w3⟩,_,_⟩:=I.hok p _ hp
 exact call_len_set ho hex w1 w2 (by omega) ⟨.int n,H,I.tok _,⟨_,by rw [w3]⟩,q⟩
end
end L2
end
section
namespace L2
open PySem PySem.Spec PyProof.Rows ST
def zeL:List D->Option (List (List Key))
 | []=>some []
 | .tup t::r=>(zf3 t).bind fun k=>(zeL r).map (k::·)
 | _::_=>none
theorem zhS {Γ:Cn} {K:PySem.W.Frag} {G H:Hp} (gh:zbO G H):∀ {vs:List V} {ds:List D} {ts:List (List Key)},Reps Γ K G vs ds->zeL ds=some ts->vs.length=ts.length/\∀ (i:Nat) t,ts[i]?=some t->∃ b,vs[i]?=some (.ref b)/\H b=some (.tup (t.map kV))
 | _,[],ts,r,h=>by cases r;cases h;exact ⟨rfl,fun i t e=>by simp at e⟩
 | _,d::ds,ts,.cons h1 h2,h=>by
  cases d with
  | tup t =>
   unfold zeL at h
   obtain ⟨k,hk,h⟩:=oBd h
   obtain ⟨zs,hz,rfl⟩:=oMd h
   obtain ⟨a,us,rfl,ha,ra⟩:=h1.tup_inv
   have e:=zdT ra hk
   subst e
   obtain ⟨q1,q2⟩:=zhS gh h2 hz
   refine ⟨by rw [qh,qh,q1],fun i t' e=>?_⟩
   cases i with
   | zero=>cases e;exact ⟨a,rfl,gh _ _ ha⟩
   | succ i=>exact q2 i t' e
  | _=>cases h
def zfY:D->Option D
 | .lst l=>if l.length<=300 then match zf3 l with
  | some ks=>some (.int (dd ks).length)
  | none=>(zeL l).map fun ts=>.int (dd ts).length
  else none
 | .flst l=>if l.length<=300 then (zf3 l).map fun ks=>.int (dd ks).length else none
 | _=>none
section
variable {Γ:Cn} {X:Cx} {e:Expr} {f:FE} {pos p p2 pos2:Pos}
theorem znO (hc:X.calm=true) (hu:X.A.units+66 < cLine) (hgl:Gl X "len") (hml:X.mg "len"=none) (hgs:Gl X "set") (hms:X.mg "set"=none) (h:DE Γ X e f)
  (h1:starEach ([.Call (.Name "set" p2) [e] [] pos2]:List Expr) X.env=(false,eval (.Call (.Name "set" p2) [e] [] pos2) X.env)::starEach [] X.env:=by rfl) (h2:(backTo pos (starEach [] X.env)).any (·.1)=false:=by rfl)
  (h3:starEach ([e]:List Expr) X.env=(false,eval e X.env)::starEach [] X.env:=by rfl) (h4:(backTo pos2 (starEach [] X.env)).any (·.1)=false:=by rfl) :
  DE Γ X (.Call (.Name "len" p) [.Call (.Name "set" p2) [e] [] pos2] [] pos) (b1 zfY f):=⟨by
 refine (zk2 zkv hgl hml (by rfl) (zaK (zjq (zpb hc hu) hgs hms (by rfl) (zaK h.1 zbT h3) (by decide) (by decide) h3 h4) zbT h1) (by decide) (by decide) h1 h2).imp fun σ H Q=>?_
 rintro ⟨G₀,H₀,G,ρ,d,A,hq,k⟩
 unfold b1 at hq
 obtain ⟨x,hx,hl⟩:=oBd hq
 clear hq
 refine ⟨G₀,H₀,G,ρ,x,A,hx,fun v G1 H1 s1 r1=>?_⟩
 unfold zfY at hl
 split at hl
 ·rename_i l
  split at hl
  ·rename_i hz
   obtain ⟨a,vs,rfl,ha,ra⟩:=r1.lst_inv
   have go:∀ (n:Nat),n<=300->d=.int n->∀ p,H1 p=none->∃ p' n',[V.ref p]=[V.ref p']/\(upd H1 p (zpY p n)) p'=some (zpY p' n')/\n'<=300/\Q (.int n') (upd H1 p (zpY p n)):=fun n hn ed p hp=>by
    subst ed
    refine ⟨p,n,rfl,zax,hn,k _ G1 _ (s1.trans (Step.newOwn s1.gh hp)) (.int _)⟩
   refine ⟨a,vs,rfl,.inl (s1.gh _ _ ha),by rw [ra.length];exact hz,?_⟩
   split at hl
   ·rename_i ks hk
    refine .inl ⟨ks,zdT ra hk,go _ ?_ (qF hl).symm⟩
    have h5:=zh9 ks
    have h6:ks.length=l.length:=by
     have:=zdT ra hk
     rw [← ra.length,this,qe]
    omega
   ·obtain ⟨ts,ht,e1⟩:=oMd hl
    obtain ⟨q1,q2⟩:=zhS s1.gh ra ht
    refine .inr ⟨ts,q1,q2,go _ ?_ e1.symm⟩
    have h5:=zh9 ts
    have h6:=ra.length
    omega
  ·cases hl
 ·rename_i l
  split at hl
  ·rename_i hz
   obtain ⟨a,o,vs,rfl,ha,ra⟩:=r1.flst_inv
   obtain ⟨ks,hk,e1⟩:=oMd hl
   have h5:=zh9 ks
   have h6:ks.length=l.length:=by
    have:=zdT ra hk
    rw [← ra.length,this,qe]
   refine ⟨a,vs,rfl,.inr ⟨_,s1.gh _ _ ha⟩,by rw [ra.length];exact hz,.inl ⟨ks,zdT ra hk,fun p hp=>?_⟩⟩
   subst e1
   exact ⟨p,_,rfl,zax,by omega,k _ G1 _ (s1.trans (Step.newOwn s1.gh hp)) (.int _)⟩
  ·cases hl
 ·cases hl⟩
end
end L2
end
section
namespace DT
open PySem PySem.Spec PyProof.Rows
theorem zqK:typeLookup (.type "list") "keys"=pure none:=by rw [typeLookup_type,builtinLookup_eq_fast];kernel_rfl
theorem zqL:typeLookup (.type "list") "__getattr__"=pure none:=by rw [typeLookup_type,builtinLookup_eq_fast];kernel_rfl
theorem zm4 {l:Addr} {u:Tok} {R:Result->Shared->Prop} {prog:Program} {w:World} {A:Around} {s:Shared} {xs:Array Value} {n:Nat} (hx:s.heap.get? l=some { cls:=.type "list",data:=.seq xs n }) (hA:A.handled=none)
  (h:∀ h' tk e,Heap.NewAttrErr s.heap h' e (.ref l) "keys"->R (.error (.ref e)) { s with heap:=h',toks:=tk }) :
  codeAny (model prog w) A (.call (.builtin "list.__getattribute__") ⟨[.ref l,.str "keys" u],[]⟩) R s:=by
 obtain ⟨hp,g,d,tk,os⟩:=s
 have hT:(⟨hp,g,d,tk,os⟩:Shared).TypeIs (.ref l) "list":=⟨_,hx,rfl⟩
 have f1:=zqK
 refine codeAny_call_builtin F.slot_list_getattribute.plain F.entry_list_ga (F.slot_list_getattribute.check _ _ _ _ _ _ _ _ hT (F.args_list_getattribute_2 _ _) ?_)
 unfold Builtin.«object.__getattribute__»
 repeat (any_goals (first | assumption | wp_step))
 have hsz:(Str.ofString "keys").length+100<=sizeLine:=by rw [PySem.ofString_length];decide
 refine wpAny_raiseAttrError (A:=A.in1) hA h ?_
 exact attrMsg_fits (by decide +kernel) hsz
set_option maxHeartbeats 4000000 in
theorem znh {l:Addr} {Q:Option Value->Shared->Prop} {prog:Program} {w:World} {A:Around} {E:Value->Shared->Prop} {s:Shared} {xs:Array Value} {n:Nat} (hx:s.heap.get? l=some { cls:=.type "list",data:=.seq xs n }) (hA:A.handled=none)
  (h:∀ h' tk,(∀ b ob,s.heap.get? b=some ob->h'.get? b=some ob)->Q none { s with heap:=h',toks:=tk }) :
  wpAny (model prog w) A (getAttr? (.ref l) "keys") Q E s:=by
 obtain ⟨hp,g,d,tk,os⟩:=s
 have hT:∀ tk',(⟨hp,g,d,tk',os⟩:Shared).TypeIs (.ref l) "list":=fun _=>⟨_,hx,rfl⟩
 have f1:=sub_AttributeError
 have f2:=F.slot_list_getattribute.lookup
 have f3:=F.slot_list_getattribute.bind (.ref l)
 have f5:=zqL
 unfold getAttr? getAttrBy?
 refine qv (wpAny_mkText ?_)
 refine qv (wpAny_attempt ?_)
 unfold getAttrBy
 refine wpAny_holding (qv (wpAny_typeOf (hT _) (qv (wpAny_of_eq f2 ?_))))
 show wpAny _ _ (getAttrByItsOwn _ _ _ _ _ _) _ _ _
 unfold getAttrByItsOwn
 refine qv (m:=hookBefore (Value.type "list")) (qy ?_)
 refine qv (wpAny_attempt (wpAny_holding ?_))
 show wpAny _ _ (boundAndCalled _ _ _) _ _ _
 unfold boundAndCalled
 refine qv (wpAny_of_eq f3 ?_)
 refine wpAny_call (zm4 (s:=⟨hp,g,d,tk+1,os⟩) hx hA fun h' tk' e hn=>?_)
 obtain ⟨t',u',he⟩:=hn.there
 have hE:Shared.TypeIs ⟨h',g,d,tk',os⟩ (.ref e) "AttributeError":=⟨_,he,rfl⟩
 show wpAny _ _ (getattributeRaised _ _ _ _ _ _ _) _ _ _
 unfold getattributeRaised
 refine qv (wpAny_isInstance hE f1 ?_)
 simp only [if_true]
 refine qv (m:=hookBehind (Value.type "list") none) (wpAny_of_eq f5 ?_)
 unfold hookOrError attributeErrorLeaves
 simp only [Bool.not_false,if_true]
 refine qv (wpAny_throw ?_)
 refine qv (wpAny_isInstance hE f1 ?_)
 simp only [if_true]
 exact qy (h h' tk' hn.keeps)
end DT
end
section
namespace DT
open PySem PySem.Spec PyProof.Rows
theorem zh8:entryFor table "dict.update.loop"=some Builtin.«dict.update.loop»:=entryFor_of_tree (by kernel_rfl)
theorem zer:plainId "dict.update.loop"=true:=by decide +kernel
section
variable {prog:Program} {w:World} {A:Around} {R:Result->Shared->Prop} {I:Addr} {fp wr:List Addr} {G:Array GenState->Array GenState->Prop} {n:Nat} {P:Nat->Value->Prop} {St:Nat->Shared->Prop}
def ztr (prog:Program) (w:World) (A:Around) (S:Addr) (h0:Heap) (P:Nat->Value->Prop) (n:Nat) (J:Nat->Obj->Prop):Prop :=
 ∀ (i:Nat) (b:Addr) (kv vv:Value) (s:Shared) (o:Obj) (Q:Unit->Shared->Prop) (E:Value->Shared->Prop),i < n->P i (.ref b)->h0.IsTuple b #[kv,vv]->s.heap.get? S=some o->J i o->(∀ b o,b < h0.objs.size->h0.get? b=some o->s.heap.get? b=some o) ->
  (∀ h' tk o',s.toks<=tk->Heap.SameBut S s.heap h'->h'.get? S=some o'->J (i+1) o'->Q () { s with heap:=h',toks:=tk })->wpAny (model prog w) A (dictSet S kv vv) Q E s
theorem znJ (W:WalksS prog w A.in1 I fp wr G n P St) (S:Addr) (hSf:S∉fp) (h0:Heap) (hS0:h0.objs.size<=S) (hw0:∀ b∈wr,h0.objs.size<=b) (J:Nat->Obj->Prop) (hadd:ztr prog w A.in1 S h0 P n J) (hP:∀ i v,P i v->∃ b kv vv,v=.ref b/\h0.IsTuple b #[kv,vv]) :
  ∀ (k i:Nat) (c:Int) (s:Shared) (o:Obj),n - i=k->i<=n->St i s->s.heap.get? S=some o->J i o->(∀ b o,b < h0.objs.size->h0.get? b=some o->s.heap.get? b=some o) ->
   (∀ s' o',Moved (S::wr) G s s'->s'.heap.get? S=some o'->J n o'->R (.ok (.ret .none)) s') ->
   codeAny (model prog w) A (.builtin "dict.update.loop" ⟨[.ref S,.ref I,rawInt c,.none],[]⟩) R s:=by
 have hSw:S∉wr:=fun h=>hSf (W.sub _ h)
 have hsub:∀ b∈wr,b∈S::wr:=fun b hb=>qg _ hb
 have keep:∀ {h h':Heap},(∀ b o,b < h0.objs.size->h0.get? b=some o->h.get? b=some o)->(∀ b o,b∉S::wr->h.get? b=some o->h'.get? b=some o)->∀ b o,b < h0.objs.size->h0.get? b=some o->h'.get? b=some o:=fun q1 q2 b o hb e=>q2 b o (fun z=>by
  rcases List.mem_cons.mp z with z | z
  ·rw [z] at hb;exact absurd hb (Nat.not_lt.mpr hS0)
  ·exact absurd hb (Nat.not_lt.mpr (hw0 b z))) (q1 b o hb e)
 intro k
 induction k with
 | zero =>
  intro i c s o hk hi hst hS hJ hB hR
  have hin:i=n:=by omega
  subst hin
  refine codeAny_builtin zh8 ?_
  rw [Around.under_plainId zer _]
  show wpAny _ A.in1 (pyNext (.ref I) >>= _) _ _ s
  refine qv (W.done s _ _ hst fun s' hm=>?_)
  show wpAny _ A.in1 (Builtin.Dict.addKeywords S [] >>= _) _ _ s'
  exact qv (qy (qy (hR s' o (hm.mono hsub) (hm.heap S _ hSw hS) hJ)))
 | succ k ih =>
  intro i c s o hk hi hst hS hJ hB hR
  have hlt:i < n:=by omega
  refine codeAny_builtin zh8 ?_
  rw [Around.under_plainId zer _]
  show wpAny _ A.in1 (pyNext (.ref I) >>= _) _ _ s
  refine qv (W.item i s _ _ hlt hst fun v s' hPv hst' hm=>?_)
  obtain ⟨b,kv,vv,rfl,hb⟩:=hP i v hPv
  have hB':=keep hB fun b o hb e=>hm.heap b o (fun z=>hb (hsub b z)) e
  obtain ⟨ob,hob,hoc,nn,hod⟩:=hb
  have hob':s'.heap.get? b=some ob:=hB' b ob (qt hob) hob
  have hTb:s'.TypeIs (.ref b) "tuple":=⟨_,hob',hoc⟩
  show wpAny _ A.in1 (holding [Value.ref b] _ >>= _) _ _ s'
  refine qv (wpAny_holding ?_)
  refine qv ?_
  refine wpAny_tryCatch ?_
  unfold Builtin.Dict.pairItems
  refine qv (wpAny_typeOf hTb ?_)
  rw [qW (by decide)]
  refine qv (wpAny_seqItems hob' hod (qy ?_))
  show wpAny _ A.in1 (holding [kv,vv] (dictSet S kv vv)) _ _ s'
  refine wpAny_holding (hadd i b kv vv s' o _ _ hlt hPv ⟨ob,hob,hoc,nn,hod⟩ (hm.heap S _ hSw hS) hJ hB' fun h' tk o' htk hsb hS' hJ'=>?_)
  refine qy ⟨plainId_quiet zer _,ih (i+1) (c+1) _ o' (by omega) hlt (W.frame _ s' _ _ hst' htk fun b hb o e=>?_) hS' hJ' ?_ fun s'' o'' hm'' hS'' hJ''=>?_⟩
  ·rw [hsb.2 b (fun h:b=S=>hSf (by rw [← h];exact hb))];exact e
  ·refine keep hB' fun b o hb e=>?_
   show h'.get? b=some o
   rw [hsb.2 b (fun h:b=S=>hb (by rw [h];exact qf))];exact e
  ·refine hR s'' o'' (Moved.trans W.gtrans ((hm.mono hsub).then_heap htk fun b o hb e=>?_) hm'') hS'' hJ''
   rw [hsb.2 b (fun h:b=S=>hb (by rw [h];exact qf))];exact e
end
section
variable {prog:Program} {w:World} {A:Around} {E:Value->Shared->Prop} {s:Shared}
theorem call_dict_gen {l:Addr} {items:Array Value} {c:Nat} {Q:Value->Shared->Prop} (hh:A.handled=none) (hl:s.heap.get? l=some { cls:=.type "list",data:=.seq items c }) (J:Nat->Obj->Prop)
  (hJ0:J 0 { cls:=.type "dict",data:=.dict #[] })
  (hadd:∀ A':Around,A'.units<=A.units+16->ztr prog w A' s.heap.objs.size s.heap (fun i v=>items[i]?=some v) items.size J)
  (hP:∀ (i:Nat) (v:Value),items[i]?=some v->∃ b kv vv,v=.ref b/\s.heap.IsTuple b #[kv,vv])
  (h:∀ (h':Heap) (tk:Nat) (o:Obj),h'.get? s.heap.objs.size=some o->J items.size o ->
   (∀ b o,b < s.heap.objs.size->s.heap.get? b=some o->h'.get? b=some o)->Q (.ref s.heap.objs.size) { s with heap:=h',toks:=tk }) :
  wpAny (model prog w) A (call (.type "dict") [.ref l]) Q E s:=by
 refine callType_codes (Q₁:=fun obj s₁=>obj=.ref s.heap.objs.size/\s₁={ s with heap:=s.heap.push { cls:=.type "dict",data:=.dict #[] } }) F.kt_called_dict (F.kt_typeCall_dict_1 _) F.entry_dict_init (kt_code_dict_new _ ⟨rfl,rfl⟩) ?_
 rintro obj s₁ ⟨rfl,rfl⟩
 have hnew:(s.heap.push { cls:=.type "dict",data:=.dict #[] }).get? s.heap.objs.size=some { cls:=.type "dict",data:=.dict #[] }:=qE _ rfl
 have hl1:(s.heap.push { cls:=.type "dict",data:=.dict #[] }).get? l=some { cls:=.type "list",data:=.seq items c }:=qr _ hl
 have hT:Shared.TypeIs { s with heap:=s.heap.push { cls:=.type "dict",data:=.dict #[] } } (.ref s.heap.objs.size) "dict":=⟨_,hnew,rfl⟩
 have hTl:Shared.TypeIs { s with heap:=s.heap.push { cls:=.type "dict",data:=.dict #[] } } (.ref l) "list":=⟨_,hl1,rfl⟩
 refine ⟨hT,F.args_dict_init_2 _ _,?_⟩
 unfold Builtin.«dict.__init__»
 refine qv ?_
 unfold Builtin.Dict.selfAndRest
 refine qv (wpAny_notOrdered_dict hT ?_)
 show wpAny _ _ (pure (s.heap.objs.size,[Value.ref l])) _ _ _
 refine qy ?_
 show wpAny _ _ (Builtin.Dict.updateFrom "dict.__init__" s.heap.objs.size (.ref l) [] .none) _ _ _
 unfold Builtin.Dict.updateFrom
 refine qv (wpAny_typeOf hTl ?_)
 rw [qW (by decide)]
 refine qv (znh (s:={ s with heap:=s.heap.push { cls:=.type "dict",data:=.dict #[] } }) (A:=A.in1.in1) hl1 hh fun h1 tk1 hk1=>?_)
 simp only [Option.isNone_none,if_true]
 refine qv (wpAny_rule ?_)
 have hl2:h1.IsList l items:=⟨_,hk1 _ _ hl1,rfl,_,rfl⟩
 refine qv (wpAny_pyIter_list (s:={ s with heap:=h1,toks:=tk1 }) hl2 ?_)
 refine qy ⟨plainId_quiet zer _,?_⟩
 have hlS:l < s.heap.objs.size:=qt hl
 have hsz1:s.heap.objs.size < h1.objs.size:=qt (hk1 _ _ hnew)
 have hneI:l≠h1.objs.size:=qA (Nat.lt_trans hlS hsz1)
 have hSf:s.heap.objs.size∉[h1.objs.size,l]:=by
  simp only [qJ,List.mem_singleton,qH,or_false,not_or]
  exact ⟨qA hsz1,Nat.ne_of_gt hlS⟩
 have old:∀ b o,b < s.heap.objs.size->s.heap.get? b=some o->h1.get? b=some o:=fun b o _ e=>hk1 _ _ (qr _ e)
 refine znJ ((Walks.list (A:=A.in1.in1) (by simpa using hh) _ l hneI items).toS) s.heap.objs.size hSf s.heap (qu _) (fun b hb=>?_) J (hadd _ (by show A.units+2<=_;omega)) hP (items.size - 0) 0 0 _ _ (by omega) (Nat.zero_le _)
  ⟨⟨_,qE _ rfl,rfl,rfl⟩,hl2.push _⟩ (qr _ (hk1 _ _ hnew)) hJ0 (fun b o hb e=>qr _ (old b o hb e)) fun s' o' hm hS' hJ'=>?_
 ·have:b=h1.objs.size:=by simpa using hb
  rw [this];exact Nat.le_of_lt hsz1
 ·obtain ⟨h',g',d',tk',os'⟩:=s'
  have eg:g'=s.gens:=hm.gens
  have ed:d'=s.drawn:=hm.drawn
  have eo:os'=s.os:=hm.os
  subst eg;subst ed;subst eo
  refine ⟨rfl,h h' tk' o' hS' hJ' fun b o hb e=>hm.heap b o ?_ (qr _ (old b o hb e))⟩
  simp only [qJ,List.mem_singleton,qH,or_false,not_or]
  exact ⟨qA hb,qA (Nat.lt_trans hb hsz1)⟩
end
end DT
end
section
namespace L2
open PySem PySem.Spec PyProof.Rows
section
variable {κ:Type} [DecidableEq κ]
def mrg (kvs ps:List (κ×V)):List (κ×V):=ps.foldl (fun acc kv=>zhY acc kv.1 kv.2) kvs
theorem zlb (kvs ps:List (κ×V)) (p:κ×V):mrg kvs (ps++[p])=zhY (mrg kvs ps) p.1 p.2:=by unfold mrg;rw [List.foldl_append];rfl
theorem zor (kvs:List (κ×V)) (k:κ) (v:V):(zhY kvs k v).length<=kvs.length+1:=by
 unfold zhY
 split
 ·rw [qe];omega
 ·rw [qi,qT];omega
theorem zg0:∀ (ps kvs:List (κ×V)),(mrg kvs ps).length<=kvs.length+ps.length
 | [],kvs=>qu _
 | p::ps,kvs=>by
  have h1:=zg0 ps (zhY kvs p.1 p.2)
  have h2:=zor kvs p.1 p.2
  show (mrg (zhY kvs p.1 p.2) ps).length<=_
  rw [qh]
  omega
end
section
variable {X:Cx}
def zsa:List V->Hp->VK->Prop:=fun xs H Q=>∃ (a:Addr) (vs:List V) (ps:List (Key×V)),xs=[.ref a]/\H a=some (.lst vs)/\vs.length=ps.length/\ps.length<=1000/\(∀ (i:Nat) p,ps[i]?=some p->∃ b,vs[i]?=some (.ref b)/\H b=some (.tup [kV p.1,p.2])) /\
 ∀ q,H q=none->Q (.ref q) (upd H q (.dK (mrg [] ps)))
theorem zmP {pins:List (Addr×Obj)} {σ:St} {H:Hp} {s:Shared} {b:Addr} {x y:V} (I:Inv X pins σ H s) (hb:H b=some (.tup [x,y])):∃ u v,zcD x u/\zcD y v/\s.heap.IsTuple b #[u,v]:=by
 obtain ⟨its,r,p,_⟩:=I.tuple (.inl (.inl hb))
 cases r with
 | cons r1 r2 =>
  cases r2 with
  | cons r2 r3 =>
   cases r3
   exact ⟨_,_,r1,r2,p⟩
theorem tuple_inj {h:Heap} {b:Addr} {x y:Array Value} (p:h.IsTuple b x) (q:h.IsTuple b y):x=y:=by
 obtain ⟨o,h1,_,n,h2⟩:=p
 obtain ⟨o',g1,_,m,g2⟩:=q
 rw [h1] at g1
 cases g1
 rw [h2] at g2
 cases g2
 rfl
theorem zl3 (hc:X.calm=true) (hu:X.A.units+66 < cLine):zff X (.type "dict") zsa:=by
 intro pins s σ H xs us Q I r h
 obtain ⟨a,vs,ps,rfl,ha,hl,hz,hp,q⟩:=h
 obtain ⟨u,rfl,ru⟩:=zgA r
 cases ru
 obtain ⟨z,its,n,rv,hlen,e⟩:=I.lstM ha
 have hsz:its.toArray.size=ps.length:=by rw [qz,← hlen,hl]
 have hit:∀ (i:Nat) (v:Value),its.toArray[i]?=some v->∃ p b u w,ps[i]?=some p/\v=.ref b/\zcD (kV p.1) u/\zcD p.2 w/\s.heap.IsTuple b #[u,w]:=fun i v hv=>by
  have hi:i < ps.length:=by rw [← hsz];exact (Array.getElem?_eq_some_iff.mp hv).1
  obtain ⟨b,hb1,hb2⟩:=hp i ps[i] (by simp [hi])
  obtain ⟨u2,hu2,ru2⟩:=rv.get hb1
  have hv':its[i]?=some v:=by simpa using hv
  rw [hu2] at hv'
  cases hv'
  cases ru2
  obtain ⟨u,w,r1,r2,r3⟩:=zmP I hb2
  exact ⟨ps[i],b,u,w,by simp [hi],rfl,r1,r2,r3⟩
 refine DT.call_dict_gen (I.ok.hd hc) e (fun i o=>∃ vs',KV (mrg [] (ps.take i)) vs'/\o.IsDictOf (zba X.prog X.w) vs') ?_ (fun A' hA' i b kv vv sh o Q' E' hi hv hb ho hJ hB hQ=>?_) (fun i v hv=>?_) fun h' tk o ho hJ hk=>?_
 ·obtain ⟨o,ho,hd⟩:=Heap.dictOf_iff.mp (Heap.DictOf.new (knd:=zba X.prog X.w) s.heap)
  have:o={ cls:=.type "dict",data:=.dict #[] }:=by
   have:=qE s.heap (o:={ cls:=.type "dict",data:=.dict #[] }) rfl
   rw [this] at ho
   exact (qF ho).symm
  subst this
  exact ⟨[],.nil,hd⟩
 ·obtain ⟨p,b',u,w,h1,h2,h3,h4,h5⟩:=hit i _ hv
  cases h2
  have e2:=tuple_inj hb h5
  have e3:kv=u/\vv=w:=by simpa using e2
  obtain ⟨rfl,rfl⟩:=e3
  obtain ⟨vs',k1,k2⟩:=hJ
  have hle:vs'.length<=1000:=by
   have q1:=k1.length
   have q2:=zg0 (ps.take i) ([]:List (Key×V))
   rw [qC,qk] at q2
   omega
  refine wpAny_dictSet_pairs (zoR h3) (Heap.dictOf_iff.mpr ⟨o,ho,k2⟩) (fun h' hd' hsb=>?_) (by rw [sizeLine_eq];omega)
  obtain ⟨o',ho',hd''⟩:=Heap.dictOf_iff.mp hd'
  refine hQ h' _ o' (Nat.le_succ _) hsb ho' ⟨_,?_,hd''⟩
  have htk:ps.take (i+1)=ps.take i++[p]:=by rw [List.take_succ,h1];rfl
  rw [htk,zlb]
  exact k1.put p.1 h4
 ·obtain ⟨p,b,u,w,h1,h2,h3,h4,h5⟩:=hit i v hv
  exact ⟨b,u,w,h2,h5⟩
 ·obtain ⟨vs',k1,k2⟩:=hJ
  rw [hsz,List.take_length] at k1
  refine ⟨.ref s.heap.objs.size,_,I.laid (a:=s.heap.objs.size) (o:=.dK (mrg [] ps)) (fun b u e=>hk b u (qt e) e) (qu _) ⟨?_,?_,vs',k1,Heap.dictOf_iff.mpr ⟨o,ho,k2⟩⟩,rfl,q _ I.fresh⟩
  ·have:=zg0 ps ([]:List (Key×V))
   rw [qk] at this
   rw [sizeLine_eq]
   omega
  ·exact beq_eq_false_iff_ne.mpr (Ne.symm (qA I.big))
def zr9:List V->Hp->VK->Prop:=fun xs H Q=>∃ (a:Addr) (vs:List V) (ps:List (List Key×V)),xs=[.ref a]/\H a=some (.lst vs)/\vs.length=ps.length/\ps.length<=1000/\(∀ (i:Nat) p,ps[i]?=some p->∃ b kb,vs[i]?=some (.ref b)/\H b=some (.tup [.ref kb,p.2])/\H kb=some (.tup (p.1.map kV))) /\
 ∀ q,H q=none->Q (.ref q) (upd H q (.dT (mrg [] ps)))
theorem zsN {H:Hp} {P:List Key->Addr->Prop} (hP:∀ k b,H b=some (.tup (k.map kV))->P k b):∀ {kvs:List (List Key×V)} {xs:List (List Key×Addr×Value)},KT H kvs xs->∀ x∈xs,P x.1 x.2.1:=by
 intro kvs xs q
 induction q with
 | nil=>intro x hx;cases hx
 | @cons p y ps ys hq t ih =>
  intro x hx
  rcases List.mem_cons.mp hx with rfl | hx
  ·exact hP _ _ (by rw [← hq.1];exact hq.2.1)
  ·exact ih x hx
theorem zl2 (hc:X.calm=true) (hu:X.A.units+66 < cLine):zff X (.type "dict") zr9:=by
 intro pins s σ H xs us Q I r h
 obtain ⟨a,vs,ps,rfl,ha,hl,hz,hp,q⟩:=h
 obtain ⟨u,rfl,ru⟩:=zgA r
 cases ru
 obtain ⟨z,its,n,rv,hlen,e⟩:=I.lstM ha
 have hsz:its.toArray.size=ps.length:=by rw [qz,← hlen,hl]
 have hit:∀ (i:Nat) (v:Value),its.toArray[i]?=some v->∃ p b kb w,ps[i]?=some p/\v=.ref b/\H kb=some (.tup (p.1.map kV))/\zcD p.2 w/\s.heap.IsTuple b #[.ref kb,w]:=fun i v hv=>by
  have hi:i < ps.length:=by rw [← hsz];exact (Array.getElem?_eq_some_iff.mp hv).1
  obtain ⟨b,kb,hb1,hb2,hb3⟩:=hp i ps[i] (by simp [hi])
  obtain ⟨u2,hu2,ru2⟩:=rv.get hb1
  have hv':its[i]?=some v:=by simpa using hv
  rw [hu2] at hv'
  cases hv'
  cases ru2
  obtain ⟨u,w,r1,r2,r3⟩:=zmP I hb2
  cases r1
  exact ⟨ps[i],b,kb,w,by simp [hi],rfl,hb3,r2,r3⟩
 have isk:∀ {h':Heap},(∀ b o,b < s.heap.objs.size->s.heap.get? b=some o->h'.get? b=some o)->∀ k b,H b=some (.tup (k.map kV))->(tupleKind (zba X.prog X.w)).is h' k b:=fun hB k b hb=>ST.IsTupleKey.mono (zlh I.hok hb) fun o e=>hB _ _ (qt e) e
 refine DT.call_dict_gen (I.ok.hd hc) e (fun i o=>∃ xs',KT H (mrg [] (ps.take i)) xs'/\∃ es ep,o.ExactDict/\o.data=.dict es ep/\es.toList=xs'.map (entryOfKey (tupleKind (zba X.prog X.w)))/\(xs'.map (·.1)).Nodup) ?_ (fun A' hA' i b kv vv sh o Q' E' hi hv hb ho hJ hB hQ=>?_) (fun i v hv=>?_) fun h' tk o ho hJ hk=>?_
 ·exact ⟨[],.nil,#[],0,⟨rfl,rfl,rfl⟩,rfl,rfl,List.nodup_nil⟩
 ·obtain ⟨p,b',kb,w,h1,h2,h3,h4,h5⟩:=hit i _ hv
  cases h2
  have e2:=tuple_inj hb h5
  have e3:kv=.ref kb/\vv=w:=by simpa using e2
  obtain ⟨rfl,rfl⟩:=e3
  obtain ⟨xs',k1,es,ep,k2,k3,k4,k5⟩:=hJ
  have hle:xs'.length<=1000:=by
   have q1:=Paired.length k1
   have q2:=zg0 (ps.take i) ([]:List (List Key×V))
   rw [qC,qk] at q2
   omega
  refine wpAny_dictSet_heap (knd:=tupleKind (zba X.prog X.w)) (show A'.units < cLine by omega) (isk hB _ _ h3) ⟨o,es,ep,ho,k2,k3,k4,zsN (isk hB) k1,k5⟩ (fun h' hd' hsb=>?_) (by rw [sizeLine_eq];omega)
  obtain ⟨o',es',ep',ho',w2,w3,w4,_,w5⟩:=hd'
  refine hQ h' _ o' (Nat.le_add_right _ _) hsb ho' ⟨_,?_,es',ep',w2,w3,w4,w5⟩
  have htk:ps.take (i+1)=ps.take i++[p]:=by rw [List.take_succ,h1];rfl
  rw [htk,zlb]
  exact k1.put p.1 h3 h4
 ·obtain ⟨p,b,kb,w,h1,h2,h3,h4,h5⟩:=hit i v hv
  exact ⟨b,_,w,h2,h5⟩
 ·obtain ⟨xs',k1,es,ep,k2,k3,k4,k5⟩:=hJ
  rw [hsz,List.take_length] at k1
  refine ⟨.ref s.heap.objs.size,_,I.laid (a:=s.heap.objs.size) (o:=.dT (mrg [] ps)) (fun b u e=>hk b u (qt e) e) (qu _) ⟨?_,?_,xs',k1.keeps fun b ys e=>?_,o,es,ep,ho,k2,k3,k4,k5⟩,rfl,q _ I.fresh⟩
  ·have:=zg0 ps ([]:List (List Key×V))
   rw [qk] at this
   rw [sizeLine_eq]
   omega
  ·exact beq_eq_false_iff_ne.mpr (Ne.symm (qA I.big))
  ·rw [zat (zao e I.fresh)];exact e
end
section
variable {Γ:Cn} {X:Cx}
def zh2:List D->Option (List (Key×D))
 | []=>some []
 | .tup [k,v]::r=>(zo1 k).bind fun kk=>(zh2 r).map ((kk,v)::·)
 | _::_=>none
def zgY:List D->Option (List (List Key×D))
 | []=>some []
 | .tup [.tup t,v]::r=>(zf3 t).bind fun kk=>(zgY r).map ((kk,v)::·)
 | _::_=>none
def zty {κ:Type} [DecidableEq κ] (ps:List (κ×D)):List (κ×D):=ps.foldl (fun acc kv=>zit acc kv.1 kv.2) []
def zjD:List D->Option D
 | [.lst l]=>if l.length<=1000 then (zh2 l).map fun ps=>.dk (zty ps) else none
 | _=>none
def zlr:List D->Option D
 | [.lst l]=>if l.length<=1000 then (zgY l).map fun ps=>.dt (zty ps) else none
 | _=>none
theorem zng {κ:Type} [DecidableEq κ] {K:PySem.W.Frag} {G:Hp}:∀ {us:List (κ×V)} {kvs:List (κ×D)} {acc:List (κ×V)} {acd:List (κ×D)},us.map (·.1)=kvs.map (·.1)->Reps Γ K G (us.map (·.2)) (kvs.map (·.2))->acc.map (·.1)=acd.map (·.1)->Reps Γ K G (acc.map (·.2)) (acd.map (·.2)) ->
  (mrg acc us).map (·.1)=(kvs.foldl (fun acc kv=>zit acc kv.1 kv.2) acd).map (·.1)/\Reps Γ K G ((mrg acc us).map (·.2)) ((kvs.foldl (fun acc kv=>zit acc kv.1 kv.2) acd).map (·.2))
 | [],[],_,_,_,_,e,r=>⟨e,r⟩
 | [],_::_,_,_,e,_,_,_=>by cases e
 | _::_,[],_,_,e,_,_,_=>by cases e
 | (k1,v)::us,(k2,d)::kvs,acc,acd,e,r,e0,r0=>by
  have e1:k1=k2:=(List.cons.inj e).1
  subst e1
  have r:Reps Γ K G (v::us.map (·.2)) (d::kvs.map (·.2)):=r
  cases r with
  | cons r1 r2 =>
   obtain ⟨w1,w2⟩:=zpF (k:=k1) r1 e0 r0
   exact zng (us:=us) (kvs:=kvs) (List.cons.inj e).2 r2 w1 w2
theorem zjt {K:PySem.W.Frag} {G H:Hp} (gh:zbO G H):∀ {vs:List V} {ds:List D} {ps:List (Key×D)},Reps Γ K G vs ds->zh2 ds=some ps ->
  ∃ us:List (Key×V),vs.length=us.length/\us.map (·.1)=ps.map (·.1)/\Reps Γ K G (us.map (·.2)) (ps.map (·.2))/\∀ (i:Nat) p,us[i]?=some p->∃ b,vs[i]?=some (.ref b)/\H b=some (.tup [kV p.1,p.2])
 | _,[],ps,r,h=>by cases r;cases h;exact ⟨[],rfl,rfl,.nil,fun i p e=>by simp at e⟩
 | _,d::ds,ps,.cons h1 h2,h=>by
  unfold zh2 at h
  split at h
  ·rename_i heq;cases heq
  ·rename_i heq
   cases heq
   obtain ⟨kk,hk,h⟩:=oBd h
   obtain ⟨zs,hz,rfl⟩:=oMd h
   obtain ⟨us,q1,q2,q3,q4⟩:=zjt gh h2 hz
   obtain ⟨a,ws,rfl,ha,ra⟩:=h1.tup_inv
   obtain ⟨x,y,rfl,rx,ry⟩:=ra.two
   have ex:=zkq rx hk
   subst ex
   refine ⟨(kk,y)::us,by rw [qh,qh,q1],by simp [q2],.cons ry q3,fun i p e=>?_⟩
   cases i with
   | zero=>cases e;exact ⟨a,rfl,gh _ _ ha⟩
   | succ i=>exact q4 i p e
  ·cases h
theorem zjs {K:PySem.W.Frag} {G H:Hp} (gh:zbO G H):∀ {vs:List V} {ds:List D} {ps:List (List Key×D)},Reps Γ K G vs ds->zgY ds=some ps ->
  ∃ us:List (List Key×V),vs.length=us.length/\us.map (·.1)=ps.map (·.1)/\Reps Γ K G (us.map (·.2)) (ps.map (·.2))/\∀ (i:Nat) p,us[i]?=some p->∃ b kb,vs[i]?=some (.ref b)/\H b=some (.tup [.ref kb,p.2])/\H kb=some (.tup (p.1.map kV))
 | _,[],ps,r,h=>by cases r;cases h;exact ⟨[],rfl,rfl,.nil,fun i p e=>by simp at e⟩
 | _,d::ds,ps,.cons h1 h2,h=>by
  unfold zgY at h
  split at h
  ·rename_i heq;cases heq
  ·rename_i heq
   cases heq
   obtain ⟨kk,hk,h⟩:=oBd h
   obtain ⟨zs,hz,rfl⟩:=oMd h
   obtain ⟨us,q1,q2,q3,q4⟩:=zjs gh h2 hz
   obtain ⟨a,ws,rfl,ha,ra⟩:=h1.tup_inv
   obtain ⟨x,y,rfl,rx,ry⟩:=ra.two
   obtain ⟨kb,ks,rfl,hkb,rk⟩:=rx.tup_inv
   have ex:=zdT rk hk
   subst ex
   refine ⟨(kk,y)::us,by rw [qh,qh,q1],by simp [q2],.cons ry q3,fun i p e=>?_⟩
   cases i with
   | zero=>cases e;exact ⟨a,kb,rfl,gh _ _ ha,gh _ _ hkb⟩
   | succ i=>exact q4 i p e
  ·cases h
theorem zkN (hc:X.calm=true) (hu:X.A.units+66 < cLine):TyD Γ X "dict" zjD:=⟨_,zl3 hc hu,fun {G H vs ds z} gh r h Q k=>by
 unfold zjD at h
 split at h
 ·split at h
  ·rename_i hz
   obtain ⟨ps,hp,rfl⟩:=oMd h
   obtain ⟨v,rfl,r1⟩:=r.one
   obtain ⟨a,ws,rfl,ha,ra⟩:=r1.lst_inv
   obtain ⟨us,q1,q2,q3,q4⟩:=zjt gh ra hp
   refine ⟨a,ws,us,rfl,gh _ _ ha,q1,by rw [← q1,ra.length];exact hz,q4,fun p hp=>?_⟩
   have s:=Step.new (o:=.dK (mrg [] us)) gh hp
   obtain ⟨w1,w2⟩:=zng (acc:=[]) (acd:=[]) q2 q3 rfl .nil
   exact k _ _ _ s (.dk zax w1 (w2.mono s.gg))
  ·cases h
 ·cases h⟩
theorem zod (hc:X.calm=true) (hu:X.A.units+66 < cLine):TyD Γ X "dict" zlr:=⟨_,zl2 hc hu,fun {G H vs ds z} gh r h Q k=>by
 unfold zlr at h
 split at h
 ·split at h
  ·rename_i hz
   obtain ⟨ps,hp,rfl⟩:=oMd h
   obtain ⟨v,rfl,r1⟩:=r.one
   obtain ⟨a,ws,rfl,ha,ra⟩:=r1.lst_inv
   obtain ⟨us,q1,q2,q3,q4⟩:=zjs gh ra hp
   refine ⟨a,ws,us,rfl,gh _ _ ha,q1,by rw [← q1,ra.length];exact hz,q4,fun p hp=>?_⟩
   have s:=Step.new (o:=.dT (mrg [] us)) gh hp
   obtain ⟨w1,w2⟩:=zng (acc:=[]) (acd:=[]) q2 q3 rfl .nil
   exact k _ _ _ s (.dt zax w1 (w2.mono s.gg))
  ·cases h
 ·cases h⟩
end
end L2
end
section
namespace L2
open PySem PySem.Spec PyProof.Rows
section
variable {Γ:Cn} {X:Cx} {e:Expr} {es:List Expr} {fr:FA} {pos p2:Pos} {x:Str}
def zlK (i:Nat):FS:=fun ρ=>match ρ[i]? with
 | some (some (.own ds))=>some (.ow ds,ρ)
 | _=>none
theorem znB (i:Nat) {vp:Pos} (hN:X.N[i]?=some x:=by rfl) (hv:Vis X.env.scope x:=by first | exact Or.inl rfl | exact Or.inr (Or.inl rfl) | exact Or.inr (Or.inr rfl)) (hd:(x==("__debug__":Str))=false:=by decide)
  (hcd:(x==("__classdict__":Str))=false:=by decide):DS Γ X (.Return (some (.Name x vp)) pos) (zlK i):=⟨(zgl (zfr hN hv hd hcd)).imp fun E σ H=>by
 rintro ⟨G₀,H₀,G,ρ,fl,ρ',A,h,k⟩
 unfold zlK at h
 split at h
 ·rename_i ds hi
  cases h
  obtain ⟨a,vs,h1,h2,h3,h4,h5⟩:=A.env.own i ds hi
  exact ⟨.ref a,h1,k σ G H (.refl _) A a vs h2 h3 h4 h5⟩
 ·cases h⟩
def zis (fr:FA):FS:=fun ρ=>(fr ρ).map fun ds=>(.ow ds,ρ)
theorem zkp (h:DO Γ X e fr):DS Γ X (.Return (some e) pos) (zis fr):=⟨(zgl h.1).imp fun E σ H=>by
 rintro ⟨G₀,H₀,G,ρ,fl,ρ',A,h,k⟩
 unfold zis at h
 obtain ⟨ds,hd,h⟩:=oMd h
 cases h
 refine ⟨G₀,H₀,G,ρ,ds,A,hd,fun p vs G' H' s hp r=>?_⟩
 have hp0:H₀ p=none:=A.st.hh.free (s.hh.free hp)
 have hg:G' p=none:=s.gh.free hp
 have s2:=s.trans (Step.newOwn (o:=.lst vs) s.gh hp)
 exact k σ G' _ s.gg (A.step s2) p vs hp0 hg zax r⟩
def spO (Γ:Cn) (K:PySem.W.Frag) (n:Nat) (F:List D->Option (List D)):Sp:=fun vs H Q _=>∃ G ds rs,zbO G H/\Reps Γ K G vs ds/\ds.length=n/\F ds=some rs/\∀ p us G' H',Step G H G' H'->H' p=none->Reps Γ K G' us rs->Q (.ref p) (upd H' p (.lst us))
def zmx (n:Nat) (g:FS):List D->Option (List D):=fun ds=>(g (ds.map (fun d=>some (Slot.sh d))++List.replicate n none)).bind fun r=>match r.1 with
 | .ow ds=>some ds
 | _=>none
theorem Fun.okO {P:Program} {w:World} {K:PySem.W.Frag} {mg:Str->Option Value} {base:Heap} {x qual:Str} {st:Stmt} {f:Addr} {fd:FuncData} {N ps:List Str} {k:Nat} {g:FS} (F:Fun K x qual st f fd) (S:FnScope N ps (zaf st))
  (hbody:∀ (cdv:Value) (A:Around) (outer:List Env) (s:Shared) (H:Hp) (E:XK),Room k (A.deeper (envOfC qual (zaf st) s.heap.objs.size f cdv)) ->
   DSs Γ (ziK CX0 P w K mg base N qual (zaf st) f cdv A outer s H E).nox (zaW st) g):FnOk P w K mg base CX0 (k+1) f fd ps (spO Γ K ps.length (zmx (N.length - ps.length) g)):=by
 refine F.ok S (fun vs H Q E h=>?_) (fun cdv A outer s H vs Q E hr h=>?_)
 ·obtain ⟨G,ds,d,_,r,hl,_⟩:=h
  rw [r.length,hl]
 ·obtain ⟨G,ds,rs,gh,r,hl,hd,k⟩:=h
  refine ⟨_,(hbody cdv A outer s H E hr).1,?_⟩
  unfold zmx at hd
  obtain ⟨⟨fl,ρ'⟩,hg,hd⟩:=oBd hd
  refine ⟨G,H,G,_,fl,ρ',zd4 gh r (by rw [r.length,hl]),hg,fun σ' G' H' sm A'=>?_⟩
  cases fl with
  | rt d'=>cases hd
  | nx=>cases hd
  | bk=>cases hd
  | ct=>cases hd
  | nw d'=>cases hd
  | od d'=>cases hd
  | ow d' =>
   cases hd
   intro p us hp0 hg hp rr
   have st:Step G H G' (fun b=>if b=p then none else H' b):=by
    refine ⟨fun b o e=>?_,A'.st.gg,fun b o e=>?_,A'.st.out⟩
    ·show (if b=p then none else H' b)=some o
     rw [qX (zao e hp0)];exact A'.st.hh b o e
    ·show (if b=p then none else H' b)=some o
     rw [qX (zao e hg)];exact A'.st.gh b o e
   have:=k p us G' _ st (qW rfl) rr
   have hf:upd (fun b=>if b=p then none else H' b) p (.lst us)=H':=by
    funext b
    by_cases hb:b=p
    ·subst hb;rw [zax,hp]
    ·rw [zat hb];exact qX hb
   rwa [hf] at this
end
structure CalO (Γ:Cn) (P:Program) (w:World) (K:PySem.W.Frag) (mg:Str->Option Value) (base:Heap) (x:Str) (n k:Nat) (F:List D->Option (List D)):Prop where
 ex:∃ f fd ps,FnOk P w K mg base CX0 k f fd ps (spO Γ K n F)/\mg x=some (.ref f)/\PySem.W.keepIn K (.ref f)=true/\zdJ K fd ps []
def cFO (F:List D->Option (List D)) (fr:FA):FA:=fun ρ=>(fr ρ).bind F
section
variable {Γ:Cn} {X:Cx} {e:Expr} {es:List Expr} {fr:FA} {pos p:Pos}
theorem zlq {x:Str} {n k:Nat} {F:List D->Option (List D)} (C:CalO Γ X.prog X.w X.K X.mg X.base x n k F) {j:Nat} (hr:Room j X.A) (hk:k<=j) (hg:Gl X x) (ha:DA Γ X (e::es) fr) (hn:∀ ρ ds,fr ρ=some ds->ds.length=n)
  (hdb:(x==("__debug__":Str))=false:=by decide) (he:starEach (e::es) X.env=(false,eval e X.env)::starEach es X.env:=by rfl) (hpl:(backTo pos (starEach es X.env)).any (·.1)=false:=by rfl) :
  DO Γ X (.Call (.Name x p) (e::es) [] pos) (cFO F fr):=⟨by
 obtain ⟨f,fd,ps,h1,h2,h3,h4⟩:=C.ex
 refine (zkb h1 (hr.mono hk) hg h2 h3 h4 .nil zkd ha.1 hdb he hpl).imp fun σ H Q=>?_
 rintro ⟨G₀,H₀,G,ρ,d,A,h,k⟩
 unfold cFO at h
 obtain ⟨ds,hd,h⟩:=oBd h
 refine ⟨G₀,H₀,G,ρ,ds,A,hd,fun vs G1 H1 s1 r1=>?_⟩
 show spO Γ X.K n F (vs++[]) H1 Q E0
 rw [List.append_nil]
 exact ⟨G1,ds,d,s1.gh,r1,hn ρ ds hd,h,fun p us G' H' s hp r=>k p us G' H' (s1.trans s) hp r⟩⟩
theorem Dfn.calO {P:Program} {w:World} {K:PySem.W.Frag} {mg:Str->Option Value} {base:Heap} {x:Str} {st:Stmt} {N ps:List Str} {k:Nat} {g:FS} (F:Dfn K mg x st) (S:FnScope N ps (zaf st))
  (hb:∀ (kV doc pm:Value) (an:Option Addr) (cdv ct:Value) (us:List Value),us.length=ps.length->bindArgs (PySem.W.fnOf x x (zbU st) (zaW st) (zaf st) .none kV doc pm an cdv ct) ⟨us,[]⟩=pure (ps.zip us))
  (hbody:∀ (f:Addr) (cdv:Value) (A:Around) (outer:List Env) (s:Shared) (H:Hp) (E:XK),Room k (A.deeper (envOfC x (zaf st) s.heap.objs.size f cdv)) ->
   DSs Γ (ziK CX0 P w K mg base N x (zaf st) f cdv A outer s H E).nox (zaW st) g):CalO Γ P w K mg base x ps.length (k+1) (zmx (N.length - ps.length) g):=by
 obtain ⟨f,fd,h1,h2⟩:=F.ex
 exact ⟨f,fd,ps,h1.okO S (hbody f),h2,h1.kp,h1.binds hb⟩
theorem Dfn.none {P:Program} {w:World} {K:PySem.W.Frag} {mg:Str->Option Value} {base:Heap} {x:Str} {st:Stmt} {ps:List Str} {k:Nat} (F:Dfn K mg x st)
  (hb:∀ (kV doc pm:Value) (an:Option Addr) (cdv ct:Value) (us:List Value),us.length=ps.length->bindArgs (PySem.W.fnOf x x (zbU st) (zaW st) (zaf st) .none kV doc pm an cdv ct) ⟨us,[]⟩=pure (ps.zip us))
  : Cal Γ P w K mg base x ps.length k (fun _=>Option.none):=by
 obtain ⟨f,fd,h1,h2⟩:=F.ex
 refine ⟨f,fd,ps,⟨fun vs H Q E h=>?_,fun A outer s H args us vs Q E hr I b v h=>?_⟩,h2,h1.kp,h1.binds hb⟩
 ·obtain ⟨_,_,_,_,_,_,z,_⟩:=h
  cases z
 ·obtain ⟨_,_,_,_,_,_,z,_⟩:=h
  cases z
end
end L2
end
section
namespace L2
open PySem PySem.Spec PyProof.Rows
def orG (g g':D->D->Option D) (x y:D):Option D:=match g x y with
 | some z=>some z
 | none=>g' x y
section
variable {Γ:Cn} {X:Cx} {a b c e:Expr} {fa fb:FE} {op:CmpOp} {g g':D->D->Option D}
theorem zsx {x y z:D} (h:orG g g' x y=some z):g x y=some z\/g' x y=some z:=by
 unfold orG at h
 split at h
 ·rename_i q;cases h;exact .inl q
 ·exact .inr h
theorem CmpD.or (h:CmpD Γ X op g) (h':CmpD Γ X op g'):CmpD Γ X op (orG g g'):=by
 obtain ⟨r,o,d⟩:=h.ex
 obtain ⟨r',o',d'⟩:=h'.ex
 refine ⟨_,o.or o',fun {G H v u x y z} gh r1 r2 q Q k=>?_⟩
 rcases zsx q with q | q
 ·exact .inl (d gh r1 r2 q Q k)
 ·exact .inr (d' gh r1 r2 q Q k)
def neA:=orG neD zqR
theorem zib (hu:X.A.units+64 < cLine):CmpD Γ X .NotEq neA:=zuh.or (zti hu)
theorem DfnM.mk' {K:PySem.W.Frag} {C f:Addr} {c m qual:Str} {st:Stmt} {oc:Value} {od an:Option Addr} {osl:Array (Option Value)} {kV doc pm cdv ct:Value} (a:PySem.W.findIn K (.ref C) m=some (some (.ref f))) (i:PySem.W.isFn K (.ref f)=true)
  (l:K.lookup f=some ⟨oc,od,.func (PySem.W.fnOf m qual (zbU st) (zaW st) (zaf st) .none kV doc pm an cdv ct),osl⟩) (cd:PySem.W.codeIn K cdv qual=true) (k:PySem.W.keepIn K (.ref f)=true):DfnM K C c m qual st:=⟨f,_,znu l cd k,a,i⟩
end
section
variable {ρ:zaY} {f1 f2 f3 f4 f5 f6 f7:FE}
theorem ln1:∀ ρ ds,zab f1 zaj ρ=some ds->ds.length=1:=zdd fun _ _ h=>zpg h
theorem ln2:∀ ρ ds,zab f1 (zab f2 zaj) ρ=some ds->ds.length=2:=zdd ln1
theorem ln3:∀ ρ ds,zab f1 (zab f2 (zab f3 zaj)) ρ=some ds->ds.length=3:=zdd ln2
theorem ln4:∀ ρ ds,zab f1 (zab f2 (zab f3 (zab f4 zaj))) ρ=some ds->ds.length=4:=zdd ln3
theorem ln5:∀ ρ ds,zab f1 (zab f2 (zab f3 (zab f4 (zab f5 zaj)))) ρ=some ds->ds.length=5:=zdd ln4
theorem ln6:∀ ρ ds,zab f1 (zab f2 (zab f3 (zab f4 (zab f5 (zab f6 zaj))))) ρ=some ds->ds.length=6:=zdd ln5
theorem ln7:∀ ρ ds,zab f1 (zab f2 (zab f3 (zab f4 (zab f5 (zab f6 (zab f7 zaj)))))) ρ=some ds->ds.length=7:=zdd ln6
end
end L2
end
section
namespace L2
open PySem PySem.Spec PyProof.Rows
section
variable {Γ:Cn} {K:PySem.W.Frag} {G₀ H₀ G H:Hp} {ρ:zaY} {σ:St}
end
section
variable {Γ:Cn} {X:Cx} {a b c e value:Expr} {es:List Expr} {f fk fv:FE} {fr:FA} {pos pos' p dp:Pos} {g:FS} {x:Str} {sts:List Stmt}
end
end L2
end
section
namespace L2
open PySem PySem.Spec PyProof.Rows
def TDn (Γ:Cn) (K:PySem.W.Frag) (f:FE):TE:=fun σ H Q=>∃ G₀ H₀ G ρ d,At Γ K G₀ H₀ G H ρ σ/\f ρ=some d/\∀ v G' H',Step G H G' H'->Rep Γ K G' v d->NewL H G' v d->Q v H'
structure DN (Γ:Cn) (X:Cx) (e:Expr) (f:FE):Prop where
 out:PE X e (TDn Γ X.K f)
section
variable {Γ:Cn} {X:Cx} {a b c e tg iter:Expr} {es:List Expr} {fa fb fc f fe:FE} {fr fi:FA} {pos p p2 pos':Pos} {ft:FT} {g:FG} {x:Str}
variable {scope:Scope} {N':List Str} {fv:List (Option Nat)} {ifs:List Expr} {elt:Expr}
structure DBn (Γ:Cn) (X:Cx) (N':List Str) (scope:Scope) (tg:Expr) (ifs:List Expr) (elt:Expr) (g:FG) (ft:FT) (fe:FE):Prop where
 out:∀ (cl:List (Str×Addr)) (C:Addr) (s₀:Shared) (H₀:Hp) (fp:List Addr),DG Γ (zdn X N' scope cl C s₀ H₀ fp) tg g/\DTs Γ (zdn X N' scope cl C s₀ H₀ fp) ifs ft/\DN Γ (zdn X N' scope cl C s₀ H₀ fp) elt fe
end
def spN (Γ:Cn) (K:PySem.W.Frag) (n:Nat) (F:List D->Option D):Sp:=fun vs H Q _=>∃ G ds d,zbO G H/\Reps Γ K G vs ds/\ds.length=n/\F ds=some d/\∀ v G' H',Step G H G' H'->Rep Γ K G' v d->NewL H G' v d->Q v H'
section
variable {Γ:Cn} {P:Program} {w:World} {K:PySem.W.Frag} {mg:Str->Option Value} {base:Heap}
structure CalN (Γ:Cn) (P:Program) (w:World) (K:PySem.W.Frag) (mg:Str->Option Value) (base:Heap) (x:Str) (n k:Nat) (F:List D->Option D):Prop where
 ex:∃ f fd ps,FnOk P w K mg base CX0 k f fd ps (spN Γ K n F)/\mg x=some (.ref f)/\PySem.W.keepIn K (.ref f)=true/\zdJ K fd ps []
structure CalMN (Γ:Cn) (P:Program) (w:World) (K:PySem.W.Frag) (mg:Str->Option Value) (base:Heap) (c m:Str) (n k:Nat) (F:List D->Option D):Prop where
 ex:∃ C f fd ps,Γ.cls c=some C/\Cls K C/\Meth K C m f/\FnOk P w K mg base CX0 k f fd ps (spN Γ K n F)/\zdJ K fd ps []
structure CalMO (Γ:Cn) (P:Program) (w:World) (K:PySem.W.Frag) (mg:Str->Option Value) (base:Heap) (c m:Str) (n k:Nat) (F:List D->Option (List D)):Prop where
 ex:∃ C f fd ps,Γ.cls c=some C/\Cls K C/\Meth K C m f/\FnOk P w K mg base CX0 k f fd ps (spO Γ K n F)/\zdJ K fd ps []
theorem DfnM.calO {c m qual:Str} {C:Addr} {st:Stmt} {N ps:List Str} {k:Nat} {g:FS} (O:ClsOk Γ K mg c C) (F:DfnM K C c m qual st) (S:FnScope N ps (zaf st))
  (hb:∀ (kV doc pm:Value) (an:Option Addr) (cdv ct:Value) (us:List Value),us.length=ps.length->bindArgs (PySem.W.fnOf m qual (zbU st) (zaW st) (zaf st) .none kV doc pm an cdv ct) ⟨us,[]⟩=pure (ps.zip us))
  (hbody:∀ (f:Addr) (cdv:Value) (A:Around) (outer:List Env) (s:Shared) (H:Hp) (E:XK),Room k (A.deeper (envOfC qual (zaf st) s.heap.objs.size f cdv)) ->
   DSs Γ (ziK CX0 P w K mg base N qual (zaf st) f cdv A outer s H E).nox (zaW st) g):CalMO Γ P w K mg base c m ps.length (k+1) (zmx (N.length - ps.length) g):=by
 obtain ⟨f,fd,h1,h2,h3⟩:=F.ex
 exact ⟨C,f,fd,ps,O.cn,O.cl,⟨h2,h3,h1.kp⟩,h1.okO S (hbody f),h1.binds hb⟩
end
section
variable {Γ:Cn} {X:Cx} {e o:Expr} {es:List Expr} {fo f:FE} {fr:FA} {pos p apos pos':Pos} {c m x:Str}
def zlR (c m:Str) (F:List D->Option (List D)) (fo:FE) (fr:FA):FA:=fun ρ=>(fo ρ).bind fun d=>match d with
 | .ins c' fs=>if c'=c/\fs.lookup m=none then (fr ρ).bind fun ds=>F (d::ds) else none
 | _=>none
end
end L2
end
section
namespace L2
open PySem PySem.Spec PyProof.Rows
def Rfz (X0:Hp) (h:Heap) (H H':Hp):Prop:=∀ a,H' a=H a\/(∃ vs o,H a=some (.lst vs)/\H' a=some (.frz o (.lst vs))/\h.get? a=some o)\/(∃ vs o,H a=some (.frz o (.lst vs))/\H' a=some (.lst vs)/\∀ o u,X0 a≠some (.frz o u))
section
variable {X:Cx} {pins:List (Addr×Obj)} {σ:St} {H H':Hp} {s:Shared}
theorem Rfz.non {X0:Hp} {h:Heap} (r:Rfz X0 h H H') {b:Addr} (e:H b=none):H' b=none:=by
 rcases r b with z | ⟨_,_,z,_⟩ | ⟨_,_,z,_⟩
 ·rw [z];exact e
 ·rw [e] at z;cases z
 ·rw [e] at z;cases z
theorem Rfz.keep {X0:Hp} {h:Heap} (r:Rfz X0 h H H') {b:Addr} {o:HO} (e:H b=some o) (n1:∀ vs,o≠.lst vs) (n2:∀ ob u,o≠.frz ob u):H' b=some o:=by
 rcases r b with z | ⟨_,_,z,_⟩ | ⟨_,_,z,_⟩
 ·rw [z];exact e
 ·rw [e] at z;cases z;exact absurd rfl (n1 _)
 ·rw [e] at z;cases z;exact absurd rfl (n2 _ _)
theorem Inv.refrz (I:Inv X pins σ H s) (r:Rfz X.H₀ s.heap H H'):Inv X pins σ H' s:=by
 have ks:∀ {a:Addr} {o:HO},zcx X.prog X.w H s.heap a o->zcx X.prog X.w H' s.heap a o:=fun x =>
  x.stay (fun _ _ _ q=>q) (fun b q=>r.keep q (fun _ z=>by cases z) fun _ _ z=>by cases z) fun b xs q=>r.keep q (fun _ z=>by cases z) fun _ _ z=>by cases z
 refine ⟨I.ok,I.os,I.bare,⟨I.base.keep,I.base.slot,fun b o e n hx=>r.non (I.base.free b o e n hx),I.base.there,fun b xs e=>r.keep (I.base.tups b xs e) (fun _ z=>by cases z) (fun _ _ z=>by cases z),fun b o u e=>?_,fun b ps e=>?_⟩,I.loc,I.cell,r.non I.free,fun x c e=>r.non (I.freeC x c e),fun p hp=>?_,fun a o e=>?_,I.len⟩
 ·have q:=I.base.frzs b o u e
  rcases r b with z | ⟨_,_,z,_⟩ | ⟨_,_,_,_,z⟩
  ·rw [z];exact q
  ·rw [q] at z;cases z
  ·exact absurd e (z _ _)
 ·obtain ⟨m,q⟩:=I.base.tbls b ps e
  exact ⟨m,r.keep q (fun _ z=>by cases z) fun _ _ z=>by cases z⟩
 ·obtain ⟨q1,q2,q3⟩:=I.pin p hp
  exact ⟨q1,r.non q2,q3⟩
 ·rcases r a with z | ⟨vs,ob,z1,z2,z3⟩ | ⟨vs,ob,z1,z2,_⟩
  ·exact ks (I.hok a o (z▸e))
  ·rw [z2] at e;cases e
   exact ⟨z3,ks (I.hok a _ z1)⟩
  ·rw [z2] at e;cases e
   exact ks (I.hok a _ z1).2
end
mutual
inductive Fz:D->D->Prop where
 | non:Fz .non .non
 | bl (b:Bool):Fz (.bl b) (.bl b)
 | int (i:Int):Fz (.int i) (.int i)
 | str (x:Str):Fz (.str x) (.str x)
 | tup {l m:List D}:Fzs l m->Fz (.tup l) (.tup m)
 | lst {l m:List D}:Fzs l m->Fz (.lst l) (.flst m)
 | dk {l m:List (Key×D)}:l.map (·.1)=m.map (·.1)->Fzs (l.map (·.2)) (m.map (·.2))->Fz (.dk l) (.dk m)
 | dt {l m:List (List Key×D)}:l.map (·.1)=m.map (·.1)->Fzs (l.map (·.2)) (m.map (·.2))->Fz (.dt l) (.dt m)
 | ins {c:Str} {l m:List (Str×D)}:l.map (·.1)=m.map (·.1)->Fzs (l.map (·.2)) (m.map (·.2))->Fz (.ins c l) (.ins c m)
inductive Fzs:List D->List D->Prop where
 | nil:Fzs [] []
 | cons {d e:D} {l m:List D}:Fz d e->Fzs l m->Fzs (d::l) (e::m)
end
theorem Fzs.map {α:Type} {f g:α->D} (h:∀ x,Fz (f x) (g x)):∀ l:List α,Fzs (l.map f) (l.map g)
 | []=>.nil
 | x::l=>.cons (h x) (Fzs.map h l)
section
variable {Γ:Cn} {K:PySem.W.Frag} {G G' H H':Hp}
def nLF (o:HO):Prop:=(∀ vs,o≠.lst vs)/\∀ ob u,o≠.frz ob u
theorem zsH {xs:List V}:nLF (.tup xs):=⟨fun _ z=>(by cases z),fun _ _ z=>(by cases z)⟩
theorem zsI {xs:List (Key×V)}:nLF (.dK xs):=⟨fun _ z=>(by cases z),fun _ _ z=>(by cases z)⟩
theorem zsK {xs:List (List Key×V)}:nLF (.dT xs):=⟨fun _ z=>(by cases z),fun _ _ z=>(by cases z)⟩
theorem zsJ {C dx:Addr} {xs:List (Str×V)}:nLF (.ins C dx xs):=⟨fun _ z=>(by cases z),fun _ _ z=>(by cases z)⟩
mutual
theorem Rep.fz (hG:∀ a o,G a=some o->nLF o->G' a=some o) (hl:∀ a vs,G a=some (.lst vs)->∃ o,G' a=some (.frz o (.lst vs))):∀ {v:V} {d:D},Rep Γ K G v d->∀ e,Fz d e->Rep Γ K G' v e
 | _,_,.non,_,f=>by cases f;exact .non
 | _,_,.bl b,_,f=>by cases f;exact .bl b
 | _,_,.int i,_,f=>by cases f;exact .int i
 | _,_,.str x,_,f=>by cases f;exact .str x
 | _,_,.ty x,_,f=>by cases f
 | _,_,.scr x,_,f=>by cases f
 | _,_,.flst x _,_,f=>by cases f
 | _,_,.tup h r,_,f=>by cases f with | tup f=>exact .tup (hG _ _ h zsH) (Reps.fz hG hl r _ f)
 | _,_,.lst h r,_,f=>by
  cases f with
  | lst f =>
   obtain ⟨o,h'⟩:=hl _ _ h
   exact .flst h' (Reps.fz hG hl r _ f)
 | _,_,.dk h e r,_,f=>by cases f with | dk e' f=>exact .dk (hG _ _ h zsI) (e.trans e') (Reps.fz hG hl r _ f)
 | _,_,.dt h e r,_,f=>by cases f with | dt e' f=>exact .dt (hG _ _ h zsK) (e.trans e') (Reps.fz hG hl r _ f)
 | _,_,.ins h c e r,_,f=>by cases f with | ins e' f=>exact .ins (hG _ _ h zsJ) c (e.trans e') (Reps.fz hG hl r _ f)
theorem Reps.fz (hG:∀ a o,G a=some o->nLF o->G' a=some o) (hl:∀ a vs,G a=some (.lst vs)->∃ o,G' a=some (.frz o (.lst vs))):∀ {vs:List V} {ds:List D},Reps Γ K G vs ds->∀ es,Fzs ds es->Reps Γ K G' vs es
 | _,_,.nil,_,f=>by cases f;exact .nil
 | _,_,.cons h r,_,f=>by cases f with | cons f g=>exact .cons (Rep.fz hG hl h _ f) (Reps.fz hG hl r _ g)
end
mutual
theorem Rep.fzd (hG:∀ a o,G a=some o->(∀ vs,o≠.lst vs)->G' a=some o):∀ {v:V} {e:D},Rep Γ K G v e->∀ d,Fz d e->Rep Γ K G' v e
 | _,_,.non,_,f=>.non
 | _,_,.bl b,_,f=>.bl b
 | _,_,.int i,_,f=>.int i
 | _,_,.str x,_,f=>.str x
 | _,_,.ty x,_,f=>.ty x
 | _,_,.scr x,_,f=>by cases f
 | _,_,.lst x _,_,f=>by cases f
 | _,_,.tup h r,_,f=>by cases f with | tup f=>exact .tup (hG _ _ h zsH.1) (Reps.fzd hG r _ f)
 | _,_,.flst h r,_,f=>by cases f with | lst f=>exact .flst (hG _ _ h fun _ z=>by cases z) (Reps.fzd hG r _ f)
 | _,_,.dk h e r,_,f=>by cases f with | dk e' f=>exact .dk (hG _ _ h zsI.1) e (Reps.fzd hG r _ f)
 | _,_,.dt h e r,_,f=>by cases f with | dt e' f=>exact .dt (hG _ _ h zsK.1) e (Reps.fzd hG r _ f)
 | _,_,.ins h c e r,_,f=>by cases f with | ins e' f=>exact .ins (hG _ _ h zsJ.1) c e (Reps.fzd hG r _ f)
theorem Reps.fzd (hG:∀ a o,G a=some o->(∀ vs,o≠.lst vs)->G' a=some o):∀ {vs:List V} {es:List D},Reps Γ K G vs es->∀ ds,Fzs ds es->Reps Γ K G' vs es
 | _,_,.nil,_,f=>.nil
 | _,_,.cons h r,_,f=>by cases f with | cons f g=>exact .cons (Rep.fzd hG h _ f) (Reps.fzd hG r _ g)
end
abbrev H00:Hp:=fun _=>none
theorem At.anew {G₀ H₀:Hp} {ρ ρ':zaY} {σ:St} (A:At Γ K G₀ H₀ G H ρ σ) (gh:zbO G' H') (hl:ρ'.length=ρ.length)
  (h:∀ (i:Nat) t,ρ'[i]?=some (some t)->∃ d0 d,t=.sh d/\ρ[i]?=some (some (.sh d0))/\∀ v,Rep Γ K G v d0->Rep Γ K G' v d):At Γ K H00 H00 G' H' ρ' σ:=by
 refine ⟨⟨fun _ _ e=>(by cases e),fun _ _ e=>(by cases e),gh,fun _ _ e=>(by cases e)⟩,.ofSh (hl.trans A.env.len) (fun i t e=>?_) fun i d e=>?_⟩
 ·obtain ⟨d0,d,rfl,_,_⟩:=h i t e
  exact ⟨d,rfl⟩
 ·obtain ⟨d0,d',e1,e2,r⟩:=h i _ e
  cases e1
  obtain ⟨v,h1,h2⟩:=A.env.sh i d0 e2
  exact ⟨v,h1,r v h2⟩
end
end L2
end
section
namespace L2
open PySem PySem.Spec PyProof.Rows
structure SpI (S F:Addr->Prop) (H0 H:Hp) (n:Nat):Prop where
 kp:∀ a o,H0 a=some o->(∀ vs,o≠.lst vs)->H a=some o
 fx:∀ a o,F a->H0 a=some o->H a=some o
 ls:∀ a,S a->∃ ws,H a=some (.lst ws)/\ws.length<=n
def Sg (r:Addr) (σ:St):Prop:=σ.length=7/\σ[0]?=some (some (.ref r))
section
variable {S F:Addr->Prop} {H0 H:Hp} {n m:Nat} {r:Addr} {σ:St} {K:PySem.W.Frag}
theorem Sg.set (h:Sg r σ) (i:Nat) (hi:i≠0) (v:V):Sg r (σ.set i (some v)):=⟨by rw [List.length_set];exact h.1,by rw [qw hi];exact h.2⟩
theorem Sg.at (h:Sg r σ) (i:Nat) (hi:i < 7) (v:V):(σ.set i (some v))[i]?=some (some v):=by rw [List.getElem?_set_self (by rw [h.1];exact hi)]
theorem SpI.le (h:SpI S F H0 H n) (hm:n<=m):SpI S F H0 H m:=⟨h.kp,h.fx,fun a ha=>by
 obtain ⟨ws,h1,h2⟩:=h.ls a ha
 exact ⟨ws,h1,qK h2 hm⟩⟩
theorem SpI.new (h:SpI S F H0 H n) {p:Addr} {o:HO} (hp:H p=none):SpI S F H0 (upd H p o) n:=by
 have ne:∀ {a:Addr} {u:HO},H a=some u->upd H p o a=some u:=fun e=>by rw [zat (zao e hp)];exact e
 exact ⟨fun a u e z=>ne (h.kp a u e z),fun a u f e=>ne (h.fx a u f e),fun a ha=>by
  obtain ⟨ws,h1,h2⟩:=h.ls a ha
  exact ⟨ws,ne h1,h2⟩⟩
theorem SpI.put (h:SpI S F H0 H n) {k:Addr} {ws:List V} (hk:S k) (hf:¬ F k) (hl:∃ us,H0 k=some (.lst us)) (hz:ws.length<=n):SpI S F H0 (upd H k (.lst ws)) n:=by
 refine ⟨fun a u e z=>?_,fun a u f e=>?_,fun a ha=>?_⟩
 ·have:a≠k:=by
   rintro rfl
   obtain ⟨us,hu⟩:=hl
   rw [hu] at e;cases e;exact z _ rfl
  rw [zat this];exact h.kp a u e z
 ·have:a≠k:=by rintro rfl;exact hf f
  rw [zat this];exact h.fx a u f e
 ·by_cases hb:a=k
  ·subst hb;exact ⟨ws,zax,hz⟩
  ·rw [zat hb];exact h.ls a ha
def Sk (S F:Addr->Prop) (H0:Hp) (k:Addr):Prop:=S k/\¬ F k/\∃ us,H0 k=some (.lst us)
theorem SpI.app (h:SpI S F H0 H n) {k:Addr} {y:V} (hk:Sk S F H0 k) (hz:n < sizeLine) {Q:VK} (q:∀ H',SpI S F H0 H' (n+1)->Q .non H'):ze1 (.ref k) [y] H Q:=by
 obtain ⟨ws,h1,h2⟩:=h.ls k hk.1
 refine ⟨k,ws,y,rfl,rfl,h1,by omega,q _ ((h.le (Nat.le_succ n)).put hk.1 hk.2.1 hk.2.2 ?_)⟩
 rw [qi,qT];omega
theorem SpI.ty (h:SpI S F H0 H n) {k:Addr} (hk:S k):tyV K "list" (.ref k) H:=by
 obtain ⟨ws,h1,h2⟩:=h.ls k hk
 exact .inl ⟨rfl,ws,.inl (.inl h1)⟩
theorem zij {g:TG} {tb:TS} {b:Addr} {vs xs:List V} {j:Int} {Row:V->Prop} (c:Nat) (hr:F r) (hr2:H0 r=some (.lst xs)) (hj:atI xs j=some (.ref b)) (hb:F b) (hb2:H0 b=some (.lst vs)) (hv:∀ v∈vs,Row v)
  (body:∀ v σ H n (E:Ends),Row v->Sg r σ->SpI S F H0 H n->n+c<=sizeLine->(∀ σ' H',Sg r σ'->SpI S F H0 H' (n+c)->E.nx σ' H')->g v σ H fun σ2 H2=>tb E σ2 H2)
  {E:Ends} (hs:Sg r σ) (hI:SpI S F H0 H n) (hz:n+c*vs.length<=sizeLine) (q:∀ σ' H',Sg r σ'->SpI S F H0 H' (n+c*vs.length)->E.nx σ' H') :
  zpl (zkm K (tOp (rIx K) (zfJ 0) (tC (.int j)))) g tb E σ H:=by
 refine ⟨.ref r,hs.2,.inl ⟨r,xs,j,.ref b,rfl,rfl,.inl (.inl (hI.fx r _ hr hr2)),hj,b,rfl,⟨vs,.inl (.inl (hI.fx b _ hb hb2))⟩,?_⟩⟩
 refine ⟨fun i m σ' H'=>m=vs.length - i/\i<=vs.length/\Sg r σ'/\SpI S F H0 H' (n+c*i),⟨vs.length,rfl,Nat.zero_le _,hs,hI⟩,?_⟩
 rintro i m σ' H' ⟨rfl,hi,hs',hI'⟩
 have hb':=hI'.fx b _ hb hb2
 by_cases hlt:i < vs.length
 ·right
  refine ⟨⟨vs,vs[i],.inl (.inl hb'),by simp [hlt]⟩,fun σ2 H2=>Sg r σ2/\SpI S F H0 H2 (n+c*(i+1)),fun σ2 H2 h2=>⟨vs.length - (i+1),by omega,rfl,hlt,h2⟩,?_⟩
  rintro x H2 ⟨rfl,hx⟩
  have hx':vs[i]?=some x:=hx vs (.inl (.inl hb'))
  have hle:c*i+c<=c*vs.length:=by rw [← Nat.mul_succ];exact Nat.mul_le_mul_left c hlt
  refine body x σ' H2 (n+c*i) _ (hv x (qN hx')) hs' hI' (by omega) fun σ3 H3 h3 h4=>⟨h3,?_⟩
  rw [Nat.mul_succ,← Nat.add_assoc];exact h4
 ·left
  have e:i=vs.length:=by omega
  subst e
  exact ⟨⟨vs,.inl (.inl hb'),qu _⟩,q σ' H' hs' hI'⟩
end
structure SpPre (H:Hp) (r:Addr) (S F:Addr->Prop) (b0 b1 b2 b3 b4 b5:Addr) (x:V) (vs0 vs1 vs2 vs5:List V) (n:Nat):Prop where
 fr:F r/\F b0/\F b1/\F b2/\F b5
 hr:H r=some (.lst [.ref b0,.ref b1,.ref b2,.ref b3,.ref b4,.ref b5,x])
 h0:H b0=some (.lst vs0)/\∀ v∈vs0,∃ t y k,v=.ref t/\H t=some (.tup [y,.ref k])/\Sk S F H k
 h1:H b1=some (.lst vs1)/\∀ v∈vs1,∃ t y z k,v=.ref t/\H t=some (.tup [y,z,.ref k])/\Sk S F H k
 h2:H b2=some (.lst vs2)/\∀ v∈vs2,∃ t y z u w k,v=.ref t/\H t=some (.tup [y,z,u,w,.ref k])/\Sk S F H k
 h5:H b5=some (.lst vs5)/\∀ v∈vs5,∃ t y z u k k',v=.ref t/\H t=some (.tup [y,z,u,.ref k,.ref k'])/\Sk S F H k/\Sk S F H k'
 hs:∀ a,S a->∃ ws,H a=some (.lst ws)/\ws.length<=n
 sb:∀ b∈[b0,b1,b2,b3,b4,b5],S b
 sz:n+vs0.length+vs1.length+vs2.length+2*vs5.length+6<=sizeLine
def ztw:Sp:=fun vs H Q _=>∃ r S F b0 b1 b2 b3 b4 b5 x vs0 vs1 vs2 vs5 n,vs=[.ref r]/\SpPre H r S F b0 b1 b2 b3 b4 b5 x vs0 vs1 vs2 vs5 n/\∀ H',(∀ a o,H a=some o->(∀ vs,o≠.lst vs)->H' a=some o)->Q .non H'
section
variable {K:PySem.W.Frag}
abbrev tB0 (K:PySem.W.Frag):TS:=zpl (zkm K (tOp (rIx K) (zfJ 0) (tC (.int 0)))) (zt4 K 2 (zl0 (zdi 1) (zl0 (zdi 2) zt5))) (zih (tBM K "list" ze1 (zfJ 2) (zbm (ztu (zbm (tC (.int 0)) (zbm (tC (.int 1)) zgh))) zgh)))
abbrev tB1 (K:PySem.W.Frag):TS:=zpl (zkm K (tOp (rIx K) (zfJ 0) (tC (.int 1)))) (zt4 K 3 (zl0 (zdi 1) (zl0 (zdi 3) (zl0 (zdi 4) zt5)))) (zih (tBM K "list" ze1 (zfJ 4) (zbm (ztu (zbm (tC (.str "zz")) (zbm (tC (.int 1)) zgh))) zgh)))
abbrev tB2 (K:PySem.W.Frag):TS:=zpl (zkm K (tOp (rIx K) (zfJ 0) (tC (.int 2)))) (zdi 5) (zih (tBM K "list" ze1 (tOp (rIx K) (zfJ 5) (tC (.int 4))) (zbm (tC (.str "zz")) zgh)))
abbrev tB5 (K:PySem.W.Frag):TS:=zpl (zkm K (tOp (rIx K) (zfJ 0) (tC (.int 5)))) (zdi 5) (zhB (zih (tBM K "list" ze1 (tOp (rIx K) (zfJ 5) (tC (.int 3))) (zbm (ztu (zbm (tC (.str "zz")) (zbm (tC (.int 1)) zgh))) zgh))) (zih (zuq K "list" zpv (tOp (rIx K) (zfJ 5) (tC (.int 4))))))
abbrev tB6 (K:PySem.W.Frag):TS:=zpl (zkm K (tSl (zus K) (zfJ 0) zmk (zrS (tC (.int 6))))) (zdi 6) (zih (tBM K "list" ze1 (zfJ 6) (zbm (tC .non) zgh)))
theorem zrX {vs:List V} {H:Hp} {Q:VK} {E:XK} (h:ztw vs H Q E) {N:List Str} (hN:N.length=7):zhB (tB0 K) (zhB (tB1 K) (zhB (tB2 K) (zhB (tB5 K) (tB6 K)))) { nx:=fun _ H'=>Q .non H',rt:=Q } (zc5 N vs) H:=by
 obtain ⟨r,S,F,b0,b1,b2,b3,b4,b5,x,vs0,vs1,vs2,vs5,n,rfl,P,q⟩:=h
 have hsz:=P.sz
 have hs:Sg r (zc5 N [.ref r]):=⟨by simp [zc5,hN],by simp [zc5]⟩
 have hI:SpI S F H H n:=⟨fun _ _ e _=>e,fun _ _ _ e=>e,P.hs⟩
 refine zij (j:=0) (c:=1) P.fr.1 P.hr rfl P.fr.2.1 P.h0.1 P.h0.2 ?_ hs hI (by omega) fun σ1 H1 s1 I1=>?_
 ·rintro v σ H1 n E ⟨t,y,k,rfl,ht,hk⟩ hs hI hz q
  refine ⟨t,[y,.ref k],rfl,.inl (.inl (hI.kp t _ ht fun _ z=>by cases z)),rfl,y,_,rfl,.ref k,_,rfl,rfl,?_⟩
  have s2:=(hs.set 1 (by decide) y).set 2 (by decide) (.ref k)
  refine ⟨.ref k,(hs.set 1 (by decide) y).at 2 (by decide) _,hI.ty hk.1,by show 2<=sizeLine;decide,fun p hp=>?_⟩
  dsimp only [zgh,zbm,tC]
  exact (hI.new hp).app hk (by omega) fun H' h'=>q _ H' s2 h'
 refine zij (j:=1) (c:=1) P.fr.1 P.hr rfl P.fr.2.2.1 P.h1.1 P.h1.2 ?_ s1 I1 (by omega) fun σ2 H2 s2 I2=>?_
 ·rintro v σ H1 n E ⟨t,y,z,k,rfl,ht,hk⟩ hs hI hz q
  refine ⟨t,[y,z,.ref k],rfl,.inl (.inl (hI.kp t _ ht fun _ z=>by cases z)),rfl,y,_,rfl,z,_,rfl,.ref k,_,rfl,rfl,?_⟩
  have s0:=(hs.set 1 (by decide) y).set 3 (by decide) z
  have s2:=s0.set 4 (by decide) (.ref k)
  refine ⟨.ref k,s0.at 4 (by decide) _,hI.ty hk.1,by show 2<=sizeLine;decide,fun p hp=>?_⟩
  dsimp only [zgh,zbm,tC]
  exact (hI.new hp).app hk (by omega) fun H' h'=>q _ H' s2 h'
 refine zij (j:=2) (c:=1) P.fr.1 P.hr rfl P.fr.2.2.2.1 P.h2.1 P.h2.2 ?_ s2 I2 (by omega) fun σ3 H3 s3 I3=>?_
 ·rintro v σ H1 n E ⟨t,y,z,u,w,k,rfl,ht,hk⟩ hs hI hz q
  have s2:=hs.set 5 (by decide) (.ref t)
  refine ⟨.ref t,hs.at 5 (by decide) _,.inr (.inl ⟨t,_,4,.ref k,rfl,rfl,.inl (.inl (hI.kp t _ ht fun _ z=>by cases z)),rfl,hI.ty hk.1,?_⟩)⟩
  dsimp only [zgh,zbm,tC]
  exact hI.app hk (by omega) fun H' h'=>q _ H' s2 h'
 refine zij (j:=5) (c:=2) P.fr.1 P.hr rfl P.fr.2.2.2.2 P.h5.1 P.h5.2 ?_ s3 I3 (by omega) fun σ4 H4 s4 I4=>?_
 ·rintro v σ H1 n E ⟨t,y,z,u,k,k',rfl,ht,hk,hk'⟩ hs hI hz q
  have s2:=hs.set 5 (by decide) (.ref t)
  refine ⟨.ref t,hs.at 5 (by decide) _,.inr (.inl ⟨t,_,3,.ref k,rfl,rfl,.inl (.inl (hI.kp t _ ht fun _ z=>by cases z)),rfl,hI.ty hk.1,by show 2<=sizeLine;decide,fun p hp=>?_⟩)⟩
  dsimp only [zgh,zbm,tC]
  refine (hI.new hp).app hk (by omega) fun H' h'=>?_
  refine ⟨.ref t,hs.at 5 (by decide) _,.inr (.inl ⟨t,_,4,.ref k',rfl,rfl,.inl (.inl (h'.kp t _ ht fun _ z=>by cases z)),rfl,h'.ty hk'.1,?_⟩)⟩
  obtain ⟨ws,h1,h2⟩:=h'.ls k' hk'.1
  exact ⟨k',ws,rfl,rfl,h1,q _ _ s2 ((h'.le (Nat.le_succ _)).put hk'.1 hk'.2.1 hk'.2.2 (Nat.zero_le _))⟩
 refine ⟨.ref r,s4.2,6,rfl,r,_,rfl,.inl (.inl (I4.fx r _ P.fr.1 P.hr)),fun p hp=>?_⟩
 have hcut:zo6 [V.ref b0,.ref b1,.ref b2,.ref b3,.ref b4,.ref b5,x] none (some 6)=[b0,b1,b2,b3,b4,b5].map V.ref:=rfl
 rw [hcut]
 have I5:SpI (fun a=>a∈[b0,b1,b2,b3,b4,b5]) (fun a=>a=p) (upd H4 p (.lst ([b0,b1,b2,b3,b4,b5].map V.ref))) (upd H4 p (.lst ([b0,b1,b2,b3,b4,b5].map V.ref))) (n+1*vs0.length+1*vs1.length+1*vs2.length+2*vs5.length) :=
  ⟨fun _ _ e _=>e,fun _ _ _ e=>e,fun a ha=>(I4.new hp).ls a (P.sb a ha)⟩
 have ne:∀ a∈[b0,b1,b2,b3,b4,b5],a≠p:=fun a ha=>by
  obtain ⟨ws,h1,_⟩:=I4.ls a (P.sb a ha)
  exact zao h1 hp
 have hz:n+1*vs0.length+1*vs1.length+1*vs2.length+2*vs5.length+6<=sizeLine:=by omega
 generalize hn:n+1*vs0.length+1*vs1.length+1*vs2.length+2*vs5.length=n5 at I5 hz
 generalize hB:[b0,b1,b2,b3,b4,b5]=B at I5 ne ⊢
 have hBl:B.length=6:=by rw [← hB];rfl
 have fin:∀ H',SpI (fun a=>a∈B) (fun a=>a=p) (upd H4 p (.lst (B.map V.ref))) H' (n5+6)->Q .non H':=fun H' h'=>q H' fun a o e z=>h'.kp a o (by
  have e4:=I4.kp a o e z
  rw [zat (zao e4 hp)];exact e4) z
 refine ⟨p,rfl,⟨B.map V.ref,.inl (.inl zax)⟩,fun i m σ' H'=>m=6 - i/\i<=6/\Sg r σ'/\SpI (fun a=>a∈B) (fun a=>a=p) (upd H4 p (.lst (B.map V.ref))) H' (n5+i),⟨6,rfl,by decide,s4,I5⟩,?_⟩
 rintro i m σ' H' ⟨rfl,hi,hs',hI'⟩
 have hp':H' p=some (.lst (B.map V.ref)):=hI'.fx p _ rfl zax
 by_cases hlt:i < 6
 ·right
  refine ⟨⟨_,V.ref (B[i]'(by omega)),.inl (.inl hp'),by simp [hBl,hlt]⟩,fun σ2 H2=>Sg r σ2/\SpI (fun a=>a∈B) (fun a=>a=p) (upd H4 p (.lst (B.map V.ref))) H2 (n5+(i+1)),fun σ2 H2 h2=>⟨6 - (i+1),by omega,rfl,hlt,h2⟩,?_⟩
  rintro y H2 ⟨rfl,hy⟩
  have hy':=hy _ (.inl (.inl hp'))
  rw [qj] at hy'
  obtain ⟨b,hb,rfl⟩:=oMd hy'
  have hm:b∈B:=qN hb
  refine ⟨.ref b,hs'.at 6 (by decide) _,hI'.ty hm,?_⟩
  obtain ⟨ws,h1,_⟩:=I5.ls b hm
  dsimp only [zgh,zbm,tC]
  exact hI'.app ⟨hm,ne b hm,ws,h1⟩ (by omega) fun H3 h3=>⟨hs'.set 6 (by decide) _,h3⟩
 ·left
  have e:i=6:=by omega
  subst e
  exact ⟨⟨_,.inl (.inl hp'),by simp [hBl]⟩,fin H' hI'⟩
end
structure CalSp (P:Program) (w:World) (K:PySem.W.Frag) (mg:Str->Option Value) (base:Heap) (x:Str) (k:Nat):Prop where
 ex:∃ f fd ps,FnOk P w K mg base CX0 k f fd ps ztw/\mg x=some (.ref f)/\PySem.W.keepIn K (.ref f)=true/\zdJ K fd ps []
theorem Dfn.calSp {P:Program} {w:World} {K:PySem.W.Frag} {mg:Str->Option Value} {base:Heap} {x:Str} {st:Stmt} {N ps:List Str} {k:Nat} (F:Dfn K mg x st) (S:FnScope N ps (zaf st)) (hN:N.length=7) (hps:ps.length=1)
  (hb:∀ (kV doc pm:Value) (an:Option Addr) (cdv ct:Value) (us:List Value),us.length=ps.length->bindArgs (PySem.W.fnOf x x (zbU st) (zaW st) (zaf st) .none kV doc pm an cdv ct) ⟨us,[]⟩=pure (ps.zip us))
  (hbody:∀ (f:Addr) (cdv:Value) (A:Around) (outer:List Env) (s:Shared) (H:Hp) (E:XK),Room k (A.deeper (envOfC x (zaf st) s.heap.objs.size f cdv)) ->
   PSs (ziK CX0 P w K mg base N x (zaf st) f cdv A outer s H E).nox (zaW st) (zhB (tB0 K) (zhB (tB1 K) (zhB (tB2 K) (zhB (tB5 K) (tB6 K)))))):CalSp P w K mg base x (k+1):=by
 obtain ⟨f,fd,h1,h2⟩:=F.ex
 refine ⟨f,fd,ps,h1.ok S (fun vs H Q E h=>?_) (fun cdv A outer s H vs Q E hr h=>⟨_,hbody f cdv A outer s H E hr,zrX h hN⟩),h2,h1.kp,h1.binds hb⟩
 obtain ⟨r,_,_,_,_,_,_,_,_,_,_,_,_,_,_,rfl,_⟩:=h
 rw [hps];rfl
end L2
end
section
namespace L2
open PySem PySem.Spec PyProof.Rows
section
variable {Γ:Cn} {X:Cx} {st:Stmt} {sts:List Stmt} {g g':FS} {T:TS}
def TDq (Γ:Cn) (K:PySem.W.Frag) (g:FS) (T:TS):TS:=fun E σ H=>∃ G₀ H₀ G ρ ρ',At Γ K G₀ H₀ G H ρ σ/\g ρ=some (.nx,ρ')/\∀ σ' G' H',zbO G G'->At Γ K G₀ H₀ G' H' ρ' σ'->T E σ' H'
theorem zsj (h:DS Γ X st g) (h2:PSs X sts T):PSs X (st::sts) (TDq Γ X.K g T):=(zbk h.1 h2).imp fun E σ H=>by
 rintro ⟨G₀,H₀,G,ρ,ρ',A,h,k⟩
 exact ⟨G₀,H₀,G,ρ,.nx,ρ',A,h,fun σ' G' H' sm A'=>k σ' G' H' sm A'⟩
theorem zjl (h:DS Γ X st g) (h2:PSs X sts (TDq Γ X.K g' T)):PSs X (st::sts) (TDq Γ X.K (zaF g g') T):=(zsj h h2).imp fun E σ H=>by
 rintro ⟨G₀,H₀,G,ρ,ρ',A,h,k⟩
 unfold zaF at h
 obtain ⟨⟨fl,ρ1⟩,h1,h⟩:=oBd h
 have e:fl=.nx/\g' ρ1=some (.nx,ρ'):=by
  cases fl <;> first | exact ⟨rfl,h⟩ | cases h
 obtain ⟨rfl,h2⟩:=e
 exact ⟨G₀,H₀,G,ρ,ρ1,A,h1,fun σ1 G1 H1 sm A1=>⟨G₀,H₀,G1,ρ1,ρ',A1,h2,fun σ' G' H' sm' A'=>k σ' G' H' (sm.trans sm') A'⟩⟩
def Sw (U:Addr->Prop) (H H':Hp):Prop:=∀ a,(U a/\∃ vs o,H a=some (.frz o (.lst vs))/\H' a=some (.lst vs))\/(¬ U a/\∃ vs o,H a=some (.lst vs)/\H' a=some (.frz o (.lst vs)))\/(¬ U a/\(∀ vs,H a≠some (.lst vs))/\H' a=H a)
def tSw (X0:Hp) (T:TS):TS:=fun E σ H=>(∀ a vs,H a=some (.lst vs)->∀ o u,X0 a≠some (.frz o u))->∃ U:Addr->Prop,(∀ a,U a->(∀ o u,X0 a≠some (.frz o u))/\∃ vs o,H a=some (.frz o (.lst vs)))/\∀ H',Sw U H H'->T E σ H'
theorem zpw (h:PSs X sts T):PSs X sts (tSw X.H₀ T):=fun pins s σ H D I q=>by
 obtain ⟨U,hU,k⟩:=q fun a vs e o u z=>by
  have:=I.base.frzs a o u z
  rw [e] at this;cases this
 have ex:∀ a,∃ x:Option HO,((U a/\∃ vs o,H a=some (.frz o (.lst vs))/\x=some (.lst vs))\/(¬ U a/\∃ vs o,H a=some (.lst vs)/\x=some (.frz o (.lst vs))/\s.heap.get? a=some o)\/(¬ U a/\(∀ vs,H a≠some (.lst vs))/\x=H a)):=fun a=>by
  by_cases hu:U a
  ·obtain ⟨_,vs,o,e⟩:=hU a hu
   exact ⟨_,.inl ⟨hu,vs,o,e,rfl⟩⟩
  ·by_cases hl:∃ vs,H a=some (.lst vs)
   ·obtain ⟨vs,e⟩:=hl
    obtain ⟨_,its,n,_,e2⟩:=I.hok a _ e
    exact ⟨_,.inr (.inl ⟨hu,vs,_,e,rfl,e2⟩)⟩
   ·exact ⟨_,.inr (.inr ⟨hu,fun vs z=>hl ⟨vs,z⟩,rfl⟩)⟩
 let H':Hp:=fun a=>Classical.choose (ex a)
 have hH:∀ a,_:=fun a=>Classical.choose_spec (ex a)
 refine h pins s σ H' D (I.refrz fun a=>?_) (k H' fun a=>?_)
 ·rcases hH a with ⟨hu,vs,o,e1,e2⟩ | ⟨_,vs,o,e1,e2,e3⟩ | ⟨_,_,e⟩
  ·exact .inr (.inr ⟨vs,o,e1,e2,(hU a hu).1⟩)
  ·exact .inr (.inl ⟨vs,o,e1,e2,e3⟩)
  ·exact .inl e
 ·rcases hH a with z | ⟨z,vs,o,e1,e2,_⟩ | z
  ·exact .inl z
  ·exact .inr (.inl ⟨z,vs,o,e1,e2⟩)
  ·exact .inr (.inr z)
end
structure Sep (Γ:Cn) (K:PySem.W.Frag) (G:Hp) (r:Addr) (d0 d1:D) (js:List D) (d3 d4:D) (ss:List D) (d6:D):Prop where
 ex:∃ Gp v0 v1 b2 v3 v4 b5 v6 vs2 vs5,G r=some (.lst [v0,v1,.ref b2,v3,v4,.ref b5,v6])/\zbO Gp G/\(Gp r=none/\Gp b2=none/\Gp b5=none) /\
  Rep Γ K Gp v0 d0/\Rep Γ K Gp v1 d1/\Rep Γ K Gp v3 d3/\Rep Γ K Gp v4 d4/\Rep Γ K Gp v6 d6/\(G b2=some (.lst vs2)/\Reps Γ K Gp vs2 js)/\(G b5=some (.lst vs5)/\Reps Γ K Gp vs5 ss)
section
variable {Γ:Cn} {K:PySem.W.Frag} {G G' H:Hp} {r:Addr} {d0 d1 d3 d4 d6:D} {js ss:List D}
theorem Sep.mono (s:Sep Γ K G r d0 d1 js d3 d4 ss d6) (sm:zbO G G'):Sep Γ K G' r d0 d1 js d3 d4 ss d6:=by
 obtain ⟨Gp,v0,v1,b2,v3,v4,b5,v6,vs2,vs5,h1,h2,h3,r0,r1,r3,r4,r6,⟨q1,q2⟩,q3,q4⟩:=s.ex
 exact ⟨Gp,v0,v1,b2,v3,v4,b5,v6,vs2,vs5,sm _ _ h1,h2.trans sm,h3,r0,r1,r3,r4,r6,⟨sm _ _ q1,q2⟩,sm _ _ q3,q4⟩
theorem Sep.rep (s:Sep Γ K G r d0 d1 js d3 d4 ss d6):Rep Γ K G (.ref r) (.lst [d0,d1,.lst js,d3,d4,.lst ss,d6]):=by
 obtain ⟨Gp,v0,v1,b2,v3,v4,b5,v6,vs2,vs5,h1,h2,h3,r0,r1,r3,r4,r6,⟨q1,q2⟩,q3,q4⟩:=s.ex
 exact .lst h1 (.cons (r0.mono h2) (.cons (r1.mono h2) (.cons (.lst q1 (q2.mono h2)) (.cons (r3.mono h2) (.cons (r4.mono h2) (.cons (.lst q3 (q4.mono h2)) (.cons (r6.mono h2) .nil)))))))
def InD (ks:List D):Prop:=ks.length<=1000/\∀ e∈ks,(∃ i y,e=.tup [.int i,y])\/(∃ x i,e=.tup [.str x,.int i])\/∃ x,e=.str x
structure Shp (d0 d1:D) (js:List D) (d3 d4:D) (ss:List D):Prop where
 h0:∃ l,d0=.lst l/\l≠[]/\l.length<=1000/\∀ d∈l,∃ x ks,d=.tup [.str x,.lst ks]/\InD ks
 h1:∃ l,d1=.lst l/\l≠[]/\l.length<=1000/\∀ d∈l,∃ x y ks,d=.tup [.str x,.str y,.lst ks]/\InD ks
 h2:js.length<=1000/\∀ d∈js,∃ x y z u ks,d=.tup [x,y,z,u,.lst ks]/\InD ks
 h3:∃ l,d3=.lst l/\l.length<=1000
 h4:∃ l,d4=.lst l/\l.length<=1000
 h5:ss.length<=1000/\∀ d∈ss,∃ x y z ks ks',d=.tup [x,y,z,.lst ks,.lst ks']/\InD ks/\InD ks'
theorem Reps.memV:∀ {vs:List V} {ds:List D},Reps Γ K G vs ds->∀ v∈vs,∃ d∈ds,Rep Γ K G v d
 | _,_,.nil,v,h=>by cases h
 | _,_,.cons r t,v,h=>by
  rcases List.mem_cons.mp h with rfl | h
  ·exact ⟨_,qf,r⟩
  ·obtain ⟨d,h1,h2⟩:=t.memV v h
   exact ⟨d,qg _ h1,h2⟩
theorem Reps.c {vs:List V} {d:D} {ds:List D} (h:Reps Γ K G vs (d::ds)):∃ v r,vs=v::r/\Rep Γ K G v d/\Reps Γ K G r ds:=by
 cases h with
 | cons a b=>exact ⟨_,_,rfl,a,b⟩
theorem Reps.n {vs:List V} (h:Reps Γ K G vs []):vs=[]:=by cases h;rfl
theorem zpL {a:Addr} {vs ws:List V} {l ks:List D} (h1:G a=some (.lst vs)) (h2:G a=some (.lst ws)) (r1:Reps Γ K G vs l) (r2:Reps Γ K G ws ks) (hn:l≠[]) (hi:InD ks)
  (hl:∀ d∈l,(∃ x es,d=.tup [.str x,.lst es])\/∃ x y es,d=.tup [.str x,.str y,.lst es]):False:=by
 rw [h1] at h2
 cases h2
 cases l with
 | nil=>exact hn rfl
 | cons d l =>
  obtain ⟨v,vr,rfl,rv,_⟩:=r1.c
  obtain ⟨e,he,re⟩:=r2.memV v qf
  rcases hl d qf with ⟨x,es,rfl⟩ | ⟨x,y,es,rfl⟩
  ·obtain ⟨t,us,rfl,ht,ru⟩:=rv.tup_inv
   obtain ⟨u1,_,rfl,ra,ru⟩:=ru.c
   obtain ⟨u2,_,rfl,rb,ru⟩:=ru.c
   cases ru.n
   cases ra.str_inv
   obtain ⟨b,_,rfl,_,_⟩:=rb.lst_inv
   rcases hi.2 e he with ⟨i,z,rfl⟩ | ⟨z,i,rfl⟩ | ⟨z,rfl⟩
   ·obtain ⟨t',us',e',ht',ru'⟩:=re.tup_inv
    cases e'
    rw [ht] at ht'
    cases ht'
    obtain ⟨_,_,e2,rc,_⟩:=ru'.c
    cases e2
    cases rc.int_inv
   ·obtain ⟨t',us',e',ht',ru'⟩:=re.tup_inv
    cases e'
    rw [ht] at ht'
    cases ht'
    obtain ⟨_,_,e2,rc,ru'⟩:=ru'.c
    cases e2
    obtain ⟨_,_,e2,rc,_⟩:=ru'.c
    cases e2
    cases rc.int_inv
   ·cases re.str_inv
  ·obtain ⟨t,us,rfl,ht,ru⟩:=rv.tup_inv
   have hl3:=ru.length
   rcases hi.2 e he with ⟨i,z,rfl⟩ | ⟨z,i,rfl⟩ | ⟨z,rfl⟩
   ·obtain ⟨t',us',e',ht',ru'⟩:=re.tup_inv
    cases e'
    rw [ht] at ht'
    cases ht'
    have:=ru'.length
    rw [hl3] at this
    cases this
   ·obtain ⟨t',us',e',ht',ru'⟩:=re.tup_inv
    cases e'
    rw [ht] at ht'
    cases ht'
    have:=ru'.length
    rw [hl3] at this
    cases this
   ·cases re.str_inv
theorem Sep.pre (s:Sep Γ K G r d0 d1 js d3 d4 ss d6) (sh:Shp d0 d1 js d3 d4 ss) (gh:zbO G H):∃ S F b0 b1 b2 b3 b4 b5 x vs0 vs1 vs2 vs5 n,SpPre H r S F b0 b1 b2 b3 b4 b5 x vs0 vs1 vs2 vs5 n:=by
 obtain ⟨Gp,v0,v1,b2,v3,v4,b5,v6,vs2,vs5,h1,h2,⟨n1,n2,n3⟩,r0,r1,r3,r4,r6,⟨q1,q2⟩,q3,q4⟩:=s.ex
 obtain ⟨l0,rfl,ne0,z0,k0⟩:=sh.h0
 obtain ⟨l1,rfl,ne1,z1,k1⟩:=sh.h1
 obtain ⟨l3,rfl,z3⟩:=sh.h3
 obtain ⟨l4,rfl,z4⟩:=sh.h4
 obtain ⟨b0,vs0,rfl,g0,p0⟩:=r0.lst_inv
 obtain ⟨b1,vs1,rfl,g1,p1⟩:=r1.lst_inv
 obtain ⟨b3,vs3,rfl,g3,p3⟩:=r3.lst_inv
 obtain ⟨b4,vs4,rfl,g4,p4⟩:=r4.lst_inv
 have gph:zbO Gp H:=h2.trans gh
 let S:Addr->Prop:=fun a=>∃ ws,H a=some (.lst ws)/\ws.length<=1000
 let F:Addr->Prop:=fun a=>a=r\/a=b0\/a=b1\/a=b2\/a=b5
 have hk:∀ {k:Addr} {ws:List V} {ks:List D},Gp k=some (.lst ws)->Reps Γ K Gp ws ks->InD ks->Sk S F H k:=fun {k ws ks} e rr hi=>by
  refine ⟨⟨ws,gph _ _ e,by rw [rr.length];exact hi.1⟩,?_,ws,gph _ _ e⟩
  rintro (rfl | rfl | rfl | rfl | rfl)
  ·rw [n1] at e;cases e
  ·exact zpL g0 e p0 rr ne0 hi fun d hd=>by
    obtain ⟨x,es,h,_⟩:=k0 d hd
    exact .inl ⟨x,es,h⟩
  ·exact zpL g1 e p1 rr ne1 hi fun d hd=>by
    obtain ⟨x,y,es,h,_⟩:=k1 d hd
    exact .inr ⟨x,y,es,h⟩
  ·rw [n2] at e;cases e
  ·rw [n3] at e;cases e
 refine ⟨S,F,b0,b1,b2,b3,b4,b5,v6,vs0,vs1,vs2,vs5,1000,⟨.inl rfl,.inr (.inl rfl),.inr (.inr (.inl rfl)),.inr (.inr (.inr (.inl rfl))),.inr (.inr (.inr (.inr rfl)))⟩,gh _ _ h1,⟨gph _ _ g0,fun v hv=>?_⟩,⟨gph _ _ g1,fun v hv=>?_⟩,⟨gh _ _ q1,fun v hv=>?_⟩,⟨gh _ _ q3,fun v hv=>?_⟩,fun a ha=>ha,fun b hb=>?_,?_⟩
 ·obtain ⟨d,hd,rv⟩:=p0.memV v hv
  obtain ⟨x,ks,rfl,hi⟩:=k0 d hd
  obtain ⟨t,us,rfl,ht,ru⟩:=rv.tup_inv
  obtain ⟨y,_,rfl,_,ru⟩:=ru.c
  obtain ⟨w,_,rfl,rb,ru⟩:=ru.c
  cases ru.n
  obtain ⟨k,ws,rfl,gk,rk⟩:=rb.lst_inv
  exact ⟨t,y,k,rfl,gph _ _ ht,hk gk rk hi⟩
 ·obtain ⟨d,hd,rv⟩:=p1.memV v hv
  obtain ⟨x,x',ks,rfl,hi⟩:=k1 d hd
  obtain ⟨t,us,rfl,ht,ru⟩:=rv.tup_inv
  obtain ⟨y,_,rfl,_,ru⟩:=ru.c
  obtain ⟨y',_,rfl,_,ru⟩:=ru.c
  obtain ⟨w,_,rfl,rb,ru⟩:=ru.c
  cases ru.n
  obtain ⟨k,ws,rfl,gk,rk⟩:=rb.lst_inv
  exact ⟨t,y,y',k,rfl,gph _ _ ht,hk gk rk hi⟩
 ·obtain ⟨d,hd,rv⟩:=q2.memV v hv
  obtain ⟨_,_,_,_,ks,rfl,hi⟩:=sh.h2.2 d hd
  obtain ⟨t,us,rfl,ht,ru⟩:=rv.tup_inv
  obtain ⟨y1,_,rfl,_,ru⟩:=ru.c
  obtain ⟨y2,_,rfl,_,ru⟩:=ru.c
  obtain ⟨y3,_,rfl,_,ru⟩:=ru.c
  obtain ⟨y4,_,rfl,_,ru⟩:=ru.c
  obtain ⟨w,_,rfl,rb,ru⟩:=ru.c
  cases ru.n
  obtain ⟨k,ws,rfl,gk,rk⟩:=rb.lst_inv
  exact ⟨t,y1,y2,y3,y4,k,rfl,gph _ _ ht,hk gk rk hi⟩
 ·obtain ⟨d,hd,rv⟩:=q4.memV v hv
  obtain ⟨_,_,_,ks,ks',rfl,hi,hi'⟩:=sh.h5.2 d hd
  obtain ⟨t,us,rfl,ht,ru⟩:=rv.tup_inv
  obtain ⟨y1,_,rfl,_,ru⟩:=ru.c
  obtain ⟨y2,_,rfl,_,ru⟩:=ru.c
  obtain ⟨y3,_,rfl,_,ru⟩:=ru.c
  obtain ⟨w,_,rfl,rb,ru⟩:=ru.c
  obtain ⟨w',_,rfl,rb',ru⟩:=ru.c
  cases ru.n
  obtain ⟨k,ws,rfl,gk,rk⟩:=rb.lst_inv
  obtain ⟨k',ws',rfl,gk',rk'⟩:=rb'.lst_inv
  exact ⟨t,y1,y2,y3,k,k',rfl,gph _ _ ht,hk gk rk hi,hk gk' rk' hi'⟩
 ·have z:∀ {c:Addr} {ws:List V} {ds:List D},H c=some (.lst ws)->ws.length=ds.length->ds.length<=1000->S c:=fun e e2 e3=>⟨_,e,by rw [e2];exact e3⟩
  simp only [qJ,qH,or_false] at hb
  rcases hb with rfl | rfl | rfl | rfl | rfl | rfl
  ·exact z (gph _ _ g0) p0.length z0
  ·exact z (gph _ _ g1) p1.length z1
  ·exact z (gh _ _ q1) q2.length sh.h2.1
  ·exact z (gph _ _ g3) p3.length z3
  ·exact z (gph _ _ g4) p4.length z4
  ·exact z (gh _ _ q3) q4.length sh.h5.1
 ·rw [p0.length,p1.length,q2.length,q4.length]
  have:=sh.h2.1
  have:=sh.h5.1
  have:(10000:Nat)<=sizeLine:=by decide
  omega
end
end L2
end
section
namespace L2
open PySem PySem.Spec PyProof.Rows
def zoj (Γ:Cn) (K:PySem.W.Frag) (n:Nat) (F:List D->Option (List D)):Sp:=fun vs H Q _=>∃ G ds d0 d1 js d3 d4 ss d6,zbO G H/\Reps Γ K G vs ds/\ds.length=n/\F ds=some [d0,d1,.lst js,d3,d4,.lst ss,d6]/\∀ r G' H',Step G H G' H'->Sep Γ K G' r d0 d1 js d3 d4 ss d6->Q (.ref r) H'
structure CalSep (Γ:Cn) (P:Program) (w:World) (K:PySem.W.Frag) (mg:Str->Option Value) (base:Heap) (x:Str) (n k:Nat) (F:List D->Option (List D)):Prop where
 ex:∃ f fd ps,FnOk P w K mg base CX0 k f fd ps (zoj Γ K n F)/\mg x=some (.ref f)/\PySem.W.keepIn K (.ref f)=true/\zdJ K fd ps []
section
variable {Γ:Cn} {X:Cx} {K:PySem.W.Frag} {G₀ H₀ G H:Hp} {ρ:zaY} {σ:St}
theorem zps {b2 b5 r:Addr} {v0 v1 v3 v4 v6:V} {vs2 vs5:List V} {d0 d1 d3 d4 d6:D} {js ss:List D} (s:Step G₀ H₀ G H) (h2:H₀ b2=none) (g2:G b2=none) (e2:H b2=some (.lst vs2)) (h5:H₀ b5=none) (g5:G b5=none) (e5:H b5=some (.lst vs5)) (n25:b2≠b5) (hr:H r=none)
  (r0:Rep Γ K G v0 d0) (r1:Rep Γ K G v1 d1) (r2:Reps Γ K G vs2 js) (r3:Rep Γ K G v3 d3) (r4:Rep Γ K G v4 d4) (r5:Reps Γ K G vs5 ss) (r6:Rep Γ K G v6 d6) :
  ∃ G',Step G₀ H₀ G' (upd H r (.lst [v0,v1,.ref b2,v3,v4,.ref b5,v6]))/\Sep Γ K G' r d0 d1 js d3 d4 ss d6:=by
 have n2:b2≠r:=zao e2 hr
 have n5:b5≠r:=zao e5 hr
 have gr:G r=none:=s.gh.free hr
 have h0r:H₀ r=none:=s.hh.free hr
 refine ⟨upd (upd (upd G b2 (.lst vs2)) b5 (.lst vs5)) r (.lst [v0,v1,.ref b2,v3,v4,.ref b5,v6]),⟨fun b o e=>?_,fun b o e=>?_,fun b o e=>?_,fun b o e=>?_⟩,G,v0,v1,b2,v3,v4,b5,v6,vs2,vs5,zax,fun b o e=>?_,⟨gr,g2,g5⟩,r0,r1,r3,r4,r6,⟨?_,r2⟩,?_,r5⟩
 ·rw [zat (zao e h0r)];exact s.hh b o e
 ·have e':=s.gg b o e
  rw [zat (zao e' gr),zat (zao e' g5),zat (zao e' g2)];exact e'
 ·by_cases hb:b=r
  ·subst hb;rw [zax] at e ⊢;exact e
  ·rw [zat hb] at e ⊢
   by_cases hb5:b=b5
   ·subst hb5;rw [zax] at e;cases e;exact e5
   ·rw [zat hb5] at e
    by_cases hb2:b=b2
    ·subst hb2;rw [zax] at e;cases e;exact e2
    ·rw [zat hb2] at e;exact s.gh b o e
 ·rw [zat (zao e h0r),zat (zao e h5),zat (zao e h2)];exact s.out b o e
 ·rw [zat (zao e gr),zat (zao e g5),zat (zao e g2)];exact e
 ·rw [zat n2,zat n25,zax]
 ·rw [zat n5,zax]
def ztH (i0 i1 i2 i3 i4 i5 i6:Nat):FA:=fun ρ=>match ρ[i2]?,ρ[i5]? with
 | some (some (.own js)),some (some (.own ss))=>(vSh i0 ρ).bind fun d0=>(vSh i1 ρ).bind fun d1=>(vSh i3 ρ).bind fun d3=>(vSh i4 ρ).bind fun d4=>(vSh i6 ρ).map fun d6=>[d0,d1,.lst js,d3,d4,.lst ss,d6]
 | _,_=>none
def TSp (Γ:Cn) (K:PySem.W.Frag) (f:FA):TS:=fun E σ H=>∃ G₀ H₀ G ρ d0 d1 js d3 d4 ss d6,At Γ K G₀ H₀ G H ρ σ/\f ρ=some [d0,d1,.lst js,d3,d4,.lst ss,d6]/\∀ r G' H',Step G₀ H₀ G' H'->Sep Γ K G' r d0 d1 js d3 d4 ss d6->E.rt (.ref r) H'
theorem zi7 {i:Nat} {d:D} (A:At Γ K G₀ H₀ G H ρ σ) (h:vSh i ρ=some d):∃ v,σ[i]?=some (some v)/\Rep Γ K G v d:=A.env.sh i d (zkJ h)
theorem zqg {i0 i1 i2 i3 i4 i5 i6:Nat} (n:i2≠i5):∀ E σ H,TSp Γ K (ztH i0 i1 i2 i3 i4 i5 i6) E σ H->zoe (zrD (zbm (zfJ i0) (zbm (zfJ i1) (zbm (zfJ i2) (zbm (zfJ i3) (zbm (zfJ i4) (zbm (zfJ i5) (zbm (zfJ i6) zgh)))))))) E σ H:=by
 rintro E σ H ⟨G₀,H₀,G,ρ,d0,d1,js,d3,d4,ss,d6,A,h,k⟩
 unfold ztH at h
 split at h
 case h_2=>cases h
 rename_i js' ss' hi2 hi5
 obtain ⟨e0,p0,h⟩:=oBd h
 obtain ⟨e1,p1,h⟩:=oBd h
 obtain ⟨e3,p3,h⟩:=oBd h
 obtain ⟨e4,p4,h⟩:=oBd h
 obtain ⟨e6,p6,h⟩:=oMd h
 cases h
 obtain ⟨v0,s0,r0⟩:=zi7 A p0
 obtain ⟨v1,s1,r1⟩:=zi7 A p1
 obtain ⟨v3,s3,r3⟩:=zi7 A p3
 obtain ⟨v4,s4,r4⟩:=zi7 A p4
 obtain ⟨v6,s6,r6⟩:=zi7 A p6
 obtain ⟨fps,hs,ap⟩:=A.env.sl
 obtain ⟨w2,s2,r2⟩:=hs i2 _ hi2
 obtain ⟨w5,s5,r5⟩:=hs i5 _ hi5
 have ap':=ap i2 i5 _ _ n hi2 hi5
 generalize fps i2=f2 at r2 ap'
 generalize fps i5=f5 at r5 ap'
 cases r2 with
 | own a1 a2 a3 a4 =>
  rename_i b2 vs2
  cases r5 with
  | own c1 c2 c3 c4 =>
   rename_i b5 vs5
   have n25:b2≠b5:=fun z=>ap' b2 qf (by rw [z];exact qf)
   refine ⟨v0,s0,v1,s1,.ref b2,s2,v3,s3,v4,s4,.ref b5,s5,v6,s6,by show 7<=sizeLine;decide,fun r hr=>?_⟩
   obtain ⟨G',t1,t2⟩:=zps A.st a1 a2 a3 c1 c2 c3 n25 hr r0 r1 a4 r3 r4 c4 r6
   exact k r G' _ t1 t2
def zr6 (n:Nat) (g:FS) (f:FA):List D->Option (List D):=fun ds=>(g (ds.map (fun d=>some (Slot.sh d))++List.replicate n none)).bind fun r=>match r.1 with
 | .nx=>f r.2
 | _=>none
theorem Dfn.calSep {P:Program} {w:World} {mg:Str->Option Value} {base:Heap} {x:Str} {st:Stmt} {N ps:List Str} {k:Nat} {g:FS} {f:FA} (F:Dfn K mg x st) (S:FnScope N ps (zaf st))
  (hb:∀ (kV doc pm:Value) (an:Option Addr) (cdv ct:Value) (us:List Value),us.length=ps.length->bindArgs (PySem.W.fnOf x x (zbU st) (zaW st) (zaf st) .none kV doc pm an cdv ct) ⟨us,[]⟩=pure (ps.zip us))
  (hbody:∀ (f':Addr) (cdv:Value) (A:Around) (outer:List Env) (s:Shared) (H:Hp) (E:XK),Room k (A.deeper (envOfC x (zaf st) s.heap.objs.size f' cdv)) ->
   PSs (ziK CX0 P w K mg base N x (zaf st) f' cdv A outer s H E).nox (zaW st) (TDq Γ K g (TSp Γ K f))):CalSep Γ P w K mg base x ps.length (k+1) (zr6 (N.length - ps.length) g f):=by
 obtain ⟨fa,fd,h1,h2⟩:=F.ex
 refine ⟨fa,fd,ps,h1.ok S (fun vs H Q E h=>?_) (fun cdv A outer s H vs Q E hr h=>?_),h2,h1.kp,h1.binds hb⟩
 ·obtain ⟨_,_,_,_,_,_,_,_,_,_,r,hl,_⟩:=h
  rw [r.length,hl]
 ·obtain ⟨G,ds,d0,d1,js,d3,d4,ss,d6,gh,r,hl,hd,k⟩:=h
  refine ⟨_,hbody fa cdv A outer s H E hr,?_⟩
  unfold zr6 at hd
  obtain ⟨⟨fl,ρ'⟩,hg,hd⟩:=oBd hd
  have e:fl=.nx/\f ρ'=some [d0,d1,.lst js,d3,d4,.lst ss,d6]:=by
   cases fl <;> first | exact ⟨rfl,hd⟩ | cases hd
  obtain ⟨rfl,hf⟩:=e
  exact ⟨G,H,G,_,ρ',zd4 gh r (by rw [r.length,hl]),hg,fun σ' G' H' sm A'=>⟨G,H,G',ρ',d0,d1,js,d3,d4,ss,d6,A',hf,k⟩⟩
theorem At.setAny (A:At Γ K G₀ H₀ G H ρ σ) {i:Nat} {v:V} (hi:ρ[i]?=some none):At Γ K G₀ H₀ G H ρ (σ.set i (some v)):=by
 obtain ⟨fps,h,ap⟩:=A.env.sl
 refine ⟨A.st,by rw [List.length_set];exact A.env.len,fps,fun j t e=>?_,ap⟩
 have hj:i≠j:=by rintro rfl;rw [hi] at e;cases e
 rw [qw hj]
 exact h j t e
def zrC (f0 f1:FE) (f2:FA) (f3 f4:FE) (f5:FA) (f6:FE):FA:=fun ρ=>(f0 ρ).bind fun d0=>(f1 ρ).bind fun d1=>(f2 ρ).bind fun js=>(f3 ρ).bind fun d3=>(f4 ρ).bind fun d4=>(f5 ρ).bind fun ss=>(f6 ρ).map fun d6=>[d0,d1,.lst js,d3,d4,.lst ss,d6]
theorem tld {f0 f1 f3 f4 f6:FE} {f2 f5:FA} {i:Nat} {E:Ends} {d0 d1 d3 d4 d6:D} {js ss:List D} (A:At Γ K G₀ H₀ G H ρ σ) (hi:ρ[i]?=some none) (h:zrC f0 f1 f2 f3 f4 f5 f6 ρ=some [d0,d1,.lst js,d3,d4,.lst ss,d6])
  (k:∀ r G' H',Step G₀ H₀ G' H'->Sep Γ K G' r d0 d1 js d3 d4 ss d6->E.rt (.ref r) H') :
  zhB (zmb (zrD (zbm (TD Γ K f0) (zbm (TD Γ K f1) (zbm (TDo Γ K f2) (zbm (TD Γ K f3) (zbm (TD Γ K f4) zgh)))))) (zdi i)) (zoe (tOp zsc (zfJ i) (zrD (zbm (TDo Γ K f5) (zbm (TD Γ K f6) zgh))))) E σ H:=by
 unfold zrC at h
 obtain ⟨e0,p0,h⟩:=oBd h
 obtain ⟨e1,p1,h⟩:=oBd h
 obtain ⟨e2,p2,h⟩:=oBd h
 obtain ⟨e3,p3,h⟩:=oBd h
 obtain ⟨e4,p4,h⟩:=oBd h
 obtain ⟨e5,p5,h⟩:=oBd h
 obtain ⟨e6,p6,h⟩:=oMd h
 cases h
 refine ⟨G₀,H₀,G,ρ,_,A,p0,fun v0 G1 H1 s1 r0=>⟨G₀,H₀,G1,ρ,_,A.step s1,p1,fun v1 G2 H2 s2 r1=>⟨G₀,H₀,G2,ρ,_,(A.step s1).step s2,p2,fun b2 vs2 G3 H3 s3 hb2 r2=>?_⟩⟩⟩
 have A2:=(A.step s1).step s2
 have s3':=s3.trans (Step.newOwn (o:=.lst vs2) s3.gh hb2)
 have A3:=A2.step s3'
 have h02:H₀ b2=none:=A2.st.hh.free (s3.hh.free hb2)
 have g2:G3 b2=none:=s3.gh.free hb2
 refine ⟨G₀,H₀,G3,ρ,_,A3,p3,fun v3 G4 H4 s4 r3=>⟨G₀,H₀,G4,ρ,_,A3.step s4,p4,fun v4 G5 H5 s5 r4=>⟨by show 5<=sizeLine;decide,fun p hp=>?_⟩⟩⟩
 have A5:=(A3.step s4).step s5
 have b4:H4 b2=some (.lst vs2):=s4.hh _ _ zax
 have b5:H5 b2=some (.lst vs2):=s5.hh _ _ b4
 have gb5:G5 b2=none:=(s5.out _ _ b4).trans ((s4.out _ _ zax).trans g2)
 have s6:=Step.newOwn (o:=.lst [v0,v1,.ref b2,v3,v4]) s5.gh hp
 have A6:=(A5.step s6).setAny (v:=.ref p) hi
 have b6:(upd H5 p (.lst [v0,v1,.ref b2,v3,v4])) b2=some (.lst vs2):=s6.hh _ _ b5
 refine ⟨.ref p,?_,G₀,H₀,G5,ρ,_,A6,p5,fun c5 vs5 G7 H7 s7 hc5 r5=>?_⟩
 ·have hlt:i < σ.length:=by
   rw [← A.env.len]
   exact (List.getElem?_eq_some_iff.mp hi).1
  rw [List.getElem?_set_self hlt]
 have s7':=s7.trans (Step.newOwn (o:=.lst vs5) s7.gh hc5)
 have A7:=A6.step s7'
 have h05:H₀ c5=none:=A6.st.hh.free (s7.hh.free hc5)
 have g5:G7 c5=none:=s7.gh.free hc5
 have gb7:G7 b2=none:=(s7.out _ _ b6).trans gb5
 have b7:H7 b2=some (.lst vs2):=s7.hh _ _ b6
 have n25:b2≠c5:=zao b7 hc5
 refine ⟨G₀,H₀,G7,ρ,_,A7,p6,fun v6 G8 H8 s8 r6=>⟨by show 2<=sizeLine;decide,fun q hq=>?_⟩⟩
 have A8:=A7.step s8
 have b7':(upd H7 c5 (.lst vs5)) b2=some (.lst vs2):=by rw [zat n25];exact b7
 have b8:H8 b2=some (.lst vs2):=s8.hh _ _ b7'
 have c8:H8 c5=some (.lst vs5):=s8.hh _ _ zax
 have gb8:G8 b2=none:=(s8.out _ _ b7').trans gb7
 have gc8:G8 c5=none:=(s8.out _ _ zax).trans g5
 have hp6:(upd H5 p (.lst [v0,v1,.ref b2,v3,v4])) p=some (.lst [v0,v1,.ref b2,v3,v4]):=zax
 have hp8:H8 p=some (.lst [v0,v1,.ref b2,v3,v4]):=s8.hh _ _ (s7'.hh _ _ hp6)
 have s9:=Step.newOwn (o:=.lst [.ref c5,v6]) A8.gh hq
 refine ⟨p,q,[v0,v1,.ref b2,v3,v4],[.ref c5,v6],rfl,rfl,s9.hh _ _ hp8,zax,by show 5+2<=sizeLine;decide,fun r hr=>?_⟩
 have sm3:zbO G3 G8:=((s4.gg.trans s5.gg).trans s7.gg).trans s8.gg
 have sm2:zbO G2 G8:=s3.gg.trans sm3
 have sm5:zbO G5 G8:=s7.gg.trans s8.gg
 obtain ⟨G',t1,t2⟩:=zps (A8.st.trans s9) h02 gb8 (s9.hh _ _ b8) h05 gc8 (s9.hh _ _ c8) n25 hr (r0.mono (s2.gg.trans sm2)) (r1.mono sm2) (r2.mono sm3) (r3.mono (s5.gg.trans sm5)) (r4.mono sm5) (r5.mono s8.gg) r6
 exact k r G' _ t1 t2
def zur (n:Nat) (f:FA):List D->Option (List D):=fun ds=>f (ds.map (fun d=>some (Slot.sh d))++List.replicate n none)
theorem Dfn.calTld {P:Program} {w:World} {mg:Str->Option Value} {base:Heap} {x:Str} {st:Stmt} {N ps:List Str} {k:Nat} {f0 f1 f3 f4 f6:FE} {f2 f5:FA} {i:Nat} (F:Dfn K mg x st) (S:FnScope N ps (zaf st)) (hi1:ps.length<=i) (hi2:i < N.length)
  (hb:∀ (kV doc pm:Value) (an:Option Addr) (cdv ct:Value) (us:List Value),us.length=ps.length->bindArgs (PySem.W.fnOf x x (zbU st) (zaW st) (zaf st) .none kV doc pm an cdv ct) ⟨us,[]⟩=pure (ps.zip us))
  (hbody:∀ (f':Addr) (cdv:Value) (A:Around) (outer:List Env) (s:Shared) (H:Hp) (E:XK),Room k (A.deeper (envOfC x (zaf st) s.heap.objs.size f' cdv)) ->
   PSs (ziK CX0 P w K mg base N x (zaf st) f' cdv A outer s H E).nox (zaW st) (zhB (zmb (zrD (zbm (TD Γ K f0) (zbm (TD Γ K f1) (zbm (TDo Γ K f2) (zbm (TD Γ K f3) (zbm (TD Γ K f4) zgh)))))) (zdi i)) (zoe (tOp zsc (zfJ i) (zrD (zbm (TDo Γ K f5) (zbm (TD Γ K f6) zgh))))))):CalSep Γ P w K mg base x ps.length (k+1) (zur (N.length - ps.length) (zrC f0 f1 f2 f3 f4 f5 f6)):=by
 obtain ⟨fa,fd,h1,h2⟩:=F.ex
 refine ⟨fa,fd,ps,h1.ok S (fun vs H Q E h=>?_) (fun cdv A outer s H vs Q E hr h=>?_),h2,h1.kp,h1.binds hb⟩
 ·obtain ⟨_,_,_,_,_,_,_,_,_,_,r,hl,_⟩:=h
  rw [r.length,hl]
 ·obtain ⟨G,ds,d0,d1,js,d3,d4,ss,d6,gh,r,hl,hd,k⟩:=h
  refine ⟨_,hbody fa cdv A outer s H E hr,?_⟩
  refine tld (zd4 gh r (by rw [r.length,hl])) ?_ hd k
  rw [qI (by rw [qe,hl];exact hi1),List.getElem?_replicate,qW]
  rw [qe,hl];omega
end
end L2
end
section
namespace L2
open PySem PySem.Spec PyProof.Rows
section
variable {Γ:Cn} {K:PySem.W.Frag}
abbrev tCl (sp:Sp) (t:TA):TE:=zrV sp [] E0 t
def zmj (Γ:Cn) (K:PySem.W.Frag) (FTl:List D->Option (List D)) (c1 c2:FT) (fn:FE) (u1 u2:TS):TS :=
 zhB (zmb (tCl (zoj Γ K 1 FTl) (zbm (zfJ 4) zgh)) (zdi 6)) (zhB (ztE (TDt Γ K c1) u1 zp6) (zhB (zmb (TD Γ K fn) (zdi 7)) (zhB (ztE (TDt Γ K c2) u2 zp6) (zih (tCl ztw (zbm (zfJ 6) zgh))))))
def ztv (Γ:Cn) (K:PySem.W.Frag) (X0:Hp) (f1:FE) (fr:FA) (FLs:List D->Option (List D)) (FTw FSh:List D->Option D) (tb:TS):TS :=
 zhB (zmb (TD Γ K f1) (zdi 1)) (zhB (zmb (tCl (zoj Γ K 4 FLs) (TDa Γ K fr)) (zdi 2)) (tSw X0 (zhB (zmb (tCl (spF Γ K 1 FTw) (zbm (zfJ 2) zgh)) (zdi 3)) (zhB (zmb (tCl (spF Γ K 1 FSh) (zbm (zfJ 2) zgh)) (zdi 4))
  (tSw X0 (zhB (zih (tCl ztw (zbm (zfJ 2) zgh))) (zhB (zpl (zs0 (zbm (tC (.int 2)) zgh)) (zdi 5) tb) (zoe (tC (.bl true))))))))))
abbrev ρT (due shop:D) (t:Option Slot):zaY:=[none,none,none,some (.sh due),some (.sh shop),none,t,none]
theorem zpi {due shop due' shop':D} {x:Option Slot} {t:Slot} {i:Nat} (h:(ρT due' shop' none)[i]?=some (some t)):(i=3/\t=.sh due')\/(i=4/\t=.sh shop'):=by
 rcases i with _ | _ | _ | _ | _ | _ | _ | _ | i
 ·cases h
 ·cases h
 ·cases h
 ·cases h;exact .inl ⟨rfl,rfl⟩
 ·cases h;exact .inr ⟨rfl,rfl⟩
 ·cases h
 ·cases h
 ·cases h
 ·simp at h
theorem zp3 {FTl:List D->Option (List D)} {c1 c2:FT} {fn:FE} {u1 u2:TS} {due shop dueF shopF t0 t1 t3 t4 t6 dn:D} {tj ts:List D} (fd:Fz due dueF) (fs:Fz shop shopF)
  (hD:FTl [shopF]=some [t0,t1,.lst tj,t3,t4,.lst ts,t6]) (sh:Shp t0 t1 tj t3 t4 ts)
  (h1:c1 (ρT dueF shopF (some (.sh (.lst [t0,t1,.lst tj,t3,t4,.lst ts,t6]))))=some false)
  (hn:fn (ρT dueF shopF (some (.sh (.lst [t0,t1,.lst tj,t3,t4,.lst ts,t6]))))=some dn)
  (h2:c2 ((ρT dueF shopF (some (.sh (.lst [t0,t1,.lst tj,t3,t4,.lst ts,t6])))).set 7 (some (.sh dn)))=some false)
  {E:Ends} {σ:St} {G H:Hp} (A:At Γ K H00 H00 G H (ρT dueF shopF none) σ) (q:∀ σ' G' H',At Γ K H00 H00 G' H' (ρT dueF shopF none) σ'->E.nx σ' H'):zmj Γ K FTl c1 c2 fn u1 u2 E σ H:=by
 unfold zmj
 obtain ⟨v,hv,rv⟩:=A.env.sh 4 shopF rfl
 have hl:σ.length=8:=A.env.len.symm
 refine ⟨v,hv,G,[shopF],t0,t1,tj,t3,t4,ts,t6,A.gh,.cons rv .nil,rfl,hD,fun r G1 H1 s1 sep=>?_⟩
 have A1:=(A.step s1).setSh (i:=6) sep.rep
 refine ⟨H00,H00,G1,_,false,A1,h1,fun G2 H2 s2=>zpK ?_⟩
 have A2:=A1.step s2
 refine ⟨H00,H00,G2,_,dn,A2,hn,fun w G3 H3 s3 r3=>?_⟩
 have A3:=(A2.step s3).setSh (i:=7) r3
 refine ⟨H00,H00,G3,_,false,A3,h2,fun G4 H4 s4=>zpK ?_⟩
 have A4:=A3.step s4
 have hr:((σ.set 6 (some (V.ref r))).set 7 (some w))[6]?=some (some (.ref r)):=by
  rw [qw (by decide),List.getElem?_set_self (by omega)]
 refine ⟨.ref r,hr,?_⟩
 obtain ⟨S,F,b0,b1,b2,b3,b4,b5,x,vs0,vs1,vs2,vs5,n,P⟩:=(sep.mono ((s2.gg.trans s3.gg).trans s4.gg)).pre sh A4.gh
 refine ⟨r,S,F,b0,b1,b2,b3,b4,b5,x,vs0,vs1,vs2,vs5,n,rfl,P,fun H5 kp=>?_⟩
 let G5:Hp:=fun a=>match G4 a with
  | some (.lst _)=>none
  | z=>z
 have g5:∀ a o,G5 a=some o->G4 a=some o/\∀ vs,o≠.lst vs:=fun a o e=>by
  have e:(match G4 a with
   | some (.lst _)=>none
   | z=>z)=some o:=e
  split at e
  ·cases e
  ·rename_i z
   exact ⟨e,fun vs h=>by subst h;exact z vs e⟩
 have g4:∀ a o,G4 a=some o->(∀ vs,o≠.lst vs)->G5 a=some o:=fun a o e z=>by
  show (match G4 a with
   | some (.lst _)=>none
   | z=>z)=some o
  rw [e]
  cases o <;> first | rfl | exact absurd rfl (z _)
 refine q _ G5 H5 (A4.anew (fun a o e=>kp a o (A4.gh a o (g5 a o e).1) (g5 a o e).2) rfl fun i t e=>?_)
 rcases zpi (due:=due) (shop:=shop) (x:=none) e with ⟨rfl,rfl⟩ | ⟨rfl,rfl⟩
 ·exact ⟨dueF,dueF,rfl,rfl,fun v r=>Rep.fzd g4 r _ fd⟩
 ·exact ⟨shopF,shopF,rfl,rfl,fun v r=>Rep.fzd g4 r _ fs⟩
theorem zsM {X0:Hp} {f1:FE} {fr:FA} {FLs:List D->Option (List D)} {FTw FSh:List D->Option D} {FTl:List D->Option (List D)} {c1 c2:FT} {fn:FE} {u1 u2:TS} {dh d0 d1 d3 d4 d6 fl due shop dueF shopF t0 t1 t3 t4 t6 dn:D} {ds js ss tj ts args:List D}
  (h1:f1 (ds.map (fun d=>some (Slot.sh d))++List.replicate 7 none)=some dh) (hds:ds.length=1)
  (h2:fr ((ds.map (fun d=>some (Slot.sh d))++List.replicate 7 none).set 1 (some (.sh dh)))=some args) (ha:args.length=4) (hF:FLs args=some [d0,d1,.lst js,d3,d4,.lst ss,d6]) (sh:Shp d0 d1 js d3 d4 ss)
  (fz:Fz (.lst [d0,d1,.lst js,d3,d4,.lst ss,d6]) fl) (hT:FTw [fl]=some due) (hS:FSh [fl]=some shop) (fd:Fz due dueF) (fs:Fz shop shopF)
  (hD:FTl [shopF]=some [t0,t1,.lst tj,t3,t4,.lst ts,t6]) (sh2:Shp t0 t1 tj t3 t4 ts)
  (hc1:c1 (ρT dueF shopF (some (.sh (.lst [t0,t1,.lst tj,t3,t4,.lst ts,t6]))))=some false)
  (hn:fn (ρT dueF shopF (some (.sh (.lst [t0,t1,.lst tj,t3,t4,.lst ts,t6]))))=some dn)
  (hc2:c2 ((ρT dueF shopF (some (.sh (.lst [t0,t1,.lst tj,t3,t4,.lst ts,t6])))).set 7 (some (.sh dn)))=some false)
  {E:Ends} {N:List Str} {vs:List V} {G H:Hp} (hN:N.length=8) (gh:zbO G H) (rr:Reps Γ K G vs ds) (q:∀ H',E.rt (.bl true) H'):ztv Γ K X0 f1 fr FLs FTw FSh (zmj Γ K FTl c1 c2 fn u1 u2) E (zc5 N vs) H:=by
 unfold ztv
 have A:=zd4 (N:=N) (m:=7) gh rr (by rw [hN,rr.length,hds])
 have hρ:(ds.map (fun d=>some (Slot.sh d))++List.replicate 7 none).length=8:=by simp [hds]
 refine ⟨G,H,G,_,dh,A,h1,fun vh G1 H1 s1 r1=>?_⟩
 have A1:=(A.step s1).setSh (i:=1) r1
 refine ⟨G,H,G1,_,args,A1,h2,fun us G2 H2 s2 r2=>?_⟩
 show zoj Γ K 4 FLs (us++[]) H2 _ E0
 rw [List.append_nil]
 refine ⟨G2,args,d0,d1,js,d3,d4,ss,d6,s2.gh,r2,ha,hF,fun r G3 H3 s3 sep=>?_⟩
 have A3:=((A1.step s2).step s3).setSh (i:=2) sep.rep
 generalize hσ:(((zc5 N vs).set 1 (some vh)).set 2 (some (V.ref r)):St)=σ3 at A3
 have hl3:σ3.length=8:=by rw [← A3.env.len];simp [hds]
 have hr3:σ3[2]?=some (some (.ref r)):=by
  rw [← hσ,List.getElem?_set_self]
  have:(((zc5 N vs).set 1 (some vh)).set 2 (some (V.ref r)):St).length=8:=by rw [hσ];exact hl3
  simp at this ⊢
  omega
 show tSw X0 _ E (((zc5 N vs).set 1 (some vh)).set 2 (some (V.ref r))) H3
 rw [hσ]
 intro hx
 refine ⟨fun _=>False,fun _ z=>z.elim,fun H4 sw=>?_⟩
 let G4:Hp:=fun a=>match G3 a with
  | none=>none
  | some _=>H4 a
 have g34:∀ a o,G3 a=some o->G4 a=H4 a:=fun a o e=>by
  show (match G3 a with
   | none=>none
   | some _=>H4 a)=_
  rw [e]
 have keep4:∀ a o,G3 a=some o->(∀ vs,o≠.lst vs)->G4 a=some o:=fun a o e z=>by
  rw [g34 a o e]
  have h3:=A3.gh a o e
  rcases sw a with ⟨z,_⟩ | ⟨_,vs,ob,e1,e2⟩ | ⟨_,_,e1⟩
  ·exact z.elim
  ·rw [h3] at e1;cases e1;exact absurd rfl (z _)
  ·rw [e1];exact h3
 have frz4:∀ a vs,G3 a=some (.lst vs)->∃ o,G4 a=some (.frz o (.lst vs)):=fun a vs e=>by
  rw [g34 a _ e]
  have h3:=A3.gh a _ e
  rcases sw a with ⟨z,_⟩ | ⟨_,vs',ob,e1,e2⟩ | ⟨_,z,e1⟩
  ·exact z.elim
  ·rw [h3] at e1;cases e1;exact ⟨ob,e2⟩
  ·exact absurd h3 (z _)
 have gh4:zbO G4 H4:=fun a o e=>by
  have e:(match G3 a with
   | none=>none
   | some _=>H4 a)=some o:=e
  split at e
  ·cases e
  ·exact e
 have A4:At Γ K H00 H00 G4 H4 [none,none,some (.sh fl),none,none,none,none,none] σ3:=A3.anew gh4 (by simp [hds]) fun i t e=>by
  have e2:i=2/\t=.sh fl:=by
   rcases i with _ | _ | _ | _ | _ | _ | _ | _ | i
   ·cases e
   ·cases e
   ·cases e;exact ⟨rfl,rfl⟩
   ·cases e
   ·cases e
   ·cases e
   ·cases e
   ·cases e
   ·simp at e
  obtain ⟨rfl,rfl⟩:=e2
  refine ⟨_,fl,rfl,List.getElem?_set_self (by simp [hds]),fun v r=>Rep.fz (fun a o e z=>keep4 a o e z.1) frz4 r _ fz⟩
 have rl:Rep Γ K G4 (.ref r) fl:=Rep.fz (fun a o e z=>keep4 a o e z.1) frz4 sep.rep _ fz
 refine ⟨.ref r,hr3,?_⟩
 refine ⟨G4,[fl],due,gh4,.cons rl .nil,rfl,hT,fun vd G5 H5 s5 r5=>?_⟩
 have A5:=(A4.step s5).setSh (i:=3) r5
 have hr5:(σ3.set 3 (some vd))[2]?=some (some (.ref r)):=by rw [qw (by decide)];exact hr3
 refine ⟨.ref r,hr5,?_⟩
 refine ⟨G5,[fl],shop,s5.gh,.cons (rl.mono s5.gg) .nil,rfl,hS,fun vS G6 H6 s6 r6=>?_⟩
 have A6:=(A5.step s6).setSh (i:=4) r6
 have hr6:((σ3.set 3 (some vd)).set 4 (some vS))[2]?=some (some (.ref r)):=by rw [qw (by decide)];exact hr5
 have sm46:zbO G4 G6:=s5.gg.trans s6.gg
 show tSw X0 _ E ((σ3.set 3 (some vd)).set 4 (some vS)) H6
 generalize ((σ3.set 3 (some vd)).set 4 (some vS):St)=σ6 at A6 hr6
 intro _
 have hU:∀ a,(∃ vs,G3 a=some (.lst vs))->∃ vs o,G3 a=some (.lst vs)/\G6 a=some (.frz o (.lst vs)):=fun a ⟨vs,e⟩=>by
  obtain ⟨o,e2⟩:=frz4 a vs e
  exact ⟨vs,o,e,sm46 _ _ e2⟩
 refine ⟨fun a=>∃ vs,G3 a=some (.lst vs),fun a ha=>⟨?_,?_⟩,fun H7 sw7=>?_⟩
 ·obtain ⟨vs,e⟩:=ha
  exact hx a vs (A3.gh a _ e)
 ·obtain ⟨vs,o,_,e2⟩:=hU a ha
  exact ⟨vs,o,A6.gh a _ e2⟩
 have g37:zbO G3 H7:=fun a o e=>by
  by_cases hl:∃ vs,o=.lst vs
  ·obtain ⟨vs,rfl⟩:=hl
   obtain ⟨vs',ob,e1,e2⟩:=hU a ⟨vs,e⟩
   rw [e] at e1;cases e1
   have h6:=A6.gh a _ e2
   rcases sw7 a with ⟨_,vs2,o2,z1,z2⟩ | ⟨z,_⟩ | ⟨z,_⟩
   ·rw [h6] at z1;cases z1;exact z2
   ·exact absurd ⟨vs,e⟩ z
   ·exact absurd ⟨vs,e⟩ z
  ·have h6:=A6.gh a _ (sm46 _ _ (keep4 a o e fun vs z=>hl ⟨vs,z⟩))
   rcases sw7 a with ⟨⟨vs,z⟩,_⟩ | ⟨_,vs,ob,z,_⟩ | ⟨_,_,z⟩
   ·rw [e] at z;cases z;exact absurd ⟨vs,rfl⟩ hl
   ·rw [h6] at z;cases z;exact absurd ⟨vs,rfl⟩ hl
   ·rw [z];exact h6
 let G7:Hp:=fun a=>match G3 a,G6 a with
  | some (.lst _),_=>none
  | _,none=>none
  | _,some _=>H7 a
 have g7:∀ a o,G6 a=some o->(¬ ∃ vs,G3 a=some (.lst vs))->G7 a=H7 a:=fun a o e z=>by
  show (match G3 a,G6 a with
   | some (.lst _),_=>none
   | _,none=>none
   | _,some _=>H7 a)=_
  rw [e]
  cases h3:G3 a with
  | none=>rfl
  | some u=>cases u <;> first | rfl | exact absurd ⟨_,h3⟩ z
 have g7':∀ a o,G7 a=some o->(¬ ∃ vs,G3 a=some (.lst vs))/\H7 a=some o:=fun a o e=>by
  have e:(match G3 a,G6 a with
   | some (.lst _),_=>none
   | _,none=>none
   | _,some _=>H7 a)=some o:=e
  split at e
  ·cases e
  ·cases e
  ·refine ⟨fun ⟨vs,h⟩=>?_,e⟩
   rename_i z
   first | exact z vs h | exact z vs _ h | (rename_i z1 z2;exact z1 vs h) | (rename_i z1 z2 z3;exact z1 vs h) | simp_all
 have hG:∀ a o,G6 a=some o->nLF o->G7 a=some o:=fun a o e z=>by
  have nu:¬ ∃ vs,G3 a=some (.lst vs):=fun h=>by
   obtain ⟨vs,ob,_,e2⟩:=hU a h
   rw [e] at e2;cases e2;exact z.2 _ _ rfl
  rw [g7 a o e nu]
  have h6:=A6.gh a o e
  rcases sw7 a with ⟨h,_⟩ | ⟨_,vs,ob,z2,_⟩ | ⟨_,_,z2⟩
  ·exact absurd h nu
  ·rw [h6] at z2;cases z2;exact absurd rfl (z.1 _)
  ·rw [z2];exact h6
 have hL:∀ a vs,G6 a=some (.lst vs)->∃ o,G7 a=some (.frz o (.lst vs)):=fun a vs e=>by
  have nu:¬ ∃ vs,G3 a=some (.lst vs):=fun h=>by
   obtain ⟨vs,ob,_,e2⟩:=hU a h
   rw [e] at e2;cases e2
  rw [g7 a _ e nu]
  have h6:=A6.gh a _ e
  rcases sw7 a with ⟨h,_⟩ | ⟨_,vs,ob,z2,z3⟩ | ⟨_,z2,_⟩
  ·exact absurd h nu
  ·rw [h6] at z2;cases z2;exact ⟨ob,z3⟩
  ·exact absurd h6 (z2 _)
 refine ⟨.ref r,hr6,?_⟩
 obtain ⟨S,F,b0,b1,b2,b3,b4,b5,x,vs0,vs1,vs2,vs5,n,P⟩:=sep.pre sh g37
 refine ⟨r,S,F,b0,b1,b2,b3,b4,b5,x,vs0,vs1,vs2,vs5,n,rfl,P,fun H8 kp=>?_⟩
 have gh8:zbO G7 H8:=fun a o e=>by
  obtain ⟨nu,e7⟩:=g7' a o e
  refine kp a o e7 fun vs z=>?_
  subst z
  rcases sw7 a with ⟨h,_⟩ | ⟨_,vs2,ob,_,z3⟩ | ⟨_,z2,z3⟩
  ·exact nu h
  ·rw [e7] at z3;cases z3
  ·rw [z3] at e7;exact z2 _ e7
 have A8:At Γ K H00 H00 G7 H8 (ρT dueF shopF none) σ6:=A6.anew gh8 rfl fun i t e=>by
  rcases zpi (due:=due) (shop:=shop) (x:=none) e with ⟨rfl,rfl⟩ | ⟨rfl,rfl⟩
  ·exact ⟨due,dueF,rfl,rfl,fun v r=>Rep.fz hG hL r _ fd⟩
  ·exact ⟨shop,shopF,rfl,rfl,fun v r=>Rep.fz hG hL r _ fs⟩
 refine ⟨2,rfl,by decide,by decide,fun i m σ' H'=>m=2 - i/\i<=2/\∃ G',At Γ K H00 H00 G' H' (ρT dueF shopF none) σ',⟨2,rfl,by decide,G7,A8⟩,?_⟩
 rintro i m σ' H' ⟨rfl,hi,G',A'⟩
 by_cases hlt:i < 2
 ·right
  refine ⟨hlt,fun σ2 H2=>∃ G2,At Γ K H00 H00 G2 H2 (ρT dueF shopF none) σ2,fun σ2 H2 h=>⟨2 - (i+1),by omega,rfl,hlt,h⟩,?_⟩
  rintro x H2 ⟨rfl,rfl⟩
  exact zp3 fd fs hD sh2 hc1 hn hc2 (A'.setAny (i:=5) rfl) fun σ3 G3 H3 A3=>⟨G3,A3⟩
 ·left
  exact ⟨Nat.not_lt.mp hlt,q H'⟩
end
end L2
end
section
namespace L2
open PySem PySem.Spec PyProof.Rows
def zuG:D->D->Option (List D)
 | .lst x,.lst y=>if x.length+y.length<=sizeLine then some (x++y) else none
 | _,_=>none
def zto (fa fb:FE):FA:=fun ρ=>(fa ρ).bind fun x=>(fb ρ).bind fun y=>zuG x y
section
variable {Γ:Cn} {X:Cx} {a b:Expr} {fa fb:FE} {pos:Pos}
theorem zta (ha:DE Γ X a fa) (hb:DE Γ X b fb):DO Γ X (.BinOp a .Add b pos) (zto fa fb):=⟨(zqu zmV ha.1 hb.1).imp fun σ H Q=>by
 rintro ⟨G₀,H₀,G,ρ,ds,A,h,k⟩
 unfold zto at h
 obtain ⟨x,hx,h⟩:=oBd h
 obtain ⟨y,hy,h⟩:=oBd h
 refine ⟨G₀,H₀,G,ρ,x,A,hx,fun v G1 H1 s1 r1=>⟨G₀,H₀,G1,ρ,y,A.step s1,hy,fun u G2 H2 s2 r2=>?_⟩⟩
 unfold zuG at h
 split at h
 ·split at h
  ·rename_i hz
   cases h
   obtain ⟨a,vs,rfl,ha,ra⟩:=(r1.mono s2.gg).lst_inv
   obtain ⟨b,us,rfl,hb,rb⟩:=r2.lst_inv
   exact ⟨a,b,vs,us,rfl,rfl,s2.gh _ _ ha,s2.gh _ _ hb,by rw [ra.length,rb.length];exact hz,fun p hp=>k p _ G2 H2 (s1.trans s2) hp (ra.append rb)⟩
  ·cases h
 ·cases h⟩
end
def zhR:D->D->Option D
 | .tup x,.tup y=>if x≠[]/\y≠[]/\x.length+y.length<=sizeLine then some (.tup (x++y)) else none
 | _,_=>none
section
variable {Γ:Cn} {X:Cx} {a b:Expr} {fa fb:FE} {pos:Pos}
theorem znH {K:PySem.W.Frag}:zjV Γ K zhR (zsb K):=by
 intro G H v u x y z gh r1 r2 h Q k
 unfold zhR at h
 split at h
 ·split at h
  ·rename_i hz
   cases h
   obtain ⟨a,vs,rfl,ha,ra⟩:=r1.tup_inv
   obtain ⟨b,us,rfl,hb,rb⟩:=r2.tup_inv
   refine ⟨a,b,vs,us,rfl,rfl,.inl (.inl (gh _ _ ha)),.inl (.inl (gh _ _ hb)),?_,by rw [ra.length,rb.length];exact hz.2.2,?_⟩
   ·intro z;subst z
    have:=ra.length
    exact hz.1 (List.length_eq_zero_iff.mp this.symm)
   ·refine ⟨fun z=>?_,fun _ p hp=>ziy gh (ra.append rb) k p hp⟩
    subst z
    have:=rb.length
    exact absurd (List.length_eq_zero_iff.mp this.symm) hz.2.1
  ·cases h
 ·cases h
theorem zkt (ha:DE Γ X a fa) (hb:DE Γ X b fb):DE Γ X (.BinOp a .Add b pos) (b2 zhR fa fb):=zks zqH znH ha hb
end
section
variable {Γ:Cn} {X:Cx} {e o:Expr} {es:List Expr} {fo f:FE} {fr:FA} {pos p apos pos':Pos} {c m x:Str}
theorem zlp {k j:Nat} {F:List D->Option (List D)} {pl:Sem Bool} (C:CalMO Γ X.prog X.w X.K X.mg X.base c m 1 k F) (hr:Room j X.A) (hk:k<=j) (ho:DE Γ X o fo)
  (ht:eval (.Call (.Attribute o m apos) [] [] pos) X.env=(do
   let ov ← eval o X.env
   standAt apos.atName
   let (f,first) ← holding [ov] (getMethod ov m pl)
   callWith pos f first (backTo pos (starEach [] X.env)) (backToKw pos (keywordEach [] X.env))):=by rfl) :
  DO Γ X (.Call (.Attribute o m apos) [] [] pos) (zlR c m F fo zaj):=⟨by
 obtain ⟨Ca,f,fd,ps,h0,h1,h2,h3,h4⟩:=C.ex
 refine (zk0 ho.1 h1 h2 h3 (hr.mono hk) h4 .nil zkd ht).imp fun σ H Q=>?_
 rintro ⟨G₀,H₀,G,ρ,rs,A,h,k⟩
 unfold zlR at h
 obtain ⟨x,hx,hq⟩:=oBd h
 clear h
 refine ⟨G₀,H₀,G,ρ,x,A,hx,fun v G1 H1 s1 r1=>?_⟩
 split at hq
 ·rename_i c' fs
  split at hq
  ·rename_i hz
   obtain ⟨rfl,hz2⟩:=hz
   obtain ⟨ds,hds,hF⟩:=oBd hq
   have r1':=r1
   cases r1 with
   | ins g1 g2 g3 g4 =>
    rw [h0] at g2
    cases g2
    rename_i _ _ us0
    have hl:List.lookup m us0=none:=by
     rcases zcb (k:=m) g3 g4 with ⟨_,z2⟩ | ⟨d',v',z1,_,_⟩
     ·exact z2
     ·rw [z1] at hz2;cases hz2
    cases hds
    refine ⟨_,_,_,rfl,s1.gh _ _ g1,hl,?_⟩
    exact ⟨G1,_,rs,s1.gh,.cons r1' .nil,rfl,hF,fun p us G' H' s hp r=>k p us G' H' (s1.trans s) hp r⟩
  ·cases hq
 ·cases hq⟩
theorem zlO {k j:Nat} {sp:Sp} {t:TA} (C:∃ f fd ps,FnOk X.prog X.w X.K X.mg X.base CX0 k f fd ps sp/\X.mg x=some (.ref f)/\PySem.W.keepIn X.K (.ref f)=true/\zdJ X.K fd ps []) (hr:Room j X.A) (hk:k<=j) (hg:Gl X x) (ha:PA X (e::es) t)
  (hdb:(x==("__debug__":Str))=false:=by decide) (he:starEach (e::es) X.env=(false,eval e X.env)::starEach es X.env:=by rfl) (hpl:(backTo pos (starEach es X.env)).any (·.1)=false:=by rfl):PE X (.Call (.Name x p) (e::es) [] pos) (tCl sp t):=by
 obtain ⟨f,fd,ps,h1,h2,h3,h4⟩:=C
 exact zkb h1 (hr.mono hk) hg h2 h3 h4 .nil zkd ha hdb he hpl
end
end L2
end
section
namespace Law
open PySem L2
abbrev oS (d:D):Option Slot:=some (.sh d)
end Law
namespace L2
open PySem
abbrev FQ:=List D->Option D
end L2
namespace Law
open PySem L2
theorem dC {Γ:Cn} {X:Cx} {e:Expr} {es:List Expr} {fr:FA} {p pos:Pos} {x:Str} {n k:Nat} {F:FQ} (C:Cal Γ X.prog X.w X.K X.mg X.base x n k F) {j:Nat} (hr:Room j X.A) (ha:DA Γ X (e::es) fr) (hn:∀ ρ ds,fr ρ=some ds->ds.length=n) (hk:k<=j:=by decide) (hg:Gl X x:=by exact rfl) (hdb:(x==("__debug__":Str))=false:=by decide) (he:starEach (e::es) X.env=(false,eval e X.env)::starEach es X.env:=by rfl) (hpl:(backTo pos (starEach es X.env)).any (·.1)=false:=by rfl):DE Γ X (.Call (.Name x p) (e::es) [] pos) (cF F fr):=znP C hr hk hg ha hn hdb he hpl
end Law
end
section
namespace Law
open PySem L2 PySem.Spec PyProof.Rows
def top (i:Nat):Stmt:=PySem.Challenge.pw_shopbound_k01_shops_tell_their_lists.main.body.getD i (.Pass ⟨0,0,0,0⟩)
abbrev ze0:Stmt:=top 48
abbrev zdO:Stmt:=top 49
abbrev zec:Stmt:=top 51
abbrev zeY:Stmt:=top 50
abbrev zdp:Stmt:=top 52
abbrev zea:Stmt:=top 53
abbrev zeZ:Stmt:=top 54
abbrev zdN:Stmt:=top 55
abbrev zee:Stmt:=top 56
abbrev zdM:Stmt:=top 57
abbrev zed:Stmt:=top 58
abbrev zeV:Stmt:=top 60
abbrev zfM:Stmt:=top 6
abbrev zeQ:Stmt:=top 9
abbrev zfN:Stmt:=top 11
abbrev zfQ:Stmt:=top 25
abbrev zgP:Stmt:=top 10
abbrev zd9:Stmt:=top 26
abbrev zgO:Stmt:=top 7
abbrev zfR:Stmt:=top 27
abbrev zd6:Stmt:=top 13
abbrev zdK:Stmt:=top 28
abbrev zeR:Stmt:=top 12
abbrev ziq:Stmt:=top 29
abbrev zfS:Stmt:=top 30
abbrev zgN:Stmt:=top 31
abbrev zeT:Stmt:=top 32
abbrev zir:Stmt:=top 33
abbrev zfT:Stmt:=top 34
abbrev zfP:Stmt:=top 35
abbrev zd8:Stmt:=top 36
abbrev zgQ:Stmt:=top 37
abbrev zeU:Stmt:=top 38
abbrev zeS:Stmt:=top 39
abbrev zdL:Stmt:=top 40
abbrev zfO:Stmt:=top 41
abbrev zd7:Stmt:=top 42
abbrev zcS:Stmt:=top 43
abbrev zj7:Stmt:=top 45
abbrev zc8:Stmt:=zdv (top 46) 0
abbrev zeX:Stmt:=top 59
abbrev zcI:Stmt:=zdv (top 46) 1
abbrev zcT:Stmt:=zdv (top 46) 2
abbrev zgR:Stmt:=top 45
abbrev zcH:Stmt:=zdv (top 46) 3
abbrev zcG:Stmt:=zdv (top 46) 4
abbrev zcU:Stmt:=zdv (top 46) 5
abbrev zch:Stmt:=zdv (top 46) 6
abbrev zcq:Stmt:=zdv (top 46) 7
abbrev zeW:Stmt:=top 61
abbrev zeb:Stmt:=top 62
abbrev zcF:Stmt:=zdv (top 46) 9
abbrev zcr:Stmt:=zdv (top 46) 8
abbrev zgC:Stmt:=top 63
def zeD (mg:Str->Option Value):Tok:=match mg "LONGEST_NAME" with | some (.int _ t)=>t | _=>0
def zfk (mg:Str->Option Value):Tok:=match mg "MOST_AMOUNT" with | some (.int _ t)=>t | _=>0
def zeC (mg:Str->Option Value):Tok:=match mg "MOST_BENCHES" with | some (.int _ t)=>t | _=>0
def zfj (mg:Str->Option Value):Tok:=match mg "MOST_BREAKS" with | some (.int _ t)=>t | _=>0
def zeB (mg:Str->Option Value):Tok:=match mg "MOST_HORIZON" with | some (.int _ t)=>t | _=>0
def zgL (mg:Str->Option Value):Tok:=match mg "MOST_JOBS" with | some (.int _ t)=>t | _=>0
def zgg (mg:Str->Option Value):Tok:=match mg "MOST_LINKS" with | some (.int _ t)=>t | _=>0
def zfi (mg:Str->Option Value):Tok:=match mg "MOST_SETUPS" with | some (.int _ t)=>t | _=>0
def zgf (mg:Str->Option Value):Tok:=match mg "MOST_STEPS" with | some (.int _ t)=>t | _=>0
def zfh (mg:Str->Option Value):Tok:=match mg "MOST_STOCKS" with | some (.int _ t)=>t | _=>0
def zgK (mg:Str->Option Value):Tok:=match mg "MOST_WAYS" with | some (.int _ t)=>t | _=>0
structure Bn (mg:Str->Option Value):Prop where
 z_abs:mg "abs"=none
 z_all:mg "all"=none
 z_bool:mg "bool"=none
 z_dict:mg "dict"=none
 z_enumerate:mg "enumerate"=none
 z_int:mg "int"=none
 z_isinstance:mg "isinstance"=none
 z_len:mg "len"=none
 z_list:mg "list"=none
 z_max:mg "max"=none
 z_min:mg "min"=none
 z_range:mg "range"=none
 z_set:mg "set"=none
 z_str:mg "str"=none
 z_tuple:mg "tuple"=none
 c_LONGEST_NAME:mg "LONGEST_NAME"=some (.int 8 (zeD mg))
 c_MOST_AMOUNT:mg "MOST_AMOUNT"=some (.int 1000000 (zfk mg))
 c_MOST_BENCHES:mg "MOST_BENCHES"=some (.int 8 (zeC mg))
 c_MOST_BREAKS:mg "MOST_BREAKS"=some (.int 10 (zfj mg))
 c_MOST_HORIZON:mg "MOST_HORIZON"=some (.int 1000000 (zeB mg))
 c_MOST_JOBS:mg "MOST_JOBS"=some (.int 40 (zgL mg))
 c_MOST_LINKS:mg "MOST_LINKS"=some (.int 100 (zgg mg))
 c_MOST_SETUPS:mg "MOST_SETUPS"=some (.int 100 (zfi mg))
 c_MOST_STEPS:mg "MOST_STEPS"=some (.int 40 (zgf mg))
 c_MOST_STOCKS:mg "MOST_STOCKS"=some (.int 6 (zfh mg))
 c_MOST_WAYS:mg "MOST_WAYS"=some (.int 4 (zgK mg))
def zdc:List Str:=["benches","steps","jobs","setups","links","stocks","horizon","bench_by_name","step_by_name","setup_by_names","job_by_step"]
end Law
end
section
set_option maxHeartbeats 4000000
namespace Law
open PySem L2 PySem.Spec PyProof.Rows
variable {Γ:Cn} {P:Program} {w:World} {K:PySem.W.Frag} {mg:Str->Option Value} {base:Heap}
local macro_rules | `(tactic| trivial)=>`(tactic| exact ⟨rfl,rfl,rfl,by decide +kernel,rfl,by decide +kernel,by decide +kernel⟩)
def zhA:FQ:=zb9 0
  (zaF (sIf (toB (b2 ltD (vSh 1) (cF zdS (zab (vSh 0) zaj)))) (zbj (b2 ixD (vSh 0) (vSh 1))) zcC) (zbj (vC (.int 0))))
theorem zjk:FnScope ["_law_script","_law_k"] ["_law_script","_law_k"] (zaf ze0):=by trivial
theorem ziZ (F:Dfn K mg "_law_cell" ze0) (B:Bn mg)  : Cal Γ P w K mg base "_law_cell" 2 1 (zhA) :=
 F.cal (k:=0) zjk (fun _ _ _ _ _ _ us hl=>match us,hl with | [_,_],_=>rfl) fun f cdv A outer s H E hr =>
  (zah (zbQ (zcX zrr (zac 1) (zaB zdF rfl B.z_len (by rfl) (zaa (zac 0) zae)) (zb7 _)) (zan (zaz (zas (zac 0) (zac 1)))) zaM) (zan (zaz zad)))
def zfI:FQ:=zb9 4
  (zaF (zb1 3 (b2 ze5 (cF ztz (zab (vSh 0) zaj)) (vC (.int 2)))) (zaF (zgD 4 (szF zaj)) (zaF (zgG (itE (vSh 2)) (zdh 2 (zaR (zaV 5) (zaR (zaV 6) zdg))) (sIf (orT (toB (b2 eqD (b2 zcs (vSh 0) (vC (.int 2))) (vC (.int 1)))) (toB (b2 eqD (vSh 3) (vC (.int 0))))) (zaF (zb1 3 (b2 zbF (b2 zcs (b2 zbF (vSh 3) (vSh 0)) (vC (.int 2147483629))) (vC (.int 48271)))) (zaF (zb1 3 (b2 zbF (vSh 3) (b2 zeF (b2 zeF (vC (.int 7919)) (b2 zbF (vSh 1) (vSh 5))) (b2 zbF (vSh 1) (vSh 5))))) (zaF (zb1 3 (b2 zcs (b2 zeF (vSh 3) (vSh 3)) (vC (.int 2147483587)))) (zfg 4 (b2 zcs (b2 ze5 (vSh 3) (vC (.int 16))) (vSh 6)))))) (zaF (zfg 4 (b2 zcs (vSh 3) (vSh 6))) (zb1 3 (b2 ze5 (vSh 3) (vSh 6)))))) (zi4 4 (zbj (vSh 4))))))
theorem za4:FnScope ["_law_cell_here","_law_k","_law_sizes","_law_number","_law_found","_law_turn","_law_size"] ["_law_cell_here","_law_k","_law_sizes"] (zaf zdO):=by trivial
theorem zhl (F:Dfn K mg "_law_digits" zdO) (B:Bn mg)  : Cal Γ P w K mg base "_law_digits" 3 1 (zfI) :=
 F.cal (k:=0) za4 (fun _ _ _ _ _ _ us hl=>match us,hl with | [_,_,_],_=>rfl) fun f cdv A outer s H E hr =>
  (zah (zbh 3 za4.nd (zf5 (zaB ztn rfl B.z_abs (by rfl) (zaa (zac 0) zae)) zad)) (zah (zdk 4 za4.nd (zbE zae)) (zah (zek PassesOwn.never rfl (ze6 rfl B.z_enumerate (zac 2)) (zgp (n:=2) rfl (zbx (zau 5 za4.nd) (zbx (zau 6 za4.nd) zem))) (zan (zbQ (DW.dt (zc1 (zcX zhH (zbS (zac 0) zad) zad (zb7 _)) (zcm (zcX zhH (zac 3) zad (zb7 _))))) (zah (zbh 3 za4.nd (za9 (zbS (za9 (zac 3) (zac 0)) zad) zad)) (zah (zbh 3 za4.nd (za9 (zac 3) (zeI (zeI zad (za9 (zac 1) (zac 5))) (za9 (zac 1) (zac 5))))) (zah (zbh 3 za4.nd (zbS (zeI (zac 3) (zac 3)) zad)) (zan (zbC 4 (zbS (zf5 (zac 3) zad) (zac 6))))))) (zah (zbC 4 (zbS (zac 3) (zac 6))) (zan (zbh 3 za4.nd (zf5 (zac 3) (zac 6)))))))) (zdw 4 (zan (zaz (zac 4)))))))
def zgx:FQ:=zb9 6
  (zaF (zgD 2 (szF zaj)) (zaF (zb1 3 (vC (.int 0))) (zaF (zgG (itF (vSh 0)) (zdh 2 (zaR (zaV 4) (zaR (zaV 5) zdg))) (zaF (zb1 6 (b2 zbF (vSh 3) (vSh 4))) (zaF (zb1 7 (b2 zbF (b2 zbF (vSh 6) (vC (.int 1))) (vSh 5))) (sIf (toB (b2 leD (vSh 7) (vSh 1))) (zaF (zfg 2 (zca (szF (zab (vSh 6) (zab (vSh 7) zaj))))) (zb1 3 (b2 zbF (vSh 7) (vC (.int 1))))) zcC)))) (zi4 2 (zbj (vSh 2))))))
theorem zbn:FnScope ["_law_row","_law_horizon","_law_found","_law_free","_law_begin","_law_size","_law_low","_law_high"] ["_law_row","_law_horizon"] (zaf zec):=by trivial
theorem zhO (F:Dfn K mg "_law_spans" zec) (B:Bn mg)  : Cal Γ P w K mg base "_law_spans" 2 1 (zgx) :=
 F.cal (k:=0) zbn (fun _ _ _ _ _ _ us hl=>match us,hl with | [_,_],_=>rfl) fun f cdv A outer s H E hr =>
  (zah (zdk 2 zbn.nd (zbE zae)) (zah (zbh 3 zbn.nd zad) (zah (zek PassesOwn.never rfl (zaP (zac 0)) (zgp (n:=2) rfl (zbx (zau 4 zbn.nd) (zbx (zau 5 zbn.nd) zem))) (zah (zbh 6 zbn.nd (za9 (zac 3) (zac 4))) (zah (zbh 7 zbn.nd (za9 (za9 (zac 6) zad) (zac 5))) (zan (zbQ (zcX ziN (zac 7) (zac 1) (zb7 _)) (zah (zbC 2 (zb8 (zaa (zac 6) (zaa (zac 7) zae)))) (zan (zbh 3 zbn.nd (za9 (zac 7) zad)))) zaM))))) (zdw 2 (zan (zaz (zac 2)))))))
def zhy:FQ:=zb9 1
  (zaF (zb1 1 (b2 ixD (vC (.str "abcdefghijklmnopqrstuvwxyz")) (b2 zcs (vSh 0) (vC (.int 26))))) (zbj (b2 zbF (vSh 1) (b2 zeF (b2 ixD (vC (.str "qrstuvw")) (b2 ze5 (vSh 0) (vC (.int 26)))) (b2 zcs (vSh 0) (vC (.int 4)))))))
theorem zgk:FnScope ["_law_k","_law_letter"] ["_law_k"] (zaf zeY):=by trivial
theorem ziX (F:Dfn K mg "_law_name" zeY) (B:Bn mg)  : Cal Γ P w K mg base "_law_name" 1 1 (zhy) :=
 F.cal (k:=0) zgk (fun _ _ _ _ _ _ us hl=>match us,hl with | [_],_=>rfl) fun f cdv A outer s H E hr =>
  (zah (zbh 1 zgk.nd (zas zdl (zbS (zac 0) zad))) (zan (zaz (za9 (zac 1) (zeI (zas zdl (zf5 (zac 0) zad)) (zbS (zac 0) zad))))))
def zeK (zai:FQ) (zbs:FQ) (zaq:FQ):FQ:=zb9 5
  (zaF (zgD 2 (szF zaj)) (zaF (zgG (itE (vSh 0)) (zdh 2 (zaR (zaV 3) (zaR (zaV 4) zdg))) (zaF (zb1 5 (cF zai (zab (vSh 4) (zab (vSh 3) (zab (zaX (szF (zab (vC (.int 4)) (zab (vC (.int 5)) (zab (vC (.int 3)) (zab (vC (.int 7)) (zab (vC (.int 4)) (zab (vC (.int 9)) (zab (vC (.int 5)) zaj))))))))) zaj))))) (zaF (zb1 6 (slF (zaX (szF (zab (zca (szF (zab (b2 ixD (vSh 5) (vC (.int 1))) (zab (b2 ixD (vSh 5) (vC (.int 2))) zaj)))) (zab (zca (szF (zab (b2 ixD (vSh 5) (vC (.int 3))) (zab (b2 ixD (vSh 5) (vC (.int 4))) zaj)))) (zab (zca (szF (zab (b2 ixD (vSh 5) (vC (.int 5))) (zab (b2 ixD (vSh 5) (vC (.int 6))) zaj)))) zaj))))) pN (pS (b2 ixD (vSh 5) (vC (.int 0)))))) (zfg 2 (zca (szF (zab (cF zaq (zab (b2 zbF (vC (.int 60)) (vSh 3)) zaj)) (zab (cF zbs (zab (vSh 6) (zab (vSh 1) zaj))) zaj)))))))) (zi4 2 (zbj (vSh 2)))))
theorem zbz:FnScope ["_law_cells","_law_horizon","_law_found","_law_k","_law_cell_here","_law_row","_law_spans_here"] ["_law_cells","_law_horizon"] (zaf zdp):=by trivial
theorem zgE {zai:FQ} {zbs:FQ} {zaq:FQ} (F:Dfn K mg "_law_benches" zdp) (B:Bn mg) (c__law_digits:Cal Γ P w K mg base "_law_digits" 3 1 zai) (c__law_spans:Cal Γ P w K mg base "_law_spans" 2 1 zbs) (c__law_name:Cal Γ P w K mg base "_law_name" 1 1 zaq):Cal Γ P w K mg base "_law_benches" 2 2 (zeK zai zbs zaq) :=
 F.cal (k:=1) zbz (fun _ _ _ _ _ _ us hl=>match us,hl with | [_,_],_=>rfl) fun f cdv A outer s H E hr =>
  (zah (zdk 2 zbz.nd (zbE zae)) (zah (zek PassesOwn.never rfl (ze6 rfl B.z_enumerate (zac 0)) (zgp (n:=2) rfl (zbx (zau 3 zbz.nd) (zbx (zau 4 zbz.nd) zem))) (zah (zbh 5 zbz.nd (dC c__law_digits hr (zaa (zac 4) (zaa (zac 3) (zaa (DO.de (zbE (zaa zad (zaa zad (zaa zad (zaa zad (zaa zad (zaa zad (zaa zad zae))))))))) zae))) ln3)) (zah (zbh 6 zbz.nd (zbR (DO.de (zbE (zaa (zb8 (zaa (zas (zac 5) zad) (zaa (zas (zac 5) zad) zae))) (zaa (zb8 (zaa (zas (zac 5) zad) (zaa (zas (zac 5) zad) zae))) (zaa (zb8 (zaa (zas (zac 5) zad) (zaa (zas (zac 5) zad) zae))) zae))))) zcw (zcv (zas (zac 5) zad)))) (zan (zbC 2 (zb8 (zaa (dC c__law_name hr (zaa (za9 zad (zac 3)) zae) ln1) (zaa (dC c__law_spans hr (zaa (zac 6) (zaa (zac 1) zae)) ln2) zae)))))))) (zdw 2 (zan (zaz (zac 2))))))
def zgw (zai:FQ) (zaq:FQ):FQ:=zb9 5
  (zaF (zgD 4 (szF zaj)) (zaF (zgG (itE (vSh 0)) (zdh 2 (zaR (zaV 5) (zaR (zaV 6) zdg))) (zaF (zb1 7 (cF zai (zab (vSh 6) (zab (b2 zbF (vSh 5) (vC (.int 7))) (zab (zaX (szF (zab (vC (.int 3)) (zab (cF zdS (zab (vSh 1) zaj)) (zab (vSh 3) (zab (cF zdS (zab (vSh 1) zaj)) (zab (vSh 3) (zab (vC (.int 3)) zaj)))))))) zaj))))) (zaF (zgD 8 (szF (zab (zca (szF (zab (b2 ixD (b2 ixD (vSh 1) (b2 ixD (vSh 7) (vC (.int 1)))) (vC (.int 0))) (zab (b2 zbF (vC (.int 1)) (b2 zcs (b2 ixD (vSh 7) (vC (.int 2))) (vSh 2))) zaj)))) zaj))) (zaF (sIf (zl7 (toB (b2 eqD (b2 ixD (vSh 7) (vC (.int 0))) (vC (.int 0)))) (toB (b2 neA (b2 ixD (vSh 7) (vC (.int 3))) (b2 ixD (vSh 7) (vC (.int 1)))))) (zfg 8 (zca (szF (zab (b2 ixD (b2 ixD (vSh 1) (b2 ixD (vSh 7) (vC (.int 3)))) (vC (.int 0))) (zab (b2 zbF (vC (.int 1)) (b2 zcs (b2 ixD (vSh 7) (vC (.int 4))) (vSh 2))) zaj))))) zcC) (zi4 8 (zfg 4 (zca (szF (zab (cF zaq (zab (vSh 5) zaj)) (zab (b2 ixD (vC (.str "pqr")) (b2 ixD (vSh 7) (vC (.int 5)))) (zab (vSh 8) zaj))))))))))) (zi4 4 (zbj (vSh 4)))))
theorem zbZ:FnScope ["_law_cells","_law_benches_here","_law_horizon","_law_longest","_law_found","_law_k","_law_cell_here","_law_row","_law_ways"] ["_law_cells","_law_benches_here","_law_horizon","_law_longest"] (zaf zea):=by trivial
theorem zhM {zai:FQ} {zaq:FQ} (F:Dfn K mg "_law_steps" zea) (B:Bn mg) (c__law_digits:Cal Γ P w K mg base "_law_digits" 3 1 zai) (c__law_name:Cal Γ P w K mg base "_law_name" 1 1 zaq):Cal Γ P w K mg base "_law_steps" 4 2 (zgw zai zaq) :=
 F.cal (k:=1) zbZ (fun _ _ _ _ _ _ us hl=>match us,hl with | [_,_,_,_],_=>rfl) fun f cdv A outer s H E hr =>
  (zah (zdk 4 zbZ.nd (zbE zae)) (zah (zek PassesOwn.never rfl (ze6 rfl B.z_enumerate (zac 0)) (zgp (n:=2) rfl (zbx (zau 5 zbZ.nd) (zbx (zau 6 zbZ.nd) zem))) (zah (zbh 7 zbZ.nd (dC c__law_digits hr (zaa (zac 6) (zaa (za9 (zac 5) zad) (zaa (DO.de (zbE (zaa zad (zaa (zaB zdF rfl B.z_len (by rfl) (zaa (zac 1) zae)) (zaa (zac 3) (zaa (zaB zdF rfl B.z_len (by rfl) (zaa (zac 1) zae)) (zaa (zac 3) (zaa zad zae)))))))) zae))) ln3)) (zah (zdk 8 zbZ.nd (zbE (zaa (zb8 (zaa (zas (zas (zac 1) (zas (zac 7) zad)) zad) (zaa (za9 zad (zbS (zas (zac 7) zad) (zac 2))) zae))) zae))) (zah (zbQ (DW.dt (znz (zcX zhH (zas (zac 7) zad) zad (zb7 _)) (zko (zcX (zib (zrL hr)) (zas (zac 7) zad) (zas (zac 7) zad) (zb7 _))))) (zan (zbC 8 (zb8 (zaa (zas (zas (zac 1) (zas (zac 7) zad)) zad) (zaa (za9 zad (zbS (zas (zac 7) zad) (zac 2))) zae))))) zaM) (zdw 8 (zan (zbC 4 (zb8 (zaa (dC c__law_name hr (zaa (zac 5) zae) ln1) (zaa (zas zdl (zas (zac 7) zad)) (zaa (zac 8) zae))))))))))) (zdw 4 (zan (zaz (zac 4))))))
def zhz (zai:FQ) (zaq:FQ):List D->Option (List D):=zmx 8
  (zaF (zgD 3 (szF zaj)) (zaF (zb1 4 (zaX (zaH (itF (vSh 1)) (zaV 0) tT (b2 ixD (vSh 0) (vC (.int 0))) [none]))) (zaF (zgG (itE (vSh 0)) (zdh 2 (zaR (zaV 5) (zaR (zaV 6) zdg))) (zaF (zb1 7 (cF zai (zab (vSh 6) (zab (b2 zbF (vSh 5) (vC (.int 17))) (zab (zaX (szF (zab (vC (.int 4)) (zab (vC (.int 3)) (zab (vC (.int 3)) (zab (vC (.int 2)) (zab (vC (.int 5)) (zab (vC (.int 7)) zaj)))))))) zaj))))) (zaF (zb1 8 (slF (vSh 4) pN (pS (b2 ixD (vSh 7) (vC (.int 0)))))) (zaF (zb1 4 (slF (vSh 4) (pS (b2 ixD (vSh 7) (vC (.int 0)))) pN)) (sIf (toB (b2 neA (vSh 8) (zaX (szF zaj)))) (zaF (zb1 9 (cF zm5 (zab (vSh 2) (zab (b2 zeF (b2 ixD (vSh 7) (vC (.int 1))) (cF zoS (zab (b2 eqD (b2 ixD (vSh 7) (vC (.int 2))) (vC (.int 0))) zaj))) zaj)))) (zaF (zb1 10 (cF zrI (zab (vC (.int 0)) (zab (b2 zpm (vSh 2) (b2 zeF (b2 ixD (vSh 7) (vC (.int 4))) (cF zoS (zab (b2 eqD (b2 ixD (vSh 7) (vC (.int 2))) (vC (.int 1))) zaj)))) zaj)))) (zaF (zb1 8 (b2 zbF (slF (vSh 8) (pS (b2 zcs (b2 ixD (vSh 7) (vC (.int 5))) (vC (.int 2)))) pN) (slF (vSh 8) pN (pS (b2 zcs (b2 ixD (vSh 7) (vC (.int 5))) (vC (.int 2))))))) (zfg 3 (zca (szF (zab (cF zaq (zab (b2 zbF (vC (.int 70)) (vSh 5)) zaj)) (zab (vSh 9) (zab (vSh 10) (zab (b2 eqD (b2 ixD (vSh 7) (vC (.int 3))) (vC (.int 1))) (zab (vSh 8) zaj))))))))))) zcC))))) (zlK 3))))
theorem za5:FnScope ["_law_cells","_law_steps_here","_law_horizon","_law_found","_law_left","_law_k","_law_cell_here","_law_row","_law_some","_law_early","_law_due"] ["_law_cells","_law_steps_here","_law_horizon"] (zaf zeZ):=by trivial
theorem ziY {zai:FQ} {zaq:FQ} (F:Dfn K mg "_law_jobs" zeZ) (B:Bn mg) (c__law_digits:Cal Γ P w K mg base "_law_digits" 3 1 zai) (c__law_name:Cal Γ P w K mg base "_law_name" 1 1 zaq):CalO Γ P w K mg base "_law_jobs" 3 2 (zhz zai zaq) :=
 F.calO (k:=1) za5 (fun _ _ _ _ _ _ us hl=>match us,hl with | [_,_,_],_=>rfl) fun f cdv A outer s H E hr =>
  (zah (zdk 3 za5.nd (zbE zae)) (zah (znD 4 za5.nd rfl (CompScope.of rfl rfl) (FvOk.of (N':=["_law_step"]) (fv:=[none]) rfl) (zaP (zac 1)) ⟨fun _ _ _ _ _=>⟨(zau 0 (show (["_law_step"]:List Str).Nodup by decide +kernel)),zaE,(zas (zac 0) zad)⟩⟩) (zah (zek PassesOwn.never rfl (ze6 rfl B.z_enumerate (zac 0)) (zgp (n:=2) rfl (zbx (zau 5 za5.nd) (zbx (zau 6 za5.nd) zem))) (zah (zbh 7 za5.nd (dC c__law_digits hr (zaa (zac 6) (zaa (za9 (zac 5) zad) (zaa (DO.de (zbE (zaa zad (zaa zad (zaa zad (zaa zad (zaa zad (zaa zad zae)))))))) zae))) ln3)) (zah (zbh 8 za5.nd (zbR (zac 4) zcw (zcv (zas (zac 7) zad)))) (zah (zbh 4 za5.nd (zbR (zac 4) (zcv (zas (zac 7) zad)) zcw)) (zan (zbQ (zcX (zib (zrL hr)) (zac 8) (DO.de (zbE zae)) (zb7 _)) (zah (zbh 9 za5.nd (zaB (zn3 rfl) rfl B.z_min (by rfl) (zaa (zac 2) (zaa (zeI (zas (zac 7) zad) (zbo zpk rfl B.z_int (by rfl) (zaa (zfz zhH (zas (zac 7) zad) zad (zb7 _)) zae))) zae)))) (zah (zbh 10 za5.nd (zaB (ztm rfl) rfl B.z_max (by rfl) (zaa zad (zaa (zpT (zac 2) (zeI (zas (zac 7) zad) (zbo zpk rfl B.z_int (by rfl) (zaa (zfz zhH (zas (zac 7) zad) zad (zb7 _)) zae)))) zae)))) (zah (zbh 8 za5.nd (za9 (zbR (zac 8) (zcv (zbS (zas (zac 7) zad) zad)) zcw) (zbR (zac 8) zcw (zcv (zbS (zas (zac 7) zad) zad))))) (zan (zbC 3 (zb8 (zaa (dC c__law_name hr (zaa (za9 zad (zac 5)) zae) ln1) (zaa (zac 9) (zaa (zac 10) (zaa (zfz zhH (zas (zac 7) zad) zad (zb7 _)) (zaa (zac 8) zae))))))))))) zaM)))))) (zan (znB 3)))))
def zfH (zai:FQ):FQ:=zb9 5
  (zaF (zgD 3 (szF zaj)) (zaF (zgG (itE (cF zai (zab (vSh 0) (zab (vC (.int 3)) (zab (b2 zeF (zaX (szF (zab (vC (.int 4)) zaj))) (vC (.int 6))) zaj))))) (zdh 2 (zaR (zaV 4) (zaR (zaV 5) zdg))) (zaF (zb1 6 (b2 ixD (b2 ixD (vSh 1) (b2 zcs (vSh 4) (cF zdS (zab (vSh 1) zaj)))) (vC (.int 0)))) (zaF (zb1 7 (zca (szF (zab (vSh 6) (zab (b2 ixD (vC (.str "pqr")) (b2 zcs (vSh 4) (vC (.int 3)))) (zab (b2 ixD (vC (.str "pqr")) (b2 zcs (b2 zbF (vSh 4) (vSh 5)) (vC (.int 3)))) (zab (cF zm5 (zab (vSh 2) (zab (vSh 5) zaj))) zaj))))))) (sIf (bwT 3 (zl7 (toB (b2 gtD (vSh 5) (vC (.int 0)))) (toB (b2 zhF (slF (vSh 7) pN (pS (vC (.int 3)))) (zaX (zaH (itF (vSh 3)) (zaV 0) tT (slF (vSh 0) pN (pS (vC (.int 3)))) [none])))))) (zfg 3 (vSh 7)) zcC)))) (zi4 3 (zbj (vSh 3)))))
theorem zbP:FnScope ["_law_cell_here","_law_benches_here","_law_horizon","_law_found","_law_k","_law_many","_law_bench","_law_row"] ["_law_cell_here","_law_benches_here","_law_horizon"] (zaf zdN):=by trivial
theorem zhk {zai:FQ} (F:Dfn K mg "_law_setups" zdN) (B:Bn mg) (c__law_digits:Cal Γ P w K mg base "_law_digits" 3 1 zai):Cal Γ P w K mg base "_law_setups" 3 2 (zfH zai) :=
 F.cal (k:=1) zbP (fun _ _ _ _ _ _ us hl=>match us,hl with | [_,_,_],_=>rfl) fun f cdv A outer s H E hr =>
  (zah (zdk 3 zbP.nd (zbE zae)) (zah (zek PassesOwn.never rfl (ze6 rfl B.z_enumerate (dC c__law_digits hr (zaa (zac 0) (zaa zad (zaa (zeI (DO.de (zbE (zaa zad zae))) zad) zae))) ln3)) (zgp (n:=2) rfl (zbx (zau 4 zbP.nd) (zbx (zau 5 zbP.nd) zem))) (zah (zbh 6 zbP.nd (zas (zas (zac 1) (zbS (zac 4) (zaB zdF rfl B.z_len (by rfl) (zaa (zac 1) zae)))) zad)) (zah (zbh 7 zbP.nd (zb8 (zaa (zac 6) (zaa (zas zdl (zbS (zac 4) zad)) (zaa (zas zdl (zbS (za9 (zac 4) (zac 5)) zad)) (zaa (zaB (zn3 rfl) rfl B.z_min (by rfl) (zaa (zac 2) (zaa (zac 5) zae))) zae)))))) (zan (zbQ (zs8 3 (DW.dt (znz (zcX zui (zac 5) zad (zb7 _)) (zko (zcX (znU (zpM hr)) (zbR (zac 7) zcw (zcv zad)) (DO.de (zbD rfl (CompScope.of rfl rfl) (FvOk.of (N':=["_law_one"]) (fv:=[none]) rfl) (zaP (zac 3)) ⟨fun _ _ _ _ _=>⟨(zau 0 (show (["_law_one"]:List Str).Nodup by decide +kernel)),zaE,(zbR (zac 0) zcw (zcv zad))⟩⟩)) (by rfl)))))) (zan (zbC 3 (zac 7))) zaM))))) (zdw 3 (zan (zaz (zac 3))))))
def zgz (zai:FQ):FQ:=zb9 5
  (zaF (zgD 3 (szF zaj)) (zaF (zb1 4 (cF zai (zab (vSh 0) (zab (vC (.int 5)) (zab (zaX (szF (zab (vC (.int 3)) (zab (vC (.int 9)) (zab (vC (.int 9)) (zab (vC (.int 4)) (zab (vC (.int 9)) (zab (vC (.int 9)) (zab (vC (.int 4)) zaj))))))))) zaj))))) (zaF (zgG (itR zkS (zab (b2 ixD (vSh 4) (vC (.int 0))) zaj)) (zaV 5) (zaF (zb1 6 (b2 ixD (b2 ixD (vSh 1) (b2 zcs (b2 ixD (vSh 4) (b2 zbF (vC (.int 1)) (b2 zeF (vC (.int 3)) (vSh 5)))) (cF zdS (zab (vSh 1) zaj)))) (vC (.int 0)))) (zaF (zb1 7 (b2 ixD (b2 ixD (vSh 1) (b2 zcs (b2 ixD (vSh 4) (b2 zbF (vC (.int 2)) (b2 zeF (vC (.int 3)) (vSh 5)))) (cF zdS (zab (vSh 1) zaj)))) (vC (.int 0)))) (sIf (bwT 3 (zl7 (toB (b2 neA (vSh 6) (vSh 7))) (toB (b2 zhF (zca (szF (zab (vSh 6) (zab (vSh 7) zaj)))) (zaX (zaH (itF (vSh 3)) (zaV 0) tT (slF (vSh 0) pN (pS (vC (.int 2)))) [none])))))) (zfg 3 (zca (szF (zab (vSh 6) (zab (vSh 7) (zab (cF zm5 (zab (vSh 2) (zab (b2 ixD (vSh 4) (b2 zbF (vC (.int 3)) (b2 zeF (vC (.int 3)) (vSh 5)))) zaj))) zaj)))))) zcC)))) (zi4 3 (zbj (vSh 3))))))
theorem zb0:FnScope ["_law_cell_here","_law_steps_here","_law_horizon","_law_found","_law_row","_law_k","_law_one","_law_other"] ["_law_cell_here","_law_steps_here","_law_horizon"] (zaf zee):=by trivial
theorem zhQ {zai:FQ} (F:Dfn K mg "_law_links" zee) (B:Bn mg) (c__law_digits:Cal Γ P w K mg base "_law_digits" 3 1 zai):Cal Γ P w K mg base "_law_links" 3 2 (zgz zai) :=
 F.cal (k:=1) zb0 (fun _ _ _ _ _ _ us hl=>match us,hl with | [_,_,_],_=>rfl) fun f cdv A outer s H E hr =>
  (zah (zdk 3 zb0.nd (zbE zae)) (zah (zbh 4 zb0.nd (dC c__law_digits hr (zaa (zac 0) (zaa zad (zaa (DO.de (zbE (zaa zad (zaa zad (zaa zad (zaa zad (zaa zad (zaa zad (zaa zad zae))))))))) zae))) ln3)) (zah (zek PassesOwn.never rfl (zel rfl B.z_range (zaa (zas (zac 4) zad) zae)) (zau 5 zb0.nd) (zah (zbh 6 zb0.nd (zas (zas (zac 1) (zbS (zas (zac 4) (za9 zad (zeI zad (zac 5)))) (zaB zdF rfl B.z_len (by rfl) (zaa (zac 1) zae)))) zad)) (zah (zbh 7 zb0.nd (zas (zas (zac 1) (zbS (zas (zac 4) (za9 zad (zeI zad (zac 5)))) (zaB zdF rfl B.z_len (by rfl) (zaa (zac 1) zae)))) zad)) (zan (zbQ (zs8 3 (DW.dt (znz (zcX (zib (zrL hr)) (zac 6) (zac 7) (zb7 _)) (zko (zcX (znU (zpM hr)) (zb8 (zaa (zac 6) (zaa (zac 7) zae))) (DO.de (zbD rfl (CompScope.of rfl rfl) (FvOk.of (N':=["_law_link"]) (fv:=[none]) rfl) (zaP (zac 3)) ⟨fun _ _ _ _ _=>⟨(zau 0 (show (["_law_link"]:List Str).Nodup by decide +kernel)),zaE,(zbR (zac 0) zcw (zcv zad))⟩⟩)) (by rfl)))))) (zan (zbC 3 (zb8 (zaa (zac 6) (zaa (zac 7) (zaa (zaB (zn3 rfl) rfl B.z_min (by rfl) (zaa (zac 2) (zaa (zas (zac 4) (za9 zad (zeI zad (zac 5)))) zae))) zae)))))) zaM))))) (zdw 3 (zan (zaz (zac 3)))))))
def zfG (zai:FQ) (zaq:FQ):List D->Option (List D):=zmx 6
  (zaF (zb1 2 (cF zai (zab (vSh 0) (zab (vC (.int 9)) (zab (zaX (szF (zab (vC (.int 3)) (zab (vC (.int 4)) (zab (vC (.int 5)) (zab (vC (.int 8)) (zab (vC (.int 8)) (zab (vC (.int 4)) (zab (vC (.int 4)) zaj))))))))) zaj))))) (zaF (zgD 3 (szF zaj)) (zaF (zgG (itR zkS (zab (b2 ixD (vSh 2) (vC (.int 0))) zaj)) (zaV 4) (zaF (zb1 5 (b2 zbF (b2 ixD (vSh 2) (vC (.int 1))) (b2 ixD (vSh 2) (vC (.int 2))))) (zaF (zb1 6 (zaX (zaH (itE (vSh 1)) (zdh 2 (zaR (zaV 0) (zaR (zaV 1) zdg))) (toB (b2 eqD (b2 zcs (b2 ze5 (b2 zbF (b2 ixD (vSh 2) (vC (.int 3))) (vSh 3)) (b2 ixD (zaX (szF (zab (vC (.int 1)) (zab (vC (.int 2)) (zab (vC (.int 4)) zaj))))) (b2 zcs (vSh 0) (vC (.int 3))))) (vC (.int 2))) (vC (.int 1)))) (zca (szF (zab (b2 ixD (vSh 1) (vC (.int 0))) (zab (b2 zbF (vC (.int 1)) (b2 ixD (vSh 2) (vC (.int 5)))) zaj)))) [none,none,some 2,some 4]))) (zaF (zb1 7 (zaX (zaH (itE (vSh 1)) (zdh 2 (zaR (zaV 0) (zaR (zaV 1) zdg))) (toB (b2 eqD (b2 zcs (b2 ze5 (b2 zbF (b2 ixD (vSh 2) (vC (.int 4))) (vSh 3)) (b2 ixD (zaX (szF (zab (vC (.int 1)) (zab (vC (.int 2)) (zab (vC (.int 4)) zaj))))) (b2 zcs (vSh 0) (vC (.int 3))))) (vC (.int 2))) (vC (.int 1)))) (zca (szF (zab (b2 ixD (vSh 1) (vC (.int 0))) (zab (b2 zbF (vC (.int 1)) (b2 ixD (vSh 2) (vC (.int 6)))) zaj)))) [none,none,some 2,some 4]))) (zfg 3 (zca (szF (zab (cF zaq (zab (b2 zbF (vC (.int 80)) (vSh 4)) zaj)) (zab (b2 ixD (vSh 2) (vC (.int 1))) (zab (vSh 5) (zab (vSh 6) (zab (vSh 7) zaj)))))))))))) (zlK 3))))
theorem zbu:FnScope ["_law_cell_here","_law_steps_here","_law_row","_law_found","_law_k","_law_room","_law_takes","_law_puts"] ["_law_cell_here","_law_steps_here"] (zaf zdM):=by trivial
theorem zhj {zai:FQ} {zaq:FQ} (F:Dfn K mg "_law_stocks" zdM) (B:Bn mg) (c__law_digits:Cal Γ P w K mg base "_law_digits" 3 1 zai) (c__law_name:Cal Γ P w K mg base "_law_name" 1 1 zaq):CalO Γ P w K mg base "_law_stocks" 2 2 (zfG zai zaq) :=
 F.calO (k:=1) zbu (fun _ _ _ _ _ _ us hl=>match us,hl with | [_,_],_=>rfl) fun f cdv A outer s H E hr =>
  (zah (zbh 2 zbu.nd (dC c__law_digits hr (zaa (zac 0) (zaa zad (zaa (DO.de (zbE (zaa zad (zaa zad (zaa zad (zaa zad (zaa zad (zaa zad (zaa zad zae))))))))) zae))) ln3)) (zah (zdk 3 zbu.nd (zbE zae)) (zah (zek PassesOwn.never rfl (zel rfl B.z_range (zaa (zas (zac 2) zad) zae)) (zau 4 zbu.nd) (zah (zbh 5 zbu.nd (za9 (zas (zac 2) zad) (zas (zac 2) zad))) (zah (znD 6 zbu.nd rfl (CompScope.of rfl rfl) (FvOk.of (N':=["_law_j","_law_step","_law_row","_law_k"]) (fv:=[none,none,some 2,some 4]) rfl) (ze6 rfl B.z_enumerate (zac 1)) ⟨fun _ _ _ _ _=>⟨(zgp (n:=2) rfl (zbx (zau 0 (show (["_law_j","_law_step","_law_row","_law_k"]:List Str).Nodup by decide +kernel)) (zbx (zau 1 (show (["_law_j","_law_step","_law_row","_law_k"]:List Str).Nodup by decide +kernel)) zem))),(znA (zcX zhH (zbS (zf5 (za9 (zas (zac 2) zad) (zac 3)) (zas (DO.de (zbE (zaa zad (zaa zad (zaa zad zae))))) (zbS (zac 0) zad))) zad) zad (zb7 _))),(zb8 (zaa (zas (zac 1) zad) (zaa (za9 zad (zas (zac 2) zad)) zae)))⟩⟩) (zah (znD 7 zbu.nd rfl (CompScope.of rfl rfl) (FvOk.of (N':=["_law_j","_law_step","_law_row","_law_k"]) (fv:=[none,none,some 2,some 4]) rfl) (ze6 rfl B.z_enumerate (zac 1)) ⟨fun _ _ _ _ _=>⟨(zgp (n:=2) rfl (zbx (zau 0 (show (["_law_j","_law_step","_law_row","_law_k"]:List Str).Nodup by decide +kernel)) (zbx (zau 1 (show (["_law_j","_law_step","_law_row","_law_k"]:List Str).Nodup by decide +kernel)) zem))),(znA (zcX zhH (zbS (zf5 (za9 (zas (zac 2) zad) (zac 3)) (zas (DO.de (zbE (zaa zad (zaa zad (zaa zad zae))))) (zbS (zac 0) zad))) zad) zad (zb7 _))),(zb8 (zaa (zas (zac 1) zad) (zaa (za9 zad (zas (zac 2) zad)) zae)))⟩⟩) (zan (zbC 3 (zb8 (zaa (dC c__law_name hr (zaa (za9 zad (zac 4)) zae) ln1) (zaa (zas (zac 2) zad) (zaa (zac 5) (zaa (zac 6) (zaa (zac 7) zae)))))))))))) (zan (znB 3)))))
def zgy (zav:FQ) (zbg:FQ) (zbJ:FQ) (zbX:List D->Option (List D)) (zbt:FQ) (zbK:FQ) (zbr:List D->Option (List D)):List D->Option (List D):=zr6 6
  (zaF (zb1 4 (cF zbg (zab (zaX (zaH (itR zkS (zab (b2 zbF (vC (.int 1)) (b2 zcs (cF zav (zab (vSh 0) (zab (vC (.int 0)) zaj))) (vC (.int 3)))) zaj)) (zaV 0) tT (cF zav (zab (vSh 1) (zab (b2 zbF (vC (.int 1)) (vSh 0)) zaj))) [none,some 0])) (zab (vSh 2) zaj)))) (zaF (zb1 5 (cF zbJ (zab (zaX (zaH (itR zkS (zab (vSh 1) zaj)) (zaV 0) tT (cF zav (zab (vSh 1) (zab (b2 zbF (vC (.int 4)) (vSh 0)) zaj))) [none,some 0])) (zab (vSh 4) (zab (vSh 2) (zab (vSh 3) zaj)))))) (zaF (zgD 6 (cFO zbX (zab (zaX (zaH (itR zkS (zab (vC (.int 3)) zaj)) (zaV 0) tT (cF zav (zab (vSh 1) (zab (b2 zbF (vC (.int 14)) (vSh 0)) zaj))) [none,some 0])) (zab (vSh 5) (zab (vSh 2) zaj))))) (zaF (zb1 7 (cF zbt (zab (cF zav (zab (vSh 0) (zab (vC (.int 17)) zaj))) (zab (vSh 4) (zab (vSh 2) zaj))))) (zaF (zb1 8 (cF zbK (zab (cF zav (zab (vSh 0) (zab (vC (.int 18)) zaj))) (zab (vSh 5) (zab (vSh 2) zaj))))) (zgD 9 (cFO zbr (zab (cF zav (zab (vSh 0) (zab (vC (.int 19)) zaj))) (zab (vSh 5) zaj))))))))) (ztH 4 5 6 7 8 9 2)
theorem zbL:FnScope ["_law_script","_law_many","_law_horizon","_law_longest","_law_benches_here","_law_steps_here","_law_jobs_here","_law_setups_here","_law_links_here","_law_stocks_here"] ["_law_script","_law_many","_law_horizon","_law_longest"] (zaf zed):=by trivial
theorem zhP {zav:FQ} {zbg:FQ} {zbJ:FQ} {zbX:List D->Option (List D)} {zbt:FQ} {zbK:FQ} {zbr:List D->Option (List D)} (F:Dfn K mg "_law_lists" zed) (B:Bn mg) (c__law_cell:Cal Γ P w K mg base "_law_cell" 2 1 zav) (c__law_benches:Cal Γ P w K mg base "_law_benches" 2 2 zbg) (c__law_steps:Cal Γ P w K mg base "_law_steps" 4 2 zbJ) (c__law_jobs:CalO Γ P w K mg base "_law_jobs" 3 2 zbX) (c__law_setups:Cal Γ P w K mg base "_law_setups" 3 2 zbt) (c__law_links:Cal Γ P w K mg base "_law_links" 3 2 zbK) (c__law_stocks:CalO Γ P w K mg base "_law_stocks" 2 2 zbr):CalSep Γ P w K mg base "_law_lists" 4 3 (zgy zav zbg zbJ zbX zbt zbK zbr) :=
 F.calSep (k:=2) zbL (fun _ _ _ _ _ _ us hl=>match us,hl with | [_,_,_,_],_=>rfl) fun f cdv A outer s H E hr =>
  (zjl (zbh 4 zbL.nd (dC c__law_benches hr (zaa (DO.de (zbD rfl (CompScope.of rfl rfl) (FvOk.of (N':=["_law_k","_law_script"]) (fv:=[none,some 0]) rfl) (zel rfl B.z_range (zaa (za9 zad (zbS (dC c__law_cell hr (zaa (zac 0) (zaa zad zae)) ln2) zad)) zae)) ⟨fun _ _ _ _ _=>⟨(zau 0 (show (["_law_k","_law_script"]:List Str).Nodup by decide +kernel)),zaE,(dC c__law_cell hr (zaa (zac 1) (zaa (za9 zad (zac 0)) zae)) ln2)⟩⟩)) (zaa (zac 2) zae)) ln2)) (zjl (zbh 5 zbL.nd (dC c__law_steps hr (zaa (DO.de (zbD rfl (CompScope.of rfl rfl) (FvOk.of (N':=["_law_k","_law_script"]) (fv:=[none,some 0]) rfl) (zel rfl B.z_range (zaa (zac 1) zae)) ⟨fun _ _ _ _ _=>⟨(zau 0 (show (["_law_k","_law_script"]:List Str).Nodup by decide +kernel)),zaE,(dC c__law_cell hr (zaa (zac 1) (zaa (za9 zad (zac 0)) zae)) ln2)⟩⟩)) (zaa (zac 4) (zaa (zac 2) (zaa (zac 3) zae)))) ln4)) (zjl (zdk 6 zbL.nd (zlq c__law_jobs hr (by decide) rfl (zaa (DO.de (zbD rfl (CompScope.of rfl rfl) (FvOk.of (N':=["_law_k","_law_script"]) (fv:=[none,some 0]) rfl) (zel rfl B.z_range (zaa zad zae)) ⟨fun _ _ _ _ _=>⟨(zau 0 (show (["_law_k","_law_script"]:List Str).Nodup by decide +kernel)),zaE,(dC c__law_cell hr (zaa (zac 1) (zaa (za9 zad (zac 0)) zae)) ln2)⟩⟩)) (zaa (zac 5) (zaa (zac 2) zae))) ln3)) (zjl (zbh 7 zbL.nd (dC c__law_setups hr (zaa (dC c__law_cell hr (zaa (zac 0) (zaa zad zae)) ln2) (zaa (zac 4) (zaa (zac 2) zae))) ln3)) (zjl (zbh 8 zbL.nd (dC c__law_links hr (zaa (dC c__law_cell hr (zaa (zac 0) (zaa zad zae)) ln2) (zaa (zac 5) (zaa (zac 2) zae))) ln3)) (zsj (zdk 9 zbL.nd (zlq c__law_stocks hr (by decide) rfl (zaa (dC c__law_cell hr (zaa (zac 0) (zaa zad zae)) ln2) (zaa (zac 5) zae)) ln2)) (zcJ ((zgl (zk1 (zaK (pv 4) (zaK (pv 5) (zaK (pv 6) (zaK (pv 7) (zaK (pv 8) (zaK (pv 9) (zaK (pv 2) zbT))))))))).imp (zqg (by decide))))))))))
def zhv:FQ:=zb9 1
  (zaF (zgD 1 (szF (zab (zaX (zaH (itF (b2 ixD (vSh 0) (vC (.int 0)))) (zaV 0) tT (zca (szF (zab (b2 ixD (vSh 0) (vC (.int 0))) (zab (cF zei (zab (b2 ixD (vSh 0) (vC (.int 1))) zaj)) zaj)))) [none])) zaj))) (zaF (zfg 1 (zaX (zaH (itF (b2 ixD (vSh 0) (vC (.int 1)))) (zaV 0) tT (b2 zhR (slF (vSh 0) pN (pS (vC (.int 2)))) (zca (szF (zab (cF zei (zab (b2 ixD (vSh 0) (vC (.int 2))) zaj)) zaj)))) [none]))) (zaF (zfg 1 (zaX (zaH (itF (b2 ixD (vSh 0) (vC (.int 2)))) (zaV 0) tT (b2 zhR (slF (vSh 0) pN (pS (vC (.int 4)))) (zca (szF (zab (cF zei (zab (b2 ixD (vSh 0) (vC (.int 4))) zaj)) zaj)))) [none]))) (zi4 1 (zaF (zgD 1 (zto (vSh 1) (zaX (szF (zab (cF zei (zab (b2 ixD (vSh 0) (vC (.int 3))) zaj)) (zab (cF zei (zab (b2 ixD (vSh 0) (vC (.int 4))) zaj)) zaj)))))) (zaF (zfg 1 (zaX (zaH (itF (b2 ixD (vSh 0) (vC (.int 5)))) (zaV 0) tT (b2 zhR (slF (vSh 0) pN (pS (vC (.int 3)))) (zca (szF (zab (cF zei (zab (b2 ixD (vSh 0) (vC (.int 3))) zaj)) (zab (cF zei (zab (b2 ixD (vSh 0) (vC (.int 4))) zaj)) zaj))))) [none]))) (zi4 1 (zbj (b2 zbF (vSh 1) (zaX (szF (zab (b2 ixD (vSh 0) (vC (.int 6))) zaj))))))))))))
theorem zd5:FnScope ["_law_lists_here","_law_found"] ["_law_lists_here"] (zaf zeV):=by trivial
theorem ziU (F:Dfn K mg "_law_twin" zeV) (B:Bn mg)  : Cal Γ P w K mg base "_law_twin" 1 1 (zhv) :=
 F.cal (k:=0) zd5 (fun _ _ _ _ _ _ us hl=>match us,hl with | [_],_=>rfl) fun f cdv A outer s H E hr =>
  (zah (zdk 1 zd5.nd (zbE (zaa (DO.de (zbD rfl (CompScope.of rfl rfl) (FvOk.of (N':=["_law_row"]) (fv:=[none]) rfl) (zaP (zas (zac 0) zad)) ⟨fun _ _ _ _ _=>⟨(zau 0 (show (["_law_row"]:List Str).Nodup by decide +kernel)),zaE,(zb8 (zaa (zas (zac 0) zad) (zaa (zbo zeM rfl B.z_list (by rfl) (zaa (zas (zac 0) zad) zae)) zae)))⟩⟩)) zae))) (zah (zbC 1 (DO.de (zbD rfl (CompScope.of rfl rfl) (FvOk.of (N':=["_law_row"]) (fv:=[none]) rfl) (zaP (zas (zac 0) zad)) ⟨fun _ _ _ _ _=>⟨(zau 0 (show (["_law_row"]:List Str).Nodup by decide +kernel)),zaE,(zkt (zbR (zac 0) zcw (zcv zad)) (zb8 (zaa (zbo zeM rfl B.z_list (by rfl) (zaa (zas (zac 0) zad) zae)) zae)))⟩⟩))) (zah (zbC 1 (DO.de (zbD rfl (CompScope.of rfl rfl) (FvOk.of (N':=["_law_row"]) (fv:=[none]) rfl) (zaP (zas (zac 0) zad)) ⟨fun _ _ _ _ _=>⟨(zau 0 (show (["_law_row"]:List Str).Nodup by decide +kernel)),zaE,(zkt (zbR (zac 0) zcw (zcv zad)) (zb8 (zaa (zbo zeM rfl B.z_list (by rfl) (zaa (zas (zac 0) zad) zae)) zae)))⟩⟩))) (zdw 1 (zah (zdk 1 zd5.nd (zta (zac 1) (DO.de (zbE (zaa (zbo zeM rfl B.z_list (by rfl) (zaa (zas (zac 0) zad) zae)) (zaa (zbo zeM rfl B.z_list (by rfl) (zaa (zas (zac 0) zad) zae)) zae)))))) (zah (zbC 1 (DO.de (zbD rfl (CompScope.of rfl rfl) (FvOk.of (N':=["_law_row"]) (fv:=[none]) rfl) (zaP (zas (zac 0) zad)) ⟨fun _ _ _ _ _=>⟨(zau 0 (show (["_law_row"]:List Str).Nodup by decide +kernel)),zaE,(zkt (zbR (zac 0) zcw (zcv zad)) (zb8 (zaa (zbo zeM rfl B.z_list (by rfl) (zaa (zas (zac 0) zad) zae)) (zaa (zbo zeM rfl B.z_list (by rfl) (zaa (zas (zac 0) zad) zae)) zae))))⟩⟩))) (zdw 1 (zan (zaz (za9 (zac 1) (DO.de (zbE (zaa (zas (zac 0) zad) zae)))))))))))))
def zf8:FQ:=zb9 0
  (zbj (zeJ (cF zfZ (zab (vSh 0) (zab (vC (.ty "int")) zaj))) (ztx (cF zfZ (zab (vSh 0) (zab (vC (.ty "bool")) zaj))))))
theorem zj0:FnScope ["thing"] ["thing"] (zaf zfM):=by trivial
theorem zjF (F:Dfn K mg "is_whole" zfM) (B:Bn mg)  : Cal Γ P w K mg base "is_whole" 1 1 (zf8) :=
 F.cal (k:=0) zj0 (fun _ _ _ _ _ _ us hl=>match us,hl with | [_],_=>rfl) fun f cdv A outer s H E hr =>
  (zan (zaz (zcQ (zaB zep rfl B.z_isinstance (by rfl) (zaa (zac 0) (zaa (zhd rfl B.z_int (by rfl)) zae))) (zdE (zte (zaB zep rfl B.z_isinstance (by rfl) (zaa (zac 0) (zaa (zhd rfl B.z_bool (by rfl)) zae))))))))
def zfc (zb2:FQ):FQ:=zb9 0
  (zbj (zeJ (cF zb2 (zab (vSh 0) zaj)) (chD leD leD (vSh 1) (vSh 0) (vSh 2))))
theorem zje:FnScope ["thing","least","most"] ["thing","least","most"] (zaf zeQ):=by trivial
theorem ziP {zb2:FQ} (F:Dfn K mg "is_within" zeQ) (B:Bn mg) (c_is_whole:Cal Γ P w K mg base "is_whole" 1 1 zb2):Cal Γ P w K mg base "is_within" 3 2 (zfc zb2) :=
 F.cal (k:=1) zje (fun _ _ _ _ _ _ us hl=>match us,hl with | [_,_,_],_=>rfl) fun f cdv A outer s H E hr =>
  (zan (zaz (zcQ (dC c_is_whole hr (zaa (zac 0) zae) ln1) (zdE (ziJ ziN ziN (zac 1) (zac 0) (zac 2))))))
def zf9:FQ:=zb9 0
  (zbj (zeJ (cF zfZ (zab (vSh 0) (zab (vC (.ty "tuple")) zaj))) (b2 eqD (cF zdS (zab (vSh 0) zaj)) (vSh 1))))
theorem zj1:FnScope ["thing","many"] ["thing","many"] (zaf zfN):=by trivial
theorem zjG (F:Dfn K mg "is_tuple" zfN) (B:Bn mg)  : Cal Γ P w K mg base "is_tuple" 2 1 (zf9) :=
 F.cal (k:=0) zj1 (fun _ _ _ _ _ _ us hl=>match us,hl with | [_,_],_=>rfl) fun f cdv A outer s H E hr =>
  (zan (zaz (zcQ (zaB zep rfl B.z_isinstance (by rfl) (zaa (zac 0) (zaa (zhd rfl B.z_tuple (by rfl)) zae))) (zdE (zfz zhH (zaB zdF rfl B.z_len (by rfl) (zaa (zac 0) zae)) (zac 1) (zb7 _))))))
def zgc (zak:FQ) (zal:FQ):FQ:=zb9 0
  (zaF (sIf (orT (zci (toB (cF zal (zab (vSh 0) (zab (vC (.int 2)) zaj))))) (orT (zci (toB (cF zak (zab (b2 ixD (vSh 0) (vC (.int 0))) (zab (vC (.int 0)) (zab (vSh 1) zaj)))))) (zci (toB (cF zak (zab (b2 ixD (vSh 0) (vC (.int 1))) (zab (vC (.int 0)) (zab (vSh 1) zaj)))))))) (zbj (vC (.bl false))) zcC) (zbj (b2 ltD (b2 ixD (vSh 0) (vC (.int 0))) (b2 ixD (vSh 0) (vC (.int 1))))))
theorem zj4:FnScope ["row","horizon"] ["row","horizon"] (zaf zfQ):=by trivial
theorem zjJ {zak:FQ} {zal:FQ} (F:Dfn K mg "is_break" zfQ) (B:Bn mg) (c_is_within:Cal Γ P w K mg base "is_within" 3 2 zak) (c_is_tuple:Cal Γ P w K mg base "is_tuple" 2 1 zal):Cal Γ P w K mg base "is_break" 2 3 (zgc zak zal) :=
 F.cal (k:=2) zj4 (fun _ _ _ _ _ _ us hl=>match us,hl with | [_,_],_=>rfl) fun f cdv A outer s H E hr =>
  (zah (zbQ (DW.dt (zc1 (zaN (zaI (dC c_is_tuple hr (zaa (zac 0) (zaa zad zae)) ln2))) (zc1 (zaN (zaI (dC c_is_within hr (zaa (zas (zac 0) zad) (zaa zad (zaa (zac 1) zae))) ln3))) (zcm (zaN (zaI (dC c_is_within hr (zaa (zas (zac 0) zad) (zaa zad (zaa (zac 1) zae))) ln3))))))) (zan (zaz zd1)) zaM) (zan (zaz (zfz zrr (zas (zac 0) zad) (zas (zac 0) zad) (zb7 _)))))
def zhr:FQ:=zb9 0
  (zbj (zeJ (cF zfZ (zab (vSh 0) (zab (vC (.ty "list")) zaj))) (chD leD leD (vSh 1) (cF zdS (zab (vSh 0) zaj)) (vSh 2))))
theorem zlH:FnScope ["thing","least","most"] ["thing","least","most"] (zaf zgP):=by trivial
theorem zky (F:Dfn K mg "is_list" zgP) (B:Bn mg)  : Cal Γ P w K mg base "is_list" 3 1 (zhr) :=
 F.cal (k:=0) zlH (fun _ _ _ _ _ _ us hl=>match us,hl with | [_,_,_],_=>rfl) fun f cdv A outer s H E hr =>
  (zan (zaz (zcQ (zaB zep rfl B.z_isinstance (by rfl) (zaa (zac 0) (zaa (zhd rfl B.z_list (by rfl)) zae))) (zdE (ziJ ziN ziN (zac 1) (zaB zdF rfl B.z_len (by rfl) (zaa (zac 0) zae)) (zac 2))))))
def zgv (zb5:FQ) (zap:FQ):FQ:=zb9 0
  (zaF (sIf (orT (zci (toB (cF zap (zab (vSh 0) (zab (vC (.int 0)) (zab (vC (.int 10)) zaj)))))) (zci (toB (cF zjR (zab (zaX (zaH (itF (vSh 0)) (zaV 0) tT (cF zb5 (zab (vSh 0) (zab (vSh 1) zaj))) [none,some 1])) zaj))))) (zbj (vC (.bl false))) zcC) (zbj (cF zjR (zab (zaX (zaH (itR zqk (zab (vC (.int 1)) (zab (cF zdS (zab (vSh 0) zaj)) zaj))) (zaV 0) tT (b2 ltD (b2 ixD (b2 ixD (vSh 1) (b2 zpm (vSh 0) (vC (.int 1)))) (vC (.int 1))) (b2 ixD (b2 ixD (vSh 1) (vSh 0)) (vC (.int 0)))) [none,some 0])) zaj))))
theorem zio:FnScope ["breaks","horizon"] ["breaks","horizon"] (zaf zd9):=by trivial
theorem zhL {zb5:FQ} {zap:FQ} (F:Dfn K mg "are_breaks" zd9) (B:Bn mg) (c_is_break:Cal Γ P w K mg base "is_break" 2 3 zb5) (c_is_list:Cal Γ P w K mg base "is_list" 3 1 zap):Cal Γ P w K mg base "are_breaks" 2 4 (zgv zb5 zap) :=
 F.cal (k:=3) zio (fun _ _ _ _ _ _ us hl=>match us,hl with | [_,_],_=>rfl) fun f cdv A outer s H E hr =>
  (zah (zbQ (DW.dt (zc1 (zaN (zaI (dC c_is_list hr (zaa (zac 0) (zaa zad (zaa (zce rfl B.c_MOST_BREAKS) zae))) ln3))) (zcm (zaN (zaI (zaB (zdX rfl) rfl B.z_all (by rfl) (zaa (DO.de (zbD rfl (CompScope.of rfl rfl) (FvOk.of (N':=["row","horizon"]) (fv:=[none,some 1]) rfl) (zaP (zac 0)) ⟨fun _ _ _ _ _=>⟨(zau 0 (show (["row","horizon"]:List Str).Nodup by decide +kernel)),zaE,(dC c_is_break hr (zaa (zac 0) (zaa (zac 1) zae)) ln2)⟩⟩)) zae))))))) (zan (zaz zd1)) zaM) (zan (zaz (zaB (zdX rfl) rfl B.z_all (by rfl) (zaa (DO.de (zbD rfl (CompScope.of rfl rfl) (FvOk.of (N':=["place","breaks"]) (fv:=[none,some 0]) rfl) (znK rfl B.z_range (zaa zad (zaa (zaB zdF rfl B.z_len (by rfl) (zaa (zac 0) zae)) zae))) ⟨fun _ _ _ _ _=>⟨(zau 0 (show (["place","breaks"]:List Str).Nodup by decide +kernel)),zaE,(zfz zrr (zas (zas (zac 1) (zpT (zac 0) zad)) zad) (zas (zas (zac 1) (zac 0)) zad) (zb7 _))⟩⟩)) zae)))))
def zjS:FQ:=zb9 0
  (zaF (sIf (orT (zci (toB (cF zfZ (zab (vSh 0) (zab (vC (.ty "str")) zaj))))) (zci (toB (chD leD leD (vC (.int 1)) (cF zdS (zab (vSh 0) zaj)) (vC (.int 8)))))) (zbj (vC (.bl false))) zcC) (zbj (cF zjR (zab (zaX (zaH (itS (vSh 0)) (zaV 0) tT (chD leD leD (vC (.str "a")) (vSh 0) (vC (.str "z"))) [none])) zaj))))
theorem zlG:FnScope ["thing"] ["thing"] (zaf zgO):=by trivial
theorem zkx (F:Dfn K mg "is_name" zgO) (B:Bn mg)  : Cal Γ P w K mg base "is_name" 1 1 (zjS) :=
 F.cal (k:=0) zlG (fun _ _ _ _ _ _ us hl=>match us,hl with | [_],_=>rfl) fun f cdv A outer s H E hr =>
  (zah (zbQ (DW.dt (zc1 (zaN (zaI (zaB zep rfl B.z_isinstance (by rfl) (zaa (zac 0) (zaa (zhd rfl B.z_str (by rfl)) zae))))) (zcm (zaN (zoY ziN ziN zad (zaB zdF rfl B.z_len (by rfl) (zaa (zac 0) zae)) (zce rfl B.c_LONGEST_NAME)))))) (zan (zaz zd1)) zaM) (zan (zaz (zaB (zdX rfl) rfl B.z_all (by rfl) (zaa (DO.de (zbD rfl (CompScope.of rfl rfl) (FvOk.of (N':=["sign"]) (fv:=[none]) rfl) (ztc (zac 0)) ⟨fun _ _ _ _ _=>⟨(zau 0 (show (["sign"]:List Str).Nodup by decide +kernel)),zaE,(ziJ ziN ziN zdl (zac 0) zdl)⟩⟩)) zae)))))
def zgd (zbI:FQ) (zaw:FQ) (zal:FQ):FQ:=zb9 0
  (zbj (zeJ (cF zal (zab (vSh 0) (zab (vC (.int 2)) zaj))) (zeJ (cF zaw (zab (b2 ixD (vSh 0) (vC (.int 0))) zaj)) (cF zbI (zab (b2 ixD (vSh 0) (vC (.int 1))) (zab (vSh 1) zaj))))))
theorem zj5:FnScope ["row","horizon"] ["row","horizon"] (zaf zfR):=by trivial
theorem zjK {zbI:FQ} {zaw:FQ} {zal:FQ} (F:Dfn K mg "is_bench" zfR) (B:Bn mg) (c_are_breaks:Cal Γ P w K mg base "are_breaks" 2 4 zbI) (c_is_name:Cal Γ P w K mg base "is_name" 1 1 zaw) (c_is_tuple:Cal Γ P w K mg base "is_tuple" 2 1 zal):Cal Γ P w K mg base "is_bench" 2 5 (zgd zbI zaw zal) :=
 F.cal (k:=4) zj5 (fun _ _ _ _ _ _ us hl=>match us,hl with | [_,_],_=>rfl) fun f cdv A outer s H E hr =>
  (zan (zaz (zcQ (dC c_is_tuple hr (zaa (zac 0) (zaa zad zae)) ln2) (zcQ (dC c_is_name hr (zaa (zas (zac 0) zad) zae) ln1) (zdE (dC c_are_breaks hr (zaa (zas (zac 0) zad) (zaa (zac 1) zae)) ln2))))))
def zcR:FQ:=zb9 0
  (zbj (b2 eqD (b1 zfY (vSh 0)) (cF zdS (zab (vSh 0) zaj))))
theorem zil:FnScope ["things"] ["things"] (zaf zd6):=by trivial
theorem zhI (F:Dfn K mg "are_unlike" zd6) (B:Bn mg)  : Cal Γ P w K mg base "are_unlike" 1 1 (zcR) :=
 F.cal (k:=0) zil (fun _ _ _ _ _ _ us hl=>match us,hl with | [_],_=>rfl) fun f cdv A outer s H E hr =>
  (zan (zaz (zfz zhH (znO rfl (zpM hr) rfl B.z_len rfl B.z_set (zac 0)) (zaB zdF rfl B.z_len (by rfl) (zaa (zac 0) zae)) (zb7 _))))
def zfE (zb6:FQ) (zap:FQ) (zag:FQ):FQ:=zb9 0
  (zaF (sIf (orT (zci (toB (cF zap (zab (vSh 0) (zab (vC (.int 1)) (zab (vC (.int 8)) zaj)))))) (zci (toB (cF zjR (zab (zaX (zaH (itF (vSh 0)) (zaV 0) tT (cF zb6 (zab (vSh 0) (zab (vSh 1) zaj))) [none,some 1])) zaj))))) (zbj (vC (.bl false))) zcC) (zbj (cF zag (zab (zaX (zaH (itF (vSh 0)) (zaV 0) tT (b2 ixD (vSh 0) (vC (.int 0))) [none])) zaj))))
theorem zhC:FnScope ["benches","horizon"] ["benches","horizon"] (zaf zdK):=by trivial
theorem zhh {zb6:FQ} {zap:FQ} {zag:FQ} (F:Dfn K mg "are_benches" zdK) (B:Bn mg) (c_is_bench:Cal Γ P w K mg base "is_bench" 2 5 zb6) (c_is_list:Cal Γ P w K mg base "is_list" 3 1 zap) (c_are_unlike:Cal Γ P w K mg base "are_unlike" 1 1 zag):Cal Γ P w K mg base "are_benches" 2 6 (zfE zb6 zap zag) :=
 F.cal (k:=5) zhC (fun _ _ _ _ _ _ us hl=>match us,hl with | [_,_],_=>rfl) fun f cdv A outer s H E hr =>
  (zah (zbQ (DW.dt (zc1 (zaN (zaI (dC c_is_list hr (zaa (zac 0) (zaa zad (zaa (zce rfl B.c_MOST_BENCHES) zae))) ln3))) (zcm (zaN (zaI (zaB (zdX rfl) rfl B.z_all (by rfl) (zaa (DO.de (zbD rfl (CompScope.of rfl rfl) (FvOk.of (N':=["row","horizon"]) (fv:=[none,some 1]) rfl) (zaP (zac 0)) ⟨fun _ _ _ _ _=>⟨(zau 0 (show (["row","horizon"]:List Str).Nodup by decide +kernel)),zaE,(dC c_is_bench hr (zaa (zac 0) (zaa (zac 1) zae)) ln2)⟩⟩)) zae))))))) (zan (zaz zd1)) zaM) (zan (zaz (dC c_are_unlike hr (zaa (DO.de (zbD rfl (CompScope.of rfl rfl) (FvOk.of (N':=["row"]) (fv:=[none]) rfl) (zaP (zac 0)) ⟨fun _ _ _ _ _=>⟨(zau 0 (show (["row"]:List Str).Nodup by decide +kernel)),zaE,(zas (zac 0) zad)⟩⟩)) zae) ln1))))
def zfd (zaw:FQ):FQ:=zb9 0
  (zbj (zeJ (cF zaw (zab (vSh 0) zaj)) (b2 zsZ (vSh 0) (vSh 1))))
theorem zjf:FnScope ["thing","names"] ["thing","names"] (zaf zeR):=by trivial
theorem ziQ {zaw:FQ} (F:Dfn K mg "is_one_of" zeR) (B:Bn mg) (c_is_name:Cal Γ P w K mg base "is_name" 1 1 zaw):Cal Γ P w K mg base "is_one_of" 2 2 (zfd zaw) :=
 F.cal (k:=1) zjf (fun _ _ _ _ _ _ us hl=>match us,hl with | [_,_],_=>rfl) fun f cdv A outer s H E hr =>
  (zan (zaz (zcQ (dC c_is_name hr (zaa (zac 0) zae) ln1) (zdE (zfz (ztj (zpM hr)) (zac 0) (zac 1) (by rfl))))))
def zi3 (zak:FQ) (zar:FQ) (zal:FQ):FQ:=zb9 0
  (zbj (zeJ (cF zal (zab (vSh 0) (zab (vC (.int 2)) zaj))) (zeJ (cF zar (zab (b2 ixD (vSh 0) (vC (.int 0))) (zab (vSh 1) zaj))) (cF zak (zab (b2 ixD (vSh 0) (vC (.int 1))) (zab (vC (.int 1)) (zab (vSh 2) zaj)))))))
theorem zmt:FnScope ["row","bench_names","horizon"] ["row","bench_names","horizon"] (zaf ziq):=by trivial
theorem zl4 {zak:FQ} {zar:FQ} {zal:FQ} (F:Dfn K mg "is_way" ziq) (B:Bn mg) (c_is_within:Cal Γ P w K mg base "is_within" 3 2 zak) (c_is_one_of:Cal Γ P w K mg base "is_one_of" 2 2 zar) (c_is_tuple:Cal Γ P w K mg base "is_tuple" 2 1 zal):Cal Γ P w K mg base "is_way" 3 3 (zi3 zak zar zal) :=
 F.cal (k:=2) zmt (fun _ _ _ _ _ _ us hl=>match us,hl with | [_,_,_],_=>rfl) fun f cdv A outer s H E hr =>
  (zan (zaz (zcQ (dC c_is_tuple hr (zaa (zac 0) (zaa zad zae)) ln2) (zcQ (dC c_is_one_of hr (zaa (zas (zac 0) zad) (zaa (zac 1) zae)) ln2) (zdE (dC c_is_within hr (zaa (zas (zac 0) zad) (zaa zad (zaa (zac 2) zae))) ln3))))))
def zid (zc2:FQ) (zap:FQ) (zag:FQ):FQ:=zb9 0
  (zaF (sIf (orT (zci (toB (cF zap (zab (vSh 0) (zab (vC (.int 1)) (zab (vC (.int 4)) zaj)))))) (zci (toB (cF zjR (zab (zaX (zaH (itF (vSh 0)) (zaV 0) tT (cF zc2 (zab (vSh 0) (zab (vSh 1) (zab (vSh 2) zaj)))) [none,some 1,some 2])) zaj))))) (zbj (vC (.bl false))) zcC) (zbj (cF zag (zab (zaX (zaH (itF (vSh 0)) (zaV 0) tT (b2 ixD (vSh 0) (vC (.int 0))) [none])) zaj))))
theorem zj6:FnScope ["ways","bench_names","horizon"] ["ways","bench_names","horizon"] (zaf zfS):=by trivial
theorem zjL {zc2:FQ} {zap:FQ} {zag:FQ} (F:Dfn K mg "are_ways" zfS) (B:Bn mg) (c_is_way:Cal Γ P w K mg base "is_way" 3 3 zc2) (c_is_list:Cal Γ P w K mg base "is_list" 3 1 zap) (c_are_unlike:Cal Γ P w K mg base "are_unlike" 1 1 zag):Cal Γ P w K mg base "are_ways" 3 4 (zid zc2 zap zag) :=
 F.cal (k:=3) zj6 (fun _ _ _ _ _ _ us hl=>match us,hl with | [_,_,_],_=>rfl) fun f cdv A outer s H E hr =>
  (zah (zbQ (DW.dt (zc1 (zaN (zaI (dC c_is_list hr (zaa (zac 0) (zaa zad (zaa (zce rfl B.c_MOST_WAYS) zae))) ln3))) (zcm (zaN (zaI (zaB (zdX rfl) rfl B.z_all (by rfl) (zaa (DO.de (zbD rfl (CompScope.of rfl rfl) (FvOk.of (N':=["row","bench_names","horizon"]) (fv:=[none,some 1,some 2]) rfl) (zaP (zac 0)) ⟨fun _ _ _ _ _=>⟨(zau 0 (show (["row","bench_names","horizon"]:List Str).Nodup by decide +kernel)),zaE,(dC c_is_way hr (zaa (zac 0) (zaa (zac 1) (zaa (zac 2) zae))) ln3)⟩⟩)) zae))))))) (zan (zaz zd1)) zaM) (zan (zaz (dC c_are_unlike hr (zaa (DO.de (zbD rfl (CompScope.of rfl rfl) (FvOk.of (N':=["row"]) (fv:=[none]) rfl) (zaP (zac 0)) ⟨fun _ _ _ _ _=>⟨(zau 0 (show (["row"]:List Str).Nodup by decide +kernel)),zaE,(zas (zac 0) zad)⟩⟩)) zae) ln1))))
def zhq (zaw:FQ) (zal:FQ) (zcn:FQ):FQ:=zb9 0
  (zaF (sIf (orT (zci (toB (cF zal (zab (vSh 0) (zab (vC (.int 3)) zaj))))) (orT (zci (toB (cF zaw (zab (b2 ixD (vSh 0) (vC (.int 0))) zaj)))) (zci (toB (cF zaw (zab (b2 ixD (vSh 0) (vC (.int 1))) zaj)))))) (zbj (vC (.bl false))) zcC) (zbj (cF zcn (zab (b2 ixD (vSh 0) (vC (.int 2))) (zab (vSh 1) (zab (vSh 2) zaj))))))
theorem zlF:FnScope ["row","bench_names","horizon"] ["row","bench_names","horizon"] (zaf zgN):=by trivial
theorem zkw {zaw:FQ} {zal:FQ} {zcn:FQ} (F:Dfn K mg "is_step" zgN) (B:Bn mg) (c_is_name:Cal Γ P w K mg base "is_name" 1 1 zaw) (c_is_tuple:Cal Γ P w K mg base "is_tuple" 2 1 zal) (c_are_ways:Cal Γ P w K mg base "are_ways" 3 4 zcn):Cal Γ P w K mg base "is_step" 3 5 (zhq zaw zal zcn) :=
 F.cal (k:=4) zlF (fun _ _ _ _ _ _ us hl=>match us,hl with | [_,_,_],_=>rfl) fun f cdv A outer s H E hr =>
  (zah (zbQ (DW.dt (zc1 (zaN (zaI (dC c_is_tuple hr (zaa (zac 0) (zaa zad zae)) ln2))) (zc1 (zaN (zaI (dC c_is_name hr (zaa (zas (zac 0) zad) zae) ln1))) (zcm (zaN (zaI (dC c_is_name hr (zaa (zas (zac 0) zad) zae) ln1))))))) (zan (zaz zd1)) zaM) (zan (zaz (dC c_are_ways hr (zaa (zas (zac 0) zad) (zaa (zac 1) (zaa (zac 2) zae))) ln3))))
def zht (zcA:FQ) (zap:FQ) (zag:FQ):FQ:=zb9 0
  (zaF (sIf (orT (zci (toB (cF zap (zab (vSh 0) (zab (vC (.int 1)) (zab (vC (.int 40)) zaj)))))) (zci (toB (cF zjR (zab (zaX (zaH (itF (vSh 0)) (zaV 0) tT (cF zcA (zab (vSh 0) (zab (vSh 1) (zab (vSh 2) zaj)))) [none,some 1,some 2])) zaj))))) (zbj (vC (.bl false))) zcC) (zbj (cF zag (zab (zaX (zaH (itF (vSh 0)) (zaV 0) tT (b2 ixD (vSh 0) (vC (.int 0))) [none])) zaj))))
theorem zjh:FnScope ["steps","bench_names","horizon"] ["steps","bench_names","horizon"] (zaf zeT):=by trivial
theorem ziS {zcA:FQ} {zap:FQ} {zag:FQ} (F:Dfn K mg "are_steps" zeT) (B:Bn mg) (c_is_step:Cal Γ P w K mg base "is_step" 3 5 zcA) (c_is_list:Cal Γ P w K mg base "is_list" 3 1 zap) (c_are_unlike:Cal Γ P w K mg base "are_unlike" 1 1 zag):Cal Γ P w K mg base "are_steps" 3 6 (zht zcA zap zag) :=
 F.cal (k:=5) zjh (fun _ _ _ _ _ _ us hl=>match us,hl with | [_,_,_],_=>rfl) fun f cdv A outer s H E hr =>
  (zah (zbQ (DW.dt (zc1 (zaN (zaI (dC c_is_list hr (zaa (zac 0) (zaa zad (zaa (zce rfl B.c_MOST_STEPS) zae))) ln3))) (zcm (zaN (zaI (zaB (zdX rfl) rfl B.z_all (by rfl) (zaa (DO.de (zbD rfl (CompScope.of rfl rfl) (FvOk.of (N':=["row","bench_names","horizon"]) (fv:=[none,some 1,some 2]) rfl) (zaP (zac 0)) ⟨fun _ _ _ _ _=>⟨(zau 0 (show (["row","bench_names","horizon"]:List Str).Nodup by decide +kernel)),zaE,(dC c_is_step hr (zaa (zac 0) (zaa (zac 1) (zaa (zac 2) zae))) ln3)⟩⟩)) zae))))))) (zan (zaz zd1)) zaM) (zan (zaz (dC c_are_unlike hr (zaa (DO.de (zbD rfl (CompScope.of rfl rfl) (FvOk.of (N':=["row"]) (fv:=[none]) rfl) (zaP (zac 0)) ⟨fun _ _ _ _ _=>⟨(zau 0 (show (["row"]:List Str).Nodup by decide +kernel)),zaE,(zas (zac 0) zad)⟩⟩)) zae) ln1))))
def zlB (zaw:FQ) (zal:FQ) (zak:FQ) (zar:FQ) (zap:FQ):FQ:=zb9 0
  (zaF (sIf (orT (zci (toB (cF zal (zab (vSh 0) (zab (vC (.int 5)) zaj))))) (orT (zci (toB (cF zaw (zab (b2 ixD (vSh 0) (vC (.int 0))) zaj)))) (zci (toB (cF zfZ (zab (b2 ixD (vSh 0) (vC (.int 3))) (zab (vC (.ty "bool")) zaj))))))) (zbj (vC (.bl false))) zcC) (zaF (sIf (orT (zci (toB (cF zak (zab (b2 ixD (vSh 0) (vC (.int 1))) (zab (vC (.int 0)) (zab (vSh 2) zaj)))))) (zci (toB (cF zak (zab (b2 ixD (vSh 0) (vC (.int 2))) (zab (vC (.int 0)) (zab (vSh 2) zaj))))))) (zbj (vC (.bl false))) zcC) (zbj (zeJ (cF zap (zab (b2 ixD (vSh 0) (vC (.int 4))) (zab (vC (.int 1)) (zab (cF zdS (zab (vSh 1) zaj)) zaj)))) (cF zjR (zab (zaX (zaH (itF (b2 ixD (vSh 0) (vC (.int 4)))) (zaV 0) tT (cF zar (zab (vSh 0) (zab (vSh 1) zaj))) [none,some 1])) zaj))))))
theorem zmu:FnScope ["row","step_names","horizon"] ["row","step_names","horizon"] (zaf zir):=by trivial
theorem zl5 {zaw:FQ} {zal:FQ} {zak:FQ} {zar:FQ} {zap:FQ} (F:Dfn K mg "is_job" zir) (B:Bn mg) (c_is_name:Cal Γ P w K mg base "is_name" 1 1 zaw) (c_is_tuple:Cal Γ P w K mg base "is_tuple" 2 1 zal) (c_is_within:Cal Γ P w K mg base "is_within" 3 2 zak) (c_is_one_of:Cal Γ P w K mg base "is_one_of" 2 2 zar) (c_is_list:Cal Γ P w K mg base "is_list" 3 1 zap):Cal Γ P w K mg base "is_job" 3 3 (zlB zaw zal zak zar zap) :=
 F.cal (k:=2) zmu (fun _ _ _ _ _ _ us hl=>match us,hl with | [_,_,_],_=>rfl) fun f cdv A outer s H E hr =>
  (zah (zbQ (DW.dt (zc1 (zaN (zaI (dC c_is_tuple hr (zaa (zac 0) (zaa zad zae)) ln2))) (zc1 (zaN (zaI (dC c_is_name hr (zaa (zas (zac 0) zad) zae) ln1))) (zcm (zaN (zaI (zaB zep rfl B.z_isinstance (by rfl) (zaa (zas (zac 0) zad) (zaa (zhd rfl B.z_bool (by rfl)) zae))))))))) (zan (zaz zd1)) zaM) (zah (zbQ (DW.dt (zc1 (zaN (zaI (dC c_is_within hr (zaa (zas (zac 0) zad) (zaa zad (zaa (zac 2) zae))) ln3))) (zcm (zaN (zaI (dC c_is_within hr (zaa (zas (zac 0) zad) (zaa zad (zaa (zac 2) zae))) ln3)))))) (zan (zaz zd1)) zaM) (zan (zaz (zcQ (dC c_is_list hr (zaa (zas (zac 0) zad) (zaa zad (zaa (zaB zdF rfl B.z_len (by rfl) (zaa (zac 1) zae)) zae))) ln3) (zdE (zaB (zdX rfl) rfl B.z_all (by rfl) (zaa (DO.de (zbD rfl (CompScope.of rfl rfl) (FvOk.of (N':=["name","step_names"]) (fv:=[none,some 1]) rfl) (zaP (zas (zac 0) zad)) ⟨fun _ _ _ _ _=>⟨(zau 0 (show (["name","step_names"]:List Str).Nodup by decide +kernel)),zaE,(dC c_is_one_of hr (zaa (zac 0) (zaa (zac 1) zae)) ln2)⟩⟩)) zae))))))))
def zie (zdo:FQ) (zap:FQ) (zag:FQ):FQ:=zb9 2
  (zaF (sIf (orT (zci (toB (cF zap (zab (vSh 0) (zab (vC (.int 0)) (zab (vC (.int 40)) zaj)))))) (zci (toB (cF zjR (zab (zaX (zaH (itF (vSh 0)) (zaV 0) tT (cF zdo (zab (vSh 0) (zab (vSh 1) (zab (vSh 2) zaj)))) [none,some 1,some 2])) zaj))))) (zbj (vC (.bl false))) zcC) (zaF (zgD 3 (szF zaj)) (zaF (zgG (itF (vSh 0)) (zaV 4) (zrF 3 (b2 ixD (vSh 4) (vC (.int 4))))) (zi4 3 (zbj (zeJ (cF zag (zab (zaX (zaH (itF (vSh 0)) (zaV 0) tT (b2 ixD (vSh 0) (vC (.int 0))) [none])) zaj)) (cF zag (zab (vSh 3) zaj))))))))
theorem zeN:FnScope ["jobs","step_names","horizon","members","row"] ["jobs","step_names","horizon"] (zaf zfT):=by trivial
theorem zjM {zdo:FQ} {zap:FQ} {zag:FQ} (F:Dfn K mg "are_jobs" zfT) (B:Bn mg) (c_is_job:Cal Γ P w K mg base "is_job" 3 3 zdo) (c_is_list:Cal Γ P w K mg base "is_list" 3 1 zap) (c_are_unlike:Cal Γ P w K mg base "are_unlike" 1 1 zag):Cal Γ P w K mg base "are_jobs" 3 4 (zie zdo zap zag) :=
 F.cal (k:=3) zeN (fun _ _ _ _ _ _ us hl=>match us,hl with | [_,_,_],_=>rfl) fun f cdv A outer s H E hr =>
  (zah (zbQ (DW.dt (zc1 (zaN (zaI (dC c_is_list hr (zaa (zac 0) (zaa zad (zaa (zce rfl B.c_MOST_JOBS) zae))) ln3))) (zcm (zaN (zaI (zaB (zdX rfl) rfl B.z_all (by rfl) (zaa (DO.de (zbD rfl (CompScope.of rfl rfl) (FvOk.of (N':=["row","step_names","horizon"]) (fv:=[none,some 1,some 2]) rfl) (zaP (zac 0)) ⟨fun _ _ _ _ _=>⟨(zau 0 (show (["row","step_names","horizon"]:List Str).Nodup by decide +kernel)),zaE,(dC c_is_job hr (zaa (zac 0) (zaa (zac 1) (zaa (zac 2) zae))) ln3)⟩⟩)) zae))))))) (zan (zaz zd1)) zaM) (zah (zdk 3 zeN.nd (zbE zae)) (zah (zek PassesOwn.never rfl (zaP (zac 0)) (zau 4 zeN.nd) (zan (znE 3 (zas (zac 4) zad)))) (zdw 3 (zan (zaz (zcQ (dC c_are_unlike hr (zaa (DO.de (zbD rfl (CompScope.of rfl rfl) (FvOk.of (N':=["row"]) (fv:=[none]) rfl) (zaP (zac 0)) ⟨fun _ _ _ _ _=>⟨(zau 0 (show (["row"]:List Str).Nodup by decide +kernel)),zaE,(zas (zac 0) zad)⟩⟩)) zae) ln1) (zdE (dC c_are_unlike hr (zaa (zac 3) zae) ln1)))))))))
def zgb (zar:FQ) (zal:FQ) (zak:FQ) (zaw:FQ):FQ:=zb9 0
  (zaF (sIf (orT (zci (toB (cF zal (zab (vSh 0) (zab (vC (.int 4)) zaj))))) (zci (toB (cF zar (zab (b2 ixD (vSh 0) (vC (.int 0))) (zab (vSh 1) zaj)))))) (zbj (vC (.bl false))) zcC) (zbj (zeJ (cF zaw (zab (b2 ixD (vSh 0) (vC (.int 1))) zaj)) (zeJ (cF zaw (zab (b2 ixD (vSh 0) (vC (.int 2))) zaj)) (cF zak (zab (b2 ixD (vSh 0) (vC (.int 3))) (zab (vC (.int 1)) (zab (vSh 2) zaj))))))))
theorem zj3:FnScope ["row","bench_names","horizon"] ["row","bench_names","horizon"] (zaf zfP):=by trivial
theorem zjI {zar:FQ} {zal:FQ} {zak:FQ} {zaw:FQ} (F:Dfn K mg "is_setup" zfP) (B:Bn mg) (c_is_one_of:Cal Γ P w K mg base "is_one_of" 2 2 zar) (c_is_tuple:Cal Γ P w K mg base "is_tuple" 2 1 zal) (c_is_within:Cal Γ P w K mg base "is_within" 3 2 zak) (c_is_name:Cal Γ P w K mg base "is_name" 1 1 zaw):Cal Γ P w K mg base "is_setup" 3 3 (zgb zar zal zak zaw) :=
 F.cal (k:=2) zj3 (fun _ _ _ _ _ _ us hl=>match us,hl with | [_,_,_],_=>rfl) fun f cdv A outer s H E hr =>
  (zah (zbQ (DW.dt (zc1 (zaN (zaI (dC c_is_tuple hr (zaa (zac 0) (zaa zad zae)) ln2))) (zcm (zaN (zaI (dC c_is_one_of hr (zaa (zas (zac 0) zad) (zaa (zac 1) zae)) ln2)))))) (zan (zaz zd1)) zaM) (zan (zaz (zcQ (dC c_is_name hr (zaa (zas (zac 0) zad) zae) ln1) (zcQ (dC c_is_name hr (zaa (zas (zac 0) zad) zae) ln1) (zdE (dC c_is_within hr (zaa (zas (zac 0) zad) (zaa zad (zaa (zac 2) zae))) ln3)))))))
def zgu (zb4:FQ) (zap:FQ) (zag:FQ):FQ:=zb9 0
  (zaF (sIf (orT (zci (toB (cF zap (zab (vSh 0) (zab (vC (.int 0)) (zab (vC (.int 100)) zaj)))))) (zci (toB (cF zjR (zab (zaX (zaH (itF (vSh 0)) (zaV 0) tT (cF zb4 (zab (vSh 0) (zab (vSh 1) (zab (vSh 2) zaj)))) [none,some 1,some 2])) zaj))))) (zbj (vC (.bl false))) zcC) (zbj (cF zag (zab (zaX (zaH (itF (vSh 0)) (zaV 0) tT (slF (vSh 0) pN (pS (vC (.int 3)))) [none])) zaj))))
theorem zin:FnScope ["setups","bench_names","horizon"] ["setups","bench_names","horizon"] (zaf zd8):=by trivial
theorem zhK {zb4:FQ} {zap:FQ} {zag:FQ} (F:Dfn K mg "are_setups" zd8) (B:Bn mg) (c_is_setup:Cal Γ P w K mg base "is_setup" 3 3 zb4) (c_is_list:Cal Γ P w K mg base "is_list" 3 1 zap) (c_are_unlike:Cal Γ P w K mg base "are_unlike" 1 1 zag):Cal Γ P w K mg base "are_setups" 3 4 (zgu zb4 zap zag) :=
 F.cal (k:=3) zin (fun _ _ _ _ _ _ us hl=>match us,hl with | [_,_,_],_=>rfl) fun f cdv A outer s H E hr =>
  (zah (zbQ (DW.dt (zc1 (zaN (zaI (dC c_is_list hr (zaa (zac 0) (zaa zad (zaa (zce rfl B.c_MOST_SETUPS) zae))) ln3))) (zcm (zaN (zaI (zaB (zdX rfl) rfl B.z_all (by rfl) (zaa (DO.de (zbD rfl (CompScope.of rfl rfl) (FvOk.of (N':=["row","bench_names","horizon"]) (fv:=[none,some 1,some 2]) rfl) (zaP (zac 0)) ⟨fun _ _ _ _ _=>⟨(zau 0 (show (["row","bench_names","horizon"]:List Str).Nodup by decide +kernel)),zaE,(dC c_is_setup hr (zaa (zac 0) (zaa (zac 1) (zaa (zac 2) zae))) ln3)⟩⟩)) zae))))))) (zan (zaz zd1)) zaM) (zan (zaz (dC c_are_unlike hr (zaa (DO.de (zbD rfl (CompScope.of rfl rfl) (FvOk.of (N':=["row"]) (fv:=[none]) rfl) (zaP (zac 0)) ⟨fun _ _ _ _ _=>⟨(zau 0 (show (["row"]:List Str).Nodup by decide +kernel)),zaE,(zbR (zac 0) zcw (zcv zad))⟩⟩)) zae) ln1))))
def zhs (zar:FQ) (zal:FQ) (zak:FQ):FQ:=zb9 0
  (zaF (sIf (orT (zci (toB (cF zal (zab (vSh 0) (zab (vC (.int 3)) zaj))))) (orT (zci (toB (cF zar (zab (b2 ixD (vSh 0) (vC (.int 0))) (zab (vSh 1) zaj))))) (zci (toB (cF zar (zab (b2 ixD (vSh 0) (vC (.int 1))) (zab (vSh 1) zaj))))))) (zbj (vC (.bl false))) zcC) (zbj (zeJ (b2 neA (b2 ixD (vSh 0) (vC (.int 0))) (b2 ixD (vSh 0) (vC (.int 1)))) (cF zak (zab (b2 ixD (vSh 0) (vC (.int 2))) (zab (vC (.int 0)) (zab (vSh 2) zaj)))))))
theorem zlI:FnScope ["row","step_names","horizon"] ["row","step_names","horizon"] (zaf zgQ):=by trivial
theorem zkz {zar:FQ} {zal:FQ} {zak:FQ} (F:Dfn K mg "is_link" zgQ) (B:Bn mg) (c_is_one_of:Cal Γ P w K mg base "is_one_of" 2 2 zar) (c_is_tuple:Cal Γ P w K mg base "is_tuple" 2 1 zal) (c_is_within:Cal Γ P w K mg base "is_within" 3 2 zak):Cal Γ P w K mg base "is_link" 3 3 (zhs zar zal zak) :=
 F.cal (k:=2) zlI (fun _ _ _ _ _ _ us hl=>match us,hl with | [_,_,_],_=>rfl) fun f cdv A outer s H E hr =>
  (zah (zbQ (DW.dt (zc1 (zaN (zaI (dC c_is_tuple hr (zaa (zac 0) (zaa zad zae)) ln2))) (zc1 (zaN (zaI (dC c_is_one_of hr (zaa (zas (zac 0) zad) (zaa (zac 1) zae)) ln2))) (zcm (zaN (zaI (dC c_is_one_of hr (zaa (zas (zac 0) zad) (zaa (zac 1) zae)) ln2))))))) (zan (zaz zd1)) zaM) (zan (zaz (zcQ (zfz (zib (zrL hr)) (zas (zac 0) zad) (zas (zac 0) zad) (zb7 _)) (zdE (dC c_is_within hr (zaa (zas (zac 0) zad) (zaa zad (zaa (zac 2) zae))) ln3))))))
def zhu (zcB:FQ) (zap:FQ) (zag:FQ):FQ:=zb9 0
  (zaF (sIf (orT (zci (toB (cF zap (zab (vSh 0) (zab (vC (.int 0)) (zab (vC (.int 100)) zaj)))))) (zci (toB (cF zjR (zab (zaX (zaH (itF (vSh 0)) (zaV 0) tT (cF zcB (zab (vSh 0) (zab (vSh 1) (zab (vSh 2) zaj)))) [none,some 1,some 2])) zaj))))) (zbj (vC (.bl false))) zcC) (zbj (cF zag (zab (zaX (zaH (itF (vSh 0)) (zaV 0) tT (slF (vSh 0) pN (pS (vC (.int 2)))) [none])) zaj))))
theorem zji:FnScope ["links","step_names","horizon"] ["links","step_names","horizon"] (zaf zeU):=by trivial
theorem ziT {zcB:FQ} {zap:FQ} {zag:FQ} (F:Dfn K mg "are_links" zeU) (B:Bn mg) (c_is_link:Cal Γ P w K mg base "is_link" 3 3 zcB) (c_is_list:Cal Γ P w K mg base "is_list" 3 1 zap) (c_are_unlike:Cal Γ P w K mg base "are_unlike" 1 1 zag):Cal Γ P w K mg base "are_links" 3 4 (zhu zcB zap zag) :=
 F.cal (k:=3) zji (fun _ _ _ _ _ _ us hl=>match us,hl with | [_,_,_],_=>rfl) fun f cdv A outer s H E hr =>
  (zah (zbQ (DW.dt (zc1 (zaN (zaI (dC c_is_list hr (zaa (zac 0) (zaa zad (zaa (zce rfl B.c_MOST_LINKS) zae))) ln3))) (zcm (zaN (zaI (zaB (zdX rfl) rfl B.z_all (by rfl) (zaa (DO.de (zbD rfl (CompScope.of rfl rfl) (FvOk.of (N':=["row","step_names","horizon"]) (fv:=[none,some 1,some 2]) rfl) (zaP (zac 0)) ⟨fun _ _ _ _ _=>⟨(zau 0 (show (["row","step_names","horizon"]:List Str).Nodup by decide +kernel)),zaE,(dC c_is_link hr (zaa (zac 0) (zaa (zac 1) (zaa (zac 2) zae))) ln3)⟩⟩)) zae))))))) (zan (zaz zd1)) zaM) (zan (zaz (dC c_are_unlike hr (zaa (DO.de (zbD rfl (CompScope.of rfl rfl) (FvOk.of (N':=["row"]) (fv:=[none]) rfl) (zaP (zac 0)) ⟨fun _ _ _ _ _=>⟨(zau 0 (show (["row"]:List Str).Nodup by decide +kernel)),zaE,(zbR (zac 0) zcw (zcv zad))⟩⟩)) zae) ln1))))
def zfe (zak:FQ) (zar:FQ) (zal:FQ):FQ:=zb9 0
  (zbj (zeJ (cF zal (zab (vSh 0) (zab (vC (.int 2)) zaj))) (zeJ (cF zar (zab (b2 ixD (vSh 0) (vC (.int 0))) (zab (vSh 1) zaj))) (cF zak (zab (b2 ixD (vSh 0) (vC (.int 1))) (zab (vC (.int 1)) (zab (vC (.int 1000000)) zaj)))))))
theorem zjg:FnScope ["row","step_names"] ["row","step_names"] (zaf zeS):=by trivial
theorem ziR {zak:FQ} {zar:FQ} {zal:FQ} (F:Dfn K mg "is_amount" zeS) (B:Bn mg) (c_is_within:Cal Γ P w K mg base "is_within" 3 2 zak) (c_is_one_of:Cal Γ P w K mg base "is_one_of" 2 2 zar) (c_is_tuple:Cal Γ P w K mg base "is_tuple" 2 1 zal):Cal Γ P w K mg base "is_amount" 2 3 (zfe zak zar zal) :=
 F.cal (k:=2) zjg (fun _ _ _ _ _ _ us hl=>match us,hl with | [_,_],_=>rfl) fun f cdv A outer s H E hr =>
  (zan (zaz (zcQ (dC c_is_tuple hr (zaa (zac 0) (zaa zad zae)) ln2) (zcQ (dC c_is_one_of hr (zaa (zas (zac 0) zad) (zaa (zac 1) zae)) ln2) (zdE (dC c_is_within hr (zaa (zas (zac 0) zad) (zaa zad (zaa (zce rfl B.c_MOST_AMOUNT) zae))) ln3))))))
def zfF (zbM:FQ) (zap:FQ) (zag:FQ):FQ:=zb9 0
  (zaF (sIf (orT (zci (toB (cF zap (zab (vSh 0) (zab (vC (.int 0)) (zab (cF zdS (zab (vSh 1) zaj)) zaj)))))) (zci (toB (cF zjR (zab (zaX (zaH (itF (vSh 0)) (zaV 0) tT (cF zbM (zab (vSh 0) (zab (vSh 1) zaj))) [none,some 1])) zaj))))) (zbj (vC (.bl false))) zcC) (zbj (cF zag (zab (zaX (zaH (itF (vSh 0)) (zaV 0) tT (b2 ixD (vSh 0) (vC (.int 0))) [none])) zaj))))
theorem zhD:FnScope ["rows","step_names"] ["rows","step_names"] (zaf zdL):=by trivial
theorem zhi {zbM:FQ} {zap:FQ} {zag:FQ} (F:Dfn K mg "are_amounts" zdL) (B:Bn mg) (c_is_amount:Cal Γ P w K mg base "is_amount" 2 3 zbM) (c_is_list:Cal Γ P w K mg base "is_list" 3 1 zap) (c_are_unlike:Cal Γ P w K mg base "are_unlike" 1 1 zag):Cal Γ P w K mg base "are_amounts" 2 4 (zfF zbM zap zag) :=
 F.cal (k:=3) zhD (fun _ _ _ _ _ _ us hl=>match us,hl with | [_,_],_=>rfl) fun f cdv A outer s H E hr =>
  (zah (zbQ (DW.dt (zc1 (zaN (zaI (dC c_is_list hr (zaa (zac 0) (zaa zad (zaa (zaB zdF rfl B.z_len (by rfl) (zaa (zac 1) zae)) zae))) ln3))) (zcm (zaN (zaI (zaB (zdX rfl) rfl B.z_all (by rfl) (zaa (DO.de (zbD rfl (CompScope.of rfl rfl) (FvOk.of (N':=["row","step_names"]) (fv:=[none,some 1]) rfl) (zaP (zac 0)) ⟨fun _ _ _ _ _=>⟨(zau 0 (show (["row","step_names"]:List Str).Nodup by decide +kernel)),zaE,(dC c_is_amount hr (zaa (zac 0) (zaa (zac 1) zae)) ln2)⟩⟩)) zae))))))) (zan (zaz zd1)) zaM) (zan (zaz (dC c_are_unlike hr (zaa (DO.de (zbD rfl (CompScope.of rfl rfl) (FvOk.of (N':=["row"]) (fv:=[none]) rfl) (zaP (zac 0)) ⟨fun _ _ _ _ _=>⟨(zau 0 (show (["row"]:List Str).Nodup by decide +kernel)),zaE,(zas (zac 0) zad)⟩⟩)) zae) ln1))))
def zga (zaw:FQ) (zal:FQ) (zak:FQ) (zbe:FQ):FQ:=zb9 0
  (zaF (sIf (orT (zci (toB (cF zal (zab (vSh 0) (zab (vC (.int 5)) zaj))))) (zci (toB (cF zaw (zab (b2 ixD (vSh 0) (vC (.int 0))) zaj))))) (zbj (vC (.bl false))) zcC) (zaF (sIf (orT (zci (toB (cF zak (zab (b2 ixD (vSh 0) (vC (.int 2))) (zab (vC (.int 0)) (zab (vC (.int 1000000)) zaj)))))) (zci (toB (cF zak (zab (b2 ixD (vSh 0) (vC (.int 1))) (zab (vC (.int 0)) (zab (b2 ixD (vSh 0) (vC (.int 2))) zaj))))))) (zbj (vC (.bl false))) zcC) (zbj (zeJ (cF zbe (zab (b2 ixD (vSh 0) (vC (.int 3))) (zab (vSh 1) zaj))) (cF zbe (zab (b2 ixD (vSh 0) (vC (.int 4))) (zab (vSh 1) zaj)))))))
theorem zj2:FnScope ["row","step_names"] ["row","step_names"] (zaf zfO):=by trivial
theorem zjH {zaw:FQ} {zal:FQ} {zak:FQ} {zbe:FQ} (F:Dfn K mg "is_stock" zfO) (B:Bn mg) (c_is_name:Cal Γ P w K mg base "is_name" 1 1 zaw) (c_is_tuple:Cal Γ P w K mg base "is_tuple" 2 1 zal) (c_is_within:Cal Γ P w K mg base "is_within" 3 2 zak) (c_are_amounts:Cal Γ P w K mg base "are_amounts" 2 4 zbe):Cal Γ P w K mg base "is_stock" 2 5 (zga zaw zal zak zbe) :=
 F.cal (k:=4) zj2 (fun _ _ _ _ _ _ us hl=>match us,hl with | [_,_],_=>rfl) fun f cdv A outer s H E hr =>
  (zah (zbQ (DW.dt (zc1 (zaN (zaI (dC c_is_tuple hr (zaa (zac 0) (zaa zad zae)) ln2))) (zcm (zaN (zaI (dC c_is_name hr (zaa (zas (zac 0) zad) zae) ln1)))))) (zan (zaz zd1)) zaM) (zah (zbQ (DW.dt (zc1 (zaN (zaI (dC c_is_within hr (zaa (zas (zac 0) zad) (zaa zad (zaa (zce rfl B.c_MOST_AMOUNT) zae))) ln3))) (zcm (zaN (zaI (dC c_is_within hr (zaa (zas (zac 0) zad) (zaa zad (zaa (zas (zac 0) zad) zae))) ln3)))))) (zan (zaz zd1)) zaM) (zan (zaz (zcQ (dC c_are_amounts hr (zaa (zas (zac 0) zad) (zaa (zac 1) zae)) ln2) (zdE (dC c_are_amounts hr (zaa (zas (zac 0) zad) (zaa (zac 1) zae)) ln2)))))))
def zgt (zb3:FQ) (zap:FQ) (zag:FQ):FQ:=zb9 0
  (zaF (sIf (orT (zci (toB (cF zap (zab (vSh 0) (zab (vC (.int 0)) (zab (vC (.int 6)) zaj)))))) (zci (toB (cF zjR (zab (zaX (zaH (itF (vSh 0)) (zaV 0) tT (cF zb3 (zab (vSh 0) (zab (vSh 1) zaj))) [none,some 1])) zaj))))) (zbj (vC (.bl false))) zcC) (zbj (cF zag (zab (zaX (zaH (itF (vSh 0)) (zaV 0) tT (b2 ixD (vSh 0) (vC (.int 0))) [none])) zaj))))
theorem zim:FnScope ["stocks","step_names"] ["stocks","step_names"] (zaf zd7):=by trivial
theorem zhJ {zb3:FQ} {zap:FQ} {zag:FQ} (F:Dfn K mg "are_stocks" zd7) (B:Bn mg) (c_is_stock:Cal Γ P w K mg base "is_stock" 2 5 zb3) (c_is_list:Cal Γ P w K mg base "is_list" 3 1 zap) (c_are_unlike:Cal Γ P w K mg base "are_unlike" 1 1 zag):Cal Γ P w K mg base "are_stocks" 2 6 (zgt zb3 zap zag) :=
 F.cal (k:=5) zim (fun _ _ _ _ _ _ us hl=>match us,hl with | [_,_],_=>rfl) fun f cdv A outer s H E hr =>
  (zah (zbQ (DW.dt (zc1 (zaN (zaI (dC c_is_list hr (zaa (zac 0) (zaa zad (zaa (zce rfl B.c_MOST_STOCKS) zae))) ln3))) (zcm (zaN (zaI (zaB (zdX rfl) rfl B.z_all (by rfl) (zaa (DO.de (zbD rfl (CompScope.of rfl rfl) (FvOk.of (N':=["row","step_names"]) (fv:=[none,some 1]) rfl) (zaP (zac 0)) ⟨fun _ _ _ _ _=>⟨(zau 0 (show (["row","step_names"]:List Str).Nodup by decide +kernel)),zaE,(dC c_is_stock hr (zaa (zac 0) (zaa (zac 1) zae)) ln2)⟩⟩)) zae))))))) (zan (zaz zd1)) zaM) (zan (zaz (dC c_are_unlike hr (zaa (DO.de (zbD rfl (CompScope.of rfl rfl) (FvOk.of (N':=["row"]) (fv:=[none]) rfl) (zaP (zac 0)) ⟨fun _ _ _ _ _=>⟨(zau 0 (show (["row"]:List Str).Nodup by decide +kernel)),zaE,(zas (zac 0) zad)⟩⟩)) zae) ln1))))
def zdY (zak:FQ) (zbq:FQ) (zbV:FQ) (zco:FQ) (zbH:FQ) (zbW:FQ) (zbG:FQ):FQ:=zb9 2
  (zaF (sIf (zci (toB (cF zak (zab (vSh 6) (zab (vC (.int 1)) (zab (vC (.int 1000000)) zaj)))))) (zbj (vC (.str "horizon"))) zcC) (zaF (sIf (zci (toB (cF zbq (zab (vSh 0) (zab (vSh 6) zaj))))) (zbj (vC (.str "benches"))) zcC) (zaF (zb1 7 (zaX (zaH (itF (vSh 0)) (zaV 0) tT (b2 ixD (vSh 0) (vC (.int 0))) [none]))) (zaF (sIf (zci (toB (cF zbV (zab (vSh 1) (zab (vSh 7) (zab (vSh 6) zaj)))))) (zbj (vC (.str "steps"))) zcC) (zaF (zb1 8 (zaX (zaH (itF (vSh 1)) (zaV 0) tT (b2 ixD (vSh 0) (vC (.int 0))) [none]))) (zaF (sIf (zci (toB (cF zco (zab (vSh 2) (zab (vSh 8) (zab (vSh 6) zaj)))))) (zbj (vC (.str "jobs"))) zcC) (zaF (sIf (zci (toB (cF zbH (zab (vSh 3) (zab (vSh 7) (zab (vSh 6) zaj)))))) (zbj (vC (.str "setups"))) zcC) (zaF (sIf (zci (toB (cF zbW (zab (vSh 4) (zab (vSh 8) (zab (vSh 6) zaj)))))) (zbj (vC (.str "links"))) zcC) (zaF (sIf (zci (toB (cF zbG (zab (vSh 5) (zab (vSh 8) zaj))))) (zbj (vC (.str "stocks"))) zcC) (zbj (vC .non)))))))))))
theorem zcE:FnScope ["benches","steps","jobs","setups","links","stocks","horizon","bench_names","step_names"] ["benches","steps","jobs","setups","links","stocks","horizon"] (zaf zcS):=by trivial
theorem zfA {zak:FQ} {zbq:FQ} {zbV:FQ} {zco:FQ} {zbH:FQ} {zbW:FQ} {zbG:FQ} (F:Dfn K mg "first_bad_part" zcS) (B:Bn mg) (c_is_within:Cal Γ P w K mg base "is_within" 3 2 zak) (c_are_benches:Cal Γ P w K mg base "are_benches" 2 6 zbq) (c_are_steps:Cal Γ P w K mg base "are_steps" 3 6 zbV) (c_are_jobs:Cal Γ P w K mg base "are_jobs" 3 4 zco) (c_are_setups:Cal Γ P w K mg base "are_setups" 3 4 zbH) (c_are_links:Cal Γ P w K mg base "are_links" 3 4 zbW) (c_are_stocks:Cal Γ P w K mg base "are_stocks" 2 6 zbG):Cal Γ P w K mg base "first_bad_part" 7 7 (zdY zak zbq zbV zco zbH zbW zbG) :=
 F.cal (k:=6) zcE (fun _ _ _ _ _ _ us hl=>match us,hl with | [_,_,_,_,_,_,_],_=>rfl) fun f cdv A outer s H E hr =>
  (zah (zbQ (zaN (zaI (dC c_is_within hr (zaa (zac 6) (zaa zad (zaa (zce rfl B.c_MOST_HORIZON) zae))) ln3))) (zan (zaz zdl)) zaM) (zah (zbQ (zaN (zaI (dC c_are_benches hr (zaa (zac 0) (zaa (zac 6) zae)) ln2))) (zan (zaz zdl)) zaM) (zah (znD 7 zcE.nd rfl (CompScope.of rfl rfl) (FvOk.of (N':=["row"]) (fv:=[none]) rfl) (zaP (zac 0)) ⟨fun _ _ _ _ _=>⟨(zau 0 (show (["row"]:List Str).Nodup by decide +kernel)),zaE,(zas (zac 0) zad)⟩⟩) (zah (zbQ (zaN (zaI (dC c_are_steps hr (zaa (zac 1) (zaa (zac 7) (zaa (zac 6) zae))) ln3))) (zan (zaz zdl)) zaM) (zah (znD 8 zcE.nd rfl (CompScope.of rfl rfl) (FvOk.of (N':=["row"]) (fv:=[none]) rfl) (zaP (zac 1)) ⟨fun _ _ _ _ _=>⟨(zau 0 (show (["row"]:List Str).Nodup by decide +kernel)),zaE,(zas (zac 0) zad)⟩⟩) (zah (zbQ (zaN (zaI (dC c_are_jobs hr (zaa (zac 2) (zaa (zac 8) (zaa (zac 6) zae))) ln3))) (zan (zaz zdl)) zaM) (zah (zbQ (zaN (zaI (dC c_are_setups hr (zaa (zac 3) (zaa (zac 7) (zaa (zac 6) zae))) ln3))) (zan (zaz zdl)) zaM) (zah (zbQ (zaN (zaI (dC c_are_links hr (zaa (zac 4) (zaa (zac 8) (zaa (zac 6) zae))) ln3))) (zan (zaz zdl)) zaM) (zah (zbQ (zaN (zaI (dC c_are_stocks hr (zaa (zac 5) (zaa (zac 8) zae)) ln2))) (zan (zaz zdl)) zaM) (zan (zaz zpU)))))))))))
def zdz (zay:FQ):FQ:=zb9 0
  (zaF (sIf (toB (cF zfZ (zab (vSh 0) (zab (vC (.ty "list")) zaj)))) (zbj (zaX (zaH (itF (vSh 0)) (zaV 0) tT (cF zay (zab (vSh 0) zaj)) [none]))) zcC) (zaF (sIf (toB (cF zfZ (zab (vSh 0) (zab (vC (.ty "tuple")) zaj)))) (zbj (cF zkL (zab (zaX (zaH (itF (vSh 0)) (zaV 0) tT (cF zay (zab (vSh 0) zaj)) [none])) zaj))) zcC) (zbj (vSh 0))))
theorem zoo:FnScope ["thing"] ["thing"] (zaf zj7):=by trivial
theorem znY {k:Nat} {zay:FQ} (F:Dfn K mg "fresh" zj7) (B:Bn mg) (c_fresh:Cal Γ P w K mg base "fresh" 1 k zay):Cal Γ P w K mg base "fresh" 1 (k+1) (zdz zay) :=
 F.cal (k:=k) zoo (fun _ _ _ _ _ _ us hl=>match us,hl with | [_],_=>rfl) fun f cdv A outer s H E hr =>
  (zah (zbQ (zaI (zaB zep rfl B.z_isinstance (by rfl) (zaa (zac 0) (zaa (zhd rfl B.z_list (by rfl)) zae)))) (zan (zaz (DO.de (zbD rfl (CompScope.of rfl rfl) (FvOk.of (N':=["part"]) (fv:=[none]) rfl) (zaP (zac 0)) ⟨fun _ _ _ _ _=>⟨(zau 0 (show (["part"]:List Str).Nodup by decide +kernel)),zaE,(znP c_fresh hr (qu _) rfl (zaa (zac 0) zae) ln1)⟩⟩)))) zaM) (zah (zbQ (zaI (zaB zep rfl B.z_isinstance (by rfl) (zaa (zac 0) (zaa (zhd rfl B.z_tuple (by rfl)) zae)))) (zan (zaz (zbo zkM rfl B.z_tuple (by rfl) (zaa (DO.de (zbD rfl (CompScope.of rfl rfl) (FvOk.of (N':=["part"]) (fv:=[none]) rfl) (zaP (zac 0)) ⟨fun _ _ _ _ _=>⟨(zau 0 (show (["part"]:List Str).Nodup by decide +kernel)),zaE,(znP c_fresh hr (qu _) rfl (zaa (zac 0) zae) ln1)⟩⟩)) zae)))) zaM) (zan (zaz (zac 0)))))
def zeq (zaZ:FQ) (zay:FQ):FQ:=zrG 3 "Shop"
  (zaF (zb1 8 (cF zaZ (zab (vSh 1) (zab (vSh 2) (zab (vSh 3) (zab (vSh 4) (zab (vSh 5) (zab (vSh 6) (zab (vSh 7) zaj))))))))) (zaF (sIf (toB (b2 znn (vSh 8) (vC .non))) sNo zcC) (zaF (zfp "Shop" "benches" 0 (cF zay (zab (vSh 1) zaj))) (zaF (zfp "Shop" "steps" 0 (cF zay (zab (vSh 2) zaj))) (zaF (zfp "Shop" "jobs" 0 (cF zay (zab (vSh 3) zaj))) (zaF (zfp "Shop" "setups" 0 (cF zay (zab (vSh 4) zaj))) (zaF (zfp "Shop" "links" 0 (cF zay (zab (vSh 5) zaj))) (zaF (zfp "Shop" "stocks" 0 (cF zay (zab (vSh 6) zaj))) (zaF (zfp "Shop" "horizon" 0 (vSh 7)) (zaF (zfp "Shop" "bench_by_name" 0 (cF zjD (zab (zaX (zaH (itF (zhE "Shop" "benches" 0)) (zaV 0) tT (zca (szF (zab (b2 ixD (vSh 0) (vC (.int 0))) (zab (vSh 0) zaj)))) [none])) zaj))) (zaF (zfp "Shop" "step_by_name" 0 (cF zjD (zab (zaX (zaH (itF (zhE "Shop" "steps" 0)) (zaV 0) tT (zca (szF (zab (b2 ixD (vSh 0) (vC (.int 0))) (zab (vSh 0) zaj)))) [none])) zaj))) (zaF (zfp "Shop" "setup_by_names" 0 (cF zlr (zab (zaX (zaH (itF (zhE "Shop" "setups" 0)) (zaV 0) tT (zca (szF (zab (slF (vSh 0) pN (pS (vC (.int 3)))) (zab (b2 ixD (vSh 0) (vC (.int 3))) zaj)))) [none])) zaj))) (zaF (zrE "Shop" "job_by_step" 0) (zgG (itF (zhE "Shop" "jobs" 0)) (zaV 9) (zgG (itF (b2 ixD (vSh 9) (vC (.int 4)))) (zaV 10) (zdq "Shop" "job_by_step" 0 (vSh 10) (vSh 9)))))))))))))))))
theorem zcd:FnScope ["self","benches","steps","jobs","setups","links","stocks","horizon","part","row","step"] ["self","benches","steps","jobs","setups","links","stocks","horizon"] (zaf zc8):=by trivial
theorem zf6 {zaZ:FQ} {zay:FQ} {C:Addr} (O:ClsOk Γ K mg "Shop" C) (F:DfnM K C "Shop" "__init__" "Shop.__init__" zc8) (B:Bn mg) (c_first_bad_part:Cal Γ P w K mg base "first_bad_part" 7 7 zaZ) (c_fresh:Cal Γ P w K mg base "fresh" 1 8 zay) (cf_Shop:CF Γ K "Shop" zdc):CalI Γ P w K mg base "Shop" 7 9 (zeq zaZ zay) :=
 DfnM.calI (k:=8) O F zcd (fun _ _ _ _ _ _ us hl=>match us,hl with | [_,_,_,_,_,_,_,_],_=>rfl) fun f y cdv A outer s H E hr =>
  (zah (zbh 8 zcd.nd (dC (c_first_bad_part.re y) hr (zaa (zac 1) (zaa (zac 2) (zaa (zac 3) (zaa (zac 4) (zaa (zac 5) (zaa (zac 6) (zaa (zac 7) zae))))))) ln7)) (zah (zbQ (zcX zpa (zac 8) zpU (zb7 _)) (zan zuc) zaM) (zah (zdx 0 (cf_Shop.re y) (.head _) (dC (c_fresh.re y) hr (zaa (zac 1) zae) ln1)) (zah (zdx 0 (cf_Shop.re y) (.tail _ (.head _)) (dC (c_fresh.re y) hr (zaa (zac 2) zae) ln1)) (zah (zdx 0 (cf_Shop.re y) (.tail _ (.tail _ (.head _))) (dC (c_fresh.re y) hr (zaa (zac 3) zae) ln1)) (zah (zdx 0 (cf_Shop.re y) (.tail _ (.tail _ (.tail _ (.head _)))) (dC (c_fresh.re y) hr (zaa (zac 4) zae) ln1)) (zah (zdx 0 (cf_Shop.re y) (.tail _ (.tail _ (.tail _ (.tail _ (.head _))))) (dC (c_fresh.re y) hr (zaa (zac 5) zae) ln1)) (zah (zdx 0 (cf_Shop.re y) (.tail _ (.tail _ (.tail _ (.tail _ (.tail _ (.head _)))))) (dC (c_fresh.re y) hr (zaa (zac 6) zae) ln1)) (zah (zdx 0 (cf_Shop.re y) (.tail _ (.tail _ (.tail _ (.tail _ (.tail _ (.tail _ (.head _))))))) (zac 7)) (zah (zdx 0 (cf_Shop.re y) (.tail _ (.tail _ (.tail _ (.tail _ (.tail _ (.tail _ (.tail _ (.head _)))))))) (zbo (zkN rfl (zpM hr)) rfl B.z_dict (by rfl) (zaa (DO.de (zbD rfl (CompScope.of rfl rfl) (FvOk.of (N':=["row"]) (fv:=[none]) rfl) (zaP (ziI 0 (cf_Shop.re y) (.head _))) ⟨fun _ _ _ _ _=>⟨(zau 0 (show (["row"]:List Str).Nodup by decide +kernel)),zaE,(zb8 (zaa (zas (zac 0) zad) (zaa (zac 0) zae)))⟩⟩)) zae))) (zah (zdx 0 (cf_Shop.re y) (.tail _ (.tail _ (.tail _ (.tail _ (.tail _ (.tail _ (.tail _ (.tail _ (.head _))))))))) (zbo (zkN rfl (zpM hr)) rfl B.z_dict (by rfl) (zaa (DO.de (zbD rfl (CompScope.of rfl rfl) (FvOk.of (N':=["row"]) (fv:=[none]) rfl) (zaP (ziI 0 (cf_Shop.re y) (.tail _ (.head _)))) ⟨fun _ _ _ _ _=>⟨(zau 0 (show (["row"]:List Str).Nodup by decide +kernel)),zaE,(zb8 (zaa (zas (zac 0) zad) (zaa (zac 0) zae)))⟩⟩)) zae))) (zah (zdx 0 (cf_Shop.re y) (.tail _ (.tail _ (.tail _ (.tail _ (.tail _ (.tail _ (.tail _ (.tail _ (.tail _ (.head _)))))))))) (zbo (zod rfl (zpM hr)) rfl B.z_dict (by rfl) (zaa (DO.de (zbD rfl (CompScope.of rfl rfl) (FvOk.of (N':=["row"]) (fv:=[none]) rfl) (zaP (ziI 0 (cf_Shop.re y) (.tail _ (.tail _ (.tail _ (.head _)))))) ⟨fun _ _ _ _ _=>⟨(zau 0 (show (["row"]:List Str).Nodup by decide +kernel)),zaE,(zb8 (zaa (zbR (zac 0) zcw (zcv zad)) (zaa (zas (zac 0) zad) zae)))⟩⟩)) zae))) (zah (zs9 0 (cf_Shop.re y) (.tail _ (.tail _ (.tail _ (.tail _ (.tail _ (.tail _ (.tail _ (.tail _ (.tail _ (.tail _ (.head _)))))))))))) (zan (zek PassesOwn.never rfl (zaP (ziI 0 (cf_Shop.re y) (.tail _ (.tail _ (.head _))))) (zau 9 zcd.nd) (zan (zek PassesOwn.never rfl (zaP (zas (zac 9) zad)) (zau 10 zcd.nd) (zan (znC 0 (zpM hr) (cf_Shop.re y) (.tail _ (.tail _ (.tail _ (.tail _ (.tail _ (.tail _ (.tail _ (.tail _ (.tail _ (.tail _ (.head _))))))))))) (zac 10) (zac 9))))))))))))))))))))
def zhx (za7:FQ):FQ:=zb9 0
  (zbj (cF za7 (zab (b2 ixD (vSh 0) (vC (.int 0))) (zab (b2 ixD (vSh 0) (vC (.int 1))) (zab (b2 ixD (vSh 0) (vC (.int 2))) (zab (b2 ixD (vSh 0) (vC (.int 3))) (zab (b2 ixD (vSh 0) (vC (.int 4))) (zab (b2 ixD (vSh 0) (vC (.int 5))) (zab (b2 ixD (vSh 0) (vC (.int 6))) zaj)))))))))
theorem zjj:FnScope ["_law_lists_here"] ["_law_lists_here"] (zaf zeX):=by trivial
theorem ziW {za7:FQ} (F:Dfn K mg "_law_shop" zeX) (B:Bn mg) (c_Shop___init__:CalI Γ P w K mg base "Shop" 7 9 za7):Cal Γ P w K mg base "_law_shop" 1 11 (zhx za7) :=
 F.cal (k:=10) zjj (fun _ _ _ _ _ _ us hl=>match us,hl with | [_],_=>rfl) fun f cdv A outer s H E hr =>
  (zan (zaz (zrn c_Shop___init__ hr (by decide) rfl (zaa (zas (zac 0) zad) (zaa (zas (zac 0) zad) (zaa (zas (zac 0) zad) (zaa (zas (zac 0) zad) (zaa (zas (zac 0) zad) (zaa (zas (zac 0) zad) (zaa (zas (zac 0) zad) zae))))))) ln7)))
def zdI (zay:FQ):FQ:=zb9 0
  (zbj (cF zay (zab (zln "Shop" "benches" (vSh 0)) zaj)))
theorem zfo:FnScope ["self"] ["self"] (zaf zcI):=by trivial
theorem zfa {zay:FQ} {C:Addr} (O:ClsOk Γ K mg "Shop" C) (F:DfnM K C "Shop" "bench_rows" "Shop.bench_rows" zcI) (B:Bn mg) (c_fresh:Cal Γ P w K mg base "fresh" 1 8 zay) (cf_Shop:CF Γ K "Shop" zdc):CalM Γ P w K mg base "Shop" "bench_rows" 1 9 (zdI zay) :=
 DfnM.cal (k:=8) O F zfo (fun _ _ _ _ _ _ us hl=>match us,hl with | [_],_=>rfl) fun f cdv A outer s H E hr =>
  (zan (zaz (dC c_fresh hr (zaa (zfy cf_Shop (.head _) (zac 0)) zae) ln1)))
def zdZ (zay:FQ):FQ:=zb9 0
  (zbj (cF zay (zab (zln "Shop" "steps" (vSh 0)) zaj)))
theorem zfK:FnScope ["self"] ["self"] (zaf zcT):=by trivial
theorem zfB {zay:FQ} {C:Addr} (O:ClsOk Γ K mg "Shop" C) (F:DfnM K C "Shop" "step_rows" "Shop.step_rows" zcT) (B:Bn mg) (c_fresh:Cal Γ P w K mg base "fresh" 1 8 zay) (cf_Shop:CF Γ K "Shop" zdc):CalM Γ P w K mg base "Shop" "step_rows" 1 9 (zdZ zay) :=
 DfnM.cal (k:=8) O F zfK (fun _ _ _ _ _ _ us hl=>match us,hl with | [_],_=>rfl) fun f cdv A outer s H E hr =>
  (zan (zaz (dC c_fresh hr (zaa (zfy cf_Shop (.tail _ (.head _)) (zac 0)) zae) ln1)))
def zjT (zay:FQ):List D->Option (List D):=zmx 0
  (zaF (sIf (toB (cF zfZ (zab (vSh 0) (zab (vC (.ty "list")) zaj)))) (zis (zaH (itF (vSh 0)) (zaV 0) tT (cF zay (zab (vSh 0) zaj)) [none])) zcC) (zaF (sIf (toB (cF zfZ (zab (vSh 0) (zab (vC (.ty "tuple")) zaj)))) (zbj (cF zkL (zab (zaX (zaH (itF (vSh 0)) (zaV 0) tT (cF zay (zab (vSh 0) zaj)) [none])) zaj))) zcC) (zbj (vSh 0))))
theorem zlJ:FnScope ["thing"] ["thing"] (zaf zgR):=by trivial
theorem zkA {zay:FQ} (F:Dfn K mg "fresh" zgR) (B:Bn mg) (c_fresh:Cal Γ P w K mg base "fresh" 1 8 zay):CalO Γ P w K mg base "fresh" 1 9 (zjT zay) :=
 F.calO (k:=8) zlJ (fun _ _ _ _ _ _ us hl=>match us,hl with | [_],_=>rfl) fun f cdv A outer s H E hr =>
  (zah (zbQ (zaI (zaB zep rfl B.z_isinstance (by rfl) (zaa (zac 0) (zaa (zhd rfl B.z_list (by rfl)) zae)))) (zan (zkp (zbD rfl (CompScope.of rfl rfl) (FvOk.of (N':=["part"]) (fv:=[none]) rfl) (zaP (zac 0)) ⟨fun _ _ _ _ _=>⟨(zau 0 (show (["part"]:List Str).Nodup by decide +kernel)),zaE,(dC c_fresh hr (zaa (zac 0) zae) ln1)⟩⟩))) zaM) (zah (zbQ (zaI (zaB zep rfl B.z_isinstance (by rfl) (zaa (zac 0) (zaa (zhd rfl B.z_tuple (by rfl)) zae)))) (zan (zaz (zbo zkM rfl B.z_tuple (by rfl) (zaa (DO.de (zbD rfl (CompScope.of rfl rfl) (FvOk.of (N':=["part"]) (fv:=[none]) rfl) (zaP (zac 0)) ⟨fun _ _ _ _ _=>⟨(zau 0 (show (["part"]:List Str).Nodup by decide +kernel)),zaE,(dC c_fresh hr (zaa (zac 0) zae) ln1)⟩⟩)) zae)))) zaM) (zan (zaz (zac 0)))))
def zdH (zbp:List D->Option (List D)):List D->Option (List D):=zmx 0
  (zis (cFO zbp (zab (zln "Shop" "jobs" (vSh 0)) zaj)))
theorem zfn:FnScope ["self"] ["self"] (zaf zcH):=by trivial
theorem ze9 {zbp:List D->Option (List D)} {C:Addr} (O:ClsOk Γ K mg "Shop" C) (F:DfnM K C "Shop" "job_rows" "Shop.job_rows" zcH) (B:Bn mg) (c_fresh_O:CalO Γ P w K mg base "fresh" 1 9 zbp) (cf_Shop:CF Γ K "Shop" zdc):CalMO Γ P w K mg base "Shop" "job_rows" 1 10 (zdH zbp) :=
 DfnM.calO (k:=9) O F zfn (fun _ _ _ _ _ _ us hl=>match us,hl with | [_],_=>rfl) fun f cdv A outer s H E hr =>
  (zan (zkp (zlq c_fresh_O hr (by decide) rfl (zaa (zfy cf_Shop (.tail _ (.tail _ (.head _))) (zac 0)) zae) ln1)))
def zdG (zay:FQ):FQ:=zb9 0
  (zbj (cF zay (zab (zln "Shop" "setups" (vSh 0)) zaj)))
theorem zfm:FnScope ["self"] ["self"] (zaf zcG):=by trivial
theorem ze8 {zay:FQ} {C:Addr} (O:ClsOk Γ K mg "Shop" C) (F:DfnM K C "Shop" "setup_rows" "Shop.setup_rows" zcG) (B:Bn mg) (c_fresh:Cal Γ P w K mg base "fresh" 1 8 zay) (cf_Shop:CF Γ K "Shop" zdc):CalM Γ P w K mg base "Shop" "setup_rows" 1 9 (zdG zay) :=
 DfnM.cal (k:=8) O F zfm (fun _ _ _ _ _ _ us hl=>match us,hl with | [_],_=>rfl) fun f cdv A outer s H E hr =>
  (zan (zaz (dC c_fresh hr (zaa (zfy cf_Shop (.tail _ (.tail _ (.tail _ (.head _)))) (zac 0)) zae) ln1)))
def zd0 (zay:FQ):FQ:=zb9 0
  (zbj (cF zay (zab (zln "Shop" "links" (vSh 0)) zaj)))
theorem zfL:FnScope ["self"] ["self"] (zaf zcU):=by trivial
theorem zfC {zay:FQ} {C:Addr} (O:ClsOk Γ K mg "Shop" C) (F:DfnM K C "Shop" "link_rows" "Shop.link_rows" zcU) (B:Bn mg) (c_fresh:Cal Γ P w K mg base "fresh" 1 8 zay) (cf_Shop:CF Γ K "Shop" zdc):CalM Γ P w K mg base "Shop" "link_rows" 1 9 (zd0 zay) :=
 DfnM.cal (k:=8) O F zfL (fun _ _ _ _ _ _ us hl=>match us,hl with | [_],_=>rfl) fun f cdv A outer s H E hr =>
  (zan (zaz (dC c_fresh hr (zaa (zfy cf_Shop (.tail _ (.tail _ (.tail _ (.tail _ (.head _))))) (zac 0)) zae) ln1)))
def zde (zbp:List D->Option (List D)):List D->Option (List D):=zmx 0
  (zis (cFO zbp (zab (zln "Shop" "stocks" (vSh 0)) zaj)))
theorem zew:FnScope ["self"] ["self"] (zaf zch):=by trivial
theorem zeo {zbp:List D->Option (List D)} {C:Addr} (O:ClsOk Γ K mg "Shop" C) (F:DfnM K C "Shop" "stock_rows" "Shop.stock_rows" zch) (B:Bn mg) (c_fresh_O:CalO Γ P w K mg base "fresh" 1 9 zbp) (cf_Shop:CF Γ K "Shop" zdc):CalMO Γ P w K mg base "Shop" "stock_rows" 1 10 (zde zbp) :=
 DfnM.calO (k:=9) O F zew (fun _ _ _ _ _ _ us hl=>match us,hl with | [_],_=>rfl) fun f cdv A outer s H E hr =>
  (zan (zkp (zlq c_fresh_O hr (by decide) rfl (zaa (zfy cf_Shop (.tail _ (.tail _ (.tail _ (.tail _ (.tail _ (.head _)))))) (zac 0)) zae) ln1)))
def zcy:FQ:=zb9 0
  (zbj (zln "Shop" "horizon" (vSh 0)))
theorem zeO:FnScope ["self"] ["self"] (zaf zcq):=by trivial
theorem zez {C:Addr} (O:ClsOk Γ K mg "Shop" C) (F:DfnM K C "Shop" "last_moment" "Shop.last_moment" zcq) (B:Bn mg) (cf_Shop:CF Γ K "Shop" zdc):CalM Γ P w K mg base "Shop" "last_moment" 1 1 (zcy) :=
 DfnM.cal (k:=0) O F zeO (fun _ _ _ _ _ _ us hl=>match us,hl with | [_],_=>rfl) fun f cdv A outer s H E hr =>
  (zan (zaz (zfy cf_Shop (.tail _ (.tail _ (.tail _ (.tail _ (.tail _ (.tail _ (.head _))))))) (zac 0))))
def zhw (zaU:FQ) (za0:FQ) (zaT:List D->Option (List D)) (zaS:FQ) (za1:FQ) (zaO:List D->Option (List D)) (zaL:FQ):List D->Option (List D):=zur 1
  (zrC (zfU "Shop" "bench_rows" zaU (vSh 0) zaj) (zfU "Shop" "step_rows" za0 (vSh 0) zaj) (zlR "Shop" "job_rows" zaT (vSh 0) zaj) (zfU "Shop" "setup_rows" zaS (vSh 0) zaj) (zfU "Shop" "link_rows" za1 (vSh 0) zaj) (zlR "Shop" "stock_rows" zaO (vSh 0) zaj) (zfU "Shop" "last_moment" zaL (vSh 0) zaj))
theorem zgj:FnScope ["_law_shop_here","_law_found"] ["_law_shop_here"] (zaf zeW):=by trivial
theorem ziV {zaU:FQ} {za0:FQ} {zaT:List D->Option (List D)} {zaS:FQ} {za1:FQ} {zaO:List D->Option (List D)} {zaL:FQ} (F:Dfn K mg "_law_told" zeW) (B:Bn mg) (c_Shop_bench_rows:CalM Γ P w K mg base "Shop" "bench_rows" 1 9 zaU) (c_Shop_step_rows:CalM Γ P w K mg base "Shop" "step_rows" 1 9 za0) (c_Shop_job_rows_O:CalMO Γ P w K mg base "Shop" "job_rows" 1 10 zaT) (c_Shop_setup_rows:CalM Γ P w K mg base "Shop" "setup_rows" 1 9 zaS) (c_Shop_link_rows:CalM Γ P w K mg base "Shop" "link_rows" 1 9 za1) (c_Shop_stock_rows_O:CalMO Γ P w K mg base "Shop" "stock_rows" 1 10 zaO) (c_Shop_last_moment:CalM Γ P w K mg base "Shop" "last_moment" 1 1 zaL):CalSep Γ P w K mg base "_law_told" 1 11 (zhw zaU za0 zaT zaS za1 zaO zaL) :=
 F.calTld (k:=10) (i:=1) zgj (by decide) (by decide) (fun _ _ _ _ _ _ us hl=>match us,hl with | [_],_=>rfl) fun f cdv A outer s H E hr =>
  (zbk (zfq zgj.nd rfl (.inl rfl) (zk1 (zaK (zdU c_Shop_bench_rows hr (by decide) (zac 0)).1 (zaK (zdU c_Shop_step_rows hr (by decide) (zac 0)).1 (zaK (zlp c_Shop_job_rows_O hr (by decide) (zac 0)).1 (zaK (zdU c_Shop_setup_rows hr (by decide) (zac 0)).1 (zaK (zdU c_Shop_link_rows hr (by decide) (zac 0)).1 zbT))))))) (zcJ (zgl (zqu zmV (pv 1) (zk1 (zaK (zlp c_Shop_stock_rows_O hr (by decide) (zac 0)).1 (zaK (zdU c_Shop_last_moment hr (by decide) (zac 0)).1 zbT)))))))
theorem zbd:FnScope ["_law_lists_here","_law_name_here","_law_breaks","_law_kind","_law_ways","_law_row","_law_some"] ["_law_lists_here"] (zaf zeb):=by trivial
theorem zhN (F:Dfn K mg "_law_spoil" zeb) (B:Bn mg):CalSp P w K mg base "_law_spoil" 1 :=
 F.calSp (k:=0) zbd rfl rfl (fun _ _ _ _ _ _ us hl=>match us,hl with | [_],_=>rfl) fun f cdv A outer s H E hr =>
  (zbk (zgU PassesOwn.never rfl (zgW (zjp zgn (pv 0) zdj (by intro _ _;rfl))) (zmI (n:=2) rfl (zes (zds zbd.nd (i:=1) rfl (.inl rfl)) (zes (zds zbd.nd (i:=2) rfl (.inl rfl)) zka))) (zcJ (zdr (zkc PySem.F.plainAttrs_list PySem.F.slot_list_append PySem.F.type_list_append zda (pv 2) (zaK (zkX (zaK zdj (zaK zdj zbT))) zbT))))) (zbk (zgU PassesOwn.never rfl (zgW (zjp zgn (pv 0) zdj (by intro _ _;rfl))) (zmI (n:=3) rfl (zes (zds zbd.nd (i:=1) rfl (.inl rfl)) (zes (zds zbd.nd (i:=3) rfl (.inl rfl)) (zes (zds zbd.nd (i:=4) rfl (.inl rfl)) zka)))) (zcJ (zdr (zkc PySem.F.plainAttrs_list PySem.F.slot_list_append PySem.F.type_list_append zda (pv 4) (zaK (zkX (zaK zkY (zaK zdj zbT))) zbT))))) (zbk (zgU PassesOwn.never rfl (zgW (zjp zgn (pv 0) zdj (by intro _ _;rfl))) (zds zbd.nd (i:=5) rfl (.inl rfl)) (zcJ (zdr (zkc PySem.F.plainAttrs_list PySem.F.slot_list_append PySem.F.type_list_append zda (zjp zgn (pv 5) zdj (by intro _ _;rfl)) (zaK zkY zbT))))) (zbk (zgU PassesOwn.never rfl (zgW (zjp zgn (pv 0) zdj (by intro _ _;rfl))) (zds zbd.nd (i:=5) rfl (.inl rfl)) (zbk (zdr (zkc PySem.F.plainAttrs_list PySem.F.slot_list_append PySem.F.type_list_append zda (zjp zgn (pv 5) zdj (by intro _ _;rfl)) (zaK (zkX (zaK zkY (zaK zdj zbT))) zbT))) (zcJ (zdr (zsq PySem.F.plainAttrs_list PySem.F.slot_list_clear PySem.F.type_list_clear zoI (zjp zgn (pv 5) zdj (by intro _ _;rfl))))))) (zcJ (zgU PassesOwn.never rfl (zgW (zkZ zmp (pv 0) zmE (zmD zdj))) (zds zbd.nd (i:=6) rfl (.inl rfl)) (zcJ (zdr (zkc PySem.F.plainAttrs_list PySem.F.slot_list_append PySem.F.type_list_append zda (pv 6) (zaK zpA zbT))))))))))
def zcL:FQ:=zb9 0
  (zbj (zaX (zaH (itF (zln "Shop" "steps" (vSh 0))) (zaV 0) tT (b2 ixD (vSh 0) (vC (.int 0))) [none])))
theorem zfl:FnScope ["self"] ["self"] (zaf zcF):=by trivial
theorem ze7 {C:Addr} (O:ClsOk Γ K mg "Shop" C) (F:DfnM K C "Shop" "step_names" "Shop.step_names" zcF) (B:Bn mg) (cf_Shop:CF Γ K "Shop" zdc):CalM Γ P w K mg base "Shop" "step_names" 1 1 (zcL) :=
 DfnM.cal (k:=0) O F zfl (fun _ _ _ _ _ _ us hl=>match us,hl with | [_],_=>rfl) fun f cdv A outer s H E hr =>
  (zan (zaz (DO.de (zbD rfl (CompScope.of rfl rfl) (FvOk.of (N':=["row"]) (fv:=[none]) rfl) (zaP (zfy cf_Shop (.tail _ (.head _)) (zac 0))) ⟨fun _ _ _ _ _=>⟨(zau 0 (show (["row"]:List Str).Nodup by decide +kernel)),zaE,(zas (zac 0) zad)⟩⟩))))
def zcz:FQ:=zb9 0
  (zbj (zaX (zaH (itF (zln "Shop" "benches" (vSh 0))) (zaV 0) tT (b2 ixD (vSh 0) (vC (.int 0))) [none])))
theorem zeP:FnScope ["self"] ["self"] (zaf zcr):=by trivial
theorem zeA {C:Addr} (O:ClsOk Γ K mg "Shop" C) (F:DfnM K C "Shop" "bench_names" "Shop.bench_names" zcr) (B:Bn mg) (cf_Shop:CF Γ K "Shop" zdc):CalM Γ P w K mg base "Shop" "bench_names" 1 1 (zcz) :=
 DfnM.cal (k:=0) O F zeP (fun _ _ _ _ _ _ us hl=>match us,hl with | [_],_=>rfl) fun f cdv A outer s H E hr =>
  (zan (zaz (DO.de (zbD rfl (CompScope.of rfl rfl) (FvOk.of (N':=["row"]) (fv:=[none]) rfl) (zaP (zfy cf_Shop (.head _) (zac 0))) ⟨fun _ _ _ _ _=>⟨(zau 0 (show (["row"]:List Str).Nodup by decide +kernel)),zaE,(zas (zac 0) zad)⟩⟩))))
def l1 (zav:FQ):FE:=(b2 ixD (zaX (szF (zab (vC (.int 9)) (zab (vC (.int 40)) (zab (b2 zsk (vC (.int 10)) (vC (.int 6))) (zab (b2 zbF (vC (.int 1)) (b2 zcs (cF zav (zab (vSh 0) (zab (vC (.int 20)) zaj))) (vC (.int 30)))) zaj)))))) (b2 zcs (cF zav (zab (vSh 0) (zab (vC (.int 21)) zaj))) (vC (.int 4))))
def lr (zav:FQ):FA:=(zab (vSh 0) (zab (b2 zbF (vC (.int 1)) (b2 zcs (cF zav (zab (vSh 0) (zab (vC (.int 22)) zaj))) (vC (.int 10)))) (zab (vSh 1) (zab (vC (.int 7)) zaj))))
def lc:FT:=(orT (toB (b2 neA (vSh 6) (vSh 3))) (toB (cF zfZ (zab (b2 ixD (vSh 6) (vC (.int 6))) (zab (vC (.ty "bool")) zaj)))))
def ln:FE:=(zaX (szF (zab (zaX (zaH (itF (b2 ixD (vSh 3) (vC (.int 0)))) (zaV 0) tT (b2 ixD (vSh 0) (vC (.int 0))) [none])) (zab (zaX (zaH (itF (b2 ixD (vSh 3) (vC (.int 1)))) (zaV 0) tT (b2 ixD (vSh 0) (vC (.int 0))) [none])) zaj))))
def ld (zaJ:FQ) (zaG:FQ):FT:=(toB (b2 neA (zaX (szF (zab (zfU "Shop" "bench_names" zaG (vSh 4) zaj) (zab (zfU "Shop" "step_names" zaJ (vSh 4) zaj) zaj)))) (vSh 7)))
theorem zgi:FnScope ["_law_script","_law_horizon","_law_lists_here","_law_due","_law_shop_here","_law_turn","_law_told_here","_law_names"] ["_law_script"] (zaf zgC):=by trivial
theorem zrs {zcp:List D->Option (List D)} {zcM:FQ} {zcO:FQ} {zcN:List D->Option (List D)} {zav:FQ} {zaJ:FQ} {zaG:FQ} (B:Bn mg) (c__law_lists:CalSep Γ P w K mg base "_law_lists" 4 3 zcp) (c__law_twin:Cal Γ P w K mg base "_law_twin" 1 1 zcM) (c__law_shop:Cal Γ P w K mg base "_law_shop" 1 11 zcO) (c__law_told:CalSep Γ P w K mg base "_law_told" 1 11 zcN) (c__law_spoil:CalSp P w K mg base "_law_spoil" 1) (c__law_cell:Cal Γ P w K mg base "_law_cell" 2 1 zav) (c_Shop_step_names:CalM Γ P w K mg base "Shop" "step_names" 1 1 zaJ) (c_Shop_bench_names:CalM Γ P w K mg base "Shop" "bench_names" 1 1 zaG) (f:Addr) (cdv:Value) (A:Around) (outer:List Env) (s:Shared) (H:Hp) (E:XK) (hr:Room 11 (A.deeper (envOfC "law" (zaf zgC) s.heap.objs.size f cdv))):PSs (ziK CX0 P w K mg base ["_law_script","_law_horizon","_law_lists_here","_law_due","_law_shop_here","_law_turn","_law_told_here","_law_names"] "law" (zaf zgC) f cdv A outer s H E).nox (zaW zgC)
  (ztv Γ K (ziK CX0 P w K mg base ["_law_script","_law_horizon","_law_lists_here","_law_due","_law_shop_here","_law_turn","_law_told_here","_law_names"] "law" (zaf zgC) f cdv A outer s H E).nox.H₀ (l1 zav) (lr zav) zcp zcM zcO (zmj Γ K zcN (lc) (ld zaJ zaG) (ln) (zoe (tC (.bl false))) (zoe (tC (.bl false))))) :=
  (zbk (zfq zgi.nd rfl (.inl rfl) (DE.out (zas (DO.de (zbE (zaa zad (zaa zad (zaa (ztd zad zad) (zaa (za9 zad (zbS (dC c__law_cell hr (zaa (zac 0) (zaa zad zae)) ln2) zad)) zae)))))) (zbS (dC c__law_cell hr (zaa (zac 0) (zaa zad zae)) ln2) zad)))) (zbk (zfq zgi.nd rfl (.inl rfl) (zlO c__law_lists.ex hr (by decide) rfl (DA.out (zaa (zac 0) (zaa (za9 zad (zbS (dC c__law_cell hr (zaa (zac 0) (zaa zad zae)) ln2) zad)) (zaa (zac 1) (zaa zad zae))))))) (zpw (zbk (zfq zgi.nd rfl (.inl rfl) (zlO c__law_twin.ex hr (by decide) rfl (zaK (pv 2) zbT))) (zbk (zfq zgi.nd rfl (.inl rfl) (zlO c__law_shop.ex hr (by decide) rfl (zaK (pv 2) zbT))) (zpw (zbk (zdr (zlO c__law_spoil.ex hr (by decide) rfl (zaK (pv 2) zbT))) (zbk (zgU PassesOwn.never rfl (zjo rfl B.z_range (zaK zdj zbT)) (zds zgi.nd (i:=5) rfl (.inl rfl)) (zbk (zfq zgi.nd rfl (.inl rfl) (zlO c__law_told.ex hr (by decide) rfl (zaK (pv 4) zbT))) (zbk (zqr (DT.out (DW.dt (zc1 (zcX (zib (zrL hr)) (zac 6) (zac 3) (zb7 _)) (zcm (zaI (zaB zep rfl B.z_isinstance (by rfl) (zaa (zas (zac 6) zad) (zaa (zhd rfl B.z_bool (by rfl)) zae)))))))) (zcJ (zgl zoz)) zj8) (zbk (zfq zgi.nd rfl (.inl rfl) (DE.out (DO.de (zbE (zaa (DO.de (zbD rfl (CompScope.of rfl rfl) (FvOk.of (N':=["_law_row"]) (fv:=[none]) rfl) (zaP (zas (zac 3) zad)) ⟨fun _ _ _ _ _=>⟨(zau 0 (show (["_law_row"]:List Str).Nodup by decide +kernel)),zaE,(zas (zac 0) zad)⟩⟩)) (zaa (DO.de (zbD rfl (CompScope.of rfl rfl) (FvOk.of (N':=["_law_row"]) (fv:=[none]) rfl) (zaP (zas (zac 3) zad)) ⟨fun _ _ _ _ _=>⟨(zau 0 (show (["_law_row"]:List Str).Nodup by decide +kernel)),zaE,(zas (zac 0) zad)⟩⟩)) zae)))))) (zbk (zqr (DT.out (zcX (zib (zrL hr)) (DO.de (zbE (zaa (zdU c_Shop_bench_names hr (by decide) (zac 4)) (zaa (zdU c_Shop_step_names hr (by decide) (zac 4)) zae)))) (zac 7) (zb7 _))) (zcJ (zgl zoz)) zj8) (zcJ (zdr (zlO c__law_spoil.ex hr (by decide) rfl (zaK (pv 6) zbT))))))))) (zcJ (zgl zoz))))))))))
end Law
end
section
namespace Law
open PySem L2 PySem.Spec PyProof.Rows
def zav:FQ:=zhA
def zai:FQ:=zfI
def zbs:FQ:=zgx
def zaq:FQ:=zhy
def zbg:FQ:=zeK zai zbs zaq
def zbJ:FQ:=zgw zai zaq
def zbX:List D->Option (List D):=zhz zai zaq
def zbt:FQ:=zfH zai
def zbK:FQ:=zgz zai
def zbr:List D->Option (List D):=zfG zai zaq
def zcp:List D->Option (List D):=zgy zav zbg zbJ zbX zbt zbK zbr
def zcM:FQ:=zhv
def zb2:FQ:=zf8
def zak:FQ:=zfc zb2
def zal:FQ:=zf9
def zb5:FQ:=zgc zak zal
def zap:FQ:=zhr
def zbI:FQ:=zgv zb5 zap
def zaw:FQ:=zjS
def zb6:FQ:=zgd zbI zaw zal
def zag:FQ:=zcR
def zbq:FQ:=zfE zb6 zap zag
def zar:FQ:=zfd zaw
def zc2:FQ:=zi3 zak zar zal
def zcn:FQ:=zid zc2 zap zag
def zcA:FQ:=zhq zaw zal zcn
def zbV:FQ:=zht zcA zap zag
def zdo:FQ:=zlB zaw zal zak zar zap
def zco:FQ:=zie zdo zap zag
def zb4:FQ:=zgb zar zal zak zaw
def zbH:FQ:=zgu zb4 zap zag
def zcB:FQ:=zhs zar zal zak
def zbW:FQ:=zhu zcB zap zag
def zbM:FQ:=zfe zak zar zal
def zbe:FQ:=zfF zbM zap zag
def zb3:FQ:=zga zaw zal zak zbe
def zbG:FQ:=zgt zb3 zap zag
def zaZ:FQ:=zdY zak zbq zbV zco zbH zbW zbG
def zdy:Nat->FQ
 | 0=>fun _=>none
 | n+1=>zdz (zdy n)
def zay:FQ:=zdy 8
def za7:FQ:=zeq zaZ zay
def zcO:FQ:=zhx za7
def zaU:FQ:=zdI zay
def za0:FQ:=zdZ zay
def zbp:List D->Option (List D):=zjT zay
def zaT:List D->Option (List D):=zdH zbp
def zaS:FQ:=zdG zay
def za1:FQ:=zd0 zay
def zaO:List D->Option (List D):=zde zbp
def zaL:FQ:=zcy
def zcN:List D->Option (List D):=zhw zaU za0 zaT zaS za1 zaO zaL
def zaJ:FQ:=zcL
def zaG:FQ:=zcz
end Law
end
section
namespace Law
open PySem L2
theorem i2:zkk "int" "int"=some true:=rfl
theorem i3:zkk "int" "bool"=some false:=rfl
theorem i5:zkk "bool" "bool"=some true:=rfl
theorem k1:zkk "list" "list"=some true:=rfl
theorem k2:zkk "tuple" "list"=some false:=rfl
theorem k3:zkk "tuple" "tuple"=some true:=rfl
theorem k4:zkk "str" "list"=some false:=rfl
theorem k5:zkk "str" "tuple"=some false:=rfl
theorem k6:zkk "int" "list"=some false:=rfl
theorem k7:zkk "int" "tuple"=some false:=rfl
theorem k8:zkk "bool" "list"=some false:=rfl
theorem k9:zkk "bool" "tuple"=some false:=rfl
theorem k10:zkk "NoneType" "list"=some false:=rfl
theorem k11:zkk "NoneType" "tuple"=some false:=rfl
theorem sz1:(1<=sizeLine)=True:=by simp [sizeLine]
theorem sz2:(1+1<=sizeLine)=True:=by simp [sizeLine]
theorem sz3:(1+1+1<=sizeLine)=True:=by simp [sizeLine]
theorem sz4:(1+1+1+1<=sizeLine)=True:=by simp [sizeLine]
theorem sz5:(1+1+1+1+1<=sizeLine)=True:=by simp [sizeLine]
theorem sz6:(1+1+1+1+1+1<=sizeLine)=True:=by simp [sizeLine]
theorem sz7:(1+1+1+1+1+1+1<=sizeLine)=True:=by simp [sizeLine]
section
variable {x0 x1 x2 x3 x4:D} {r:List D}
theorem zdV {α:Type} (l:List α) (n:Nat):atI l (n:Int)=l[n]?:=by
 unfold atI ixN
 rw [qW (by omega)]
 by_cases h:n < l.length
 ·rw [qW (by omega)];simp
 ·rw [qX (by omega)];simp;omega
theorem zjw:ixD (.tup (x0::r)) (.int 0)=some x0:=zdV _ 0
theorem znl:ixD (.tup (x0::x1::r)) (.int 1)=some x1:=zdV _ 1
theorem zrJ:ixD (.tup (x0::x1::x2::r)) (.int 2)=some x2:=zdV _ 2
theorem zsX:ixD (.tup (x0::x1::x2::x3::r)) (.int 3)=some x3:=zdV _ 3
theorem zq8:ixD (.tup (x0::x1::x2::x3::x4::r)) (.int 4)=some x4:=zdV _ 4
end
theorem zrq {fe:FE} {r:zaY} {f:D->D}:∀ {xs:List D} {a:Option Slot},(∀ x∈xs,fe (oS x::r)=some (f x))->zhG (zaV 0) tT fe xs (a::r)=some (xs.map f)
 | [],_,_=>rfl
 | x::xs,a,h=>by
  have h1:=h x qf
  have ih:=zrq (xs:=xs) (a:=oS x) fun y hy=>h y (qg _ hy)
  simp only [zhG,zaV,List.set_cons_zero,qa,tT,if_true,h1,ih,qd,ql]
theorem zn1:∀ {l:List D},(∀ x∈l,x=.bl true)->∃ bs:List Bool,zrN l=some bs/\bs.all id=true
 | [],_=>⟨[],rfl,rfl⟩
 | x::r,h=>by
  obtain ⟨bs,h1,h2⟩:=zn1 (l:=r) fun y hy=>h y (qg _ hy)
  have hx:=h x qf
  subst hx
  exact ⟨true::bs,by simp [zrN,h1],by simpa using h2⟩
theorem zcf {fi:FA} {fe:FE} {fv:List (Option Nat)} {ρ r:zaY} {a:Option Slot} {xs:List D} (h1:fi ρ=some xs) (h2:xs.length<=sizeLine) (h3:ze4 fv ρ=a::r) (h:∀ x∈xs,fe (oS x::r)=some (.bl true)) :
  cF zjR (zab (zaX (zaH fi (zaV 0) tT fe fv)) zaj) ρ=some (.bl true):=by
 have c:=zrq (a:=a) (f:=fun _=>.bl true) h
 obtain ⟨bs,e1,e2⟩:=zn1 (l:=xs.map fun _=>D.bl true) (by simp)
 simp only [cF,zab,zaj,zaX,zaH,h1,qa,qW h2,h3,c,qd,zjR,e1]
 simpa using e2
theorem zbA {fi:FA} {fe:FE} {fv:List (Option Nat)} {ρ r:zaY} {a:Option Slot} {xs:List D} {f:D->D} (h1:fi ρ=some xs) (h2:xs.length<=sizeLine) (h3:ze4 fv ρ=a::r) (h:∀ x∈xs,fe (oS x::r)=some (f x)) :
  zaX (zaH fi (zaV 0) tT fe fv) ρ=some (.lst (xs.map f)):=by
 simp only [zaX,zaH,h1,qa,qW h2,h3,zrq (a:=a) h,qd]
theorem zdb {gg:FG} {body:FS} {xs:List D} {ρ:zaY} (I:Nat->zaY->Prop) (h0:I 0 ρ) (hs:∀ i x ρ,xs[i]?=some x->I i ρ->∃ ρ1 ρ2,gg x ρ=some ρ1/\body ρ1=some (.nx,ρ2)/\I (i+1) ρ2) :
  ∃ ρ',znx gg body xs ρ=some (.nx,ρ')/\I xs.length ρ':=by
 have key:∀ (ys:List D) (k:Nat) (ρ:zaY),xs.drop k=ys->I k ρ->∃ ρ',znx gg body ys ρ=some (.nx,ρ')/\I (k+ys.length) ρ':=by
  intro ys
  induction ys with
  | nil=>intro k ρ _ hk;exact ⟨ρ,rfl,hk⟩
  | cons y r ih =>
   intro k ρ hd hk
   have hy:xs[k]?=some y:=by
    have:(xs.drop k)[0]?=some y:=by rw [hd];rfl
    simpa using this
   obtain ⟨ρ1,ρ2,h1,h2,h3⟩:=hs k y ρ hy hk
   have hd':xs.drop (k+1)=r:=by rw [← List.drop_drop,hd];rfl
   obtain ⟨ρ',h4,h5⟩:=ih (k+1) ρ2 hd' h3
   refine ⟨ρ',?_,by rw [qh];rwa [show k+1+r.length=k+(r.length+1) by omega] at h5⟩
   simp only [znx,h1,qa,h2,h4]
 obtain ⟨ρ',h1,h2⟩:=key xs 0 ρ rfl h0
 exact ⟨ρ',h1,by rwa [Nat.zero_add] at h2⟩
theorem ztl:(2:Int) ^ 62=4611686018427387904:=by decide +kernel
theorem zqj {i j:Int} (h:0<=i/\i<=1000000/\0<=j/\j<=1000000):zqk [.int i,.int j]=some ((List.range (j - i).toNat).map fun k:Nat=>D.int (i+k)):=by
 unfold zqk
 rw [ztl]
 exact qW ⟨by omega,by omega,by omega,by omega⟩
theorem zgT {j:Int} (h:0<=j/\j<=1000000):zkS [.int j]=some ((List.range j.toNat).map fun i:Nat=>D.int (0+i)):=by
 unfold zkS
 rw [ztl]
 exact qW ⟨by omega,by omega⟩
theorem zh6 {g:List D->Option (List D)} {fr:FA} {ρ:zaY} {ds r:List D} (h1:fr ρ=some ds) (h2:g ds=some r):itR g fr ρ=some r:=by
 unfold itR;rw [h1];exact h2
theorem zaA {g:D->D->Option D} {fa fb:FE} {ρ:zaY} {x y z:D} (h1:fa ρ=some x) (h2:fb ρ=some y) (h3:g x y=some z):b2 g fa fb ρ=some z:=by
 unfold b2;rw [h1,qa,h2,qa];exact h3
theorem za3 {g:FQ} {fr:FA} {ρ:zaY} {ds:List D} {z:D} (h1:fr ρ=some ds) (h2:g ds=some z):cF g fr ρ=some z:=by
 unfold cF;rw [h1];exact h2
theorem zam {f:FE} {fr:FA} {ρ:zaY} {d:D} {ds:List D} (h1:f ρ=some d) (h2:fr ρ=some ds):zab f fr ρ=some (d::ds):=by
 unfold zab;rw [h1,qa,h2];rfl
theorem zaD {ρ:zaY}:zaj ρ=some []:=rfl
theorem zpt {n:Nat} {g:FS} {ds:List D} {d:D} {ρ':zaY} (h:g (ds.map (fun d=>some (Slot.sh d))++List.replicate n none)=some (.rt d,ρ')):zb9 n g ds=some d:=by
 unfold zb9;rw [h];rfl
theorem za8 {n:Nat} {g:FS} {ds:List D} {d:D} (ρ:zaY) {ρ':zaY} (e:ds.map (fun d=>some (Slot.sh d))++List.replicate n none=ρ) (h:g ρ=some (.rt d,ρ')):zb9 n g ds=some d:=by
 subst e;exact zpt h
theorem za6 {f:FE} {ρ:zaY} {d:D} (h:f ρ=some d):zbj f ρ=some (.rt d,ρ):=by unfold zbj;rw [h];rfl
theorem zbb {f:FE} {ρ:zaY} {b:Bool} (h:f ρ=some (.bl b)):toB f ρ=some b:=by unfold toB;rw [h];rfl
theorem zha {A:FE} {X E:FS} {ρ:zaY} (hA:A ρ=some (.bl true)):zaF (sIf (zci (toB A)) X zcC) E ρ=E ρ:=by
 simp only [zaF,sIf,zci,zbb hA,qd,qa,Bool.not_true,qp,if_false,zcC]
theorem zej {A B:FE} {X E:FS} {ρ:zaY} (hA:A ρ=some (.bl true)) (hB:B ρ=some (.bl true)):zaF (sIf (orT (zci (toB A)) (zci (toB B))) X zcC) E ρ=E ρ:=by
 simp only [zaF,sIf,orT,zci,zbb hA,zbb hB,qd,qa,Bool.not_true,qp,if_false,zcC]
theorem zs1 {A B C:FE} {X E:FS} {ρ:zaY} (hA:A ρ=some (.bl true)) (hB:B ρ=some (.bl true)) (hC:C ρ=some (.bl true)):zaF (sIf (orT (zci (toB A)) (orT (zci (toB B)) (zci (toB C)))) X zcC) E ρ=E ρ:=by
 simp only [zaF,sIf,orT,zci,zbb hA,zbb hB,zbb hC,qd,qa,Bool.not_true,qp,if_false,zcC]
theorem zpW {A B:FE} {ρ:zaY} (hA:A ρ=some (.bl true)) (hB:B ρ=some (.bl true)):zeJ A B ρ=some (.bl true):=by
 simp only [zeJ,hA,hB,qa]
theorem zaQ {i:Nat} {f:FE} {g:FS} {ρ:zaY} {d:D} (h:f ρ=some d):zaF (zb1 i f) g ρ=g (ρ.set i (oS d)):=by
 simp only [zaF,zb1,h,qd,qa]
theorem zme (i:Int):zb2 [.int i]=some (.bl true):=by
 simp only [zb2,zf8,zb9,zbj,zeJ,ztx,cF,zab,zaj,vSh,vC,zfZ,tyD,ql,qM,qo,qP,List.replicate,qb,qa,qd,Bool.not_false,i2,i3]
theorem zby (i a b:Int) (h:a<=i/\i<=b):zak [.int i,.int a,.int b]=some (.bl true):=by
 simp only [zak,zfc,zme,zb9,zbj,zeJ,cF,zab,zaj,vSh,chD,leD,ql,qM,qo,qP,List.replicate,qb,qc,qa,qd,qQ h.1,qQ h.2]
theorem zdu (l:List D) (a b:Int) (h:a<=l.length/\(l.length:Int)<=b):zap [.flst l,.int a,.int b]=some (.bl true):=by
 simp only [zap,zhr,zb9,zbj,zeJ,cF,zab,zaj,vSh,vC,chD,zfZ,tyD,zdS,leD,ql,qM,qo,qP,List.replicate,qb,qc,qa,qd,k1,qQ h.1,qQ h.2]
theorem zgF (l:List D) (n:Int) (h:(l.length:Int)=n):zal [.tup l,.int n]=some (.bl true):=by
 simp only [zal,zf9,zb9,zbj,zeJ,cF,zab,zaj,vSh,vC,b2,zfZ,tyD,zdS,eqD,eqS,ql,qM,qo,qP,List.replicate,qb,qc,qa,qd,k3,qQ h]
section
variable {a b c d e:D}
theorem ztt:zal [.tup [a,b],.int 2]=some (.bl true):=zgF _ _ rfl
theorem zup:zal [.tup [a,b,c],.int 3]=some (.bl true):=zgF _ _ rfl
theorem zuL:zal [.tup [a,b,c,d],.int 4]=some (.bl true):=zgF _ _ rfl
theorem zuo:zal [.tup [a,b,c,d,e],.int 5]=some (.bl true):=zgF _ _ rfl
end
def dIv (p:Int×Int):D:=.tup [.int p.1,.int p.2]
theorem zpe (p:Int×Int) (h:Int) (h1:0<=p.1) (h2:p.1 < p.2) (h3:p.2<=h):zb5 [dIv p,.int h]=some (.bl true):=by
 simp only [zb5,zgc,dIv,zb9,zaF,sIf,zbj,zcC,orT,zci,toB,cF,zab,zaj,vSh,vC,b2,ltD,zjw,znl,ql,qM,qo,qP,List.replicate,qb,qc,qa,qd,if_false,Bool.not_true,qp,ztt,zby p.1 0 h ⟨h1,by omega⟩,zby p.2 0 h ⟨by omega,h3⟩,qQ h2]
def az (c:Nat):Bool:=!ltS ⟨#[c]⟩ "a" && !ltS "z" ⟨#[c]⟩
theorem zul {c:Nat} (h:az c=true):c<=122:=by
 have z:("z":Str)=⟨#[122]⟩:=by decide +kernel
 unfold az ltS at h
 rw [z] at h
 simp only [Bool.and_eq_true,Bool.not_eq_true',decide_eq_false_iff_not] at h
 have h2:=h.2
 rcases Nat.lt_or_ge 122 c with q | q
 ·exact absurd (show ([122]:List Nat) < [c] from List.Lex.rel q) h2
 ·exact q
theorem zo9 (c:Nat) (r:zaY):chD leD leD (vC (.str "a")) (vSh 0) (vC (.str "z")) (oS (.str ⟨#[c]⟩)::r)=some (.bl (az c)):=by
 simp only [chD,vC,vSh,qb,qa,leD,az]
 cases ltS ⟨#[c]⟩ "a" <;> simp
def za2 (x:Str):Bool:=decide (1<=x.length) && decide (x.length<=8) && x.cps.toList.all az
theorem zm2 {x:Str} (h:za2 x=true):1<=x.length/\x.length<=8:=by
 unfold za2 at h
 simp only [Bool.and_eq_true,decide_eq_true_eq] at h
 exact h.1
theorem zla {x:Str} (h:za2 x=true):∀ c∈x.cps.toList,az c=true:=by
 unfold za2 at h
 simp only [Bool.and_eq_true,List.all_eq_true] at h
 exact h.2
theorem zeh {x:Str} (h:za2 x=true):zaw [.str x]=some (.bl true):=by
 obtain ⟨h1,h2⟩:=zm2 h
 have hz:x.length<=sizeLine:=by unfold sizeLine;omega
 have hl:(x.cps.toList.map fun c=>D.str ⟨#[c]⟩).length<=sizeLine:=by simpa [Str.length] using hz
 have e1:decide ((1:Int)<=(x.length:Nat))=true:=qQ (by omega)
 have e2:decide (((x.length:Nat):Int)<=8)=true:=qQ (by omega)
 have ha:=zcf (fi:=itS (vSh 0)) (fe:=chD leD leD (vC (.str "a")) (vSh 0) (vC (.str "z"))) (fv:=[none]) (ρ:=[oS (.str x)]) (r:=[]) (a:=none) (xs:=x.cps.toList.map fun c=>D.str ⟨#[c]⟩)
  (by simp [itS,vSh,zmq]) hl rfl (fun y hy=>by
   obtain ⟨c,hc,rfl⟩:=List.mem_map.mp hy
   rw [zo9,zla h c hc])
 refine zpt (ρ':=[oS (.str x)]) ((zej ?_ ?_).trans (za6 ha))
 ·rfl
 ·show chD leD leD (vC (.int 1)) (cF zdS (zab (vSh 0) zaj)) (vC (.int 8)) [oS (.str x)]=_
  simp only [cF,zab,zaj,vSh,vC,chD,zdS,leD,qb,qa,qd,qW hz,e1,e2]
theorem zii {x:Str} (h:za2 x=true):PyData.strOk x=true:=by
 unfold PyData.strOk
 rw [Array.all_eq_true']
 intro c hc
 have:=zul (zla h c (by simpa using hc))
 exact qQ (by omega)
theorem ziv:∀ (ns:List Str),zgX (ns.map D.str)=some (ns.map PyData.str)
 | []=>by simp [zgX]
 | x::r=>by simp [zgX,pdD,ziv r]
theorem zft:∀ {ns:List Str},(∀ x∈ns,za2 x=true)->PyData.canLayAll0 (ns.map PyData.str)=true
 | [],_=>by simp [PyData.canLayAll0]
 | x::r,h=>by
  simp only [ql,PyData.canLayAll0,PyData.canLay0,zii (h x qf),Bool.true_and]
  exact zft fun y hy=>h y (qg _ hy)
theorem zlA (x:Str):∀ (ns:List Str),((ns.map PyData.str).any fun z=>PyData.eqv z (.str x))=decide (x∈ns)
 | []=>by simp
 | y::r=>by
  have ih:=zlA x r
  rw [ql,List.any_cons,ih]
  simp only [PyData.eqv]
  by_cases e:y=x
  ·subst e;simp
  ·have:x≠y:=fun z=>e z.symm
   simp [e,this]
theorem zra {x:Str} {ns:List Str} (hx:za2 x=true) (hn:∀ y∈ns,za2 y=true):zsZ (.str x) (.lst (ns.map D.str))=some (.bl (decide (x∈ns))):=by
 have sh:SeqAt.shaped (.str x)=true:=by simp [SeqAt.shaped,PyData.canLay0,zii hx,PyData.depth]
 simp only [zsZ,inX,pdD,ziv,qd,qa,sh,zft hn,and_self,if_true,zlA]
theorem zdB {x:Str} {ns:List Str} (hx:x∈ns) (hn:∀ y∈ns,za2 y=true):zar [.str x,.lst (ns.map D.str)]=some (.bl true):=by
 simp only [zar,zfd,zb9,zbj,zeJ,cF,zab,zaj,vSh,b2,ql,qM,qo,qP,List.replicate,qb,qc,qa,qd,zeh (hn x hx),zra (hn x hx) hn,qQ hx]
theorem zls {κ:Type} [DecidableEq κ] {l:List κ} (h:l.Nodup):ST.dd l=l:=by
 have key:∀ (l a:List κ),(a++l).Nodup->l.foldl (fun a k=>if k∈a then a else a++[k]) a=a++l:=by
  intro l
  induction l with
  | nil=>intro a _;simp
  | cons x r ih =>
   intro a hn
   have hx:x∉a:=by
    intro z
    rw [List.nodup_append] at hn
    exact hn.2.2 x z x qf rfl
   rw [List.foldl_cons,qX hx,ih (a++[x]) (by simpa using hn)]
   simp
 simpa [ST.dd] using key l [] (by simpa using h)
theorem zev:∀ (ns:List Str),zf3 (ns.map D.str)=some (ns.map Sum.inr)
 | []=>by simp [zf3]
 | x::r=>by simp [zf3,zo1,zev r]
theorem zcg {ns:List Str} (h:ns.Nodup) (hl:ns.length<=300):zag [.lst (ns.map D.str)]=some (.bl true):=by
 have hd:(ns.map (Sum.inr:Str->Key)).Nodup:=List.Pairwise.map _ (fun a b hab z=>hab (Sum.inr.inj z)) h
 simp only [zag,zcR,zb9,zbj,cF,zab,zaj,vSh,b1,b2,zdS,eqD,eqS,ql,qM,qo,qP,List.replicate,qb,qa,qd,zfY,qe,qW hl,zev,zls hd]
 simp
theorem zge:∀ (ts:List (List Str)),zeL (ts.map fun t=>.tup (t.map D.str))=some (ts.map fun t=>t.map Sum.inr)
 | []=>by simp [zeL]
 | t::r=>by simp [zeL,zev,zge r]
theorem zgJ {ts:List (List Str)} (h:ts.Nodup) (hl:ts.length<=300):zag [.lst (ts.map fun t=>.tup (t.map D.str))]=some (.bl true):=by
 have inj:∀ a b:List Str,a.map (Sum.inr:Str->Key)=b.map Sum.inr->a=b:=fun a b z=>(List.map_inj_right (fun x y q=>Sum.inr.inj q)).mp z
 have hd:(ts.map fun t=>t.map (Sum.inr:Str->Key)).Nodup:=List.Pairwise.map _ (fun a b hab z=>hab (inj a b z)) h
 cases ts with
 | nil=>simp only [zag,zcR,zb9,zbj,cF,zab,zaj,vSh,b1,b2,zdS,eqD,eqS,ql,qM,qo,qP,List.replicate,qb,qa,qd,qk,zfY,zf3,ST.dd];simp
 | cons t r =>
  have e:zf3 ((t::r).map fun t=>D.tup (t.map D.str))=none:=by simp [zf3,zo1]
  simp only [zag,zcR,zb9,zbj,b2,b1,vSh,ql,qM,qo,qP,List.replicate,qb,qa,zfY,cF,zab,zaj,zdS,qd]
  rw [qW (by simpa using hl)]
  have e':=e
  rw [ql] at e'
  rw [e']
  have t':=zge (t::r)
  rw [ql] at t'
  rw [t']
  rw [qd,zls hd]
  simp [eqD,eqS]
end Law
end
section
namespace Law
open PySem L2
structure BenchT where
 nm:Str
 br:List (Int×Int)
structure StepT where
 nm:Str
 kd:Str
 ws:List (Str×Int)
structure JobT where
 nm:Str
 ea:Int
 du:Int
 od:Bool
 ms:List Str
structure SetT where
 b:Str
 p:Str
 q:Str
 n:Int
structure LinkT where
 a:Str
 b:Str
 g:Int
structure StockT where
 nm:Str
 lo:Int
 hi:Int
 tk:List (Str×Int)
 pt:List (Str×Int)
def dW (w:Str×Int):D:=.tup [.str w.1,.int w.2]
def zbi (b:BenchT):D:=.tup [.str b.nm,.lst (b.br.map dIv)]
def zbl (s:StepT):D:=.tup [.str s.nm,.str s.kd,.lst (s.ws.map dW)]
def zd2 (j:JobT):D:=.tup [.str j.nm,.int j.ea,.int j.du,.bl j.od,.lst (j.ms.map D.str)]
def zcY (u:SetT):D:=.tup [.str u.b,.str u.p,.str u.q,.int u.n]
def zbw (l:LinkT):D:=.tup [.str l.a,.str l.b,.int l.g]
def zdm (k:StockT):D:=.tup [.str k.nm,.int k.lo,.int k.hi,.lst (k.tk.map dW),.lst (k.pt.map dW)]
structure GoodB (h:Int) (b:BenchT):Prop where
 nm:za2 b.nm=true
 len:b.br.length<=10
 iv:∀ p∈b.br,0<=p.1/\p.1 < p.2/\p.2<=h
 gap:∀ (i:Nat) p q,b.br[i]?=some p->b.br[i+1]?=some q->p.2 < q.1
structure GoodS (bn:List Str) (h:Int) (s:StepT):Prop where
 nm:za2 s.nm=true
 kd:za2 s.kd=true
 l1:1<=s.ws.length
 l4:s.ws.length<=4
 ws:∀ w∈s.ws,w.1∈bn/\1<=w.2/\w.2<=h
 nd:(s.ws.map (·.1)).Nodup
structure GoodJ (sn:List Str) (h:Int) (j:JobT):Prop where
 nm:za2 j.nm=true
 ea:0<=j.ea/\j.ea<=h
 du:0<=j.du/\j.du<=h
 l1:1<=j.ms.length
 ln:j.ms.length<=sn.length
 ms:∀ m∈j.ms,m∈sn
structure GoodU (bn:List Str) (h:Int) (u:SetT):Prop where
 b:u.b∈bn
 p:za2 u.p=true
 q:za2 u.q=true
 n:1<=u.n/\u.n<=h
structure GoodL (sn:List Str) (h:Int) (l:LinkT):Prop where
 a:l.a∈sn
 b:l.b∈sn
 ne:l.a≠l.b
 g:0<=l.g/\l.g<=h
structure GoodA (sn:List Str) (am:List (Str×Int)):Prop where
 ln:am.length<=sn.length
 ws:∀ w∈am,w.1∈sn/\1<=w.2/\w.2<=1000000
 nd:(am.map (·.1)).Nodup
structure GoodK (sn:List Str) (k:StockT):Prop where
 nm:za2 k.nm=true
 lo:0<=k.lo/\k.lo<=k.hi
 hi:0<=k.hi/\k.hi<=1000000
 tk:GoodA sn k.tk
 pt:GoodA sn k.pt
structure Good (bs:List BenchT) (ss:List StepT) (js:List JobT) (us:List SetT) (ls:List LinkT) (ks:List StockT) (hz:Int):Prop where
 hh:1<=hz/\hz<=1000000
 bl:1<=bs.length/\bs.length<=8
 b:∀ x∈bs,GoodB hz x
 bn:(bs.map (·.nm)).Nodup
 sl:1<=ss.length/\ss.length<=40
 s:∀ x∈ss,GoodS (bs.map (·.nm)) hz x
 sn:(ss.map (·.nm)).Nodup
 jl:js.length<=40
 j:∀ x∈js,GoodJ (ss.map (·.nm)) hz x
 jn:(js.map (·.nm)).Nodup
 jm:(js.flatMap (·.ms)).Nodup
 ul:us.length<=100
 u:∀ x∈us,GoodU (bs.map (·.nm)) hz x
 un:(us.map fun u=>[u.b,u.p,u.q]).Nodup
 ll:ls.length<=100
 l:∀ x∈ls,GoodL (ss.map (·.nm)) hz x
 ln:(ls.map fun l=>[l.a,l.b]).Nodup
 kl:ks.length<=6
 k:∀ x∈ks,GoodK (ss.map (·.nm)) x
 kn:(ks.map (·.nm)).Nodup
def zbf (b:BenchT):D:=.tup [.str b.nm,.flst (b.br.map dIv)]
def zcc (s:StepT):D:=.tup [.str s.nm,.str s.kd,.flst (s.ws.map dW)]
def zc3 (j:JobT):D:=.tup [.str j.nm,.int j.ea,.int j.du,.bl j.od,.flst (j.ms.map D.str)]
def zbB (k:StockT):D:=.tup [.str k.nm,.int k.lo,.int k.hi,.flst (k.tk.map dW),.flst (k.pt.map dW)]
theorem ixL (l:List D) (n:Nat):ixD (.lst l) (.int (n:Int))=l[n]?:=zdV l n
theorem zmc (l:List D) (n:Nat):ixD (.flst l) (.int (n:Int))=l[n]?:=zdV l n
theorem szN {n k:Nat} (h:n<=k) (hk:k<=1000):n<=sizeLine:=by unfold sizeLine;omega
section
variable {h:Int} {bn sn:List Str}
theorem zs2 {br:List (Int×Int)} (len:br.length<=10) (gap:∀ (i:Nat) p q,br[i]?=some p->br[i+1]?=some q->p.2 < q.1) :
  cF zjR (zab (zaX (zaH (itR zqk (zab (vC (.int 1)) (zab (cF zdS (zab (vSh 0) zaj)) zaj))) (zaV 0) tT (b2 ltD (b2 ixD (b2 ixD (vSh 1) (b2 zpm (vSh 0) (vC (.int 1)))) (vC (.int 1))) (b2 ixD (b2 ixD (vSh 1) (vSh 0)) (vC (.int 0)))) [none,some 0])) zaj) [oS (.flst (br.map dIv)),oS (.int h)]=some (.bl true):=by
 have e0:itR zqk (zab (vC (.int 1)) (zab (cF zdS (zab (vSh 0) zaj)) zaj)) [oS (.flst (br.map dIv)),oS (.int h)]=some ((List.range (((br.map dIv).length:Int) - 1).toNat).map fun k:Nat=>D.int (1+k)):=by
  exact zh6 rfl (zqj (i:=1) (j:=((br.map dIv).length:Nat)) (by rw [qe];omega))
 refine zcf (r:=[oS (.flst (br.map dIv))]) (a:=none) e0 ?_ rfl fun x hx=>?_
 ·simp only [qe,qR]
  exact szN (k:=10) (by omega) (by decide)
 ·obtain ⟨k,hk,rfl⟩:=List.mem_map.mp hx
  rw [List.mem_range,qe] at hk
  have hk1:k < br.length:=by omega
  have hk2:k+1 < br.length:=by omega
  have e1:br[k]?=some br[k]:=by simp [hk1]
  have e2:br[k+1]?=some br[k+1]:=by simp [hk2]
  have g:=gap k _ _ e1 e2
  have a1:ixD (.flst (br.map dIv)) (.int (1+(k:Int) - 1))=some (dIv br[k]):=by
   have:(1+(k:Int) - 1)=((k:Nat):Int):=by omega
   rw [this,zmc,qj,e1];rfl
  have a2:ixD (.flst (br.map dIv)) (.int (1+(k:Int)))=some (dIv br[k+1]):=by
   have:(1+(k:Int))=((k+1:Nat):Int):=by omega
   rw [this,zmc,qj,e2];rfl
  simp only [vSh,vC,b2,ltD,zpm,qb,qc,qa,a1,a2]
  simp only [dIv,zjw,znl,qa,qQ g]
theorem znZ {br:List (Int×Int)} (len:br.length<=10) (iv:∀ p∈br,0<=p.1/\p.1 < p.2/\p.2<=h) (gap:∀ (i:Nat) p q,br[i]?=some p->br[i+1]?=some q->p.2 < q.1) :
  zbI [.flst (br.map dIv),.int h]=some (.bl true):=by
 refine za8 [oS (.flst (br.map dIv)),oS (.int h)] rfl ((zej ?_ (zcf (r:=[oS (.int h)]) (a:=none) (xs:=br.map dIv) rfl (by rw [qe];exact szN len (by decide)) rfl fun x hx=>?_)).trans (za6 (zs2 len gap)))
 ·exact zdu _ 0 10 ⟨by omega,by rw [qe];omega⟩
 ·obtain ⟨p,hp,rfl⟩:=List.mem_map.mp hx
  obtain ⟨h1,h2,h3⟩:=iv p hp
  exact zpe p h h1 h2 h3
theorem zpf {b:BenchT} (g:GoodB h b):zb6 [zbf b,.int h]=some (.bl true):=by
 simp only [zb6,zgd,zbf,zb9,zbj,zeJ,cF,zab,zaj,vSh,vC,b2,zjw,znl,ql,qM,qo,qP,List.replicate,qb,qc,qa,qd,ztt,zeh g.nm,znZ g.len g.iv g.gap]
theorem zcZ {α:Type} {f:α->D} {nm:α->Str} {xs:List α} {i:Nat} {ρ:zaY} {fv:List (Option Nat)} (hf:∀ x,∃ r,f x=.tup (.str (nm x)::r)) (h1:itF (vSh i) ρ=some (xs.map f)) (h2:xs.length<=sizeLine) (h3:ze4 fv ρ=[none]) :
  zaX (zaH (itF (vSh i)) (zaV 0) tT (b2 ixD (vSh 0) (vC (.int 0))) fv) ρ=some (.lst ((xs.map nm).map D.str)):=by
 have hc:=zbA (fi:=itF (vSh i)) (fe:=b2 ixD (vSh 0) (vC (.int 0))) (fv:=fv) (ρ:=ρ) (r:=[]) (a:=none) (xs:=xs.map f) (f:=fun d=>match d with | .tup (x::_)=>x | _=>.non) h1 (by rw [qe];exact h2) h3 (fun x hx=>by
  obtain ⟨y,_,rfl⟩:=List.mem_map.mp hx
  obtain ⟨r,e⟩:=hf y
  simp only [b2,vSh,vC,qb,qa,e,zjw])
 rw [hc]
 congr 2
 rw [qm,qm]
 refine List.map_congr_left fun x _=>?_
 obtain ⟨r,e⟩:=hf x
 simp [e]
theorem zl6 {bs:List BenchT} (l1:1<=bs.length) (l8:bs.length<=8) (g:∀ x∈bs,GoodB h x) (nd:(bs.map (·.nm)).Nodup):zbq [.flst (bs.map zbf),.int h]=some (.bl true):=by
 refine za8 [oS (.flst (bs.map zbf)),oS (.int h)] rfl ((zej ?_ (zcf (r:=[oS (.int h)]) (a:=none) (xs:=bs.map zbf) rfl (by rw [qe];exact szN l8 (by decide)) rfl fun x hx=>?_)).trans (za6 ?_))
 ·exact zdu _ 1 8 ⟨by rw [qe];omega,by rw [qe];omega⟩
 ·obtain ⟨p,hp,rfl⟩:=List.mem_map.mp hx
  exact zpf (g p hp)
 ·have:=zcZ (i:=0) (fv:=[none]) (ρ:=[oS (.flst (bs.map zbf)),oS (.int h)]) (f:=zbf) (nm:=(·.nm)) (xs:=bs) (fun x=>⟨_,rfl⟩) rfl (szN l8 (by decide)) rfl
  simp only [cF,zab,zaj,this,qa,qd]
  exact zcg nd (by rw [qe];omega)
theorem zrP {w:Str×Int} (hb:∀ y∈bn,za2 y=true) (g:w.1∈bn/\1<=w.2/\w.2<=h):zc2 [dW w,.lst (bn.map D.str),.int h]=some (.bl true):=by
 simp only [zc2,zi3,dW,zb9,zbj,zeJ,cF,zab,zaj,vSh,vC,b2,zjw,znl,ql,qM,qo,qP,List.replicate,qb,qc,qa,qd,ztt,zdB g.1 hb,zby w.2 1 h g.2]
theorem zpZ {ws:List (Str×Int)} (hb:∀ y∈bn,za2 y=true) (l1:1<=ws.length) (l4:ws.length<=4) (g:∀ w∈ws,w.1∈bn/\1<=w.2/\w.2<=h) (nd:(ws.map (·.1)).Nodup):zcn [.flst (ws.map dW),.lst (bn.map D.str),.int h]=some (.bl true):=by
 refine za8 [oS (.flst (ws.map dW)),oS (.lst (bn.map D.str)),oS (.int h)] rfl ((zej ?_ (zcf (r:=[oS (.lst (bn.map D.str)),oS (.int h)]) (a:=none) (xs:=ws.map dW) rfl (by rw [qe];exact szN l4 (by decide)) rfl fun x hx=>?_)).trans (za6 ?_))
 ·exact zdu _ 1 4 ⟨by rw [qe];omega,by rw [qe];omega⟩
 ·obtain ⟨p,hp,rfl⟩:=List.mem_map.mp hx
  exact zrP hb (g p hp)
 ·have:=zcZ (i:=0) (fv:=[none]) (ρ:=[oS (.flst (ws.map dW)),oS (.lst (bn.map D.str)),oS (.int h)]) (f:=dW) (nm:=(·.1)) (xs:=ws) (fun x=>⟨_,rfl⟩) rfl (szN l4 (by decide)) rfl
  simp only [cF,zab,zaj,this,qa,qd]
  exact zcg nd (by rw [qe];omega)
theorem zp8 {s:StepT} (hb:∀ y∈bn,za2 y=true) (g:GoodS bn h s):zcA [zcc s,.lst (bn.map D.str),.int h]=some (.bl true):=by
 simp only [zcA,zhq,zcc,zb9,zaF,sIf,zbj,zcC,orT,zci,toB,cF,zab,zaj,vSh,vC,b2,zjw,znl,zrJ,ql,qM,qo,qP,List.replicate,qb,qc,qa,qd,if_false,Bool.not_true,qp,zup,zeh g.nm,zeh g.kd,zpZ hb g.l1 g.l4 g.ws g.nd]
theorem zog {ss:List StepT} (hb:∀ y∈bn,za2 y=true) (l1:1<=ss.length) (l4:ss.length<=40) (g:∀ s∈ss,GoodS bn h s) (nd:(ss.map (·.nm)).Nodup):zbV [.flst (ss.map zcc),.lst (bn.map D.str),.int h]=some (.bl true):=by
 refine za8 [oS (.flst (ss.map zcc)),oS (.lst (bn.map D.str)),oS (.int h)] rfl ((zej ?_ (zcf (r:=[oS (.lst (bn.map D.str)),oS (.int h)]) (a:=none) (xs:=ss.map zcc) rfl (by rw [qe];exact szN l4 (by decide)) rfl fun x hx=>?_)).trans (za6 ?_))
 ·exact zdu _ 1 40 ⟨by rw [qe];omega,by rw [qe];omega⟩
 ·obtain ⟨p,hp,rfl⟩:=List.mem_map.mp hx
  exact zp8 hb (g p hp)
 ·have:=zcZ (i:=0) (fv:=[none]) (ρ:=[oS (.flst (ss.map zcc)),oS (.lst (bn.map D.str)),oS (.int h)]) (f:=zcc) (nm:=(·.nm)) (xs:=ss) (fun x=>⟨_,rfl⟩) rfl (szN l4 (by decide)) rfl
  simp only [cF,zab,zaj,this,qa,qd]
  exact zcg nd (by rw [qe];omega)
end
end Law
end
section
namespace Law
open PySem L2
theorem zm0 (a b:Str):neA (.str a) (.str b)=some (.bl (!decide (a=b))):=rfl
theorem zug {a b c d:D}:zhV none (some 3) (.tup [a,b,c,d])=some (.tup [a,b,c]):=rfl
theorem zuF {a b c:D}:zhV none (some 2) (.tup [a,b,c])=some (.tup [a,b]):=rfl
theorem ziG {α β:Type} {f:α->List β} {m:Nat}:∀ {l:List α},(∀ x∈l,(f x).length<=m)->(l.flatMap f).length<=l.length*m
 | [],_=>by simp
 | x::r,h=>by
  have h1:=h x qf
  have h2:=ziG (l:=r) fun y hy=>h y (qg _ hy)
  rw [List.flatMap_cons,qi,qh,Nat.succ_mul]
  omega
section
variable {h:Int} {bn sn:List Str}
theorem zsT {j:JobT} (hs:∀ y∈sn,za2 y=true) (hl:sn.length<=40) (g:GoodJ sn h j):zdo [zc3 j,.lst (sn.map D.str),.int h]=some (.bl true):=by
 refine za8 [oS (zc3 j),oS (.lst (sn.map D.str)),oS (.int h)] rfl ((zs1 ?_ ?_ ?_).trans ((zej ?_ ?_).trans (za6 (zpW ?_ (zcf (r:=[oS (.lst (sn.map D.str))]) (a:=none) (xs:=j.ms.map D.str) ?_ ?_ rfl fun x hx=>?_)))))
 ·exact zuo
 ·simp only [zc3,cF,zab,zaj,vSh,vC,b2,zjw,qb,qa,qd,zeh g.nm]
 ·simp only [zc3,cF,zab,zaj,vSh,vC,b2,zfZ,tyD,zsX,qb,qa,qd,i5]
 ·simp only [zc3,cF,zab,zaj,vSh,vC,b2,znl,qb,qc,qa,qd,zby _ 0 h g.ea]
 ·simp only [zc3,cF,zab,zaj,vSh,vC,b2,zrJ,qb,qc,qa,qd,zby _ 0 h g.du]
 ·simp only [zc3,cF,zab,zaj,vSh,vC,b2,zdS,zq8,qb,qc,qa,qd]
  exact zdu _ _ _ ⟨by rw [qe];have:=g.l1;omega,by rw [qe,qe];have:=g.ln;omega⟩
 ·simp only [zc3,vSh,vC,b2,itF,zjy,zq8,qb,qa]
 ·rw [qe];exact szN (qK g.ln hl) (by decide)
 ·obtain ⟨m,hm,rfl⟩:=List.mem_map.mp hx
  simp only [cF,zab,zaj,vSh,qb,qc,qa,qd,zdB (g.ms m hm) hs]
theorem zlS {js:List JobT} {S H:Option Slot} (hl:js.length<=40) (g:∀ j∈js,j.ms.length<=40) :
  ∃ z,znx (zaV 4) (zrF 3 (b2 ixD (vSh 4) (vC (.int 4)))) (js.map zc3) [oS (.flst (js.map zc3)),S,H,some (.own []),none]=some (.nx,[oS (.flst (js.map zc3)),S,H,some (.own ((js.flatMap (·.ms)).map D.str)),z]):=by
 obtain ⟨ρ',h1,z,h2⟩:=zdb (gg:=zaV 4) (body:=zrF 3 (b2 ixD (vSh 4) (vC (.int 4)))) (xs:=js.map zc3) (ρ:=[oS (.flst (js.map zc3)),S,H,some (.own []),none])
  (fun i ρ=>∃ z,ρ=[oS (.flst (js.map zc3)),S,H,some (.own (((js.take i).flatMap (·.ms)).map D.str)),z]) ⟨none,by simp⟩ (fun i x ρ hx hI=>by
   obtain ⟨z,rfl⟩:=hI
   rw [qj] at hx
   obtain ⟨j,hj,rfl⟩:=oMd hx
   have hm:j∈js:=qN hj
   have t1:((js.take i).flatMap (·.ms)).length<=(js.take i).length*40:=ziG fun y hy=>g y (List.mem_of_mem_take hy)
   have t2:(js.take i).length<=40:=by rw [qC];omega
   have t3:=g j hm
   have tk:js.take (i+1)=js.take i++[j]:=by rw [List.take_add_one,hj];rfl
   have sz:(((js.take i).flatMap (·.ms)).map D.str).length+(j.ms.map D.str).length<=sizeLine:=by
    rw [qe,qe];unfold sizeLine;omega
   refine ⟨_,[oS (.flst (js.map zc3)),S,H,some (.own (((js.take (i+1)).flatMap (·.ms)).map D.str)),oS (zc3 j)],rfl,?_,_,rfl⟩
   have e:b2 ixD (vSh 4) (vC (.int 4)) [oS (.flst (js.map zc3)),S,H,some (.own (((js.take i).flatMap (·.ms)).map D.str)),oS (zc3 j)]=some (.flst (j.ms.map D.str)):=by
    simp only [zc3,vSh,vC,b2,zq8,qb,qc,qa]
   simp only [zrF,List.set_cons_zero,List.set_cons_succ,qb,qc,e,qa,qW sz,tk]
   simp)
 refine ⟨z,?_⟩
 rw [h1,h2,qe,List.take_length]
theorem zq3 {js:List JobT} (hs:∀ y∈sn,za2 y=true) (hl:sn.length<=40) (l4:js.length<=40) (g:∀ j∈js,GoodJ sn h j) (nd:(js.map (·.nm)).Nodup) (nm:(js.flatMap (·.ms)).Nodup) (ml:(js.flatMap (·.ms)).length<=300):zco [.flst (js.map zc3),.lst (sn.map D.str),.int h]=some (.bl true):=by
 obtain ⟨z,hz⟩:=zlS (js:=js) (S:=oS (.lst (sn.map D.str))) (H:=oS (.int h)) l4 fun j hj=>qK (g j hj).ln hl
 refine za8 [oS (.flst (js.map zc3)),oS (.lst (sn.map D.str)),oS (.int h),none,none] (ρ':=[oS (.flst (js.map zc3)),oS (.lst (sn.map D.str)),oS (.int h),oS (.lst ((js.flatMap (·.ms)).map D.str)),z]) rfl ((zej ?_ (zcf (r:=[oS (.lst (sn.map D.str)),oS (.int h)]) (a:=none) (xs:=js.map zc3) rfl (by rw [qe];exact szN l4 (by decide)) rfl fun x hx=>?_)).trans ?_)
 ·exact zdu _ 0 40 ⟨by omega,by rw [qe];omega⟩
 ·obtain ⟨p,hp,rfl⟩:=List.mem_map.mp hx
  simp only [cF,zab,zaj,vSh,qb,qc,qa,qd,zsT hs hl (g p hp)]
 ·have nn:=zcZ (i:=0) (fv:=[none]) (ρ:=[oS (.flst (js.map zc3)),oS (.lst (sn.map D.str)),oS (.int h),oS (.lst ((js.flatMap (·.ms)).map D.str)),z]) (f:=zc3) (nm:=(·.nm)) (xs:=js) (fun x=>⟨_,rfl⟩) rfl (szN l4 (by decide)) rfl
  have u1:cF zag (zab (zaX (zaH (itF (vSh 0)) (zaV 0) tT (b2 ixD (vSh 0) (vC (.int 0))) [none])) zaj) [oS (.flst (js.map zc3)),oS (.lst (sn.map D.str)),oS (.int h),oS (.lst ((js.flatMap (·.ms)).map D.str)),z]=some (.bl true) :=
   za3 (zam nn zaD) (zcg nd (by rw [qe];omega))
  have u2:cF zag (zab (vSh 3) zaj) [oS (.flst (js.map zc3)),oS (.lst (sn.map D.str)),oS (.int h),oS (.lst ((js.flatMap (·.ms)).map D.str)),z]=some (.bl true) :=
   za3 (zam rfl zaD) (zcg nm ml)
  have r:=za6 (zpW u1 u2)
  have z0:(0<=sizeLine)=True:=by simp
  simp only [zaF,zgD,szF,zaj,qa,qd,qk,z0,if_true,List.set_cons_zero,List.set_cons_succ,zgG,itF,vSh,qb,zjy]
  rw [hz]
  simp only [qa,zi4,qb,qc,List.set_cons_zero,List.set_cons_succ]
  exact r
theorem zom {u:SetT} (hb:∀ y∈bn,za2 y=true) (g:GoodU bn h u):zb4 [zcY u,.lst (bn.map D.str),.int h]=some (.bl true):=by
 simp only [zb4,zgb,zcY,zb9,zaF,sIf,zbj,zcC,zeJ,orT,zci,toB,cF,zab,zaj,vSh,vC,b2,zjw,znl,zrJ,zsX,ql,qM,qo,qP,List.replicate,qb,qc,qa,qd,if_false,Bool.not_true,qp,zuL,zdB g.b hb,zeh g.p,zeh g.q,zby _ 1 h g.n]
theorem zmr {us:List SetT} (hb:∀ y∈bn,za2 y=true) (l4:us.length<=100) (g:∀ u∈us,GoodU bn h u) (nd:(us.map fun u=>[u.b,u.p,u.q]).Nodup):zbH [.flst (us.map zcY),.lst (bn.map D.str),.int h]=some (.bl true):=by
 refine za8 [oS (.flst (us.map zcY)),oS (.lst (bn.map D.str)),oS (.int h)] rfl ((zej ?_ (zcf (r:=[oS (.lst (bn.map D.str)),oS (.int h)]) (a:=none) (xs:=us.map zcY) rfl (by rw [qe];exact szN l4 (by decide)) rfl fun x hx=>?_)).trans (za6 (za3 (zam (zbA (r:=[]) (a:=none) (xs:=us.map zcY) (f:=fun d=>match d with | .tup [a,b,c,d]=>.tup [a,b,c] | _=>.non) rfl (by rw [qe];exact szN l4 (by decide)) rfl fun x hx=>?_) zaD) ?_)))
 ·exact zdu _ 0 100 ⟨by omega,by rw [qe];omega⟩
 ·obtain ⟨p,hp,rfl⟩:=List.mem_map.mp hx
  simp only [cF,zab,zaj,vSh,qb,qc,qa,qd,zom hb (g p hp)]
 ·obtain ⟨p,hp,rfl⟩:=List.mem_map.mp hx
  simp only [vSh,vC,slF,pN,pS,qb,qa,zcY,zug]
 ·have:=zgJ nd (by rw [qe];omega)
  rw [qm] at this ⊢
  exact this
theorem zq1 {l:LinkT} (hs:∀ y∈sn,za2 y=true) (g:GoodL sn h l):zcB [zbw l,.lst (sn.map D.str),.int h]=some (.bl true):=by
 have:=g.ne
 simp only [zcB,zhs,zbw,zb9,zaF,sIf,zbj,zcC,zeJ,orT,zci,toB,cF,zab,zaj,vSh,vC,b2,zjw,znl,zrJ,ql,qM,qo,qP,List.replicate,qb,qc,qa,qd,if_false,Bool.not_true,Bool.not_false,qp,zup,zdB g.a hs,zdB g.b hs,zm0,qL g.ne,zby _ 0 h g.g]
theorem zoO {ls:List LinkT} (hs:∀ y∈sn,za2 y=true) (l4:ls.length<=100) (g:∀ l∈ls,GoodL sn h l) (nd:(ls.map fun l=>[l.a,l.b]).Nodup):zbW [.flst (ls.map zbw),.lst (sn.map D.str),.int h]=some (.bl true):=by
 refine za8 [oS (.flst (ls.map zbw)),oS (.lst (sn.map D.str)),oS (.int h)] rfl ((zej ?_ (zcf (r:=[oS (.lst (sn.map D.str)),oS (.int h)]) (a:=none) (xs:=ls.map zbw) rfl (by rw [qe];exact szN l4 (by decide)) rfl fun x hx=>?_)).trans (za6 (za3 (zam (zbA (r:=[]) (a:=none) (xs:=ls.map zbw) (f:=fun d=>match d with | .tup [a,b,c]=>.tup [a,b] | _=>.non) rfl (by rw [qe];exact szN l4 (by decide)) rfl fun x hx=>?_) zaD) ?_)))
 ·exact zdu _ 0 100 ⟨by omega,by rw [qe];omega⟩
 ·obtain ⟨p,hp,rfl⟩:=List.mem_map.mp hx
  simp only [cF,zab,zaj,vSh,qb,qc,qa,qd,zq1 hs (g p hp)]
 ·obtain ⟨p,hp,rfl⟩:=List.mem_map.mp hx
  simp only [vSh,vC,slF,pN,pS,qb,qa,zbw,zuF]
 ·have:=zgJ nd (by rw [qe];omega)
  rw [qm] at this ⊢
  exact this
theorem zn4 {w:Str×Int} (hs:∀ y∈sn,za2 y=true) (g:w.1∈sn/\1<=w.2/\w.2<=1000000):zbM [dW w,.lst (sn.map D.str)]=some (.bl true):=by
 simp only [zbM,zfe,dW,zb9,zbj,zeJ,cF,zab,zaj,vSh,vC,b2,zjw,znl,ql,qM,qo,qP,List.replicate,qb,qc,qa,qd,ztt,zdB g.1 hs,zby w.2 1 1000000 g.2]
theorem zic {ws:List (Str×Int)} (hs:∀ y∈sn,za2 y=true) (hl:sn.length<=40) (g:GoodA sn ws):zbe [.flst (ws.map dW),.lst (sn.map D.str)]=some (.bl true):=by
 have l4:ws.length<=40:=qK g.ln hl
 refine za8 [oS (.flst (ws.map dW)),oS (.lst (sn.map D.str))] rfl ((zej ?_ (zcf (r:=[oS (.lst (sn.map D.str))]) (a:=none) (xs:=ws.map dW) rfl (by rw [qe];exact szN l4 (by decide)) rfl fun x hx=>?_)).trans (za6 ?_))
 ·have e:=zdu (ws.map dW) 0 ((sn.map D.str).length:Nat) ⟨by omega,by rw [qe,qe];have:=g.ln;omega⟩
  simp only [cF,zab,zaj,vSh,vC,zdS,qb,qc,qa,qd]
  exact e
 ·obtain ⟨p,hp,rfl⟩:=List.mem_map.mp hx
  simp only [cF,zab,zaj,vSh,qb,qc,qa,qd,zn4 hs (g.ws p hp)]
 ·have:=zcZ (i:=0) (fv:=[none]) (ρ:=[oS (.flst (ws.map dW)),oS (.lst (sn.map D.str))]) (f:=dW) (nm:=(·.1)) (xs:=ws) (fun x=>⟨_,rfl⟩) rfl (szN l4 (by decide)) rfl
  exact za3 (zam this zaD) (zcg g.nd (by rw [qe];omega))
theorem zof {k:StockT} (hs:∀ y∈sn,za2 y=true) (hl:sn.length<=40) (g:GoodK sn k):zb3 [zbB k,.lst (sn.map D.str)]=some (.bl true):=by
 simp only [zb3,zga,zbB,zb9,zaF,sIf,zbj,zcC,zeJ,orT,zci,toB,cF,zab,zaj,vSh,vC,b2,zjw,znl,zrJ,zsX,zq8,ql,qM,qo,qP,List.replicate,qb,qc,qa,qd,if_false,Bool.not_true,qp,zuo,zeh g.nm,zby _ 0 1000000 g.hi,zby _ 0 _ g.lo,zic hs hl g.tk,zic hs hl g.pt]
theorem zmm {ks:List StockT} (hs:∀ y∈sn,za2 y=true) (hl:sn.length<=40) (l4:ks.length<=6) (g:∀ k∈ks,GoodK sn k) (nd:(ks.map (·.nm)).Nodup):zbG [.flst (ks.map zbB),.lst (sn.map D.str)]=some (.bl true):=by
 refine za8 [oS (.flst (ks.map zbB)),oS (.lst (sn.map D.str))] rfl ((zej ?_ (zcf (r:=[oS (.lst (sn.map D.str))]) (a:=none) (xs:=ks.map zbB) rfl (by rw [qe];exact szN l4 (by decide)) rfl fun x hx=>?_)).trans (za6 ?_))
 ·exact zdu _ 0 6 ⟨by omega,by rw [qe];omega⟩
 ·obtain ⟨p,hp,rfl⟩:=List.mem_map.mp hx
  simp only [cF,zab,zaj,vSh,qb,qc,qa,qd,zof hs hl (g p hp)]
 ·have:=zcZ (i:=0) (fv:=[none]) (ρ:=[oS (.flst (ks.map zbB)),oS (.lst (sn.map D.str))]) (f:=zbB) (nm:=(·.nm)) (xs:=ks) (fun x=>⟨_,rfl⟩) rfl (szN l4 (by decide)) rfl
  exact za3 (zam this zaD) (zcg nd (by rw [qe];omega))
end
section
variable {bs:List BenchT} {ss:List StepT} {js:List JobT} {us:List SetT} {ls:List LinkT} {ks:List StockT} {h:Int}
theorem Good.bnn (g:Good bs ss js us ls ks h):∀ y∈bs.map (·.nm),za2 y=true:=fun y hy=>by
 obtain ⟨b,hb,rfl⟩:=List.mem_map.mp hy
 exact (g.b b hb).nm
theorem Good.snn (g:Good bs ss js us ls ks h):∀ y∈ss.map (·.nm),za2 y=true:=fun y hy=>by
 obtain ⟨b,hb,rfl⟩:=List.mem_map.mp hy
 exact (g.s b hb).nm
theorem zmO (g:Good bs ss js us ls ks h) (ml:(js.flatMap (·.ms)).length<=300):zaZ [.flst (bs.map zbf),.flst (ss.map zcc),.flst (js.map zc3),.flst (us.map zcY),.flst (ls.map zbw),.flst (ks.map zbB),.int h]=some .non:=by
 have hb:=g.bnn
 have hs:=g.snn
 have hl:(ss.map (·.nm)).length<=40:=by rw [qe];exact g.sl.2
 have n1:∀ z:Option Slot,zaX (zaH (itF (vSh 0)) (zaV 0) tT (b2 ixD (vSh 0) (vC (.int 0))) [none]) [oS (.flst (bs.map zbf)),oS (.flst (ss.map zcc)),oS (.flst (js.map zc3)),oS (.flst (us.map zcY)),oS (.flst (ls.map zbw)),oS (.flst (ks.map zbB)),oS (.int h),none,none]=some (.lst ((bs.map (·.nm)).map D.str)):=fun z =>
  zcZ (f:=zbf) (nm:=(·.nm)) (xs:=bs) (fun x=>⟨_,rfl⟩) rfl (szN g.bl.2 (by decide)) rfl
 have n2:zaX (zaH (itF (vSh 1)) (zaV 0) tT (b2 ixD (vSh 0) (vC (.int 0))) [none]) [oS (.flst (bs.map zbf)),oS (.flst (ss.map zcc)),oS (.flst (js.map zc3)),oS (.flst (us.map zcY)),oS (.flst (ls.map zbw)),oS (.flst (ks.map zbB)),oS (.int h),oS (.lst ((bs.map (·.nm)).map D.str)),none]=some (.lst ((ss.map (·.nm)).map D.str)) :=
  zcZ (f:=zcc) (nm:=(·.nm)) (xs:=ss) (fun x=>⟨_,rfl⟩) rfl (szN g.sl.2 (by decide)) rfl
 refine za8 [oS (.flst (bs.map zbf)),oS (.flst (ss.map zcc)),oS (.flst (js.map zc3)),oS (.flst (us.map zcY)),oS (.flst (ls.map zbw)),oS (.flst (ks.map zbB)),oS (.int h),none,none] rfl ((zha ?_).trans ((zha ?_).trans ((zaQ (n1 none)).trans ((zha ?_).trans ((zaQ n2).trans ((zha ?_).trans ((zha ?_).trans ((zha ?_).trans ((zha ?_).trans (za6 rfl))))))))))
 ·exact zby h 1 1000000 g.hh
 ·exact zl6 g.bl.1 g.bl.2 g.b g.bn
 ·exact zog hb g.sl.1 g.sl.2 g.s g.sn
 ·exact zq3 hs hl g.jl g.j g.jn g.jm ml
 ·exact zmr hb g.ul g.u g.un
 ·exact zoO hs g.ll g.l g.ln
 ·exact zmm hs hl g.kl g.k g.kn
end
end Law
end
section
namespace Law
open PySem L2
def Pl:Nat->D->Prop
 | 0,_=>False
 | n+1,.flst l=>l.length<=sizeLine/\∀ x∈l,Pl n x
 | n+1,.tup l=>l.length<=sizeLine/\∀ x∈l,Pl n x
 | _+1,.non=>True
 | _+1,.bl _=>True
 | _+1,.int _=>True
 | _+1,.str _=>True
 | _+1,_=>False
def zex:Nat->D->D
 | n+1,.flst l=>.lst (l.map (zex n))
 | n+1,.tup l=>.tup (l.map (zex n))
 | _,d=>d
theorem zeu (k:Nat) (i:Int):zex k (.int i)=.int i:=by cases k <;> rfl
theorem zdQ (k:Nat) (i:Str):zex k (.str i)=.str i:=by cases k <;> rfl
theorem zqX (k:Nat) (i:Bool):zex k (.bl i)=.bl i:=by cases k <;> rfl
theorem zqW (k:Nat) (p:Int×Int):zex (k+1) (dIv p)=dIv p:=by simp only [zex,dIv,ql,qM,zeu]
theorem zpD (k:Nat) (p:Str×Int):zex (k+1) (dW p)=dW p:=by simp only [zex,dW,ql,qM,zeu,zdQ]
theorem zfW (k:Nat) (b:BenchT):zex (k+3) (zbf b)=zbi b:=by simp only [zex,zbf,zbi,ql,qM,qm,Function.comp_def,zdQ,zqW]
theorem zg1 (k:Nat) (b:StepT):zex (k+3) (zcc b)=zbl b:=by simp only [zex,zcc,zbl,ql,qM,qm,Function.comp_def,zdQ,zpD]
theorem ziz (k:Nat) (b:JobT):zex (k+3) (zc3 b)=zd2 b:=by simp only [zex,zc3,zd2,ql,qM,qm,Function.comp_def,zdQ,zeu,zqX]
theorem zfV (k:Nat) (b:StockT):zex (k+3) (zbB b)=zdm b:=by simp only [zex,zbB,zdm,ql,qM,qm,Function.comp_def,zdQ,zeu,zpD]
theorem zle (k:Nat) (b:SetT):zex (k+3) (zcY b)=zcY b:=by simp only [zex,zcY,ql,qM,zdQ,zeu]
theorem zjv (k:Nat) (b:LinkT):zex (k+3) (zbw b)=zbw b:=by simp only [zex,zbw,ql,qM,zdQ,zeu]
theorem zeG {α:Type} {f g:α->D} {n:Nat} (h:∀ x,zex n (f x)=g x) (xs:List α):zex (n+1) (.flst (xs.map f))=.lst (xs.map g):=by simp only [zex,qm,Function.comp_def,h]
theorem zc6 {ft:FT} {X E:FS} {ρ:zaY} (h:ft ρ=some false):zaF (sIf ft X zcC) E ρ=E ρ:=by
 simp only [zaF,sIf,h,qa,qp,if_false,zcC]
theorem zjW {ft:FT} {A B E:FS} {ρ ρ':zaY} {d:D} (h:ft ρ=some true) (h2:A ρ=some (.rt d,ρ')):zaF (sIf ft A B) E ρ=some (.rt d,ρ'):=by
 simp only [zaF,sIf,h,qa,if_true,h2]
theorem zgI:∀ (n:Nat) (d:D),Pl n d->zdy n [d]=some (zex n d)
 | 0,_,h=>h.elim
 | n+1,.flst l,h=>by
  refine za8 [oS (.flst l)] rfl (zjW (zbb (b:=true) ?_) (za6 ?_))
  ·simp only [cF,zab,zaj,vSh,vC,zfZ,tyD,qb,qa,qd,k1]
  ·have:=zbA (fi:=itF (vSh 0)) (fe:=cF (zdy n) (zab (vSh 0) zaj)) (fv:=[none]) (ρ:=[oS (.flst l)]) (r:=[]) (a:=none) (xs:=l) (f:=zex n) rfl h.1 rfl (fun x hx=>by simp only [cF,zab,zaj,vSh,qb,qa,qd,zgI n x (h.2 x hx)])
   exact this
 | n+1,.tup l,h=>by
  refine za8 [oS (.tup l)] rfl ((zc6 (zbb (b:=false) ?_)).trans (zjW (zbb (b:=true) ?_) (za6 (za3 (zam (d:=.lst (l.map (zex n))) ?_ zaD) rfl))))
  ·simp only [cF,zab,zaj,vSh,vC,zfZ,tyD,qb,qa,qd,k2]
  ·simp only [cF,zab,zaj,vSh,vC,zfZ,tyD,qb,qa,qd,k3]
  ·have:=zbA (fi:=itF (vSh 0)) (fe:=cF (zdy n) (zab (vSh 0) zaj)) (fv:=[none]) (ρ:=[oS (.tup l)]) (r:=[]) (a:=none) (xs:=l) (f:=zex n) rfl h.1 rfl (fun x hx=>by simp only [cF,zab,zaj,vSh,qb,qa,qd,zgI n x (h.2 x hx)])
   exact this
 | n+1,.non,h=>by
  show zdz (zdy n) [.non]=some .non
  unfold zdz
  refine za8 [oS .non] rfl ((zc6 (zbb (b:=false) ?_)).trans ((zc6 (zbb (b:=false) ?_)).trans (za6 (f:=vSh 0) rfl))) <;> simp only [cF,zab,zaj,vSh,vC,zfZ,tyD,qb,qa,qd,k10,k11]
 | n+1,.bl b,h=>by
  show zdz (zdy n) [.bl b]=some (.bl b)
  unfold zdz
  refine za8 [oS (.bl b)] rfl ((zc6 (zbb (b:=false) ?_)).trans ((zc6 (zbb (b:=false) ?_)).trans (za6 (f:=vSh 0) rfl))) <;> simp only [cF,zab,zaj,vSh,vC,zfZ,tyD,qb,qa,qd,k8,k9]
 | n+1,.int b,h=>by
  show zdz (zdy n) [.int b]=some (.int b)
  unfold zdz
  refine za8 [oS (.int b)] rfl ((zc6 (zbb (b:=false) ?_)).trans ((zc6 (zbb (b:=false) ?_)).trans (za6 (f:=vSh 0) rfl))) <;> simp only [cF,zab,zaj,vSh,vC,zfZ,tyD,qb,qa,qd,k6,k7]
 | n+1,.str b,h=>by
  show zdz (zdy n) [.str b]=some (.str b)
  unfold zdz
  refine za8 [oS (.str b)] rfl ((zc6 (zbb (b:=false) ?_)).trans ((zc6 (zbb (b:=false) ?_)).trans (za6 (f:=vSh 0) rfl))) <;> simp only [cF,zab,zaj,vSh,vC,zfZ,tyD,qb,qa,qd,k4,k4,k5]
theorem zeH {e d:D} (h:Pl 8 e) (hm:zex 8 e=d):zay [e]=some d:=by rw [← hm];exact zgI 8 e h
theorem zdA {n:Nat} {α:Type} {f:α->D} {xs:List α} (hl:xs.length<=1000) (h:∀ x∈xs,Pl n (f x)):Pl (n+1) (.flst (xs.map f)) :=
 ⟨by rw [qe];exact szN hl (by decide),fun x hx=>by
  obtain ⟨y,hy,rfl⟩:=List.mem_map.mp hx
  exact h y hy⟩
theorem zsl {n:Nat} {xs:List Str} (hl:xs.length<=1000):Pl (n+2) (.flst (xs.map D.str)):=zdA hl fun x _=>(trivial:Pl (n+1) (.str x))
theorem ztM {n:Nat} {xs:List (Str×Int)} (hl:xs.length<=1000):Pl (n+3) (.flst (xs.map dW)):=zdA hl fun x _=>⟨by simp [sizeLine],by
 intro y hy
 simp only [qJ,qH,or_false] at hy
 rcases hy with rfl | rfl <;> trivial⟩
theorem zkW {n:Nat} {h:Int} {b:BenchT} (g:GoodB h b):Pl (n+4) (zbf b):=⟨by simp [sizeLine],by
 intro y hy
 simp only [qJ,qH,or_false] at hy
 rcases hy with rfl | rfl
 ·trivial
 ·exact zdA (by have:=g.len;omega) fun x _=>⟨by simp [sizeLine],by
   intro y hy
   simp only [qJ,qH,or_false] at hy
   rcases hy with rfl | rfl <;> trivial⟩⟩
theorem zmF {n:Nat} {bn:List Str} {h:Int} {s:StepT} (g:GoodS bn h s):Pl (n+4) (zcc s):=⟨by simp [sizeLine],by
 intro y hy
 simp only [qJ,qH,or_false] at hy
 rcases hy with rfl | rfl | rfl
 ·trivial
 ·trivial
 ·exact ztM (by have:=g.l4;omega)⟩
theorem zpz {n:Nat} {sn:List Str} {h:Int} {j:JobT} (hl:sn.length<=40) (g:GoodJ sn h j):Pl (n+3) (zc3 j):=⟨by simp [sizeLine],by
 intro y hy
 simp only [qJ,qH,or_false] at hy
 rcases hy with rfl | rfl | rfl | rfl | rfl
 ·trivial
 ·trivial
 ·trivial
 ·trivial
 ·exact zsl (by have:=g.ln;omega)⟩
theorem zpy {n:Nat} {u:SetT}:Pl (n+2) (zcY u):=⟨by simp [sizeLine],by
 intro y hy
 simp only [qJ,qH,or_false] at hy
 rcases hy with rfl | rfl | rfl | rfl <;> trivial⟩
theorem zmG {n:Nat} {u:LinkT}:Pl (n+2) (zbw u):=⟨by simp [sizeLine],by
 intro y hy
 simp only [qJ,qH,or_false] at hy
 rcases hy with rfl | rfl | rfl <;> trivial⟩
theorem zkV {n:Nat} {sn:List Str} {k:StockT} (hl:sn.length<=40) (g:GoodK sn k):Pl (n+4) (zbB k):=⟨by simp [sizeLine],by
 intro y hy
 simp only [qJ,qH,or_false] at hy
 rcases hy with rfl | rfl | rfl | rfl | rfl
 ·trivial
 ·trivial
 ·trivial
 ·exact ztM (by have:=g.tk.ln;omega)
 ·exact ztM (by have:=g.pt.ln;omega)⟩
theorem zh1 {α:Type} {nm:α->Str} {f:α->D}:∀ (xs:List α),zh2 (xs.map fun x=>.tup [.str (nm x),f x])=some (xs.map fun x=>(.inr (nm x),f x))
 | []=>rfl
 | x::r=>by simp only [ql,zh2,zo1,qa,zh1 r,qd]
theorem zh0 {α:Type} {t:α->List Str} {f:α->D}:∀ (xs:List α),zgY (xs.map fun x=>.tup [.tup ((t x).map D.str),f x])=some (xs.map fun x=>((t x).map Sum.inr,f x))
 | []=>rfl
 | x::r=>by simp only [ql,zgY,zev,qa,zh0 r,qd]
theorem zh4 {κ:Type} [DecidableEq κ] {ps:List (κ×D)} (h:(ps.map (·.1)).Nodup):zty ps=ps:=by
 have key:∀ (l a:List (κ×D)),((a++l).map (·.1)).Nodup->l.foldl (fun acc kv=>zit acc kv.1 kv.2) a=a++l:=by
  intro l
  induction l with
  | nil=>intro a _;simp
  | cons x r ih =>
   intro a hn
   have hx:(a.any fun kv=>decide (kv.1=x.1))=false:=by
    rw [List.any_eq_false]
    intro y hy z
    rw [List.map_append,List.nodup_append] at hn
    exact hn.2.2 y.1 (qU hy) x.1 (by simp) (of_decide_eq_true z)
   rw [List.foldl_cons]
   have e:zit a x.1 x.2=a++[x]:=by
    unfold zit
    rw [hx]
    rfl
   rw [e,ih (a++[x]) (by simpa using hn)]
   simp
 simpa [zty] using key ps [] (by simpa using h)
theorem zgH {β:Type}:∀ {fs:List (Str×β)} {i:Nat} {k:Str} {d:β},(fs.map (·.1)).Nodup->fs[i]?=some (k,d)->fs.lookup k=some d
 | [],i,k,d,_,h=>by simp at h
 | (a,b)::r,0,k,d,_,h=>by
  simp only [qb,Option.some.injEq,Prod.mk.injEq] at h
  obtain ⟨rfl,rfl⟩:=h
  simp [List.lookup]
 | (a,b)::r,i+1,k,d,nd,h=>by
  rw [qc] at h
  rw [ql,List.nodup_cons] at nd
  have ne:k≠a:=by
   intro z
   subst z
   exact nd.1 (qU (f:=(·.1)) (qN h))
  have hb:(k==a)=false:=by simpa using ne
  simp only [List.lookup,hb]
  exact zgH nd.2 h
theorem zfX {β:Type}:∀ {fs:List (Str×β)} {k:Str},k∉fs.map (·.1)->fs.lookup k=none
 | [],_,_=>rfl
 | (a,b)::r,k,h=>by
  rw [ql,qJ,not_or] at h
  have hb:(k==a)=false:=by simpa using h.1
  simp only [List.lookup,hb]
  exact zfX h.2
end Law
end
section
namespace Law
open PySem L2
def zlM (j:JobT) (acc:List (Key×D)) (m:Str):List (Key×D):=zit acc (.inr m) (zd2 j)
def jkv (js:List JobT):List (Key×D):=js.foldl (fun acc j=>j.ms.foldl (zlM j) acc) []
theorem zot {κ:Type} [DecidableEq κ] (kvs:List (κ×D)) (k:κ) (v:D):(zit kvs k v).length<=kvs.length+1:=by
 unfold zit
 split
 ·rw [qe];omega
 ·rw [qi];simp
theorem zg8 (j:JobT):∀ (ms:List Str) (acc:List (Key×D)),(ms.foldl (zlM j) acc).length<=acc.length+ms.length
 | [],acc=>by simp
 | m::r,acc=>by
  rw [List.foldl_cons]
  have h1:=zg8 j r (zlM j acc m)
  have h2:(zlM j acc m).length<=acc.length+1:=zot _ _ _
  rw [qh];omega
theorem znk {m:Nat}:∀ {js:List JobT} (acc:List (Key×D)),(∀ j∈js,j.ms.length<=m)->(js.foldl (fun acc j=>j.ms.foldl (zlM j) acc) acc).length<=acc.length+js.length*m
 | [],acc,_=>by simp
 | j::r,acc,h=>by
  rw [List.foldl_cons]
  have h1:=znk (js:=r) (j.ms.foldl (zlM j) acc) fun y hy=>h y (qg _ hy)
  have h2:=zg8 j j.ms acc
  have h3:=h j qf
  rw [qh,Nat.succ_mul];omega
def znv (bs:List BenchT) (ss:List StepT) (js:List JobT) (us:List SetT) (ls:List LinkT) (ks:List StockT) (h:Int):List (Str×D) :=
 [("benches",.lst (bs.map zbi)),("steps",.lst (ss.map zbl)),("jobs",.lst (js.map zd2)),("setups",.lst (us.map zcY)),("links",.lst (ls.map zbw)),("stocks",.lst (ks.map zdm)),("horizon",.int h),
 ("bench_by_name",.dk (bs.map fun b=>(.inr b.nm,zbi b))),("step_by_name",.dk (ss.map fun s=>(.inr s.nm,zbl s))),("setup_by_names",.dt (us.map fun u=>([u.b,u.p,u.q].map Sum.inr,.int u.n)))]
def zuZ (bs:List BenchT) (ss:List StepT) (js:List JobT) (us:List SetT) (ls:List LinkT) (ks:List StockT) (h:Int):List (Str×D):=znv bs ss js us ls ks h++[(("job_by_step":Str),D.dk (jkv js))]
def zo5 (bs:List BenchT) (ss:List StepT) (js:List JobT) (us:List SetT) (ls:List LinkT) (ks:List StockT) (h:Int):D:=.ins "Shop" (zuZ bs ss js us ls ks h)
def zfu:List Str:=["benches","steps","jobs","setups","links","stocks","horizon","bench_by_name","step_by_name","setup_by_names","job_by_step"]
theorem ziB:zfu.Nodup:=by decide +kernel
theorem zm1 {α:Type} {l:List α} (h:l.Nodup) (n:Nat):(l.take n).Nodup:=List.Sublist.nodup (List.take_sublist n l) h
section
variable {fs:List (Str×D)} {f:Str} {fv:FE} {r:zaY} {g:FS} {d:D}
theorem zdt (n:Nat) (hk:zfu[n]?=some f) (hf:fs.map (·.1)=zfu.take n) (h:fv (some (.obj "Shop" fs)::r)=some d):zaF (zfp "Shop" f 0 fv) g (some (.obj "Shop" fs)::r)=g (some (.obj "Shop" (fs++[(f,d)]))::r):=by
 have hno:fs.lookup f=none:=zfX (by
  rw [hf]
  intro z
  obtain ⟨i,hi⟩:=List.getElem?_of_mem z
  have hin:i < n:=by
   rcases Nat.lt_or_ge i n with q | q
   ·exact q
   ·rw [List.getElem?_eq_none (by rw [qC];omega)] at hi;cases hi
  rw [List.getElem?_take_of_lt hin] at hi
  have:=(List.getElem?_inj (List.getElem?_eq_some_iff.mp hi).1 ziB).mp (hi.trans hk.symm)
  omega)
 have hlen:fs.length < 100:=by
  have:=congrArg List.length hf
  rw [qe,qC] at this
  have k:zfu.length=11:=rfl
  omega
 simp only [zaF,zfp,h,qa,qb,hno,hlen,and_self,if_true,List.set_cons_zero]
theorem zix (n i:Nat) (hf:fs.map (·.1)=zfu.take n) (h:fs[i]?=some (f,d)):zhE "Shop" f 0 (some (.obj "Shop" fs)::r)=some d:=by
 have e:fs.lookup f=some d:=zgH (by rw [hf];exact zm1 ziB n) h
 show (if some ("Shop":Str)=some ("Shop":Str) then fs.lookup f else none)=some d
 rw [qW rfl,e]
end
theorem znI {α:Type} {f:α->D} {nm:α->Str} {xs:List α} {fo:FE} {ρ:zaY} (hf:∀ x,∃ r,f x=.tup (.str (nm x)::r)) (h1:fo ρ=some (.lst (xs.map f))) (h2:xs.length<=1000) (nd:(xs.map nm).Nodup) :
  cF zjD (zab (zaX (zaH (itF fo) (zaV 0) tT (zca (szF (zab (b2 ixD (vSh 0) (vC (.int 0))) (zab (vSh 0) zaj)))) [none])) zaj) ρ=some (.dk (xs.map fun x=>(.inr (nm x),f x))):=by
 have hc:=zbA (fi:=itF fo) (fe:=zca (szF (zab (b2 ixD (vSh 0) (vC (.int 0))) (zab (vSh 0) zaj)))) (fv:=[none]) (ρ:=ρ) (r:=[]) (a:=none) (xs:=xs.map f) (f:=fun d=>.tup [match d with | .tup (x::_)=>x | _=>.non,d]) (by unfold itF;rw [h1];rfl) (by rw [qe];exact szN h2 (by decide)) rfl (fun x hx=>by
  obtain ⟨y,_,rfl⟩:=List.mem_map.mp hx
  obtain ⟨r,e⟩:=hf y
  simp only [zab,zaj,vSh,vC,b2,zca,szF,zjw,qb,qa,qd,if_true,qh,qk,Nat.zero_add,sz2,e])
 have e:(xs.map f).map (fun d=>D.tup [match d with | .tup (x::_)=>x | _=>.non,d])=xs.map fun x=>.tup [.str (nm x),f x]:=by
  rw [qm]
  refine List.map_congr_left fun x _=>?_
  obtain ⟨r,e⟩:=hf x
  simp [e]
 rw [e] at hc
 have kn:((xs.map fun x=>((.inr (nm x):Key),f x)).map (·.1)).Nodup:=by
  rw [qm]
  have:=List.Pairwise.map (S:=fun a b:Key=>a≠b) (Sum.inr:Str->Key) (fun a b hab z=>hab (Sum.inr.inj z)) nd
  rw [qm] at this
  exact this
 refine za3 (zam hc zaD) ?_
 show (if _ then _ else _)=_
 rw [qW (by rw [qe];exact h2),zh1,qd,zh4 kn]
theorem zo4 {us:List SetT} {fo:FE} {ρ:zaY} (h1:fo ρ=some (.lst (us.map zcY))) (h2:us.length<=1000) (nd:(us.map fun u=>[u.b,u.p,u.q]).Nodup) :
  cF zlr (zab (zaX (zaH (itF fo) (zaV 0) tT (zca (szF (zab (slF (vSh 0) pN (pS (vC (.int 3)))) (zab (b2 ixD (vSh 0) (vC (.int 3))) zaj)))) [none])) zaj) ρ=some (.dt (us.map fun u=>([u.b,u.p,u.q].map Sum.inr,.int u.n))):=by
 have hc:=zbA (fi:=itF fo) (fe:=zca (szF (zab (slF (vSh 0) pN (pS (vC (.int 3)))) (zab (b2 ixD (vSh 0) (vC (.int 3))) zaj)))) (fv:=[none]) (ρ:=ρ) (r:=[]) (a:=none) (xs:=us.map zcY) (f:=fun d=>match d with | .tup [a,b,c,d]=>.tup [.tup [a,b,c],d] | _=>.non) (by unfold itF;rw [h1];rfl) (by rw [qe];exact szN h2 (by decide)) rfl (fun x hx=>by
  obtain ⟨y,_,rfl⟩:=List.mem_map.mp hx
  simp only [zab,zaj,vSh,vC,b2,zca,szF,slF,pN,pS,zsX,qb,qa,qd,if_true,qh,qk,Nat.zero_add,sz2,zcY,zug])
 rw [qm] at hc
 have kn:((us.map fun u=>([u.b,u.p,u.q].map (Sum.inr:Str->Key),D.int u.n)).map (·.1)).Nodup:=by
  rw [qm]
  have inj:∀ a b:List Str,a.map (Sum.inr:Str->Key)=b.map Sum.inr->a=b:=fun a b z=>(List.map_inj_right (fun x y q=>Sum.inr.inj q)).mp z
  have:=List.Pairwise.map (S:=fun a b:List Key=>a≠b) (List.map (Sum.inr:Str->Key)) (fun a b hab z=>hab (inj a b z)) nd
  rw [qm] at this
  exact this
 refine za3 (zam hc zaD) ?_
 show (if _ then _ else _)=_
 have e:=zh0 (t:=fun u:SetT=>[u.b,u.p,u.q]) (f:=fun u=>.int u.n) us
 rw [qW (by rw [qe];exact h2)]
 have e2:zgY (us.map ((fun d=>match d with | .tup [a,b,c,d]=>D.tup [.tup [a,b,c],d] | _=>.non) ∘ zcY))=some (us.map fun u=>([u.b,u.p,u.q].map Sum.inr,.int u.n)):=e
 rw [e2,qd,zh4 kn]
section
variable {bs:List BenchT} {ss:List StepT} {js:List JobT} {us:List SetT} {ls:List LinkT} {ks:List StockT} {h:Int}
theorem zhb:(znv bs ss js us ls ks h).map (·.1)=zfu.take 10:=rfl
abbrev r9 (bs:List BenchT) (ss:List StepT) (js:List JobT) (us:List SetT) (ls:List LinkT) (ks:List StockT) (h:Int) (a b:Option Slot):zaY:=[oS (.flst (bs.map zbf)),oS (.flst (ss.map zcc)),oS (.flst (js.map zc3)),oS (.flst (us.map zcY)),oS (.flst (ls.map zbw)),oS (.flst (ks.map zbB)),oS (.int h),oS .non,a,b]
abbrev ob (bs:List BenchT) (ss:List StepT) (js:List JobT) (us:List SetT) (ls:List LinkT) (ks:List StockT) (h:Int) (kvs:List (Key×D)):Option Slot:=some (.objd "Shop" (znv bs ss js us ls ks h) "job_by_step" kvs)
theorem zsf {j:JobT} {m:Str} {kvs:List (Key×D)} (hl:kvs.length < 100000):zdq "Shop" "job_by_step" 0 (vSh 10) (vSh 9) (ob bs ss js us ls ks h kvs::r9 bs ss js us ls ks h (oS (zd2 j)) (oS (.str m)))=some (.nx,ob bs ss js us ls ks h (zlM j kvs m)::r9 bs ss js us ls ks h (oS (zd2 j)) (oS (.str m))):=by
 have hno:(znv bs ss js us ls ks h).lookup ("job_by_step":Str)=none:=zfX (by rw [zhb];decide +kernel)
 simp only [zdq,vSh,qb,qc,qa,zo1,hno,hl,and_self,if_true,List.set_cons_zero,zlM]
theorem zoT {j:JobT} {acc:List (Key×D)} {z:Option Slot} (hl:acc.length+j.ms.length < 100000):∃ z',zgG (itF (b2 ixD (vSh 9) (vC (.int 4)))) (zaV 10) (zdq "Shop" "job_by_step" 0 (vSh 10) (vSh 9)) (ob bs ss js us ls ks h acc::r9 bs ss js us ls ks h (oS (zd2 j)) z)=some (.nx,ob bs ss js us ls ks h (j.ms.foldl (zlM j) acc)::r9 bs ss js us ls ks h (oS (zd2 j)) z'):=by
 obtain ⟨ρ',h1,z',h2⟩:=zdb (gg:=zaV 10) (body:=zdq "Shop" "job_by_step" 0 (vSh 10) (vSh 9)) (xs:=j.ms.map D.str) (ρ:=ob bs ss js us ls ks h acc::r9 bs ss js us ls ks h (oS (zd2 j)) z)
  (fun i ρ=>∃ z,ρ=ob bs ss js us ls ks h ((j.ms.take i).foldl (zlM j) acc)::r9 bs ss js us ls ks h (oS (zd2 j)) z) ⟨z,by simp⟩ (fun i x ρ hx hI=>by
   obtain ⟨z,rfl⟩:=hI
   rw [qj] at hx
   obtain ⟨m,hm,rfl⟩:=oMd hx
   have tk:j.ms.take (i+1)=j.ms.take i++[m]:=by rw [List.take_add_one,hm];rfl
   have hlen:=zg8 j (j.ms.take i) acc
   rw [qC] at hlen
   refine ⟨_,_,rfl,zsf (by omega),oS (.str m),?_⟩
   rw [tk,List.foldl_append];rfl)
 refine ⟨z',?_⟩
 have e:itF (b2 ixD (vSh 9) (vC (.int 4))) (ob bs ss js us ls ks h acc::r9 bs ss js us ls ks h (oS (zd2 j)) z)=some (j.ms.map D.str):=by
  simp only [vSh,vC,b2,itF,zjy,zq8,qb,qc,qa,zd2]
 unfold zgG
 rw [e,qa,h1,h2,qe,List.take_length]
theorem zoE (hj:js.length<=40) (hm:∀ j∈js,j.ms.length<=40):∃ z z',znx (zaV 9) (zgG (itF (b2 ixD (vSh 9) (vC (.int 4)))) (zaV 10) (zdq "Shop" "job_by_step" 0 (vSh 10) (vSh 9))) (js.map zd2) (ob bs ss js us ls ks h []::r9 bs ss js us ls ks h none none)=some (.nx,ob bs ss js us ls ks h (jkv js)::r9 bs ss js us ls ks h z z'):=by
 obtain ⟨ρ',h1,z,z',h2⟩:=zdb (gg:=zaV 9) (body:=zgG (itF (b2 ixD (vSh 9) (vC (.int 4)))) (zaV 10) (zdq "Shop" "job_by_step" 0 (vSh 10) (vSh 9))) (xs:=js.map zd2) (ρ:=ob bs ss js us ls ks h []::r9 bs ss js us ls ks h none none)
  (fun i ρ=>∃ z z',ρ=ob bs ss js us ls ks h (jkv (js.take i))::r9 bs ss js us ls ks h z z') ⟨none,none,by simp [jkv]⟩ (fun i x ρ hx hI=>by
   obtain ⟨z,z',rfl⟩:=hI
   rw [qj] at hx
   obtain ⟨j,hjm,rfl⟩:=oMd hx
   have tk:js.take (i+1)=js.take i++[j]:=by rw [List.take_add_one,hjm];rfl
   have hlen:=znk (m:=40) (js:=js.take i) [] fun y hy=>hm y (List.mem_of_mem_take hy)
   rw [qC,qk] at hlen
   have h4:=hm j (qN hjm)
   obtain ⟨w,hw⟩:=zoT (bs:=bs) (ss:=ss) (js:=js) (us:=us) (ls:=ls) (ks:=ks) (h:=h) (j:=j) (acc:=jkv (js.take i)) (z:=z') (by unfold jkv;omega)
   refine ⟨_,_,rfl,hw,oS (zd2 j),w,?_⟩
   rw [tk]
   unfold jkv
   rw [List.foldl_append];rfl)
 refine ⟨z,z',?_⟩
 rw [h1,h2,qe,List.take_length]
theorem zq9 (g:Good bs ss js us ls ks h) (ml:(js.flatMap (·.ms)).length<=300):za7 [.flst (bs.map zbf),.flst (ss.map zcc),.flst (js.map zc3),.flst (us.map zcY),.flst (ls.map zbw),.flst (ks.map zbB),.int h]=some (zo5 bs ss js us ls ks h):=by
 have hl:(ss.map (·.nm)).length<=40:=by rw [qe];exact g.sl.2
 have f1:=zeH (e:=.flst (bs.map zbf)) (zdA (by have:=g.bl.2;omega) fun x hx=>zkW (g.b x hx)) (zeG (zfW 4) bs)
 have f2:=zeH (e:=.flst (ss.map zcc)) (zdA (by have:=g.sl.2;omega) fun x hx=>zmF (g.s x hx)) (zeG (zg1 4) ss)
 have f3:=zeH (e:=.flst (js.map zc3)) (zdA (by have:=g.jl;omega) fun x hx=>zpz hl (g.j x hx)) (zeG (ziz 4) js)
 have f4:=zeH (e:=.flst (us.map zcY)) (zdA (by have:=g.ul;omega) fun x hx=>zpy) (zeG (zle 4) us)
 have f5:=zeH (e:=.flst (ls.map zbw)) (zdA (by have:=g.ll;omega) fun x hx=>zmG) (zeG (zjv 4) ls)
 have f6:=zeH (e:=.flst (ks.map zbB)) (zdA (by have:=g.kl;omega) fun x hx=>zkV hl (g.k x hx)) (zeG (zfV 4) ks)
 obtain ⟨z,z',ho⟩:=zoE (bs:=bs) (ss:=ss) (us:=us) (ls:=ls) (ks:=ks) (h:=h) g.jl fun j hj=>qK (g.j j hj).ln hl
 have key:∀ (G:FS) (ρ':zaY),G (some (.obj "Shop" [])::[oS (.flst (bs.map zbf)),oS (.flst (ss.map zcc)),oS (.flst (js.map zc3)),oS (.flst (us.map zcY)),oS (.flst (ls.map zbw)),oS (.flst (ks.map zbB)),oS (.int h),none,none,none])=some (.nx,ob bs ss js us ls ks h (jkv js)::ρ') ->
   zrG 3 "Shop" G [.flst (bs.map zbf),.flst (ss.map zcc),.flst (js.map zc3),.flst (us.map zcY),.flst (ls.map zbw),.flst (ks.map zbB),.int h]=some (zo5 bs ss js us ls ks h):=fun G ρ' e=>by
  unfold zrG
  show (G (some (.obj "Shop" [])::[oS (.flst (bs.map zbf)),oS (.flst (ss.map zcc)),oS (.flst (js.map zc3)),oS (.flst (us.map zcY)),oS (.flst (ls.map zbw)),oS (.flst (ks.map zbB)),oS (.int h),none,none,none])).bind _=_
  rw [e]
  rfl
 refine key _ (r9 bs ss js us ls ks h z z') ((zaQ (za3 rfl (zmO g ml))).trans ?_)
 show zaF _ _ (some (.obj "Shop" [])::r9 bs ss js us ls ks h none none)=_
 refine (zc6 (zbb (b:=false) rfl)).trans ?_
 refine (zdt 0 rfl rfl (za3 rfl f1)).trans ?_
 refine (zdt 1 rfl rfl (za3 rfl f2)).trans ?_
 refine (zdt 2 rfl rfl (za3 rfl f3)).trans ?_
 refine (zdt 3 rfl rfl (za3 rfl f4)).trans ?_
 refine (zdt 4 rfl rfl (za3 rfl f5)).trans ?_
 refine (zdt 5 rfl rfl (za3 rfl f6)).trans ?_
 refine (zdt 6 rfl rfl (d:=.int h) rfl).trans ?_
 refine (zdt 7 rfl rfl (znI (f:=zbi) (nm:=(·.nm)) (xs:=bs) (fun x=>⟨_,rfl⟩) (zix 7 0 rfl rfl) (by have:=g.bl.2;omega) g.bn)).trans ?_
 refine (zdt 8 rfl rfl (znI (f:=zbl) (nm:=(·.nm)) (xs:=ss) (fun x=>⟨_,rfl⟩) (zix 8 1 rfl rfl) (by have:=g.sl.2;omega) g.sn)).trans ?_
 refine (zdt 9 rfl rfl (zo4 (us:=us) (zix 9 3 rfl rfl) (by have:=g.ul;omega) g.un)).trans ?_
 have hno:(znv bs ss js us ls ks h).lookup ("job_by_step":Str)=none:=zfX (by rw [zhb];decide +kernel)
 have hle:(znv bs ss js us ls ks h).length < 100:=by simp [znv]
 have e1:zrE "Shop" "job_by_step" 0 (some (.obj "Shop" (znv bs ss js us ls ks h))::r9 bs ss js us ls ks h none none)=some (.nx,ob bs ss js us ls ks h []::r9 bs ss js us ls ks h none none):=by
  simp only [zrE,qb,hno,hle,and_self,if_true,List.set_cons_zero]
 have e2:itF (zhE "Shop" "jobs" 0) (ob bs ss js us ls ks h []::r9 bs ss js us ls ks h none none)=some (js.map zd2):=by
  have lk:(znv bs ss js us ls ks h).lookup ("jobs":Str)=some (.lst (js.map zd2)):=zgH (i:=2) (by rw [zhb];exact zm1 ziB 10) rfl
  have n1:("jobs":Str)≠"job_by_step":=by decide +kernel
  have e:zhE "Shop" "jobs" 0 (ob bs ss js us ls ks h []::r9 bs ss js us ls ks h none none)=some (.lst (js.map zd2)):=by
   show (if some ("Shop":Str)=some ("Shop":Str) then (if ("jobs":Str)="job_by_step" then none else (znv bs ss js us ls ks h).lookup ("jobs":Str)) else none)=_
   rw [qW rfl,qX n1,lk]
  unfold itF
  rw [e];rfl
 show zaF (zrE "Shop" "job_by_step" 0) (zgG (itF (zhE "Shop" "jobs" 0)) (zaV 9) (zgG (itF (b2 ixD (vSh 9) (vC (.int 4)))) (zaV 10) (zdq "Shop" "job_by_step" 0 (vSh 10) (vSh 9)))) (some (.obj "Shop" (znv bs ss js us ls ks h))::r9 bs ss js us ls ks h none none)=_
 unfold zaF
 rw [e1,qa]
 show zgG _ _ _ _=_
 unfold zgG
 rw [e2,qa]
 exact ho
end
end Law
end
section
namespace Law
open PySem L2
theorem zg9 {ft:FT} {g g':FS} {ρ:zaY} {b:Bool} (h:ft ρ=some b):sIf ft g g' ρ=if b=true then g ρ else g' ρ:=by unfold sIf;rw [h];rfl
theorem zc7 {g g':FS} {ρ ρ1:zaY} (h:g ρ=some (.nx,ρ1)):zaF g g' ρ=g' ρ1:=by unfold zaF;rw [h];rfl
theorem zkR {i:Nat} {f:FE} {ρ:zaY} {d:D} (h:f ρ=some d):zb1 i f ρ=some (.nx,ρ.set i (oS d)):=by unfold zb1;rw [h];rfl
theorem zhn {i:Nat} {f:FE} {ρ:zaY} {ds:List D} {d:D} (h1:ρ[i]?=some (some (.own ds))) (h2:f ρ=some d) (h3:ds.length < sizeLine):zfg i f ρ=some (.nx,ρ.set i (some (.own (ds++[d])))):=by
 unfold zfg
 rw [h1]
 show (f ρ).bind _=_
 rw [h2,qa,qW h3]
theorem zgm {i:Nat} {g:FS} {ρ:zaY}:zaF (zgD i (szF zaj)) g ρ=g (ρ.set i (some (.own []))):=by
 have z0:(0<=sizeLine)=True:=by simp
 simp only [zaF,zgD,szF,zaj,qa,qd,qk,z0,if_true]
theorem zfv {i:Nat} {g:FS} {ρ:zaY} {ds:List D} (h1:ρ[i]?=some (some (.own ds))):zi4 i g ρ=g (ρ.set i (oS (.lst ds))):=by unfold zi4;rw [h1]
theorem zgo {fi:FA} {gg:FG} {body:FS} {ρ:zaY} {xs:List D} (h:fi ρ=some xs):zgG fi gg body ρ=znx gg body xs ρ:=by unfold zgG;rw [h];rfl
theorem zcl {a b:Int} (h:0 < b):zcs (.int a) (.int b)=some (.int (a % b)):=qW h
theorem ziH {a b:Int} (h:0 < b/\b < 1073741824):ze5 (.int a) (.int b)=some (.int (a / b)):=qW h
theorem zuk:(2:Int) ^ 64=18446744073709551616:=by decide +kernel
theorem zh3 {a b:Int} (h:(-1000000000000 < a/\a < 1000000000000)\/(-1000000000000 < b/\b < 1000000000000)):zeF (.int a) (.int b)=some (.int (a*b)):=by
 show (if _ then _ else _)=_
 rw [zuk]
 exact qW (by omega)
theorem zen (ns:List Int) (k:Nat):zav [.scr ns,.int (k:Int)]=some (.int (ns.getD k 0)):=by
 have e:toB (b2 ltD (vSh 1) (cF zdS (zab (vSh 0) zaj))) [oS (.scr ns),oS (.int k)]=some (decide (k < ns.length)):=by
  simp only [toB,cF,zab,zaj,vSh,b2,zdS,ltD,qb,qc,qa,qd]
  congr 1
  exact decide_eq_decide.mpr (by omega)
 by_cases h:k < ns.length
 ·refine za8 [oS (.scr ns),oS (.int k)] rfl (zjW (e.trans (by rw [qQ h])) (za6 ?_))
  show (atI ns (k:Int)).map D.int=_
  rw [zdV]
  simp [List.getD,h]
 ·refine za8 [oS (.scr ns),oS (.int k)] rfl ((zc6 (e.trans (by rw [qL h]))).trans (za6 ?_))
  have:ns.getD k 0=0:=by simp [List.getD,Nat.le_of_not_lt h]
  rw [this]
  rfl
abbrev dE (c:Int) (k:Nat) (sz:List Int) (n:Int) (ds:List Int) (a b:Option Slot):zaY:=[oS (.int c),oS (.int k),oS (.lst (sz.map D.int)),oS (.int n),some (.own (ds.map D.int)),a,b]
def zkr:FS:=sIf (orT (toB (b2 eqD (b2 zcs (vSh 0) (vC (.int 2))) (vC (.int 1)))) (toB (b2 eqD (vSh 3) (vC (.int 0))))) (zaF (zb1 3 (b2 zbF (b2 zcs (b2 zbF (vSh 3) (vSh 0)) (vC (.int 2147483629))) (vC (.int 48271)))) (zaF (zb1 3 (b2 zbF (vSh 3) (b2 zeF (b2 zeF (vC (.int 7919)) (b2 zbF (vSh 1) (vSh 5))) (b2 zbF (vSh 1) (vSh 5))))) (zaF (zb1 3 (b2 zcs (b2 zeF (vSh 3) (vSh 3)) (vC (.int 2147483587)))) (zfg 4 (b2 zcs (b2 ze5 (vSh 3) (vC (.int 16))) (vSh 6)))))) (zaF (zfg 4 (b2 zcs (vSh 3) (vSh 6))) (zb1 3 (b2 ze5 (vSh 3) (vSh 6))))
theorem zo3 {c n s:Int} {k t:Nat} {sz ds:List Int} (hk:k<=1000) (ht:t<=100) (hs:0 < s/\s < 1073741824) (hl:ds.length<=100):∃ n' d,zkr (dE c k sz n ds (oS (.int t)) (oS (.int s)))=some (.nx,dE c k sz n' (ds++[d]) (oS (.int t)) (oS (.int s)))/\0<=d/\d < s:=by
 have e1:toB (b2 eqD (b2 zcs (vSh 0) (vC (.int 2))) (vC (.int 1))) (dE c k sz n ds (oS (.int t)) (oS (.int s)))=some (decide (c % 2=1)) :=
  zbb (zaA (zaA rfl rfl (zcl (by decide))) rfl rfl)
 have e2:toB (b2 eqD (vSh 3) (vC (.int 0))) (dE c k sz n ds (oS (.int t)) (oS (.int s)))=some (decide (n=0)):=zbb (zaA rfl rfl rfl)
 have e3:orT (toB (b2 eqD (b2 zcs (vSh 0) (vC (.int 2))) (vC (.int 1)))) (toB (b2 eqD (vSh 3) (vC (.int 0)))) (dE c k sz n ds (oS (.int t)) (oS (.int s)))=some (decide (c % 2=1) || decide (n=0)):=by
  unfold orT
  rw [e1,qa,e2]
  cases decide (c % 2=1) <;> rfl
 have hsz:(ds.map D.int).length < sizeLine:=by rw [qe];unfold sizeLine;omega
 unfold zkr
 rw [zg9 e3]
 split
 ·have q1:0<=(n+c) % 2147483629:=qV _ (by decide)
  have q2:(n+c) % 2147483629 < 2147483629:=qS _ (by decide)
  have q3:0<=(k:Int)+t/\(k:Int)+t<=1100:=by omega
  have q4:0<=7919*((k:Int)+t)*((k:Int)+t):=Int.mul_nonneg (by omega) q3.1
  have q5:7919*((k:Int)+t)*((k:Int)+t)<=7919*1100*1100:=Int.mul_le_mul (by omega) q3.2 q3.1 (by decide)
  let n2:Int:=(n+c) % 2147483629+48271+7919*((k:Int)+t)*((k:Int)+t)
  refine ⟨n2*n2 % 2147483587,n2*n2 % 2147483587 / 16 % s,(zaQ (zaA (zaA (zaA rfl rfl rfl) rfl (zcl (by decide))) rfl rfl)).trans ((zaQ (zaA rfl (zaA (zaA rfl (zaA rfl rfl rfl) (zh3 (.inl (by decide)))) (zaA rfl rfl rfl) (zh3 (.inr (by omega)))) rfl)).trans ((zaQ (zaA (zaA rfl rfl (zh3 (.inl (by omega)))) rfl (zcl (by decide)))).trans (zhn rfl (zaA (zaA rfl rfl (ziH (by decide))) rfl (zcl hs.1)) hsz))) |>.trans ?_,qV _ (by omega),qS _ hs.1⟩
  simp [dE]
  exact ⟨rfl,rfl⟩
 ·refine ⟨n / s,n % s,(zc7 (zhn rfl (zaA rfl rfl (zcl hs.1)) hsz)).trans (zkR (zaA rfl rfl (ziH hs))) |>.trans ?_,qV _ (by omega),qS _ hs.1⟩
  simp [dE]
theorem zfx {xs:List D} {i:Nat} {d:D} (h:(xs.mapIdx fun i d=>D.tup [.int i,d])[i]?=some d):∃ x,xs[i]?=some x/\d=.tup [.int i,x]:=by
 rw [List.getElem?_mapIdx] at h
 obtain ⟨x,hx,rfl⟩:=oMd h
 exact ⟨x,hx,rfl⟩
theorem zdD (c:Int) (k:Nat) (hk:k<=1000) (sz:List Int) (hs:∀ s∈sz,0 < s/\s < 1073741824) (hl:sz.length<=100) :
  ∃ ds:List Int,zai [.int c,.int (k:Int),.lst (sz.map D.int)]=some (.lst (ds.map D.int))/\ds.length=sz.length/\∀ (i:Nat) s,sz[i]?=some s->∃ d,ds[i]?=some d/\0<=d/\d < s:=by
 obtain ⟨n0,hn0⟩:∃ n0:Int,b2 ze5 (cF ztz (zab (vSh 0) zaj)) (vC (.int 2)) [oS (.int c),oS (.int k),oS (.lst (sz.map D.int)),none,none,none,none]=some (.int n0):=⟨_,zaA (za3 (zam rfl zaD) rfl) rfl (ziH (by decide))⟩
 obtain ⟨ρ',h1,n,ds,a,b,h2,h3,h4⟩:=zdb (gg:=zdh 2 (zaR (zaV 5) (zaR (zaV 6) zdg))) (body:=zkr) (xs:=(sz.map D.int).mapIdx fun i d=>D.tup [.int i,d]) (ρ:=dE c k sz n0 [] none none)
  (fun i ρ=>∃ n ds a b,ρ=dE c k sz n ds a b/\ds.length=i/\∀ (j:Nat) s,j < i->sz[j]?=some s->∃ d,ds[j]?=some d/\0<=d/\d < s) ⟨n0,[],none,none,rfl,rfl,fun j s hj=>by omega⟩ (fun i x ρ hx hI=>by
   obtain ⟨n,ds,a,b,rfl,hlen,hb⟩:=hI
   obtain ⟨y,hy,rfl⟩:=zfx hx
   rw [qj] at hy
   obtain ⟨s,hsi,rfl⟩:=oMd hy
   have hi:i < sz.length:=(List.getElem?_eq_some_iff.mp hsi).1
   obtain ⟨n',d,e1,e2,e3⟩:=zo3 (c:=c) (n:=n) (k:=k) (t:=i) (sz:=sz) (ds:=ds) hk (by omega) (hs s (qN hsi)) (by omega)
   refine ⟨_,_,rfl,e1,n',ds++[d],_,_,rfl,by rw [qi,hlen];rfl,fun j s' hj hs'=>?_⟩
   by_cases hji:j=i
   ·subst hji
    rw [hsi] at hs'
    cases hs'
    exact ⟨d,by rw [qI (by omega),hlen,Nat.sub_self];rfl,e2,e3⟩
   ·obtain ⟨d',q1,q2⟩:=hb j s' (by omega) hs'
    exact ⟨d',by rw [qx (by omega)];exact q1,q2⟩)
 rw [List.length_mapIdx,qe] at h3 h4
 refine ⟨ds,?_,h3,fun i s hi=>h4 i s (List.getElem?_eq_some_iff.mp hi).1 hi⟩
 refine za8 [oS (.int c),oS (.int k),oS (.lst (sz.map D.int)),none,none,none,none] rfl ((zaQ hn0).trans (zgm.trans ((zc7 ((zgo (xs:=(sz.map D.int).mapIdx fun i d=>D.tup [.int i,d]) rfl).trans (h1.trans (by rw [h2])))).trans ((zfv rfl).trans (za6 (f:=vSh 4) rfl)))))
end Law
end
section
namespace Law
open PySem L2
def nm (k:Nat):Str:=match zaq [.int (k:Int)] with
 | some (.str x)=>x
 | _=>⟨#[]⟩
def zuD (k:Nat):Bool:=match zaq [.int (k:Int)] with
 | some (.str x)=>za2 x
 | _=>false
theorem zsG:∀ k,k < 90->zuD k=true:=by decide +kernel
theorem zju {k:Nat} (h:k < 90):zaq [.int (k:Int)]=some (.str (nm k))/\za2 (nm k)=true:=by
 have:=zsG k h
 unfold zuD at this
 unfold nm
 split at this
 ·rename_i x e
  rw [e]
  exact ⟨rfl,this⟩
 ·cases this
theorem zqP:∀ i,i < 10->∀ j,j < 10->nm i=nm j->i=j:=by decide +kernel
theorem zqO:∀ i,i < 3->∀ j,j < 3->nm (60+i)=nm (60+j)->i=j:=by decide +kernel
theorem zqN:∀ i,i < 3->∀ j,j < 3->nm (70+i)=nm (70+j)->i=j:=by decide +kernel
theorem zqM:∀ i,i < 3->∀ j,j < 3->nm (80+i)=nm (80+j)->i=j:=by decide +kernel
def pqr (i:Nat):Str:=if i=0 then "p" else if i=1 then "q" else "r"
theorem zhZ:∀ i,i < 3->za2 (pqr i)=true:=by decide +kernel
theorem zmC {i:Int} (h0:0<=i) (h:i < 3):ixD (.str "pqr") (.int i)=some (.str (pqr i.toNat)):=by
 have:i=0\/i=1\/i=2:=by omega
 rcases this with rfl | rfl | rfl <;> rfl
theorem ztg {xs:List D} {d:Int} (h:0<=d):zhV none (some d) (.lst xs)=some (.lst (xs.take d.toNat)):=by
 show some (D.lst (zjU xs none (some d)))=_
 unfold zjU HT.sIx
 simp only
 rw [qX (by omega),List.drop_zero,Nat.sub_zero]
 congr 2
 rw [Nat.min_def]
 split
 ·rfl
 ·rw [List.take_of_length_le (qu _),List.take_of_length_le (by omega)]
theorem ztf {xs:List D} {d:Int} (h:0<=d):zhV (some d) none (.lst xs)=some (.lst (xs.drop d.toNat)):=by
 show some (D.lst (zjU xs (some d) none))=_
 unfold zjU HT.sIx
 simp only
 rw [qX (by omega)]
 congr 2
 rw [Nat.min_def]
 split
 ·rw [List.take_of_length_le (by rw [List.length_drop];omega)]
 ·rw [List.drop_of_length_le (qu _),List.drop_of_length_le (by omega)];simp
theorem zqc {f:FE} {g:FE} {ρ:zaY} {xs:List D} {d:Int} (h1:f ρ=some (.lst xs)) (h2:g ρ=some (.int d)) (h:0<=d):slF f pN (pS g) ρ=some (.lst (xs.take d.toNat)):=by
 unfold slF pN pS
 rw [h1,h2]
 exact ztg h
theorem zr3 {f:FE} {g:FE} {ρ:zaY} {xs:List D} {d:Int} (h1:f ρ=some (.lst xs)) (h2:g ρ=some (.int d)) (h:0<=d):slF f (pS g) pN ρ=some (.lst (xs.drop d.toNat)):=by
 unfold slF pN pS
 rw [h1,h2]
 exact ztf h
structure GoodI (h:Int) (br:List (Int×Int)):Prop where
 iv:∀ p∈br,0<=p.1/\p.1 < p.2/\p.2<=h
 gap:∀ (i:Nat) p q,br[i]?=some p->br[i+1]?=some q->p.2 < q.1
abbrev sE (rs:List (Int×Int)) (h:Int) (br:List (Int×Int)) (f:Int) (a b c d:Option Slot):zaY:=[oS (.lst (rs.map dIv)),oS (.int h),some (.own (br.map dIv)),oS (.int f),a,b,c,d]
def zpp:FS:=zaF (zb1 6 (b2 zbF (vSh 3) (vSh 4))) (zaF (zb1 7 (b2 zbF (b2 zbF (vSh 6) (vC (.int 1))) (vSh 5))) (sIf (toB (b2 leD (vSh 7) (vSh 1))) (zaF (zfg 2 (zca (szF (zab (vSh 6) (zab (vSh 7) zaj))))) (zb1 3 (b2 zbF (vSh 7) (vC (.int 1))))) zcC))
theorem zc4 {f g:FE} {ρ:zaY} {x y:D} (h1:f ρ=some x) (h2:g ρ=some y):zca (szF (zab f (zab g zaj))) ρ=some (.tup [x,y]):=by
 simp only [zca,szF,zab,zaj,h1,h2,qa,qd,qh,qk,Nat.zero_add,sz2,if_true]
theorem zmi {f g e:FE} {ρ:zaY} {x y z:D} (h1:f ρ=some x) (h2:g ρ=some y) (h3:e ρ=some z):zca (szF (zab f (zab g (zab e zaj)))) ρ=some (.tup [x,y,z]):=by
 simp only [zca,szF,zab,zaj,h1,h2,h3,qa,qd,qh,qk,Nat.zero_add,sz3,if_true]
theorem zp4 {f g e a:FE} {ρ:zaY} {x y z w:D} (h1:f ρ=some x) (h2:g ρ=some y) (h3:e ρ=some z) (h4:a ρ=some w):zca (szF (zab f (zab g (zab e (zab a zaj))))) ρ=some (.tup [x,y,z,w]):=by
 simp only [zca,szF,zab,zaj,h1,h2,h3,h4,qa,qd,qh,qk,Nat.zero_add,sz4,if_true]
theorem zmh {f g e a b:FE} {ρ:zaY} {x y z w u:D} (h1:f ρ=some x) (h2:g ρ=some y) (h3:e ρ=some z) (h4:a ρ=some w) (h5:b ρ=some u):zca (szF (zab f (zab g (zab e (zab a (zab b zaj)))))) ρ=some (.tup [x,y,z,w,u]):=by
 simp only [zca,szF,zab,zaj,h1,h2,h3,h4,h5,qa,qd,qh,qk,Nat.zero_add,sz5,if_true]
theorem zoi (rs:List (Int×Int)) (h:Int) (hr:∀ p∈rs,0<=p.1/\0<=p.2) (hl:rs.length<=3):∃ br:List (Int×Int),zbs [.lst (rs.map dIv),.int h]=some (.lst (br.map dIv))/\br.length<=rs.length/\GoodI h br:=by
 obtain ⟨ρ',h1,br,f,a,b,c,d,h2,h3,h4,h5,h6⟩:=zdb (gg:=zdh 2 (zaR (zaV 4) (zaR (zaV 5) zdg))) (body:=zpp) (xs:=rs.map dIv) (ρ:=sE rs h [] 0 none none none none)
  (fun i ρ=>∃ br f a b c d,ρ=sE rs h br f a b c d/\br.length<=i/\GoodI h br/\0<=f/\∀ p∈br,p.2 < f) ⟨[],0,none,none,none,none,rfl,qu _,⟨fun p hp=>(by cases hp),fun i p q hp=>(by simp at hp)⟩,Int.le_refl _,fun p hp=>(by cases hp)⟩ (fun i x ρ hx hI=>by
   obtain ⟨br,f,a,b,c,d,rfl,hlen,hg,hf,hlt⟩:=hI
   rw [qj] at hx
   obtain ⟨p,hp,rfl⟩:=oMd hx
   obtain ⟨p1,p2⟩:=hr p (qN hp)
   have hi:i < rs.length:=(List.getElem?_eq_some_iff.mp hp).1
   have hsz:(br.map dIv).length < sizeLine:=by rw [qe];unfold sizeLine;omega
   have pre:∀ ρ2,(sIf (toB (b2 leD (vSh 7) (vSh 1))) (zaF (zfg 2 (zca (szF (zab (vSh 6) (zab (vSh 7) zaj))))) (zb1 3 (b2 zbF (vSh 7) (vC (.int 1))))) zcC) (sE rs h br f (oS (.int p.1)) (oS (.int p.2)) (oS (.int (f+p.1))) (oS (.int (f+p.1+1+p.2))))=some (.nx,ρ2)->zpp (sE rs h br f (oS (.int p.1)) (oS (.int p.2)) c d)=some (.nx,ρ2):=fun ρ2 q =>
    (zaQ (zaA rfl rfl rfl)).trans ((zaQ (zaA (zaA rfl rfl rfl) rfl rfl)).trans q)
   have e:toB (b2 leD (vSh 7) (vSh 1)) (sE rs h br f (oS (.int p.1)) (oS (.int p.2)) (oS (.int (f+p.1))) (oS (.int (f+p.1+1+p.2))))=some (decide (f+p.1+1+p.2<=h)):=zbb (zaA rfl rfl rfl)
   by_cases hh:f+p.1+1+p.2<=h
   ·rw [qQ hh] at e
    refine ⟨_,_,rfl,pre _ ((zg9 e).trans ((qW rfl).trans ((zc7 (zhn rfl (zc4 rfl rfl) hsz)).trans (zkR (zaA rfl rfl rfl))))),br++[(f+p.1,f+p.1+1+p.2)],f+p.1+1+p.2+1,oS (.int p.1),oS (.int p.2),oS (.int (f+p.1)),oS (.int (f+p.1+1+p.2)),?_,?_,⟨fun q hq=>?_,fun j q q' hq hq'=>?_⟩,by omega,fun q hq=>?_⟩
    ·simp [sE,dIv]
    ·rw [qi];simp;omega
    ·rcases List.mem_append.mp hq with z | z
     ·exact hg.iv q z
     ·rw [List.mem_singleton.mp z];exact ⟨by omega,by omega,hh⟩
    ·have hj:j+1 < br.length+1:=by
      have:=(List.getElem?_eq_some_iff.mp hq').1
      simpa using this
     rw [qx (by omega)] at hq
     by_cases hj2:j+1 < br.length
     ·rw [qx hj2] at hq'
      exact hg.gap j q q' hq hq'
     ·rw [qI (by omega),show j+1 - br.length=0 by omega] at hq'
      cases hq'
      have:=hlt q (qN hq)
      show q.2 < f+p.1
      omega
    ·rcases List.mem_append.mp hq with z | z
     ·have:=hlt q z;omega
     ·rw [List.mem_singleton.mp z];show f+p.1+1+p.2 < _;omega
   ·rw [qL hh] at e
    exact ⟨_,_,rfl,pre _ ((zg9 e).trans rfl),br,f,_,_,_,_,rfl,by omega,hg,hf,hlt⟩)
 rw [qe] at h3
 refine ⟨br,za8 [oS (.lst (rs.map dIv)),oS (.int h),none,none,none,none,none,none] rfl (zgm.trans ((zaQ (d:=.int 0) rfl).trans ((zc7 ((zgo (xs:=rs.map dIv) rfl).trans (h1.trans (by rw [h2])))).trans ((zfv rfl).trans (za6 (f:=vSh 2) rfl))))),h3,h4⟩
theorem zfb {α:Type} {g:α->D} {xs:List α} {x:α} {i:Nat} {f:FE} {ρ:zaY} (h1:ρ[i]?=some (some (.own (xs.map g)))) (h2:f ρ=some (g x)) (h3:xs.length<=1000):zfg i f ρ=some (.nx,ρ.set i (some (.own ((xs++[x]).map g)))):=by
 rw [zhn h1 h2 (by rw [qe];unfold sizeLine;omega),List.map_append];rfl
theorem zm9 {f g e:FE} {ρ:zaY} {x y z:D} (h1:f ρ=some x) (h2:g ρ=some y) (h3:e ρ=some z):zaX (szF (zab f (zab g (zab e zaj)))) ρ=some (.lst [x,y,z]):=by
 simp only [zaX,szF,zab,zaj,h1,h2,h3,qa,qd,qh,qk,Nat.zero_add,sz3,if_true]
theorem zcj {f:FE} {ρ:zaY} {ds:List Int} {n:Nat} {d:Int} (h1:f ρ=some (.lst (ds.map D.int))) (h2:ds[n]?=some d):b2 ixD f (vC (.int (n:Int))) ρ=some (.int d) :=
 zaA h1 rfl (by rw [ixL,qj,h2];rfl)
structure BenchAt (h:Int) (i:Nat) (b:BenchT):Prop where
 nm:b.nm=nm (60+i)
 len:b.br.length<=3
 good:GoodI h b.br
abbrev bE (cs:List Int) (h:Int) (bs:List BenchT) (a b c d:Option Slot):zaY:=[oS (.lst (cs.map D.int)),oS (.int h),some (.own (bs.map zbi)),a,b,c,d]
def zuH:FE:=zaX (szF (zab (vC (.int 4)) (zab (vC (.int 5)) (zab (vC (.int 3)) (zab (vC (.int 7)) (zab (vC (.int 4)) (zab (vC (.int 9)) (zab (vC (.int 5)) zaj))))))))
theorem zru (ρ:zaY):zuH ρ=some (.lst (([4,5,3,7,4,9,5]:List Int).map D.int)):=rfl
def zpV:FS:=zaF (zb1 5 (cF zai (zab (vSh 4) (zab (vSh 3) (zab zuH zaj))))) (zaF (zb1 6 (slF (zaX (szF (zab (zca (szF (zab (b2 ixD (vSh 5) (vC (.int 1))) (zab (b2 ixD (vSh 5) (vC (.int 2))) zaj)))) (zab (zca (szF (zab (b2 ixD (vSh 5) (vC (.int 3))) (zab (b2 ixD (vSh 5) (vC (.int 4))) zaj)))) (zab (zca (szF (zab (b2 ixD (vSh 5) (vC (.int 5))) (zab (b2 ixD (vSh 5) (vC (.int 6))) zaj)))) zaj))))) pN (pS (b2 ixD (vSh 5) (vC (.int 0)))))) (zfg 2 (zca (szF (zab (cF zaq (zab (b2 zbF (vC (.int 60)) (vSh 3)) zaj)) (zab (cF zbs (zab (vSh 6) (zab (vSh 1) zaj))) zaj))))))
theorem zrt {cs:List Int} {h c:Int} {bs:List BenchT} {i:Nat} {y z:Option Slot} (hi:i < 3) (hl:bs.length<=3):∃ b u v,zpV (bE cs h bs (oS (.int i)) (oS (.int c)) y z)=some (.nx,bE cs h (bs++[b]) (oS (.int i)) (oS (.int c)) u v)/\BenchAt h i b:=by
 obtain ⟨ds,e,hd,hb⟩:=zdD c i (by omega) [4,5,3,7,4,9,5] (by decide) (by decide)
 obtain ⟨d0,q0,p0,_⟩:=hb 0 4 rfl
 obtain ⟨d1,q1,p1,_⟩:=hb 1 5 rfl
 obtain ⟨d2,q2,p2,_⟩:=hb 2 3 rfl
 obtain ⟨d3,q3,p3,_⟩:=hb 3 7 rfl
 obtain ⟨d4,q4,p4,_⟩:=hb 4 4 rfl
 obtain ⟨d5,q5,p5,_⟩:=hb 5 9 rfl
 obtain ⟨d6,q6,p6,_⟩:=hb 6 5 rfl
 have hrs:∀ p∈([(d1,d2),(d3,d4),(d5,d6)]:List (Int×Int)).take d0.toNat,0<=p.1/\0<=p.2:=fun p hp=>by
  have:=List.mem_of_mem_take hp
  simp only [qJ,qH,or_false] at this
  rcases this with rfl | rfl | rfl
  ·exact ⟨p1,p2⟩
  ·exact ⟨p3,p4⟩
  ·exact ⟨p5,p6⟩
 obtain ⟨br,es,hbl,hbg⟩:=zoi (([(d1,d2),(d3,d4),(d5,d6)]:List (Int×Int)).take d0.toNat) h hrs (by rw [qC];simp;omega)
 have hn:=(zju (k:=60+i) (by omega)).1
 have hn':zaq [.int (60+(i:Int))]=some (.str (nm (60+i))):=by
  rw [← hn];congr 2
 refine ⟨⟨nm (60+i),br⟩,_,_,(zaQ (d:=.lst (ds.map D.int)) (za3 (zam rfl (zam rfl (zam (zru _) zaD))) e)).trans ((zaQ (d:=.lst ((([(d1,d2),(d3,d4),(d5,d6)]:List (Int×Int)).take d0.toNat).map dIv)) ?_).trans (zfb rfl (zc4 (za3 (zam (zaA rfl rfl rfl) zaD) hn') (za3 (zam rfl (zam rfl zaD)) es)) (by omega))),rfl,by rw [qC] at hbl;simp at hbl;show br.length<=3;omega,hbg⟩
 rw [List.map_take]
 exact zqc (xs:=[dIv (d1,d2),dIv (d3,d4),dIv (d5,d6)]) (zm9 (zc4 (zcj rfl q1) (zcj rfl q2)) (zc4 (zcj rfl q3) (zcj rfl q4)) (zc4 (zcj rfl q5) (zcj rfl q6))) (zcj rfl q0) p0
theorem zkj (cs:List Int) (h:Int) (hl:cs.length<=3):∃ bs:List BenchT,zbg [.lst (cs.map D.int),.int h]=some (.lst (bs.map zbi))/\bs.length=cs.length/\∀ (i:Nat) b,bs[i]?=some b->BenchAt h i b:=by
 obtain ⟨ρ',h1,bs,a,b,c,d,h2,h3,h4⟩:=zdb (gg:=zdh 2 (zaR (zaV 3) (zaR (zaV 4) zdg))) (body:=zpV) (xs:=(cs.map D.int).mapIdx fun i d=>D.tup [.int i,d]) (ρ:=bE cs h [] none none none none)
  (fun i ρ=>∃ bs a b c d,ρ=bE cs h bs a b c d/\bs.length=i/\∀ (j:Nat) b,bs[j]?=some b->BenchAt h j b) ⟨[],none,none,none,none,rfl,rfl,fun j b hj=>(by simp at hj)⟩ (fun i x ρ hx hI=>by
   obtain ⟨bs,a,b,c,d,rfl,hlen,hb⟩:=hI
   obtain ⟨y,hy,rfl⟩:=zfx hx
   rw [qj] at hy
   obtain ⟨s,hsi,rfl⟩:=oMd hy
   have hi:i < cs.length:=(List.getElem?_eq_some_iff.mp hsi).1
   obtain ⟨b',u,v,e1,e2⟩:=zrt (cs:=cs) (h:=h) (c:=s) (bs:=bs) (i:=i) (y:=c) (z:=d) (by omega) (by omega)
   refine ⟨_,_,rfl,e1,bs++[b'],_,_,_,_,rfl,by rw [qi,hlen];rfl,fun j b'' hj=>?_⟩
   by_cases hji:j < bs.length
   ·rw [qx hji] at hj
    exact hb j b'' hj
   ·have hl2:=(List.getElem?_eq_some_iff.mp hj).1
    rw [qi,qT] at hl2
    rw [qI (by omega),show j - bs.length=0 by omega] at hj
    cases hj
    rw [show j=i by omega]
    exact e2)
 rw [List.length_mapIdx,qe] at h3
 exact ⟨bs,za8 [oS (.lst (cs.map D.int)),oS (.int h),none,none,none,none,none] rfl (zgm.trans ((zc7 ((zgo (xs:=(cs.map D.int).mapIdx fun i d=>D.tup [.int i,d]) rfl).trans (h1.trans (by rw [h2])))).trans ((zfv rfl).trans (za6 (f:=vSh 2) rfl)))),h3,h4⟩
end Law
end
section
namespace Law
open PySem L2
def bnm (bs:List BenchT) (i:Nat):Str:=(bs.map (·.nm)).getD i ⟨#[]⟩
theorem zn0 {bs:List BenchT} {i:Nat} (h:i < bs.length):bnm bs i∈bs.map (·.nm):=by
 unfold bnm
 rw [List.getD_eq_getElem?_getD,qj,qB h]
 exact qU (List.getElem_mem h)
theorem zly {bs:List BenchT} {ρ:zaY} {f g:FE} {d:Int} (h1:f ρ=some (.lst (bs.map zbi))) (h2:g ρ=some (.int d)) (h3:0<=d) (h4:d < bs.length):b2 ixD (b2 ixD f g) (vC (.int 0)) ρ=some (.str (bnm bs d.toNat)):=by
 obtain ⟨n,rfl⟩:=Int.eq_ofNat_of_zero_le h3
 have hd:n < bs.length:=by omega
 have e:ixD (.lst (bs.map zbi)) (.int (n:Int))=some (zbi bs[n]):=by
  rw [ixL,qj,qB hd]
  rfl
 refine zaA (zaA h1 h2 e) rfl ?_
 show ixD (.tup _) (.int 0)=_
 rw [zjw]
 unfold bnm
 rw [Int.toNat_natCast,List.getD_eq_getElem?_getD,qj,qB hd]
 rfl
structure StepAt (bn:List Str) (h:Int) (i:Nat) (s:StepT):Prop where
 nm:s.nm=nm i
 good:GoodS bn h s
abbrev tE (cs:List Int) (bs:List BenchT) (h lo:Int) (ss:List StepT) (a b c d:Option Slot):zaY:=[oS (.lst (cs.map D.int)),oS (.lst (bs.map zbi)),oS (.int h),oS (.int lo),some (.own (ss.map zbl)),a,b,c,d]
theorem ziA {f:FE} {ρ:zaY} {x:D} (h1:f ρ=some x):szF (zab f zaj) ρ=some [x]:=by
 simp only [szF,zab,zaj,h1,qa,qd,qh,qk,Nat.zero_add,sz1,if_true]
theorem zm8 {f g e a b c:FE} {ρ:zaY} {x y z w u v:D} (h1:f ρ=some x) (h2:g ρ=some y) (h3:e ρ=some z) (h4:a ρ=some w) (h5:b ρ=some u) (h6:c ρ=some v):zaX (szF (zab f (zab g (zab e (zab a (zab b (zab c zaj))))))) ρ=some (.lst [x,y,z,w,u,v]):=by
 simp only [zaX,szF,zab,zaj,h1,h2,h3,h4,h5,h6,qa,qd,qh,qk,Nat.zero_add,sz6,if_true]
theorem zm7 {f g e a b c d:FE} {ρ:zaY} {x y z w u v t:D} (h1:f ρ=some x) (h2:g ρ=some y) (h3:e ρ=some z) (h4:a ρ=some w) (h5:b ρ=some u) (h6:c ρ=some v) (h7:d ρ=some t):zaX (szF (zab f (zab g (zab e (zab a (zab b (zab c (zab d zaj)))))))) ρ=some (.lst [x,y,z,w,u,v,t]):=by
 simp only [zaX,szF,zab,zaj,h1,h2,h3,h4,h5,h6,h7,qa,qd,qh,qk,Nat.zero_add,sz7,if_true]
theorem zgZ {i:Nat} {fr:FA} {g:FS} {ρ:zaY} {ds:List D} (h:fr ρ=some ds):zaF (zgD i fr) g ρ=g (ρ.set i (some (.own ds))):=by
 simp only [zaF,zgD,h,qd,qa]
theorem zkD {f g:FT} {ρ:zaY} {a b:Bool} (h1:f ρ=some a) (h2:g ρ=some b):zl7 f g ρ=some (a && b):=by
 unfold zl7;rw [h1,qa,h2];cases a <;> rfl
theorem zke (a:Int) {h:Int} (hh:1<=h):1<=1+a % h/\1+a % h<=h:=by
 have h1:=qV a (show h≠0 by omega)
 have h2:=qS a (show 0 < h by omega)
 omega
def zpo:FS:=(zaF (zb1 7 (cF zai (zab (vSh 6) (zab (b2 zbF (vSh 5) (vC (.int 7))) (zab (zaX (szF (zab (vC (.int 3)) (zab (cF zdS (zab (vSh 1) zaj)) (zab (vSh 3) (zab (cF zdS (zab (vSh 1) zaj)) (zab (vSh 3) (zab (vC (.int 3)) zaj)))))))) zaj))))) (zaF (zgD 8 (szF (zab (zca (szF (zab (b2 ixD (b2 ixD (vSh 1) (b2 ixD (vSh 7) (vC (.int 1)))) (vC (.int 0))) (zab (b2 zbF (vC (.int 1)) (b2 zcs (b2 ixD (vSh 7) (vC (.int 2))) (vSh 2))) zaj)))) zaj))) (zaF (sIf (zl7 (toB (b2 eqD (b2 ixD (vSh 7) (vC (.int 0))) (vC (.int 0)))) (toB (b2 neA (b2 ixD (vSh 7) (vC (.int 3))) (b2 ixD (vSh 7) (vC (.int 1)))))) (zfg 8 (zca (szF (zab (b2 ixD (b2 ixD (vSh 1) (b2 ixD (vSh 7) (vC (.int 3)))) (vC (.int 0))) (zab (b2 zbF (vC (.int 1)) (b2 zcs (b2 ixD (vSh 7) (vC (.int 4))) (vSh 2))) zaj))))) zcC) (zi4 8 (zfg 4 (zca (szF (zab (cF zaq (zab (vSh 5) zaj)) (zab (b2 ixD (vC (.str "pqr")) (b2 ixD (vSh 7) (vC (.int 5)))) (zab (vSh 8) zaj))))))))))
theorem zp9 {cs:List Int} {h lo c:Int} {bs:List BenchT} {ss:List StepT} {i:Nat} {y z:Option Slot} (hh:1<=h) (hlo:0 < lo/\lo < 1000) (hi:i < 10) (hb:1<=bs.length/\bs.length<=3) (bnd:(bs.map (·.nm)).Nodup) (hl:ss.length<=10) :
  ∃ s u v,zpo (tE cs bs h lo ss (oS (.int i)) (oS (.int c)) y z)=some (.nx,tE cs bs h lo (ss++[s]) (oS (.int i)) (oS (.int c)) u v)/\StepAt (bs.map (·.nm)) h i s:=by
 obtain ⟨ds,e,hd,hbd⟩:=zdD c (i+7) (by omega) [3,(bs.length:Int),lo,(bs.length:Int),lo,3] (by
  intro s hs
  simp only [qJ,qH,or_false] at hs
  rcases hs with rfl | rfl | rfl | rfl | rfl | rfl <;> omega) (by simp)
 obtain ⟨d0,q0,p0,_⟩:=hbd 0 3 rfl
 obtain ⟨d1,q1,p1,r1⟩:=hbd 1 _ rfl
 obtain ⟨d2,q2,p2,_⟩:=hbd 2 _ rfl
 obtain ⟨d3,q3,p3,r3⟩:=hbd 3 _ rfl
 obtain ⟨d4,q4,p4,_⟩:=hbd 4 _ rfl
 obtain ⟨d5,q5,p5,r5⟩:=hbd 5 3 rfl
 obtain ⟨hn,hnb⟩:=zju (k:=i) (by omega)
 have w1:(bnm bs d1.toNat)∈bs.map (·.nm):=zn0 (by omega)
 have w3:(bnm bs d3.toNat)∈bs.map (·.nm):=zn0 (by omega)
 have bm:∀ a b:Nat,a < bs.length->b < bs.length->bnm bs a=bnm bs b->a=b:=fun a b ha hb' hab=>by
  unfold bnm at hab
  rw [List.getD_eq_getElem?_getD,List.getD_eq_getElem?_getD,qB (by simpa using ha),qB (by simpa using hb')] at hab
  exact (List.getElem_inj bnd).mp hab
 let W1:Str×Int:=(bnm bs d1.toNat,1+d2 % h)
 let W3:Str×Int:=(bnm bs d3.toNat,1+d4 % h)
 have e7:((i:Int)+7)=((i+7:Nat):Int):=by omega
 have eD:cF zai (zab (vSh 6) (zab (b2 zbF (vSh 5) (vC (.int 7))) (zab (zaX (szF (zab (vC (.int 3)) (zab (cF zdS (zab (vSh 1) zaj)) (zab (vSh 3) (zab (cF zdS (zab (vSh 1) zaj)) (zab (vSh 3) (zab (vC (.int 3)) zaj)))))))) zaj))) (tE cs bs h lo ss (oS (.int i)) (oS (.int c)) y z)=some (.lst (ds.map D.int)):=by
  refine za3 (zam (d:=.int c) rfl (zam (d:=.int ((i:Int)+7)) (zaA rfl rfl rfl) (zam (zm8 rfl (y:=.int (bs.length:Nat)) ?_ rfl (w:=.int (bs.length:Nat)) ?_ rfl rfl) zaD))) (by rw [e7];exact e) <;>
  ·refine za3 (zam rfl zaD) ?_
   show some (D.int _)=_
   rw [qe]
 have fin:∀ (ws:List (Str×Int)),GoodS (bs.map (·.nm)) h ⟨nm i,pqr d5.toNat,ws⟩->zi4 8 (zfg 4 (zca (szF (zab (cF zaq (zab (vSh 5) zaj)) (zab (b2 ixD (vC (.str "pqr")) (b2 ixD (vSh 7) (vC (.int 5)))) (zab (vSh 8) zaj)))))) (tE cs bs h lo ss (oS (.int i)) (oS (.int c)) (oS (.lst (ds.map D.int))) (some (.own (ws.map dW))))=some (.nx,tE cs bs h lo (ss++[⟨nm i,pqr d5.toNat,ws⟩]) (oS (.int i)) (oS (.int c)) (oS (.lst (ds.map D.int))) (oS (.lst (ws.map dW)))):=fun ws _ =>
  (zfv rfl).trans (zfb rfl (zmi (za3 (zam rfl zaD) hn) (zaA rfl (zcj rfl q5) (zmC p5 r5)) rfl) (by omega))
 have eW:∀ Z,szF (zab (zca (szF (zab (b2 ixD (b2 ixD (vSh 1) (b2 ixD (vSh 7) (vC (.int 1)))) (vC (.int 0))) (zab (b2 zbF (vC (.int 1)) (b2 zcs (b2 ixD (vSh 7) (vC (.int 2))) (vSh 2))) zaj)))) zaj) (tE cs bs h lo ss (oS (.int i)) (oS (.int c)) (oS (.lst (ds.map D.int))) Z)=some ([W1].map dW):=fun Z =>
  ziA (zc4 (zly rfl (zcj rfl q1) p1 (by omega)) (zaA rfl (zaA (zcj rfl q2) rfl (zcl (by omega))) rfl))
 have eT:∀ Z,zl7 (toB (b2 eqD (b2 ixD (vSh 7) (vC (.int 0))) (vC (.int 0)))) (toB (b2 neA (b2 ixD (vSh 7) (vC (.int 3))) (b2 ixD (vSh 7) (vC (.int 1))))) (tE cs bs h lo ss (oS (.int i)) (oS (.int c)) (oS (.lst (ds.map D.int))) Z)=some (decide (d0=0) && !decide (d3=d1)):=fun Z =>
  zkD (zbb (zaA (zcj rfl q0) rfl rfl)) (zbb (zaA (zcj rfl q3) (zcj rfl q1) rfl))
 have g1:GoodS (bs.map (·.nm)) h ⟨nm i,pqr d5.toNat,[W1]⟩:=⟨hnb,zhZ _ (by omega),by simp,by simp,fun w hw=>by
  rw [List.mem_singleton.mp hw]
  exact ⟨w1,zke d2 hh⟩,by simp⟩
 by_cases ht:(decide (d0=0) && !decide (d3=d1))=true
 ·have hne:d3≠d1:=by
   simp only [Bool.and_eq_true,Bool.not_eq_true',decide_eq_false_iff_not] at ht
   exact ht.2
  have g2:GoodS (bs.map (·.nm)) h ⟨nm i,pqr d5.toNat,[W1]++[W3]⟩:=⟨hnb,zhZ _ (by omega),by simp,by simp,fun w hw=>by
   rcases List.mem_append.mp hw with q | q
   ·rw [List.mem_singleton.mp q];exact ⟨w1,zke d2 hh⟩
   ·rw [List.mem_singleton.mp q];exact ⟨w3,zke d4 hh⟩,by
   show [bnm bs d1.toNat,bnm bs d3.toNat].Nodup
   rw [List.nodup_cons]
   refine ⟨fun q=>?_,by simp⟩
   have:=bm _ _ (by omega) (by omega) (List.mem_singleton.mp q)
   omega⟩
  exact ⟨_,_,_,(zaQ eD).trans ((zgZ (eW z)).trans ((zc7 ((zg9 (eT _)).trans ((qW ht).trans (zfb (x:=W3) rfl (zc4 (zly rfl (zcj rfl q3) p3 (by omega)) (zaA rfl (zaA (zcj rfl q4) rfl (zcl (by omega))) rfl)) (by simp))))).trans (fin _ g2))),rfl,g2⟩
 ·exact ⟨_,_,_,(zaQ eD).trans ((zgZ (eW z)).trans ((zc7 ((zg9 (eT _)).trans ((qX ht).trans rfl))).trans (fin _ g1))),rfl,g1⟩
theorem zm6 (cs:List Int) (bs:List BenchT) (h lo:Int) (hh:1<=h) (hlo:0 < lo/\lo < 1000) (hl:cs.length<=10) (hb:1<=bs.length/\bs.length<=3) (bnd:(bs.map (·.nm)).Nodup):∃ ss:List StepT,zbJ [.lst (cs.map D.int),.lst (bs.map zbi),.int h,.int lo]=some (.lst (ss.map zbl))/\ss.length=cs.length/\∀ (i:Nat) s,ss[i]?=some s->StepAt (bs.map (·.nm)) h i s:=by
 obtain ⟨ρ',h1,ss,a,b,c,d,h2,h3,h4⟩:=zdb (gg:=zdh 2 (zaR (zaV 5) (zaR (zaV 6) zdg))) (body:=zpo) (xs:=(cs.map D.int).mapIdx fun i d=>D.tup [.int i,d]) (ρ:=tE cs bs h lo [] none none none none)
  (fun i ρ=>∃ ss a b c d,ρ=tE cs bs h lo ss a b c d/\ss.length=i/\∀ (j:Nat) s,ss[j]?=some s->StepAt (bs.map (·.nm)) h j s) ⟨[],none,none,none,none,rfl,rfl,fun j b hj=>(by simp at hj)⟩ (fun i x ρ hx hI=>by
   obtain ⟨ss,a,b,c,d,rfl,hlen,hb'⟩:=hI
   obtain ⟨y,hy,rfl⟩:=zfx hx
   rw [qj] at hy
   obtain ⟨s,hsi,rfl⟩:=oMd hy
   have hi:i < cs.length:=(List.getElem?_eq_some_iff.mp hsi).1
   obtain ⟨s',u,v,e1,e2⟩:=zp9 (cs:=cs) (h:=h) (lo:=lo) (c:=s) (bs:=bs) (ss:=ss) (i:=i) (y:=c) (z:=d) hh hlo (by omega) hb bnd (by omega)
   refine ⟨_,_,rfl,e1,ss++[s'],_,_,_,_,rfl,by rw [qi,hlen];rfl,fun j b'' hj=>?_⟩
   by_cases hji:j < ss.length
   ·rw [qx hji] at hj
    exact hb' j b'' hj
   ·have hl2:=(List.getElem?_eq_some_iff.mp hj).1
    rw [qi,qT] at hl2
    rw [qI (by omega),show j - ss.length=0 by omega] at hj
    cases hj
    rw [show j=i by omega]
    exact e2)
 rw [List.length_mapIdx,qe] at h3
 exact ⟨ss,za8 [oS (.lst (cs.map D.int)),oS (.lst (bs.map zbi)),oS (.int h),oS (.int lo),none,none,none,none,none] rfl (zgm.trans ((zc7 ((zgo (xs:=(cs.map D.int).mapIdx fun i d=>D.tup [.int i,d]) rfl).trans (h1.trans (by rw [h2])))).trans ((zfv rfl).trans (za6 (f:=vSh 4) rfl)))),h3,h4⟩
end Law
end
section
namespace Law
open PySem L2
theorem zf4:∀ (ns:List Str),PyData.depthAll (ns.map PyData.str)=0
 | []=>by simp [PyData.depthAll]
 | x::r=>by simp [PyData.depthAll,PyData.depth,zf4 r]
theorem zjZ {ns:List Str} (h:∀ x∈ns,za2 x=true):SeqAt.shaped (.list (ns.map PyData.str))=true:=by
 simp [SeqAt.shaped,PyData.canLay0,zft h,PyData.depth,zf4]
theorem zqS {ns:List Str} (h:∀ x∈ns,za2 x=true):neA (.lst (ns.map D.str)) (.lst [])=some (.bl (!ns.isEmpty)):=by
 have e0:neA (.lst (ns.map D.str)) (.lst [])=zqR (.lst (ns.map D.str)) (.lst []):=rfl
 have s1:=zjZ h
 have s2:SeqAt.shaped (.list [])=true:=by simp [SeqAt.shaped,PyData.canLay0,PyData.canLayAll0,PyData.depth,PyData.depthAll]
 have p1:pdD (.lst (ns.map D.str))=some (.list (ns.map PyData.str)):=by simp [pdD,ziv]
 have p2:pdD (.lst [])=some (.list []):=by simp [pdD,zgX]
 have q:PyData.eqv (.list (ns.map PyData.str)) (.list [])=ns.isEmpty:=by
  cases ns <;> simp [PyData.eqv,PyData.eqvAll]
 rw [e0]
 unfold zqR eqX
 rw [p1,p2,qa,qa,qW ⟨s1,s2⟩,q]
 rfl
abbrev jE (cs:List Int) (ss:List StepT) (h:Int) (js:List JobT) (lf:List Str) (a b c d e f:Option Slot):zaY:=[oS (.lst (cs.map D.int)),oS (.lst (ss.map zbl)),oS (.int h),some (.own (js.map zd2)),oS (.lst (lf.map D.str)),a,b,c,d,e,f]
structure JInv (sn:List Str) (h:Int) (i:Nat) (js:List JobT) (lf:List Str):Prop where
 len:js.length<=i
 nd:(js.flatMap (·.ms)++lf).Nodup
 sub:∀ x∈js.flatMap (·.ms)++lf,x∈sn
 ll:lf.length<=sn.length
 good:∀ j∈js,GoodJ sn h j
 nmd:(js.map (·.nm)).Nodup
 nmk:∀ j∈js,∃ k,k < i/\j.nm=nm (70+k)
def zpJ:FS:=(zaF (zb1 7 (cF zai (zab (vSh 6) (zab (b2 zbF (vSh 5) (vC (.int 17))) (zab (zaX (szF (zab (vC (.int 4)) (zab (vC (.int 3)) (zab (vC (.int 3)) (zab (vC (.int 2)) (zab (vC (.int 5)) (zab (vC (.int 7)) zaj)))))))) zaj))))) (zaF (zb1 8 (slF (vSh 4) pN (pS (b2 ixD (vSh 7) (vC (.int 0)))))) (zaF (zb1 4 (slF (vSh 4) (pS (b2 ixD (vSh 7) (vC (.int 0)))) pN)) (sIf (toB (b2 neA (vSh 8) (zaX (szF zaj)))) (zaF (zb1 9 (cF zm5 (zab (vSh 2) (zab (b2 zeF (b2 ixD (vSh 7) (vC (.int 1))) (cF zoS (zab (b2 eqD (b2 ixD (vSh 7) (vC (.int 2))) (vC (.int 0))) zaj))) zaj)))) (zaF (zb1 10 (cF zrI (zab (vC (.int 0)) (zab (b2 zpm (vSh 2) (b2 zeF (b2 ixD (vSh 7) (vC (.int 4))) (cF zoS (zab (b2 eqD (b2 ixD (vSh 7) (vC (.int 2))) (vC (.int 1))) zaj)))) zaj)))) (zaF (zb1 8 (b2 zbF (slF (vSh 8) (pS (b2 zcs (b2 ixD (vSh 7) (vC (.int 5))) (vC (.int 2)))) pN) (slF (vSh 8) pN (pS (b2 zcs (b2 ixD (vSh 7) (vC (.int 5))) (vC (.int 2))))))) (zfg 3 (zca (szF (zab (cF zaq (zab (b2 zbF (vC (.int 70)) (vSh 5)) zaj)) (zab (vSh 9) (zab (vSh 10) (zab (b2 eqD (b2 ixD (vSh 7) (vC (.int 3))) (vC (.int 1))) (zab (vSh 8) zaj))))))))))) zcC))))
theorem zqU {h a:Int} (hh:1<=h) (ha:0<=a):∃ m,zm5 [.int h,.int a]=some (.int m)/\0<=m/\m<=h:=by
 refine ⟨_,rfl,?_,?_⟩
 ·omega
 ·omega
theorem zqY {h a:Int} (hh:1<=h) (ha:a<=h):∃ m,zrI [.int 0,.int a]=some (.int m)/\0<=m/\m<=h:=by
 refine ⟨_,rfl,?_,?_⟩
 ·omega
 ·omega
theorem zny {f:FE} {ρ:zaY} {a c:Int} (h:f ρ=some (.int a)):∃ b:Int,cF zoS (zab (b2 eqD f (vC (.int c))) zaj) ρ=some (.int b)/\0<=b/\b<=1:=by
 refine ⟨if decide (a=c)=true then 1 else 0,za3 (zam (zaA h rfl rfl) zaD) rfl,?_,?_⟩ <;> split <;> decide
theorem zq5 {cs:List Int} {h c:Int} {ss:List StepT} {js:List JobT} {lf:List Str} {i:Nat} {y z w v:Option Slot} (hh:1<=h) (hi:i < 3) (hs:∀ x∈ss.map (·.nm),za2 x=true) (I:JInv (ss.map (·.nm)) h i js lf) (hsl:ss.length<=40) :
  ∃ js' lf' y' z' w' v',zpJ (jE cs ss h js lf (oS (.int i)) (oS (.int c)) y z w v)=some (.nx,jE cs ss h js' lf' (oS (.int i)) (oS (.int c)) y' z' w' v')/\JInv (ss.map (·.nm)) h (i+1) js' lf':=by
 obtain ⟨ds,e,hd,hbd⟩:=zdD c (i+17) (by omega) [4,3,3,2,5,7] (by decide) (by decide)
 obtain ⟨d0,q0,p0,r0⟩:=hbd 0 4 rfl
 obtain ⟨d1,q1,p1,_⟩:=hbd 1 3 rfl
 obtain ⟨d2,q2,p2,_⟩:=hbd 2 3 rfl
 obtain ⟨d3,q3,p3,_⟩:=hbd 3 2 rfl
 obtain ⟨d4,q4,p4,_⟩:=hbd 4 5 rfl
 obtain ⟨d5,q5,p5,_⟩:=hbd 5 7 rfl
 have hn:=(zju (k:=70+i) (by omega)).1
 have hnb:=(zju (k:=70+i) (by omega)).2
 have hn':zaq [.int (70+(i:Int))]=some (.str (nm (70+i))):=by rw [← hn];congr 2
 have e17:((i:Int)+17)=((i+17:Nat):Int):=by omega
 generalize hsm:lf.take d0.toNat=sm
 generalize hlf:lf.drop d0.toNat=lf'
 have hlf2:lf=sm++lf':=by rw [← hsm,← hlf,List.take_append_drop]
 have hslen:sm.length<=3:=by rw [← hsm,qC];omega
 have hsml:sm.length+lf'.length=lf.length:=by rw [hlf2,qi]
 have hsn:∀ x∈sm,za2 x=true:=fun x hx=>hs x (I.sub x (qO _ (by rw [hlf2];exact List.mem_append_left _ hx)))
 have eD:cF zai (zab (vSh 6) (zab (b2 zbF (vSh 5) (vC (.int 17))) (zab (zaX (szF (zab (vC (.int 4)) (zab (vC (.int 3)) (zab (vC (.int 3)) (zab (vC (.int 2)) (zab (vC (.int 5)) (zab (vC (.int 7)) zaj)))))))) zaj))) (jE cs ss h js lf (oS (.int i)) (oS (.int c)) y z w v)=some (.lst (ds.map D.int)) :=
  za3 (zam (d:=.int c) rfl (zam (d:=.int ((i:Int)+17)) (zaA rfl rfl rfl) (zam (zm8 rfl rfl rfl rfl rfl rfl) zaD))) (by rw [e17];exact e)
 have e8:slF (vSh 4) pN (pS (b2 ixD (vSh 7) (vC (.int 0)))) (jE cs ss h js lf (oS (.int i)) (oS (.int c)) (oS (.lst (ds.map D.int))) z w v)=some (.lst (sm.map D.str)):=by
  rw [← hsm,List.map_take]
  exact zqc rfl (zcj rfl q0) p0
 have e4:slF (vSh 4) (pS (b2 ixD (vSh 7) (vC (.int 0)))) pN (jE cs ss h js lf (oS (.int i)) (oS (.int c)) (oS (.lst (ds.map D.int))) (oS (.lst (sm.map D.str))) w v)=some (.lst (lf'.map D.str)):=by
  rw [← hlf,List.map_drop]
  exact zr3 rfl (zcj rfl q0) p0
 have eT:toB (b2 neA (vSh 8) (zaX (szF zaj))) (jE cs ss h js lf' (oS (.int i)) (oS (.int c)) (oS (.lst (ds.map D.int))) (oS (.lst (sm.map D.str))) w v)=some (!sm.isEmpty):=zbb (zaA rfl (y:=.lst []) rfl (zqS hsn))
 by_cases hem:sm.isEmpty=true
 ·have hsm0:sm=[]:=List.isEmpty_iff.mp hem
  rw [hem] at eT
  refine ⟨js,lf',_,_,_,_,(zaQ eD).trans ((zaQ e8).trans ((zaQ e4).trans ((zg9 eT).trans rfl))),⟨by have:=I.len;omega,?_,?_,by have:=I.ll;omega,I.good,I.nmd,fun j hj=>?_⟩⟩
  ·have:=I.nd;rw [hlf2,hsm0] at this;exact this
  ·have:=I.sub;rw [hlf2,hsm0] at this;exact this
  ·obtain ⟨k,h1,h2⟩:=I.nmk j hj
   exact ⟨k,by omega,h2⟩
 ·have hem':sm.isEmpty=false:=by simpa using hem
  rw [hem'] at eT
  have hs1:1<=sm.length:=by
   cases sm with
   | nil=>simp at hem
   | cons a b=>simp
  obtain ⟨b1,f1,f2,f3⟩:=zny (c:=0) (f:=b2 ixD (vSh 7) (vC (.int 2))) (ρ:=jE cs ss h js lf' (oS (.int i)) (oS (.int c)) (oS (.lst (ds.map D.int))) (oS (.lst (sm.map D.str))) w v) (zcj rfl q2)
  obtain ⟨ea,m1,m2,m3⟩:=zqU (h:=h) (a:=d1*b1) hh (Int.mul_nonneg p1 f2)
  have e9:cF zm5 (zab (vSh 2) (zab (b2 zeF (b2 ixD (vSh 7) (vC (.int 1))) (cF zoS (zab (b2 eqD (b2 ixD (vSh 7) (vC (.int 2))) (vC (.int 0))) zaj))) zaj)) (jE cs ss h js lf' (oS (.int i)) (oS (.int c)) (oS (.lst (ds.map D.int))) (oS (.lst (sm.map D.str))) w v)=some (.int ea) :=
   za3 (zam rfl (zam (zaA (zcj rfl q1) f1 (zh3 (.inr (by omega)))) zaD)) m1
  obtain ⟨b2',f4,f5,f6⟩:=zny (c:=1) (f:=b2 ixD (vSh 7) (vC (.int 2))) (ρ:=jE cs ss h js lf' (oS (.int i)) (oS (.int c)) (oS (.lst (ds.map D.int))) (oS (.lst (sm.map D.str))) (oS (.int ea)) v) (zcj rfl q2)
  obtain ⟨du,n1,n2,n3⟩:=zqY (h:=h) (a:=h - d4*b2') hh (by have:=Int.mul_nonneg p4 f5;omega)
  have e10:cF zrI (zab (vC (.int 0)) (zab (b2 zpm (vSh 2) (b2 zeF (b2 ixD (vSh 7) (vC (.int 4))) (cF zoS (zab (b2 eqD (b2 ixD (vSh 7) (vC (.int 2))) (vC (.int 1))) zaj)))) zaj)) (jE cs ss h js lf' (oS (.int i)) (oS (.int c)) (oS (.lst (ds.map D.int))) (oS (.lst (sm.map D.str))) (oS (.int ea)) v)=some (.int du) :=
   za3 (zam rfl (zam (zaA rfl (zaA (zcj rfl q4) f4 (zh3 (.inr (by omega)))) rfl) zaD)) n1
  have t0:0<=d5 % 2:=qV _ (by decide)
  generalize htt:(d5 % 2).toNat=t
  have hrl:(sm.drop t++sm.take t).length=sm.length:=by rw [qi,List.length_drop,qC];omega
  have e8':b2 zbF (slF (vSh 8) (pS (b2 zcs (b2 ixD (vSh 7) (vC (.int 5))) (vC (.int 2)))) pN) (slF (vSh 8) pN (pS (b2 zcs (b2 ixD (vSh 7) (vC (.int 5))) (vC (.int 2))))) (jE cs ss h js lf' (oS (.int i)) (oS (.int c)) (oS (.lst (ds.map D.int))) (oS (.lst (sm.map D.str))) (oS (.int ea)) (oS (.int du)))=some (.lst ((sm.drop t++sm.take t).map D.str)):=by
   refine zaA (zr3 rfl (zaA (zcj rfl q5) rfl (zcl (by decide))) t0) (zqc rfl (zaA (zcj rfl q5) rfl (zcl (by decide))) t0) ?_
   show (if _ then _ else _)=_
   rw [qW,htt,List.map_append,List.map_drop,List.map_take]
   rw [List.length_drop,qC,qe];unfold sizeLine;omega
  let J:JobT:=⟨nm (70+i),ea,du,decide (d3=1),sm.drop t++sm.take t⟩
  have perm:(sm.drop t++sm.take t).Perm sm:=(List.perm_append_comm).trans (by rw [List.take_append_drop])
  have pa:((js++[J]).flatMap (·.ms)++lf').Perm (js.flatMap (·.ms)++lf):=by
   rw [List.flatMap_append,hlf2,List.append_assoc]
   refine List.Perm.append_left _ ?_
   rw [List.flatMap_singleton]
   exact List.Perm.append_right _ perm
  refine ⟨js++[J],lf',_,_,_,_,(zaQ eD).trans ((zaQ e8).trans ((zaQ e4).trans ((zg9 eT).trans ((qW rfl).trans ((zaQ e9).trans ((zaQ e10).trans ((zaQ e8').trans (zfb rfl (zmh (za3 (zam (zaA rfl rfl rfl) zaD) hn') rfl rfl (zaA (zcj rfl q3) rfl rfl) rfl) (by have:=I.len;omega))))))))),⟨?_,?_,?_,?_,?_,?_,?_⟩⟩
  ·rw [qi];have:=I.len;simp;omega
  ·exact (pa.nodup_iff).mpr I.nd
  ·exact fun x hx=>I.sub x (pa.mem_iff.mp hx)
  ·have:=I.ll;omega
  ·intro j hj
   rcases List.mem_append.mp hj with q | q
   ·exact I.good j q
   ·rw [List.mem_singleton.mp q]
    refine ⟨hnb,⟨m2,m3⟩,⟨n2,n3⟩,by show 1<=(sm.drop t++sm.take t).length;omega,by show (sm.drop t++sm.take t).length<=_;have:=I.ll;omega,fun m hm=>?_⟩
    exact I.sub m (qO _ (by rw [hlf2];exact List.mem_append_left _ (perm.mem_iff.mp hm)))
  ·rw [List.map_append,List.nodup_append]
   refine ⟨I.nmd,by simp,fun a ha b hb hab=>?_⟩
   obtain ⟨j,hj,rfl⟩:=List.mem_map.mp ha
   obtain ⟨k,hk,hk2⟩:=I.nmk j hj
   have hb':b=nm (70+i):=by simpa using hb
   have:=zqN k (by omega) i hi (hk2.symm.trans (hab.trans hb'))
   omega
  ·intro j hj
   rcases List.mem_append.mp hj with q | q
   ·obtain ⟨k,h1,h2⟩:=I.nmk j q
    exact ⟨k,by omega,h2⟩
   ·rw [List.mem_singleton.mp q];exact ⟨i,by omega,rfl⟩
theorem zgS {n:Nat} {g:FS} {ds rs:List D} (ρ:zaY) {ρ':zaY} (e:ds.map (fun d=>some (Slot.sh d))++List.replicate n none=ρ) (h:g ρ=some (.ow rs,ρ')):zmx n g ds=some rs:=by
 subst e;unfold zmx;rw [h];rfl
theorem zmA {i:Nat} {ρ:zaY} {ds:List D} (h1:ρ[i]?=some (some (.own ds))):zlK i ρ=some (.ow ds,ρ):=by unfold zlK;rw [h1]
theorem zoL (cs:List Int) (ss:List StepT) (h:Int) (hh:1<=h) (hl:cs.length<=3) (hsl:ss.length<=40) (hs:∀ x∈ss.map (·.nm),za2 x=true) (snd:(ss.map (·.nm)).Nodup):∃ js:List JobT,zbX [.lst (cs.map D.int),.lst (ss.map zbl),.int h]=some (js.map zd2)/\js.length<=3/\(∀ j∈js,GoodJ (ss.map (·.nm)) h j)/\(js.map (·.nm)).Nodup/\(js.flatMap (·.ms)).Nodup:=by
 obtain ⟨ρ',h1,js,lf,a,b,c,d,e,f,h2,h3⟩:=zdb (gg:=zdh 2 (zaR (zaV 5) (zaR (zaV 6) zdg))) (body:=zpJ) (xs:=(cs.map D.int).mapIdx fun i d=>D.tup [.int i,d]) (ρ:=jE cs ss h [] (ss.map (·.nm)) none none none none none none)
  (fun i ρ=>∃ js lf a b c d e f,ρ=jE cs ss h js lf a b c d e f/\JInv (ss.map (·.nm)) h i js lf) ⟨[],ss.map (·.nm),none,none,none,none,none,none,rfl,⟨qu _,by simpa using snd,fun x hx=>(by simpa using hx),qu _,fun j hj=>(by cases hj),by simp,fun j hj=>(by cases hj)⟩⟩ (fun i x ρ hx hI=>by
   obtain ⟨js,lf,a,b,c,d,e,f,rfl,I⟩:=hI
   obtain ⟨y,hy,rfl⟩:=zfx hx
   rw [qj] at hy
   obtain ⟨s,hsi,rfl⟩:=oMd hy
   have hi:i < cs.length:=(List.getElem?_eq_some_iff.mp hsi).1
   obtain ⟨js',lf',y',z',w',v',e1,e2⟩:=zq5 (cs:=cs) (h:=h) (c:=s) (ss:=ss) (js:=js) (lf:=lf) (i:=i) (y:=c) (z:=d) (w:=e) (v:=f) hh (by omega) hs I hsl
   exact ⟨_,_,rfl,e1,js',lf',_,_,_,_,_,_,rfl,e2⟩)
 rw [List.length_mapIdx,qe] at h3
 have nn:=zcZ (i:=1) (fv:=[none]) (ρ:=[oS (.lst (cs.map D.int)),oS (.lst (ss.map zbl)),oS (.int h),some (.own []),none,none,none,none,none,none,none]) (f:=zbl) (nm:=(·.nm)) (xs:=ss) (fun x=>⟨_,rfl⟩) rfl (szN hsl (by decide)) rfl
 refine ⟨js,zgS [oS (.lst (cs.map D.int)),oS (.lst (ss.map zbl)),oS (.int h),none,none,none,none,none,none,none,none] rfl (zgm.trans ((zaQ nn).trans ((zc7 ((zgo (xs:=(cs.map D.int).mapIdx fun i d=>D.tup [.int i,d]) rfl).trans (h1.trans (by rw [h2])))).trans (zmA rfl)))),qK h3.len hl,h3.good,h3.nmd,?_⟩
 exact (List.nodup_append.mp h3.nd).1
end Law
end
section
namespace Law
open PySem L2
theorem zpB (t:List Str):pdD (.tup (t.map D.str))=some (.tuple (t.map PyData.str)):=by simp [pdD,ziv]
theorem zmK:∀ (ts:List (List Str)),zgX (ts.map fun t=>.tup (t.map D.str))=some (ts.map fun t=>.tuple (t.map PyData.str))
 | []=>by simp [zgX]
 | t::r=>by simp [zgX,zpB,zmK r]
theorem zlg:∀ {ts:List (List Str)},(∀ t∈ts,∀ x∈t,za2 x=true)->PyData.canLayAll0 (ts.map fun t=>.tuple (t.map PyData.str))=true
 | [],_=>by simp [PyData.canLayAll0]
 | t::r,h=>by
  simp only [ql,PyData.canLayAll0,PyData.canLay0,zft (h t qf),Bool.true_and]
  exact zlg fun y hy=>h y (qg _ hy)
theorem zlo:∀ (a b:List Str),PyData.eqvAll (a.map PyData.str) (b.map PyData.str)=decide (a=b)
 | [],[]=>by simp [PyData.eqvAll]
 | [],_::_=>by simp [PyData.eqvAll]
 | _::_,[]=>by simp [PyData.eqvAll]
 | x::r,y::t=>by
  simp only [ql,PyData.eqvAll,PyData.eqv,zlo r t]
  by_cases e:x=y
  ·subst e;simp
  ·simp [e]
theorem zlz (t:List Str):∀ (ts:List (List Str)),((ts.map fun t=>PyData.tuple (t.map PyData.str)).any fun z=>PyData.eqv z (.tuple (t.map PyData.str)))=decide (t∈ts)
 | []=>by simp
 | y::r=>by
  rw [ql,List.any_cons,zlz t r]
  simp only [PyData.eqv,zlo]
  by_cases e:y=t
  ·subst e;simp
  ·have:t≠y:=fun z=>e z.symm
   simp [e,this]
theorem zk9 {t:List Str} {ts:List (List Str)} (hx:∀ x∈t,za2 x=true) (hn:∀ y∈ts,∀ x∈y,za2 x=true):zhF (.tup (t.map D.str)) (.lst (ts.map fun t=>.tup (t.map D.str)))=some (.bl (!decide (t∈ts))):=by
 have sh:SeqAt.shaped (.tuple (t.map PyData.str))=true:=by simp [SeqAt.shaped,PyData.canLay0,zft hx,PyData.depth,zf4]
 have p1:pdD (.lst (ts.map fun t=>.tup (t.map D.str)))=some (.list (ts.map fun t=>.tuple (t.map PyData.str))):=by simp [pdD,zmK]
 unfold zhF inX
 rw [zpB,p1,qa,qa]
 simp only [sh,zlg hn,and_self,if_true,zlz,qd]
theorem zmy {α:Type} {f:α->D} {nm:α->Str} {xs:List α} {ρ:zaY} {fo g:FE} {d:Int} (hf:∀ x,∃ r,f x=.tup (.str (nm x)::r)) (h1:fo ρ=some (.lst (xs.map f))) (h2:g ρ=some (.int d)) (h3:0<=d) (h4:d < xs.length):∃ x∈xs,b2 ixD (b2 ixD fo g) (vC (.int 0)) ρ=some (.str (nm x)):=by
 obtain ⟨n,rfl⟩:=Int.eq_ofNat_of_zero_le h3
 have hd:n < xs.length:=by omega
 refine ⟨xs[n],List.getElem_mem hd,zaA (zaA h1 h2 (show ixD _ (.int (n:Int))=some (f xs[n]) by rw [ixL,qj,qB hd];rfl)) rfl ?_⟩
 obtain ⟨r,e⟩:=hf xs[n]
 rw [e,zjw]
theorem ztZ {f g:FE} {ρ:zaY} {ds:List Int} {n:Nat} {m d:Int} (h1:f ρ=some (.lst (ds.map D.int))) (h2:g ρ=some (.int m)) (hm:m=(n:Int)) (h3:ds[n]?=some d):b2 ixD f g ρ=some (.int d) :=
 zaA h1 h2 (by rw [hm,ixL,qj,h3];rfl)
theorem znf {f:FE} {ρ:zaY} {l:List D} (h:f ρ=some (.lst l)):cF zdS (zab f zaj) ρ=some (.int (l.length:Nat)):=za3 (zam h zaD) rfl
theorem ztk {i:Nat} {ft:FT} {ρ:zaY} {ds:List D} {b:Bool} (h1:ρ[i]?=some (some (.own ds))) (h2:ft (ρ.set i (oS (.lst ds)))=some b):bwT i ft ρ=some b:=by
 unfold bwT;rw [h1];exact h2
theorem zoH {x:List D} {j:Int} (h : -(2 ^ 63)<=j/\j < 2 ^ 63/\x.length*j.toNat<=sizeLine):zeF (.lst x) (.int j)=some (.lst (List.replicate j.toNat x).flatten):=qW h
theorem ztW:zeF (.lst [.int 4]) (.int 6)=some (.lst (([4,4,4,4,4,4]:List Int).map D.int)):=zoH (x:=[.int 4]) (j:=6) (by decide)
structure UInv (bn:List Str) (h:Int) (i:Nat) (us:List SetT):Prop where
 len:us.length<=i
 good:∀ u∈us,GoodU bn h u
 nd:(us.map fun u=>[u.b,u.p,u.q]).Nodup
abbrev uE (c:Int) (bs:List BenchT) (h:Int) (us:List SetT) (a b d e:Option Slot):zaY:=[oS (.int c),oS (.lst (bs.map zbi)),oS (.int h),some (.own (us.map zcY)),a,b,d,e]
def zpn:FS:=(zaF (zb1 6 (b2 ixD (b2 ixD (vSh 1) (b2 zcs (vSh 4) (cF zdS (zab (vSh 1) zaj)))) (vC (.int 0)))) (zaF (zb1 7 (zca (szF (zab (vSh 6) (zab (b2 ixD (vC (.str "pqr")) (b2 zcs (vSh 4) (vC (.int 3)))) (zab (b2 ixD (vC (.str "pqr")) (b2 zcs (b2 zbF (vSh 4) (vSh 5)) (vC (.int 3)))) (zab (cF zm5 (zab (vSh 2) (zab (vSh 5) zaj))) zaj))))))) (sIf (bwT 3 (zl7 (toB (b2 gtD (vSh 5) (vC (.int 0)))) (toB (b2 zhF (slF (vSh 7) pN (pS (vC (.int 3)))) (zaX (zaH (itF (vSh 3)) (zaV 0) tT (slF (vSh 0) pN (pS (vC (.int 3)))) [none])))))) (zfg 3 (vSh 7)) zcC)))
theorem zp7 {c h m:Int} {bs:List BenchT} {us:List SetT} {i:Nat} {y z:Option Slot} (hh:1<=h) (hm:0<=m) (hi:i < 6) (hb:1<=bs.length) (hbn:∀ x∈bs.map (·.nm),za2 x=true) (I:UInv (bs.map (·.nm)) h i us) :
  ∃ us' y' z',zpn (uE c bs h us (oS (.int i)) (oS (.int m)) y z)=some (.nx,uE c bs h us' (oS (.int i)) (oS (.int m)) y' z')/\UInv (bs.map (·.nm)) h (i+1) us':=by
 have k0:0<=(i:Int) % (bs.length:Nat):=qV _ (by omega)
 have k1:(i:Int) % (bs.length:Nat) < (bs.length:Nat):=qS _ (by omega)
 obtain ⟨b,hbm,e6⟩:=zmy (f:=zbi) (nm:=(·.nm)) (xs:=bs) (ρ:=uE c bs h us (oS (.int i)) (oS (.int m)) y z) (fo:=vSh 1) (g:=b2 zcs (vSh 4) (cF zdS (zab (vSh 1) zaj))) (d:=(i:Int) % (bs.length:Nat)) (fun x=>⟨_,rfl⟩) rfl (zaA rfl (znf rfl) (by rw [qe];exact zcl (by omega))) k0 k1
 have t0:0<=(i:Int) % 3:=qV _ (by decide)
 have t1:(i:Int) % 3 < 3:=qS _ (by decide)
 have s0:0<=((i:Int)+m) % 3:=qV _ (by decide)
 have s1:((i:Int)+m) % 3 < 3:=qS _ (by decide)
 let U:SetT:=⟨b.nm,pqr ((i:Int) % 3).toNat,pqr (((i:Int)+m) % 3).toNat,if m < h then m else h⟩
 have e7:zca (szF (zab (vSh 6) (zab (b2 ixD (vC (.str "pqr")) (b2 zcs (vSh 4) (vC (.int 3)))) (zab (b2 ixD (vC (.str "pqr")) (b2 zcs (b2 zbF (vSh 4) (vSh 5)) (vC (.int 3)))) (zab (cF zm5 (zab (vSh 2) (zab (vSh 5) zaj))) zaj))))) (uE c bs h us (oS (.int i)) (oS (.int m)) (oS (.str b.nm)) z)=some (zcY U) :=
  zp4 rfl (zaA rfl (zaA rfl rfl (zcl (by decide))) (zmC t0 t1)) (zaA rfl (zaA (zaA rfl rfl rfl) rfl (zcl (by decide))) (zmC s0 s1)) (za3 (zam rfl (zam rfl zaD)) rfl)
 have nU:∀ x∈[U.b,U.p,U.q],za2 x=true:=fun x hx=>by
  simp only [qJ,qH,or_false] at hx
  rcases hx with rfl | rfl | rfl
  ·exact hbn _ (qU hbm)
  ·exact zhZ _ (by omega)
  ·exact zhZ _ (by omega)
 have nA:∀ y∈us.map (fun u=>[u.b,u.p,u.q]),∀ x∈y,za2 x=true:=fun y hy x hx=>by
  obtain ⟨u,hu,rfl⟩:=List.mem_map.mp hy
  have g:=I.good u hu
  simp only [qJ,qH,or_false] at hx
  rcases hx with rfl | rfl | rfl
  ·exact hbn _ g.b
  ·exact g.p
  ·exact g.q
 have hul:us.length<=6:=qK I.len (by omega)
 have eL:zaX (zaH (itF (vSh 3)) (zaV 0) tT (slF (vSh 0) pN (pS (vC (.int 3)))) [none]) [oS (.int c),oS (.lst (bs.map zbi)),oS (.int h),oS (.lst (us.map zcY)),oS (.int i),oS (.int m),oS (.str b.nm),oS (zcY U)]=some (.lst ((us.map fun u=>[u.b,u.p,u.q]).map fun t=>.tup (t.map D.str))):=by
  rw [qm]
  refine (zbA (r:=[]) (a:=none) (xs:=us.map zcY) (f:=fun d=>match d with | .tup [a,b,c,d]=>.tup [a,b,c] | _=>.non) rfl (by rw [qe];exact szN hul (by decide)) rfl fun x hx=>?_).trans ?_
  ·obtain ⟨p,hp,rfl⟩:=List.mem_map.mp hx
   simp only [vSh,vC,slF,pN,pS,qb,qa,zcY,zug]
  ·rw [qm];rfl
 have eT:bwT 3 (zl7 (toB (b2 gtD (vSh 5) (vC (.int 0)))) (toB (b2 zhF (slF (vSh 7) pN (pS (vC (.int 3)))) (zaX (zaH (itF (vSh 3)) (zaV 0) tT (slF (vSh 0) pN (pS (vC (.int 3)))) [none]))))) (uE c bs h us (oS (.int i)) (oS (.int m)) (oS (.str b.nm)) (oS (zcY U)))=some (decide (0 < m) && !decide ([U.b,U.p,U.q]∈us.map fun u=>[u.b,u.p,u.q])) :=
  ztk rfl (zkD (zbb (zaA rfl rfl rfl)) (zbb (zaA (x:=.tup ([U.b,U.p,U.q].map D.str)) rfl eL (zk9 nU nA))))
 by_cases ht:(decide (0 < m) && !decide ([U.b,U.p,U.q]∈us.map fun u=>[u.b,u.p,u.q]))=true
 ·have hq:0 < m/\[U.b,U.p,U.q]∉us.map fun u=>[u.b,u.p,u.q]:=by simpa using ht
  refine ⟨us++[U],_,_,(zaQ e6).trans ((zaQ e7).trans ((zg9 eT).trans ((qW ht).trans (zfb (x:=U) rfl rfl (by omega))))),⟨?_,?_,?_⟩⟩
  ·rw [qi];have:=I.len;simp;omega
  ·intro u hu
   rcases List.mem_append.mp hu with q | q
   ·exact I.good u q
   ·rw [List.mem_singleton.mp q]
    refine ⟨qU hbm,zhZ _ (by omega),zhZ _ (by omega),?_,?_⟩
    ·show 1<=if m < h then m else h
     split <;> omega
    ·show (if m < h then m else h)<=h
     split <;> omega
  ·rw [List.map_append,List.nodup_append]
   refine ⟨I.nd,by simp,fun a ha b' hb' hab=>?_⟩
   have:b'=[U.b,U.p,U.q]:=by simpa using hb'
   rw [hab,this] at ha
   exact hq.2 ha
 ·exact ⟨us,_,_,(zaQ e6).trans ((zaQ e7).trans ((zg9 eT).trans ((qX ht).trans rfl))),⟨by have:=I.len;omega,I.good,I.nd⟩⟩
theorem zlW (c:Int) (bs:List BenchT) (h:Int) (hh:1<=h) (hb:1<=bs.length) (hbn:∀ x∈bs.map (·.nm),za2 x=true):∃ us:List SetT,zbt [.int c,.lst (bs.map zbi),.int h]=some (.lst (us.map zcY))/\us.length<=6/\(∀ u∈us,GoodU (bs.map (·.nm)) h u)/\(us.map fun u=>[u.b,u.p,u.q]).Nodup:=by
 obtain ⟨ds,e,hd,hbd⟩:=zdD c 3 (by omega) [4,4,4,4,4,4] (by decide) (by decide)
 have eM:b2 zeF (zaX (szF (zab (vC (.int 4)) zaj))) (vC (.int 6)) (uE c bs h [] none none none none)=some (.lst (([4,4,4,4,4,4]:List Int).map D.int)) :=
  zaA (x:=.lst [.int 4]) (y:=.int 6) rfl rfl ztW
 have hd6:ds.length=6:=hd
 obtain ⟨ρ',h1,us,a,b,d,f,h2,h3⟩:=zdb (gg:=zdh 2 (zaR (zaV 4) (zaR (zaV 5) zdg))) (body:=zpn) (xs:=(ds.map D.int).mapIdx fun i d=>D.tup [.int i,d]) (ρ:=uE c bs h [] none none none none)
  (fun i ρ=>∃ us a b d e,ρ=uE c bs h us a b d e/\UInv (bs.map (·.nm)) h i us) ⟨[],none,none,none,none,rfl,⟨qu _,fun j hj=>(by cases hj),by simp⟩⟩ (fun i x ρ hx hI=>by
   obtain ⟨us,a,b,d,e,rfl,I⟩:=hI
   obtain ⟨y,hy,rfl⟩:=zfx hx
   rw [qj] at hy
   obtain ⟨s,hsi,rfl⟩:=oMd hy
   have hi:i < ds.length:=(List.getElem?_eq_some_iff.mp hsi).1
   have hs0:0<=s:=by
    have h6:i < 6:=by omega
    have:([4,4,4,4,4,4]:List Int)[i]?=some 4:=by
     have:i=0\/i=1\/i=2\/i=3\/i=4\/i=5:=by omega
     rcases this with rfl | rfl | rfl | rfl | rfl | rfl <;> rfl
    obtain ⟨d,q1,q2,_⟩:=hbd i 4 this
    rw [hsi] at q1
    cases q1
    exact q2
   obtain ⟨us',y',z',e1,e2⟩:=zp7 (c:=c) (h:=h) (m:=s) (bs:=bs) (us:=us) (i:=i) (y:=d) (z:=e) hh hs0 (by omega) hb hbn I
   exact ⟨_,_,rfl,e1,us',_,_,_,_,rfl,e2⟩)
 rw [List.length_mapIdx,qe] at h3
 have eI:itE (cF zai (zab (vSh 0) (zab (vC (.int 3)) (zab (b2 zeF (zaX (szF (zab (vC (.int 4)) zaj))) (vC (.int 6))) zaj)))) (uE c bs h [] none none none none)=some ((ds.map D.int).mapIdx fun i d=>D.tup [.int i,d]):=by
  have:cF zai (zab (vSh 0) (zab (vC (.int 3)) (zab (b2 zeF (zaX (szF (zab (vC (.int 4)) zaj))) (vC (.int 6))) zaj))) (uE c bs h [] none none none none)=some (.lst (ds.map D.int)):=za3 (zam rfl (zam rfl (zam eM zaD))) e
  unfold itE
  rw [this];rfl
 exact ⟨us,za8 [oS (.int c),oS (.lst (bs.map zbi)),oS (.int h),none,none,none,none,none] rfl (zgm.trans ((zc7 ((zgo eI).trans (h1.trans (by rw [h2])))).trans ((zfv rfl).trans (za6 (f:=vSh 3) rfl)))),by have:=h3.len;omega,h3.good,h3.nd⟩
structure LInv (sn:List Str) (h:Int) (i:Nat) (ls:List LinkT):Prop where
 len:ls.length<=i
 good:∀ l∈ls,GoodL sn h l
 nd:(ls.map fun l=>[l.a,l.b]).Nodup
abbrev lE (c:Int) (ss:List StepT) (h:Int) (ls:List LinkT) (ds:List Int) (a b d:Option Slot):zaY:=[oS (.int c),oS (.lst (ss.map zbl)),oS (.int h),some (.own (ls.map zbw)),oS (.lst (ds.map D.int)),a,b,d]
def zpE:FS:=(zaF (zb1 6 (b2 ixD (b2 ixD (vSh 1) (b2 zcs (b2 ixD (vSh 4) (b2 zbF (vC (.int 1)) (b2 zeF (vC (.int 3)) (vSh 5)))) (cF zdS (zab (vSh 1) zaj)))) (vC (.int 0)))) (zaF (zb1 7 (b2 ixD (b2 ixD (vSh 1) (b2 zcs (b2 ixD (vSh 4) (b2 zbF (vC (.int 2)) (b2 zeF (vC (.int 3)) (vSh 5)))) (cF zdS (zab (vSh 1) zaj)))) (vC (.int 0)))) (sIf (bwT 3 (zl7 (toB (b2 neA (vSh 6) (vSh 7))) (toB (b2 zhF (zca (szF (zab (vSh 6) (zab (vSh 7) zaj)))) (zaX (zaH (itF (vSh 3)) (zaV 0) tT (slF (vSh 0) pN (pS (vC (.int 2)))) [none])))))) (zfg 3 (zca (szF (zab (vSh 6) (zab (vSh 7) (zab (cF zm5 (zab (vSh 2) (zab (b2 ixD (vSh 4) (b2 zbF (vC (.int 3)) (b2 zeF (vC (.int 3)) (vSh 5)))) zaj))) zaj)))))) zcC)))
theorem zq0 {c h:Int} {ss:List StepT} {ls:List LinkT} {ds:List Int} {i:Nat} {y z:Option Slot} (hh:1<=h) (hi:i < 2) (hs1:1<=ss.length) (hsn:∀ x∈ss.map (·.nm),za2 x=true) (hds:∀ j,j < 7->∃ d,ds[j]?=some d/\0<=d) (I:LInv (ss.map (·.nm)) h i ls) :
  ∃ ls' y' z',zpE (lE c ss h ls ds (oS (.int (0+(i:Int)))) y z)=some (.nx,lE c ss h ls' ds (oS (.int (0+(i:Int)))) y' z')/\LInv (ss.map (·.nm)) h (i+1) ls':=by
 obtain ⟨x1,q1,p1⟩:=hds (1+3*i) (by omega)
 obtain ⟨x2,q2,p2⟩:=hds (2+3*i) (by omega)
 obtain ⟨x3,q3,p3⟩:=hds (3+3*i) (by omega)
 have ixs:∀ (n:Nat) (y z:Option Slot) (lst:List D) (x:Int) (k:Int),k=(n:Int)->ds[n+3*i]?=some x->∀ s3:Option Slot,b2 ixD (vSh 4) (b2 zbF (vC (.int k)) (b2 zeF (vC (.int 3)) (vSh 5))) [oS (.int c),oS (.lst (ss.map zbl)),oS (.int h),s3,oS (.lst (ds.map D.int)),oS (.int (0+(i:Int))),y,z]=some (.int x):=fun n y z _ x k hk hx s3 =>
  ztZ (n:=n+3*i) rfl (zaA rfl (zaA rfl rfl (zh3 (.inl (by decide)))) rfl) (by omega) hx
 have m1:∀ x:Int,0<=x % (ss.length:Nat)/\x % (ss.length:Nat) < (ss.length:Nat):=fun x=>⟨qV _ (by omega),qS _ (by omega)⟩
 obtain ⟨sa,ha,e6⟩:=zmy (f:=zbl) (nm:=(·.nm)) (xs:=ss) (ρ:=lE c ss h ls ds (oS (.int (0+(i:Int)))) y z) (fo:=vSh 1) (g:=b2 zcs (b2 ixD (vSh 4) (b2 zbF (vC (.int 1)) (b2 zeF (vC (.int 3)) (vSh 5)))) (cF zdS (zab (vSh 1) zaj))) (d:=x1 % (ss.length:Nat)) (fun x=>⟨_,rfl⟩) rfl (zaA (ixs 1 y z [] x1 1 rfl q1 _) (znf rfl) (by rw [qe];exact zcl (by omega))) (m1 x1).1 (m1 x1).2
 obtain ⟨sb,hb,e7⟩:=zmy (f:=zbl) (nm:=(·.nm)) (xs:=ss) (ρ:=lE c ss h ls ds (oS (.int (0+(i:Int)))) (oS (.str sa.nm)) z) (fo:=vSh 1) (g:=b2 zcs (b2 ixD (vSh 4) (b2 zbF (vC (.int 2)) (b2 zeF (vC (.int 3)) (vSh 5)))) (cF zdS (zab (vSh 1) zaj))) (d:=x2 % (ss.length:Nat)) (fun x=>⟨_,rfl⟩) rfl (zaA (ixs 2 _ z [] x2 2 rfl q2 _) (znf rfl) (by rw [qe];exact zcl (by omega))) (m1 x2).1 (m1 x2).2
 let U:LinkT:=⟨sa.nm,sb.nm,if x3 < h then x3 else h⟩
 have nU:∀ x∈[U.a,U.b],za2 x=true:=fun x hx=>by
  simp only [qJ,qH,or_false] at hx
  rcases hx with rfl | rfl
  ·exact hsn _ (qU ha)
  ·exact hsn _ (qU hb)
 have nA:∀ y∈ls.map (fun l=>[l.a,l.b]),∀ x∈y,za2 x=true:=fun y hy x hx=>by
  obtain ⟨u,hu,rfl⟩:=List.mem_map.mp hy
  have g:=I.good u hu
  simp only [qJ,qH,or_false] at hx
  rcases hx with rfl | rfl
  ·exact hsn _ g.a
  ·exact hsn _ g.b
 have hul:ls.length<=2:=qK I.len (by omega)
 have eL:zaX (zaH (itF (vSh 3)) (zaV 0) tT (slF (vSh 0) pN (pS (vC (.int 2)))) [none]) [oS (.int c),oS (.lst (ss.map zbl)),oS (.int h),oS (.lst (ls.map zbw)),oS (.lst (ds.map D.int)),oS (.int (0+(i:Int))),oS (.str sa.nm),oS (.str sb.nm)]=some (.lst ((ls.map fun l=>[l.a,l.b]).map fun t=>.tup (t.map D.str))):=by
  rw [qm]
  refine (zbA (r:=[]) (a:=none) (xs:=ls.map zbw) (f:=fun d=>match d with | .tup [a,b,c]=>.tup [a,b] | _=>.non) rfl (by rw [qe];exact szN hul (by decide)) rfl fun x hx=>?_).trans ?_
  ·obtain ⟨p,hp,rfl⟩:=List.mem_map.mp hx
   simp only [vSh,vC,slF,pN,pS,qb,qa,zbw,zuF]
  ·rw [qm];rfl
 have eT:bwT 3 (zl7 (toB (b2 neA (vSh 6) (vSh 7))) (toB (b2 zhF (zca (szF (zab (vSh 6) (zab (vSh 7) zaj)))) (zaX (zaH (itF (vSh 3)) (zaV 0) tT (slF (vSh 0) pN (pS (vC (.int 2)))) [none]))))) (lE c ss h ls ds (oS (.int (0+(i:Int)))) (oS (.str sa.nm)) (oS (.str sb.nm)))=some ((!decide (sa.nm=sb.nm)) && !decide ([U.a,U.b]∈ls.map fun l=>[l.a,l.b])) :=
  ztk rfl (zkD (zbb (zaA rfl rfl (zm0 _ _))) (zbb (zaA (x:=.tup ([U.a,U.b].map D.str)) (zc4 rfl rfl) eL (zk9 nU nA))))
 by_cases ht:((!decide (sa.nm=sb.nm)) && !decide ([U.a,U.b]∈ls.map fun l=>[l.a,l.b]))=true
 ·have hq:sa.nm≠sb.nm/\[U.a,U.b]∉ls.map fun l=>[l.a,l.b]:=by simpa using ht
  refine ⟨ls++[U],_,_,(zaQ e6).trans ((zaQ e7).trans ((zg9 eT).trans ((qW ht).trans (zfb (x:=U) rfl (zmi rfl rfl (za3 (zam rfl (zam (ixs 3 _ _ [] x3 3 rfl q3 _) zaD)) rfl)) (by omega))))),⟨?_,?_,?_⟩⟩
  ·rw [qi];have:=I.len;simp;omega
  ·intro u hu
   rcases List.mem_append.mp hu with q | q
   ·exact I.good u q
   ·rw [List.mem_singleton.mp q]
    refine ⟨qU ha,qU hb,hq.1,?_,?_⟩
    ·show 0<=if x3 < h then x3 else h
     split <;> omega
    ·show (if x3 < h then x3 else h)<=h
     split <;> omega
  ·rw [List.map_append,List.nodup_append]
   refine ⟨I.nd,by simp,fun a ha b' hb' hab=>?_⟩
   have:b'=[U.a,U.b]:=by simpa using hb'
   rw [hab,this] at ha
   exact hq.2 ha
 ·exact ⟨ls,_,_,(zaQ e6).trans ((zaQ e7).trans ((zg9 eT).trans ((qX ht).trans rfl))),⟨by have:=I.len;omega,I.good,I.nd⟩⟩
theorem zmz {n i:Nat} {x:D} (h:((List.range n).map fun k:Nat=>D.int (0+k))[i]?=some x):i < n/\x=.int (0+(i:Int)):=by
 rw [qj] at h
 obtain ⟨k,hk,rfl⟩:=oMd h
 rw [List.getElem?_eq_some_iff] at hk
 obtain ⟨h1,h2⟩:=hk
 rw [qR] at h1
 rw [List.getElem_range] at h2
 subst h2
 exact ⟨h1,rfl⟩
theorem znd (c:Int) (ss:List StepT) (h:Int) (hh:1<=h) (hs1:1<=ss.length) (hsn:∀ x∈ss.map (·.nm),za2 x=true):∃ ls:List LinkT,zbK [.int c,.lst (ss.map zbl),.int h]=some (.lst (ls.map zbw))/\ls.length<=2/\(∀ l∈ls,GoodL (ss.map (·.nm)) h l)/\(ls.map fun l=>[l.a,l.b]).Nodup:=by
 obtain ⟨ds,e,hd,hbd⟩:=zdD c 5 (by omega) [3,9,9,4,9,9,4] (by decide) (by decide)
 have hds:∀ j,j < 7->∃ d,ds[j]?=some d/\0<=d:=fun j hj=>by
  have:∃ s,([3,9,9,4,9,9,4]:List Int)[j]?=some s:=⟨_,qB (by simpa using hj)⟩
  obtain ⟨s,hs⟩:=this
  obtain ⟨d,q1,q2,_⟩:=hbd j s hs
  exact ⟨d,q1,q2⟩
 obtain ⟨d0,q0,p0,r0⟩:=hbd 0 3 rfl
 obtain ⟨ρ',h1,ls,a,b,d,h2,h3⟩:=zdb (gg:=zaV 5) (body:=zpE) (xs:=(List.range d0.toNat).map fun k:Nat=>D.int (0+k)) (ρ:=lE c ss h [] ds none none none)
  (fun i ρ=>∃ ls a b d,ρ=lE c ss h ls ds a b d/\LInv (ss.map (·.nm)) h i ls) ⟨[],none,none,none,rfl,⟨qu _,fun j hj=>(by cases hj),by simp⟩⟩ (fun i x ρ hx hI=>by
   obtain ⟨ls,a,b,d,rfl,I⟩:=hI
   obtain ⟨hi,rfl⟩:=zmz hx
   obtain ⟨ls',y',z',e1,e2⟩:=zq0 (c:=c) (h:=h) (ss:=ss) (ls:=ls) (ds:=ds) (i:=i) (y:=b) (z:=d) hh (by omega) hs1 hsn hds I
   exact ⟨_,_,rfl,e1,ls',_,_,_,rfl,e2⟩)
 rw [qe,qR] at h3
 have eS:cF zai (zab (vSh 0) (zab (vC (.int 5)) (zab (zaX (szF (zab (vC (.int 3)) (zab (vC (.int 9)) (zab (vC (.int 9)) (zab (vC (.int 4)) (zab (vC (.int 9)) (zab (vC (.int 9)) (zab (vC (.int 4)) zaj))))))))) zaj))) [oS (.int c),oS (.lst (ss.map zbl)),oS (.int h),some (.own []),none,none,none,none]=some (.lst (ds.map D.int)) :=
  za3 (zam rfl (zam rfl (zam (zm7 rfl rfl rfl rfl rfl rfl rfl) zaD))) e
 have eI:itR zkS (zab (b2 ixD (vSh 4) (vC (.int 0))) zaj) (lE c ss h [] ds none none none)=some ((List.range d0.toNat).map fun k:Nat=>D.int (0+k)):=zh6 (zam (zcj (n:=0) rfl q0) zaD) (zgT ⟨p0,by omega⟩)
 exact ⟨ls,za8 [oS (.int c),oS (.lst (ss.map zbl)),oS (.int h),none,none,none,none,none] rfl (zgm.trans ((zaQ eS).trans ((zc7 ((zgo eI).trans (h1.trans (by rw [h2])))).trans ((zfv rfl).trans (za6 (f:=vSh 3) rfl))))),by have:=h3.len;omega,h3.good,h3.nd⟩
end Law
end
section
namespace Law
open PySem L2
theorem znS {ft:FT} {fe:FE} {r:zaY} {v:Int} (ht:∀ (j:Nat) (s:StepT),∃ q:Bool,ft (oS (.int (j:Int))::oS (zbl s)::r)=some q) (he:∀ (j:Nat) (s:StepT),fe (oS (.int (j:Int))::oS (zbl s)::r)=some (dW (s.nm,v))) :
  ∀ (ss:List StepT) (F:Nat->Nat) (a b:Option Slot),∃ sub:List StepT,sub.Sublist ss/\zhG (zdh 2 (zaR (zaV 0) (zaR (zaV 1) zdg))) ft fe ((ss.map zbl).mapIdx fun i d=>D.tup [.int (F i:Nat),d]) (a::b::r)=some (sub.map fun s=>dW (s.nm,v))
 | [],_,_,_=>⟨[],.slnil,rfl⟩
 | s::ss,F,a,b=>by
  obtain ⟨sub,h1,h2⟩:=znS ht he ss (fun i=>F (i+1)) (oS (.int (F 0:Nat))) (oS (zbl s))
  obtain ⟨q,hq⟩:=ht (F 0) s
  have e0:zdh 2 (zaR (zaV 0) (zaR (zaV 1) zdg)) (.tup [.int (F 0:Nat),zbl s]) (a::b::r)=some (oS (.int (F 0:Nat))::oS (zbl s)::r):=rfl
  rw [ql,List.mapIdx_cons]
  cases q with
  | true =>
   refine ⟨s::sub,h1.cons_cons s,?_⟩
   simp only [zhG,e0,qa,hq,if_true,he,h2,qd,ql]
  | false =>
   refine ⟨sub,h1.cons s,?_⟩
   simp only [zhG,e0,qa,hq,qp,if_false,h2]
def tkT (n:Int):FT:=toB (b2 eqD (b2 zcs (b2 ze5 (b2 zbF (b2 ixD (vSh 2) (vC (.int n))) (vSh 3)) (b2 ixD (zaX (szF (zab (vC (.int 1)) (zab (vC (.int 2)) (zab (vC (.int 4)) zaj))))) (b2 zcs (vSh 0) (vC (.int 3))))) (vC (.int 2))) (vC (.int 1)))
def tkE (n:Int):FE:=zca (szF (zab (b2 ixD (vSh 1) (vC (.int 0))) (zab (b2 zbF (vC (.int 1)) (b2 ixD (vSh 2) (vC (.int n)))) zaj)))
def tkC (n m:Int):FE:=zaX (zaH (itE (vSh 1)) (zdh 2 (zaR (zaV 0) (zaR (zaV 1) zdg))) (tkT n) (tkE m) [none,none,some 2,some 4])
abbrev kE (c:Int) (ss:List StepT) (ds:List Int) (ks:List StockT) (k a b d:Option Slot):zaY:=[oS (.int c),oS (.lst (ss.map zbl)),oS (.lst (ds.map D.int)),some (.own (ks.map zdm)),k,a,b,d]
theorem zkO {c k:Int} {ss:List StepT} {ds:List Int} {ks:List StockT} {a b d:Option Slot} {n m:Nat} {x v:Int} (hl:ss.length<=40) (hn:ds[n]?=some x) (hm:ds[m]?=some v) :
  ∃ sub:List StepT,sub.Sublist ss/\tkC (n:Int) (m:Int) (kE c ss ds ks (oS (.int k)) a b d)=some (.lst ((sub.map fun s=>(s.nm,1+v)).map dW)):=by
 have ht:∀ (j:Nat) (s:StepT),∃ q:Bool,tkT (n:Int) (oS (.int (j:Int))::oS (zbl s)::[oS (.lst (ds.map D.int)),oS (.int k)])=some q:=fun j s=>by
  have m0:0<=(j:Int) % 3:=qV _ (by decide)
  have m1:(j:Int) % 3 < 3:=qS _ (by decide)
  obtain ⟨w,hw,hw1⟩:∃ w:Int,ixD (.lst [.int 1,.int 2,.int 4]) (.int ((j:Int) % 3))=some (.int w)/\(0 < w/\w < 1073741824):=by
   have:(j:Int) % 3=0\/(j:Int) % 3=1\/(j:Int) % 3=2:=by omega
   rcases this with z | z | z <;> rw [z]
   ·exact ⟨1,rfl,by decide⟩
   ·exact ⟨2,rfl,by decide⟩
   ·exact ⟨4,rfl,by decide⟩
  exact ⟨_,zbb (zaA (zaA (zaA (zaA (zcj rfl hn) rfl rfl) (zaA (zm9 rfl rfl rfl) (zaA rfl rfl (zcl (by decide))) hw) (ziH hw1)) rfl (zcl (by decide))) rfl rfl)⟩
 have he:∀ (j:Nat) (s:StepT),tkE (m:Int) (oS (.int (j:Int))::oS (zbl s)::[oS (.lst (ds.map D.int)),oS (.int k)])=some (dW (s.nm,1+v)):=fun j s =>
  zc4 (zaA rfl rfl zjw) (zaA rfl (zcj rfl hm) rfl)
 obtain ⟨sub,h1,h2⟩:=znS ht he ss (fun i=>i) none none
 refine ⟨sub,h1,?_⟩
 have e1:itE (vSh 1) (kE c ss ds ks (oS (.int k)) a b d)=some ((ss.map zbl).mapIdx fun i d=>D.tup [.int i,d]):=rfl
 have e2:ze4 [none,none,some 2,some 4] (kE c ss ds ks (oS (.int k)) a b d)=none::none::[oS (.lst (ds.map D.int)),oS (.int k)]:=rfl
 unfold tkC zaX zaH
 rw [e1,qa,qW (by rw [List.length_mapIdx,qe];exact szN hl (by decide)),e2,h2,qd,qm]
 rfl
theorem zjA {ss sub:List StepT} {v:Int} (h:sub.Sublist ss) (nd:(ss.map (·.nm)).Nodup) (hv:1<=v/\v<=1000000):GoodA (ss.map (·.nm)) (sub.map fun s=>(s.nm,v)):=by
 refine ⟨by rw [qe,qe];exact h.length_le,fun w hw=>?_,?_⟩
 ·obtain ⟨s,hs,rfl⟩:=List.mem_map.mp hw
  exact ⟨qU (h.subset hs),hv⟩
 ·rw [qm]
  exact List.Sublist.nodup (h.map (·.nm)) nd
structure KInv (sn:List Str) (i:Nat) (ks:List StockT):Prop where
 len:ks.length=i
 good:∀ k∈ks,GoodK sn k
 nmk:∀ (j:Nat) k,ks[j]?=some k->k.nm=nm (80+j)
def zpq:FS:=(zaF (zb1 5 (b2 zbF (b2 ixD (vSh 2) (vC (.int 1))) (b2 ixD (vSh 2) (vC (.int 2))))) (zaF (zb1 6 (zaX (zaH (itE (vSh 1)) (zdh 2 (zaR (zaV 0) (zaR (zaV 1) zdg))) (toB (b2 eqD (b2 zcs (b2 ze5 (b2 zbF (b2 ixD (vSh 2) (vC (.int 3))) (vSh 3)) (b2 ixD (zaX (szF (zab (vC (.int 1)) (zab (vC (.int 2)) (zab (vC (.int 4)) zaj))))) (b2 zcs (vSh 0) (vC (.int 3))))) (vC (.int 2))) (vC (.int 1)))) (zca (szF (zab (b2 ixD (vSh 1) (vC (.int 0))) (zab (b2 zbF (vC (.int 1)) (b2 ixD (vSh 2) (vC (.int 5)))) zaj)))) [none,none,some 2,some 4]))) (zaF (zb1 7 (zaX (zaH (itE (vSh 1)) (zdh 2 (zaR (zaV 0) (zaR (zaV 1) zdg))) (toB (b2 eqD (b2 zcs (b2 ze5 (b2 zbF (b2 ixD (vSh 2) (vC (.int 4))) (vSh 3)) (b2 ixD (zaX (szF (zab (vC (.int 1)) (zab (vC (.int 2)) (zab (vC (.int 4)) zaj))))) (b2 zcs (vSh 0) (vC (.int 3))))) (vC (.int 2))) (vC (.int 1)))) (zca (szF (zab (b2 ixD (vSh 1) (vC (.int 0))) (zab (b2 zbF (vC (.int 1)) (b2 ixD (vSh 2) (vC (.int 6)))) zaj)))) [none,none,some 2,some 4]))) (zfg 3 (zca (szF (zab (cF zaq (zab (b2 zbF (vC (.int 80)) (vSh 4)) zaj)) (zab (b2 ixD (vSh 2) (vC (.int 1))) (zab (vSh 5) (zab (vSh 6) (zab (vSh 7) zaj)))))))))))
theorem zqd {c:Int} {ss:List StepT} {ds:List Int} {ks:List StockT} {i:Nat} {x y z:Option Slot} {d1 d2 d3 d4 d5 d6:Int} (hi:i < 2) (hl:ss.length<=40) (nd:(ss.map (·.nm)).Nodup)
  (q1:ds[1]?=some d1) (q2:ds[2]?=some d2) (q3:ds[3]?=some d3) (q4:ds[4]?=some d4) (q5:ds[5]?=some d5) (q6:ds[6]?=some d6) (p1:0<=d1/\d1 < 4) (p2:0<=d2/\d2 < 5) (p5:0<=d5/\d5 < 4) (p6:0<=d6/\d6 < 4) (I:KInv (ss.map (·.nm)) i ks) :
  ∃ ks' x' y' z',zpq (kE c ss ds ks (oS (.int (0+(i:Int)))) x y z)=some (.nx,kE c ss ds ks' (oS (.int (0+(i:Int)))) x' y' z')/\KInv (ss.map (·.nm)) (i+1) ks':=by
 have hn:=(zju (k:=80+i) (by omega)).1
 have hnb:=(zju (k:=80+i) (by omega)).2
 have hn':zaq [.int (80+(0+(i:Int)))]=some (.str (nm (80+i))):=by
  rw [← hn];congr 3;omega
 have e5:b2 zbF (b2 ixD (vSh 2) (vC (.int 1))) (b2 ixD (vSh 2) (vC (.int 2))) (kE c ss ds ks (oS (.int (0+(i:Int)))) x y z)=some (.int (d1+d2)):=zaA (zcj (n:=1) rfl q1) (zcj (n:=2) rfl q2) rfl
 obtain ⟨s1,h1,e6⟩:=zkO (c:=c) (k:=0+(i:Int)) (ss:=ss) (ks:=ks) (a:=oS (.int (d1+d2))) (b:=y) (d:=z) (n:=3) (m:=5) hl q3 q5
 obtain ⟨s2,h2,e7⟩:=zkO (c:=c) (k:=0+(i:Int)) (ss:=ss) (ks:=ks) (a:=oS (.int (d1+d2))) (b:=some (.sh (.lst ((s1.map fun s=>(s.nm,1+d5)).map dW)))) (d:=z) (n:=4) (m:=6) hl q4 q6
 let K:StockT:=⟨nm (80+i),d1,d1+d2,s1.map fun s=>(s.nm,1+d5),s2.map fun s=>(s.nm,1+d6)⟩
 refine ⟨ks++[K],_,_,_,(zaQ e5).trans ((zaQ e6).trans ((zaQ e7).trans (zfb (x:=K) rfl (zmh (za3 (zam (zaA rfl rfl rfl) zaD) hn') (zcj (n:=1) rfl q1) rfl rfl rfl) (by have:=I.len;omega)))),⟨?_,?_,?_⟩⟩
 ·rw [qi,I.len];rfl
 ·intro k hk
  rcases List.mem_append.mp hk with q | q
  ·exact I.good k q
  ·rw [List.mem_singleton.mp q]
   exact ⟨hnb,⟨p1.1,by show d1<=d1+d2;omega⟩,⟨by show 0<=d1+d2;omega,by show d1+d2<=_;omega⟩,zjA h1 nd (by omega),zjA h2 nd (by omega)⟩
 ·intro j k hj
  by_cases hji:j < ks.length
  ·rw [qx hji] at hj
   exact I.nmk j k hj
  ·have hl2:=(List.getElem?_eq_some_iff.mp hj).1
   rw [qi,qT] at hl2
   rw [qI (by omega),show j - ks.length=0 by omega] at hj
   cases hj
   have:=I.len
   rw [show j=i by omega]
theorem zeg {α:Type} {l:List α} {f:α->Str} {g:Nat->Str} {n:Nat} (hn:l.length<=n) (hg:∀ i,i < n->∀ j,j < n->g i=g j->i=j) (h:∀ (j:Nat) k,l[j]?=some k->f k=g j):(l.map f).Nodup:=by
 rw [List.nodup_iff_pairwise_ne,List.pairwise_iff_getElem]
 intro i j hi hj hij e
 rw [qe] at hi hj
 rw [List.getElem_map,List.getElem_map,h i _ (qB hi),h j _ (qB hj)] at e
 have:=hg i (by omega) j (by omega) e
 omega
theorem zlV (c:Int) (ss:List StepT) (hl:ss.length<=40) (nd:(ss.map (·.nm)).Nodup):∃ ks:List StockT,zbr [.int c,.lst (ss.map zbl)]=some (ks.map zdm)/\ks.length<=2/\(∀ k∈ks,GoodK (ss.map (·.nm)) k)/\(ks.map (·.nm)).Nodup:=by
 obtain ⟨ds,e,hd,hbd⟩:=zdD c 9 (by omega) [3,4,5,8,8,4,4] (by decide) (by decide)
 obtain ⟨d0,q0,p0,r0⟩:=hbd 0 3 rfl
 obtain ⟨d1,q1,p1⟩:=hbd 1 4 rfl
 obtain ⟨d2,q2,p2⟩:=hbd 2 5 rfl
 obtain ⟨d3,q3,p3⟩:=hbd 3 8 rfl
 obtain ⟨d4,q4,p4⟩:=hbd 4 8 rfl
 obtain ⟨d5,q5,p5⟩:=hbd 5 4 rfl
 obtain ⟨d6,q6,p6⟩:=hbd 6 4 rfl
 obtain ⟨ρ',h1,ks,a,x,y,z,h2,h3⟩:=zdb (gg:=zaV 4) (body:=zpq) (xs:=(List.range d0.toNat).map fun k:Nat=>D.int (0+k)) (ρ:=kE c ss ds [] none none none none)
  (fun i ρ=>∃ ks a x y z,ρ=kE c ss ds ks a x y z/\KInv (ss.map (·.nm)) i ks) ⟨[],none,none,none,none,rfl,⟨rfl,fun j hj=>(by cases hj),fun j k hj=>(by simp at hj)⟩⟩ (fun i w ρ hx hI=>by
   obtain ⟨ks,a,x,y,z,rfl,I⟩:=hI
   obtain ⟨hi,rfl⟩:=zmz hx
   obtain ⟨ks',x',y',z',e1,e2⟩:=zqd (c:=c) (ss:=ss) (ds:=ds) (ks:=ks) (i:=i) (x:=x) (y:=y) (z:=z) (by omega) hl nd q1 q2 q3 q4 q5 q6 p1 p2 p5 p6 I
   exact ⟨_,_,rfl,e1,ks',_,_,_,_,rfl,e2⟩)
 rw [qe,qR] at h3
 have eS:cF zai (zab (vSh 0) (zab (vC (.int 9)) (zab (zaX (szF (zab (vC (.int 3)) (zab (vC (.int 4)) (zab (vC (.int 5)) (zab (vC (.int 8)) (zab (vC (.int 8)) (zab (vC (.int 4)) (zab (vC (.int 4)) zaj))))))))) zaj))) [oS (.int c),oS (.lst (ss.map zbl)),none,none,none,none,none,none]=some (.lst (ds.map D.int)) :=
  za3 (zam rfl (zam rfl (zam (zm7 rfl rfl rfl rfl rfl rfl rfl) zaD))) e
 have eI:itR zkS (zab (b2 ixD (vSh 2) (vC (.int 0))) zaj) (kE c ss ds [] none none none none)=some ((List.range d0.toNat).map fun k:Nat=>D.int (0+k)):=zh6 (zam (zcj (n:=0) rfl q0) zaD) (zgT ⟨p0,by omega⟩)
 exact ⟨ks,zgS [oS (.int c),oS (.lst (ss.map zbl)),none,none,none,none,none,none] rfl ((zaQ eS).trans (zgm.trans ((zc7 ((zgo eI).trans (h1.trans (by rw [h2])))).trans (zmA rfl)))),by have:=h3.len;omega,h3.good,zeg (n:=3) (by have:=h3.len;omega) zqM h3.nmk⟩
theorem zqi {n:Nat} {g:FS} {f:FA} {ds rs:List D} (ρ:zaY) {ρ':zaY} (e:ds.map (fun d=>some (Slot.sh d))++List.replicate n none=ρ) (h:g ρ=some (.nx,ρ')) (h2:f ρ'=some rs):zr6 n g f ds=some rs:=by
 subst e;unfold zr6;rw [h];exact h2
theorem zlx {g:List D->Option (List D)} {fr:FA} {ρ:zaY} {ds rs:List D} (h1:fr ρ=some ds) (h2:g ds=some rs):cFO g fr ρ=some rs:=by
 unfold cFO;rw [h1];exact h2
theorem zoD {i:Nat} {fr:FA} {ρ:zaY} {ds:List D} (h:fr ρ=some ds):zgD i fr ρ=some (.nx,ρ.set i (some (.own ds))):=by unfold zgD;rw [h];rfl
theorem ziM (ns:List Int) (n m:Nat) (hn:n<=1000) {fi:FA} {ρ:zaY} {k:Int} (hk:k=(m:Int)) (h0:ρ[0]?=some (oS (.scr ns))) (hfi:fi ρ=some ((List.range n).map fun i:Nat=>D.int (0+i))) :
  ∃ cs:List Int,zaX (zaH fi (zaV 0) tT (cF zav (zab (vSh 1) (zab (b2 zbF (vC (.int k)) (vSh 0)) zaj))) [none,some 0]) ρ=some (.lst (cs.map D.int))/\cs.length=n:=by
 have hfv:ze4 [none,some 0] ρ=none::[oS (.scr ns)]:=by
  simp only [ze4,ql,qM,Option.bind_none,qa,h0]
 have hc:=zbA (fi:=fi) (fe:=cF zav (zab (vSh 1) (zab (b2 zbF (vC (.int k)) (vSh 0)) zaj))) (fv:=[none,some 0]) (ρ:=ρ) (r:=[oS (.scr ns)]) (a:=none) (f:=fun d=>match d with | .int i=>.int (ns.getD (m+i.toNat) 0) | _=>.non) hfi (by rw [qe,qR];exact szN hn (by decide)) hfv (fun x hx=>by
  obtain ⟨i,hi,rfl⟩:=List.mem_map.mp hx
  have e:=zen ns (m+i)
  refine za3 (zam rfl (zam (zaA rfl rfl rfl) zaD)) ?_
  subst hk
  have e1:((m:Int)+(0+(i:Int)))=((m+i:Nat):Int):=by omega
  rw [e1,e]
  congr 3
  omega)
 refine ⟨(List.range n).map fun i=>ns.getD (m+i) 0,?_,by rw [qe,qR]⟩
 rw [hc,qm,qm]
 congr 2
 refine List.map_congr_left fun i _=>?_
 show D.int (ns.getD (m+(0+(i:Int)).toNat) 0)=D.int (ns.getD (m+i) 0)
 congr 3
 omega
def zfD (bs:List BenchT) (ss:List StepT) (js:List JobT) (us:List SetT) (ls:List LinkT) (ks:List StockT) (h:Int):List D:=[.lst (bs.map zbi),.lst (ss.map zbl),.lst (js.map zd2),.lst (us.map zcY),.lst (ls.map zbw),.lst (ks.map zdm),.int h]
theorem zoN (ns:List Int) (n:Nat) (h lo:Int) (hn:1<=n/\n<=10) (hh:1<=h/\h<=1000000) (hlo:0 < lo/\lo < 1000):∃ bs ss js us ls ks,zcp [.scr ns,.int (n:Int),.int h,.int lo]=some (zfD bs ss js us ls ks h)/\Good bs ss js us ls ks h/\js.length<=3:=by
 have b0:0<=(ns.getD 0 0) % 3:=qV _ (by decide)
 have b1:(ns.getD 0 0) % 3 < 3:=qS _ (by decide)
 obtain ⟨nb,hnb⟩:∃ nb:Nat,1+(ns.getD 0 0) % 3=(nb:Int):=⟨(1+(ns.getD 0 0) % 3).toNat,by omega⟩
 obtain ⟨cb,eb,lb⟩:=ziM ns nb 1 (by omega) (k:=1) (fi:=itR zkS (zab (b2 zbF (vC (.int 1)) (b2 zcs (cF zav (zab (vSh 0) (zab (vC (.int 0)) zaj))) (vC (.int 3)))) zaj)) (ρ:=[oS (.scr ns),oS (.int n),oS (.int h),oS (.int lo),none,none,none,none,none,none]) rfl rfl (zh6 (zam (d:=.int (nb:Int)) (zaA rfl (zaA (za3 (zam rfl (zam rfl zaD)) (zen ns 0)) rfl (zcl (by decide))) (by rw [← hnb];rfl)) zaD) (zgT (j:=(nb:Int)) (by omega)))
 obtain ⟨bs,e1,l1,g1⟩:=zkj cb h (by omega)
 have bnd:(bs.map (·.nm)).Nodup:=zeg (n:=3) (by omega) zqO fun j b hj=>(g1 j b hj).nm
 have hbn:∀ x∈bs.map (·.nm),za2 x=true:=fun x hx=>by
  obtain ⟨b,hb,rfl⟩:=List.mem_map.mp hx
  obtain ⟨j,hj⟩:=List.getElem?_of_mem hb
  have hjl:=(List.getElem?_eq_some_iff.mp hj).1
  rw [(g1 j b hj).nm]
  exact (zju (by omega)).2
 obtain ⟨ct,et,lt⟩:=ziM ns n 4 (by omega) (k:=4) (fi:=itR zkS (zab (vSh 1) zaj)) (ρ:=[oS (.scr ns),oS (.int n),oS (.int h),oS (.int lo),oS (.lst (bs.map zbi)),none,none,none,none,none]) rfl rfl (zh6 (zam rfl zaD) (zgT (j:=(n:Int)) (by omega)))
 obtain ⟨ss,e2,l2,g2⟩:=zm6 ct bs h lo hh.1 hlo (by omega) (by omega) bnd
 have snd:(ss.map (·.nm)).Nodup:=zeg (n:=10) (by omega) zqP fun j b hj=>(g2 j b hj).nm
 have gs:∀ s∈ss,GoodS (bs.map (·.nm)) h s:=fun s hs=>by
  obtain ⟨j,hj⟩:=List.getElem?_of_mem hs
  exact (g2 j s hj).good
 have hsn:∀ x∈ss.map (·.nm),za2 x=true:=fun x hx=>by
  obtain ⟨b,hb,rfl⟩:=List.mem_map.mp hx
  exact (gs b hb).nm
 obtain ⟨cj,ej,lj⟩:=ziM ns 3 14 (by omega) (k:=14) (fi:=itR zkS (zab (vC (.int 3)) zaj)) (ρ:=[oS (.scr ns),oS (.int n),oS (.int h),oS (.int lo),oS (.lst (bs.map zbi)),oS (.lst (ss.map zbl)),none,none,none,none]) rfl rfl (zh6 (zam rfl zaD) (zgT (j:=3) (by omega)))
 obtain ⟨js,e3,l3,g3,g4,g5⟩:=zoL cj ss h hh.1 (by omega) (by omega) hsn snd
 obtain ⟨us,e4,l4,g6,g7⟩:=zlW (ns.getD 17 0) bs h hh.1 (by omega) hbn
 obtain ⟨ls,e5,l5,g8,g9⟩:=znd (ns.getD 18 0) ss h hh.1 (by omega) hsn
 obtain ⟨ks,e6,l6,g10,g11⟩:=zlV (ns.getD 19 0) ss (by omega) snd
 refine ⟨bs,ss,js,us,ls,ks,?_,⟨hh,by omega,fun x hx=>?_,bnd,by omega,gs,snd,by omega,g3,g4,g5,by omega,g6,g7,by omega,g8,g9,by omega,g10,g11⟩,l3⟩
 ·refine zqi [oS (.scr ns),oS (.int n),oS (.int h),oS (.int lo),none,none,none,none,none,none] rfl ((zaQ (za3 (zam eb (zam rfl zaD)) e1)).trans ((zaQ (za3 (zam et (zam rfl (zam rfl (zam rfl zaD)))) e2)).trans ((zgZ (zlx (zam ej (zam rfl (zam rfl zaD))) e3)).trans ((zaQ (za3 (zam (za3 (zam rfl (zam rfl zaD)) (zen ns 17)) (zam rfl (zam rfl zaD))) e4)).trans ((zaQ (za3 (zam (za3 (zam rfl (zam rfl zaD)) (zen ns 18)) (zam rfl (zam rfl zaD))) e5)).trans (zoD (zlx (zam (za3 (zam rfl (zam rfl zaD)) (zen ns 19)) (zam rfl zaD)) e6))))))) rfl
 ·obtain ⟨j,hj⟩:=List.getElem?_of_mem hx
  have hjl:=(List.getElem?_eq_some_iff.mp hj).1
  have g:=g1 j x hj
  exact ⟨by rw [g.nm];exact (zju (by omega)).2,by have:=g.len;omega,g.good.iv,g.good.gap⟩
end Law
end
section
namespace Law
open PySem L2
theorem zt7 (p:Int×Int):Fz (dIv p) (dIv p):=.tup (.cons (.int _) (.cons (.int _) .nil))
theorem zt6 (p:Str×Int):Fz (dW p) (dW p):=.tup (.cons (.str _) (.cons (.int _) .nil))
theorem ziD (b:BenchT):Fz (zbi b) (zbf b):=.tup (.cons (.str _) (.cons (.lst (Fzs.map zt7 _)) .nil))
theorem zkn (b:StepT):Fz (zbl b) (zcc b):=.tup (.cons (.str _) (.cons (.str _) (.cons (.lst (Fzs.map zt6 _)) .nil)))
theorem zns (b:JobT):Fz (zd2 b) (zc3 b):=.tup (.cons (.str _) (.cons (.int _) (.cons (.int _) (.cons (.bl _) (.cons (.lst (Fzs.map (fun x=>.str x) _)) .nil)))))
theorem zpN (b:SetT):Fz (zcY b) (zcY b):=.tup (.cons (.str _) (.cons (.str _) (.cons (.str _) (.cons (.int _) .nil))))
theorem znr (b:LinkT):Fz (zbw b) (zbw b):=.tup (.cons (.str _) (.cons (.str _) (.cons (.int _) .nil)))
theorem zlk (b:StockT):Fz (zdm b) (zbB b):=.tup (.cons (.str _) (.cons (.int _) (.cons (.int _) (.cons (.lst (Fzs.map zt6 _)) (.cons (.lst (Fzs.map zt6 _)) .nil)))))
def jk (js:List JobT):List (Key×JobT):=js.foldl (fun acc j=>j.ms.foldl (fun a m=>zit a (.inr m) j) acc) []
theorem zos {α β:Type} (f:α->β) (l:List (Key×α)) (k:Key) (v:α):zit (l.map fun kv=>(kv.1,f kv.2)) k (f v)=(zit l k v).map fun kv=>(kv.1,f kv.2):=by
 unfold zit
 have e:((l.map fun kv=>(kv.1,f kv.2)).any fun kv=>decide (kv.1=k))=l.any fun kv=>decide (kv.1=k):=by rw [List.any_map];rfl
 rw [e]
 split
 ·rw [qm,qm]
  refine List.map_congr_left fun x _=>?_
  simp only [Function.comp]
  split <;> rfl
 ·simp
theorem zsU (j:JobT):∀ (ms:List Str) (acc:List (Key×JobT)),ms.foldl (zlM j) (acc.map fun kv=>(kv.1,zd2 kv.2))=(ms.foldl (fun a m=>zit a (.inr m) j) acc).map fun kv=>(kv.1,zd2 kv.2)
 | [],_=>rfl
 | m::ms,acc=>by
  rw [List.foldl_cons,List.foldl_cons]
  unfold zlM
  rw [zos zd2 acc (.inr m) j]
  exact zsU j ms _
theorem zpI:∀ (js:List JobT) (acc:List (Key×JobT)),js.foldl (fun acc j=>j.ms.foldl (zlM j) acc) (acc.map fun kv=>(kv.1,zd2 kv.2))=(js.foldl (fun acc j=>j.ms.foldl (fun a m=>zit a (.inr m) j) acc) acc).map fun kv=>(kv.1,zd2 kv.2)
 | [],_=>rfl
 | j::js,acc=>by
  rw [List.foldl_cons,List.foldl_cons,zsU]
  exact zpI js _
theorem zq4 (js:List JobT):jkv js=(jk js).map fun kv=>(kv.1,zd2 kv.2):=zpI js []
def fsF (bs:List BenchT) (ss:List StepT) (js:List JobT) (us:List SetT) (ls:List LinkT) (ks:List StockT) (h:Int):List (Str×D) :=
 [("benches",.flst (bs.map zbf)),("steps",.flst (ss.map zcc)),("jobs",.flst (js.map zc3)),("setups",.flst (us.map zcY)),("links",.flst (ls.map zbw)),("stocks",.flst (ks.map zbB)),("horizon",.int h),
 ("bench_by_name",.dk (bs.map fun b=>(.inr b.nm,zbf b))),("step_by_name",.dk (ss.map fun s=>(.inr s.nm,zcc s))),("setup_by_names",.dt (us.map fun u=>([u.b,u.p,u.q].map Sum.inr,.int u.n))),("job_by_step",.dk ((jk js).map fun kv=>(kv.1,zc3 kv.2)))]
def zck (bs:List BenchT) (ss:List StepT) (js:List JobT) (us:List SetT) (ls:List LinkT) (ks:List StockT) (h:Int):D:=.ins "Shop" (fsF bs ss js us ls ks h)
def zcW (bs:List BenchT) (ss:List StepT) (js:List JobT) (us:List SetT) (ls:List LinkT) (ks:List StockT) (h:Int):D:=.flst [.flst (bs.map zbf),.flst (ss.map zcc),.flst (js.map zc3),.flst (us.map zcY),.flst (ls.map zbw),.flst (ks.map zbB),.int h]
section
variable {bs:List BenchT} {ss:List StepT} {js:List JobT} {us:List SetT} {ls:List LinkT} {ks:List StockT} {h:Int}
theorem zll:Fz (.lst (zfD bs ss js us ls ks h)) (zcW bs ss js us ls ks h) :=
 .lst (.cons (.lst (Fzs.map ziD _)) (.cons (.lst (Fzs.map zkn _)) (.cons (.lst (Fzs.map zns _)) (.cons (.lst (Fzs.map zpN _)) (.cons (.lst (Fzs.map znr _)) (.cons (.lst (Fzs.map zlk _)) (.cons (.int _) .nil)))))))
theorem zrf {α:Type} {k:α->Key} {f g:α->D} (hf:∀ x,Fz (f x) (g x)) (xs:List α):Fz (.dk (xs.map fun x=>(k x,f x))) (.dk (xs.map fun x=>(k x,g x))) :=
 .dk (by rw [qm,qm];rfl) (by rw [qm,qm];exact Fzs.map (fun x=>hf x) xs)
theorem zre:Fz (zo5 bs ss js us ls ks h) (zck bs ss js us ls ks h):=by
 refine .ins rfl (.cons (.lst (Fzs.map ziD _)) (.cons (.lst (Fzs.map zkn _)) (.cons (.lst (Fzs.map zns _)) (.cons (.lst (Fzs.map zpN _)) (.cons (.lst (Fzs.map znr _)) (.cons (.lst (Fzs.map zlk _)) (.cons (.int _) (.cons (zrf ziD bs) (.cons (zrf zkn ss) (.cons ?_ (.cons ?_ .nil)))))))))))
 ·exact .dt (by rw [qm]) (by rw [qm];exact Fzs.map (fun x=>.int _) us)
 ·show Fz (.dk (jkv js)) _
  rw [zq4]
  exact zrf (k:=fun kv:Key×JobT=>kv.1) (fun kv=>zns kv.2) (jk js)
theorem zqe (g:Good bs ss js us ls ks h) (ml:(js.flatMap (·.ms)).length<=300):zcO [zcW bs ss js us ls ks h]=some (zo5 bs ss js us ls ks h) :=
 za8 [oS (zcW bs ss js us ls ks h)] rfl (za6 (za3 (zam (zaA rfl rfl (zmc _ 0)) (zam (zaA rfl rfl (zmc _ 1)) (zam (zaA rfl rfl (zmc _ 2)) (zam (zaA rfl rfl (zmc _ 3)) (zam (zaA rfl rfl (zmc _ 4)) (zam (zaA rfl rfl (zmc _ 5)) (zam (zaA rfl rfl (zmc _ 6)) zaD))))))) (zq9 g ml)))
theorem zpO (g:Good bs ss js us ls ks h):zay [.flst (bs.map zbf)]=some (.lst (bs.map zbi))/\zay [.flst (ss.map zcc)]=some (.lst (ss.map zbl))/\zay [.flst (us.map zcY)]=some (.lst (us.map zcY))/\zay [.flst (ls.map zbw)]=some (.lst (ls.map zbw)) :=
 ⟨zeH (e:=.flst (bs.map zbf)) (zdA (by have:=g.bl.2;omega) fun x hx=>zkW (g.b x hx)) (zeG (zfW 4) bs),zeH (e:=.flst (ss.map zcc)) (zdA (by have:=g.sl.2;omega) fun x hx=>zmF (g.s x hx)) (zeG (zg1 4) ss),
 zeH (e:=.flst (us.map zcY)) (zdA (by have:=g.ul;omega) fun x hx=>zpy) (zeG (zle 4) us),zeH (e:=.flst (ls.map zbw)) (zdA (by have:=g.ll;omega) fun x hx=>zmG) (zeG (zjv 4) ls)⟩
theorem zjB {α:Type} {f d:α->D} {xs:List α} (hl:xs.length<=1000) (h:∀ x∈xs,Pl 8 (f x)) (hm:∀ x,zex 8 (f x)=d x):zbp [.flst (xs.map f)]=some (xs.map d):=by
 refine zgS [oS (.flst (xs.map f))] rfl (ρ':=[oS (.flst (xs.map f))]) ?_
 have h1:toB (cF zfZ (zab (vSh 0) (zab (vC (.ty "list")) zaj))) [oS (.flst (xs.map f))]=some true:=zbb (by simp only [cF,zab,zaj,vSh,vC,zfZ,tyD,qb,qa,qd,k1])
 have h2:=zbA (fi:=itF (vSh 0)) (fe:=cF zay (zab (vSh 0) zaj)) (fv:=[none]) (ρ:=[oS (.flst (xs.map f))]) (r:=[]) (a:=none) (xs:=xs.map f) (f:=zex 8) rfl (by rw [qe];exact szN hl (by decide)) rfl (fun x hx=>by
  obtain ⟨y,hy,rfl⟩:=List.mem_map.mp hx
  exact za3 (zam rfl zaD) (zgI 8 _ (h y hy)))
 have h3:(zaH (itF (vSh 0)) (zaV 0) tT (cF zay (zab (vSh 0) zaj)) [none]) [oS (.flst (xs.map f))]=some (xs.map d):=by
  unfold zaX at h2
  obtain ⟨ds,e1,e2⟩:=oMd h2
  rw [e1]
  have e3:=D.lst.inj e2
  rw [e3,qm]
  exact congrArg some (List.map_congr_left fun x _=>hm x)
 show zaF (sIf _ (zis _) zcC) _ _=_
 unfold zaF sIf zis
 rw [h1,qa,qW rfl,h3]
 rfl
theorem ziF:(fsF bs ss js us ls ks h).map (·.1)=zfu:=rfl
theorem zfw {fo:FE} {ρ:zaY} {f:Str} {d:D} (i:Nat) (h1:fo ρ=some (zck bs ss js us ls ks h)) (h2:(fsF bs ss js us ls ks h)[i]?=some (f,d)):zln "Shop" f fo ρ=some d:=by
 unfold zln
 rw [h1]
 show (if ("Shop":Str)="Shop" then (fsF bs ss js us ls ks h).lookup f else none)=some d
 rw [qW rfl]
 exact zgH (by rw [ziF];exact ziB) h2
theorem ze2 {F:FQ} {fo:FE} {ρ:zaY} {m:Str} {d:D} (hm:m∉zfu) (h1:fo ρ=some (zck bs ss js us ls ks h)) (h3:F [zck bs ss js us ls ks h]=some d):zfU "Shop" m F fo zaj ρ=some d:=by
 have hno:(fsF bs ss js us ls ks h).lookup m=none:=zfX (by rw [ziF];exact hm)
 unfold zfU
 rw [h1]
 show (if ("Shop":Str)="Shop"/\(fsF bs ss js us ls ks h).lookup m=none then (zaj ρ).bind fun ds=>F (zck bs ss js us ls ks h::ds) else none)=_
 rw [qW ⟨rfl,hno⟩]
 exact h3
theorem zld {F:List D->Option (List D)} {fo:FE} {ρ:zaY} {m:Str} {d:List D} (hm:m∉zfu) (h1:fo ρ=some (zck bs ss js us ls ks h)) (h3:F [zck bs ss js us ls ks h]=some d):zlR "Shop" m F fo zaj ρ=some d:=by
 have hno:(fsF bs ss js us ls ks h).lookup m=none:=zfX (by rw [ziF];exact hm)
 unfold zlR
 rw [h1]
 show (if ("Shop":Str)="Shop"/\(fsF bs ss js us ls ks h).lookup m=none then (zaj ρ).bind fun ds=>F (zck bs ss js us ls ks h::ds) else none)=_
 rw [qW ⟨rfl,hno⟩]
 exact h3
theorem zmB {fr:FA} {ρ:zaY} {ds:List D} (h:fr ρ=some ds):zis fr ρ=some (.ow ds,ρ):=by unfold zis;rw [h];rfl
theorem zp5 (g:Good bs ss js us ls ks h):zcN [zck bs ss js us ls ks h]=some (zfD bs ss js us ls ks h):=by
 obtain ⟨f1,f2,f4,f5⟩:=zpO g
 have hl:(ss.map (·.nm)).length<=40:=by rw [qe];exact g.sl.2
 have f3:=zjB (f:=zc3) (d:=zd2) (xs:=js) (by have:=g.jl;omega) (fun x hx=>zpz hl (g.j x hx)) (ziz 5)
 have f6:=zjB (f:=zbB) (d:=zdm) (xs:=ks) (by have:=g.kl;omega) (fun x hx=>zkV hl (g.k x hx)) (zfV 5)
 have m0:zaU [zck bs ss js us ls ks h]=some (.lst (bs.map zbi)):=za8 [oS (zck bs ss js us ls ks h)] rfl (za6 (za3 (zam (zfw 0 rfl rfl) zaD) f1))
 have m1:za0 [zck bs ss js us ls ks h]=some (.lst (ss.map zbl)):=za8 [oS (zck bs ss js us ls ks h)] rfl (za6 (za3 (zam (zfw 1 rfl rfl) zaD) f2))
 have m2:zaT [zck bs ss js us ls ks h]=some (js.map zd2):=zgS [oS (zck bs ss js us ls ks h)] rfl (zmB (zlx (zam (zfw 2 rfl rfl) zaD) f3))
 have m3:zaS [zck bs ss js us ls ks h]=some (.lst (us.map zcY)):=za8 [oS (zck bs ss js us ls ks h)] rfl (za6 (za3 (zam (zfw 3 rfl rfl) zaD) f4))
 have m4:za1 [zck bs ss js us ls ks h]=some (.lst (ls.map zbw)):=za8 [oS (zck bs ss js us ls ks h)] rfl (za6 (za3 (zam (zfw 4 rfl rfl) zaD) f5))
 have m5:zaO [zck bs ss js us ls ks h]=some (ks.map zdm):=zgS [oS (zck bs ss js us ls ks h)] rfl (zmB (zlx (zam (zfw 5 rfl rfl) zaD) f6))
 have m6:zaL [zck bs ss js us ls ks h]=some (.int h):=by
  unfold zaL zcy
  exact za8 [oS (zck bs ss js us ls ks h)] rfl (za6 (f:=zln "Shop" "horizon" (vSh 0)) (d:=.int h) (zfw (bs:=bs) (ss:=ss) (js:=js) (us:=us) (ls:=ls) (ks:=ks) (h:=h) 6 rfl rfl))
 show zrC _ _ _ _ _ _ _ [oS (zck bs ss js us ls ks h),none]=_
 unfold zrC
 rw [ze2 (by decide +kernel) rfl m0,qa,ze2 (by decide +kernel) rfl m1,qa,zld (by decide +kernel) rfl m2,qa,ze2 (by decide +kernel) rfl m3,qa,ze2 (by decide +kernel) rfl m4,qa,zld (by decide +kernel) rfl m5,qa,ze2 (by decide +kernel) rfl m6]
 rfl
end
end Law
end
section
namespace Law
open PySem L2
def Sm:Nat->PyData->Prop
 | _,.int _=>True
 | _,.bool _=>True
 | _,.str x=>za2 x=true
 | n+1,.list l=>∀ x∈l,Sm n x
 | n+1,.tuple l=>∀ x∈l,Sm n x
 | _,_=>False
theorem zkE:∀ {l:List PyData},(∀ x∈l,PyData.canLay0 x=true)->PyData.canLayAll0 l=true
 | [],_=>by simp [PyData.canLayAll0]
 | x::l,h=>by
  simp only [PyData.canLayAll0,h x qf,zkE fun y hy=>h y (qg _ hy),Bool.and_self]
theorem zi2 {n:Nat}:∀ {l:List PyData},(∀ x∈l,PyData.depth x<=n)->PyData.depthAll l<=n
 | [],_=>by simp [PyData.depthAll]
 | x::l,h=>by
  have h1:=h x qf
  have h2:=zi2 fun y hy=>h y (qg _ hy)
  simp only [PyData.depthAll]
  omega
theorem zkF:∀ {l:List PyData},(∀ x∈l,PyData.eqv x x=true)->PyData.eqvAll l l=true
 | [],_=>by simp [PyData.eqvAll]
 | x::l,h=>by
  simp only [PyData.eqvAll,h x qf,zkF fun y hy=>h y (qg _ hy),Bool.and_self]
theorem zjY:∀ (n:Nat) (p:PyData),Sm n p->PyData.canLay0 p=true/\PyData.depth p<=n/\PyData.eqv p p=true
 | n,.int i,_=>by simp [PyData.canLay0,PyData.depth,PyData.eqv]
 | n,.bool i,_=>by simp [PyData.canLay0,PyData.depth,PyData.eqv]
 | n,.str x,h=>by
  have h:za2 x=true:=by cases n <;> exact h
  simp [PyData.canLay0,PyData.depth,PyData.eqv,zii h]
 | n+1,.list l,h=>by
  have h:∀ x∈l,Sm n x:=h
  refine ⟨?_,?_,?_⟩
  ·simp only [PyData.canLay0];exact zkE fun x hx=>(zjY n x (h x hx)).1
  ·simp only [PyData.depth];have:=zi2 fun x hx=>(zjY n x (h x hx)).2.1;omega
  ·simp only [PyData.eqv];exact zkF fun x hx=>(zjY n x (h x hx)).2.2
 | n+1,.tuple l,h=>by
  have h:∀ x∈l,Sm n x:=h
  refine ⟨?_,?_,?_⟩
  ·simp only [PyData.canLay0];exact zkE fun x hx=>(zjY n x (h x hx)).1
  ·simp only [PyData.depth];have:=zi2 fun x hx=>(zjY n x (h x hx)).2.1;omega
  ·simp only [PyData.eqv];exact zkF fun x hx=>(zjY n x (h x hx)).2.2
 | 0,.list l,h=>by exact h.elim
 | 0,.tuple l,h=>by exact h.elim
 | 0,.none,h=>by exact h.elim
 | n+1,.none,h=>by exact h.elim
 | 0,.dict _,h=>by exact h.elim
 | n+1,.dict _,h=>by exact h.elim
theorem zmZ {x y:D} {p:PyData} (h0:neD x y=none) (hx:pdD x=some p) (hy:pdD y=some p) (hs:Sm 8 p):neA x y=some (.bl false):=by
 obtain ⟨h1,h2,h3⟩:=zjY 8 p hs
 have sh:SeqAt.shaped p=true:=by
  show (p.canLay0 && decide (p.depth<=64))=true
  rw [h1,qQ (by omega)];rfl
 have e0:neA x y=zqR x y:=by unfold neA orG;rw [h0]
 rw [e0]
 unfold zqR eqX
 rw [hx,hy,qa,qa,qW ⟨sh,sh⟩,h3]
 rfl
theorem zbN {α:Type} {f:α->D} {g:α->PyData} (h:∀ x,pdD (f x)=some (g x)):∀ xs:List α,zgX (xs.map f)=some (xs.map g)
 | []=>rfl
 | x::xs=>by
  rw [ql,ql,zgX,h x,qa,zbN h xs]
  rfl
theorem zc9 {l:List D} {ps:List PyData} (h:zgX l=some ps):pdD (.lst l)=some (.list ps):=by rw [pdD,h];rfl
theorem zcV {l:List D} {ps:List PyData} (h:zgX l=some ps):pdD (.flst l)=some (.list ps):=by rw [pdD,h];rfl
theorem zjr {l:List D} {ps:List PyData} (h:zgX l=some ps):pdD (.tup l)=some (.tuple ps):=by rw [pdD,h];rfl
theorem zaC {d:D} {l:List D} {p:PyData} {ps:List PyData} (h1:pdD d=some p) (h:zgX l=some ps):zgX (d::l)=some (p::ps):=by rw [zgX,h1,qa,h];rfl
theorem zef:zgX []=some []:=rfl
theorem zeE (i:Int):pdD (.int i)=some (.int i):=rfl
theorem zk3 (i:Str):pdD (.str i)=some (.str i):=rfl
theorem zuz (i:Bool):pdD (.bl i)=some (.bool i):=rfl
def pIv (w:Int×Int):PyData:=.tuple [.int w.1,.int w.2]
def pW (w:Str×Int):PyData:=.tuple [.str w.1,.int w.2]
def zmS (b:BenchT):PyData:=.tuple [.str b.nm,.list (b.br.map pIv)]
def zqC (b:StepT):PyData:=.tuple [.str b.nm,.str b.kd,.list (b.ws.map pW)]
def ztO (b:JobT):PyData:=.tuple [.str b.nm,.int b.ea,.int b.du,.bool b.od,.list (b.ms.map PyData.str)]
def zuA (u:SetT):PyData:=.tuple [.str u.b,.str u.p,.str u.q,.int u.n]
def zsu (u:LinkT):PyData:=.tuple [.str u.a,.str u.b,.int u.g]
def zmQ (k:StockT):PyData:=.tuple [.str k.nm,.int k.lo,.int k.hi,.list (k.tk.map pW),.list (k.pt.map pW)]
theorem zst (x:Int×Int):pdD (dIv x)=some (pIv x):=rfl
theorem zrH (x:Str×Int):pdD (dW x)=some (pW x):=rfl
theorem zoC (b:BenchT):pdD (zbi b)=some (zmS b):=zjr (zaC (zk3 _) (zaC (zc9 (zbN zst _)) zef))
theorem zmN (b:BenchT):pdD (zbf b)=some (zmS b):=zjr (zaC (zk3 _) (zaC (zcV (zbN zst _)) zef))
theorem zqA (b:StepT):pdD (zbl b)=some (zqC b):=zjr (zaC (zk3 _) (zaC (zk3 _) (zaC (zc9 (zbN zrH _)) zef)))
theorem zoB (b:StepT):pdD (zcc b)=some (zqC b):=zjr (zaC (zk3 _) (zaC (zk3 _) (zaC (zcV (zbN zrH _)) zef)))
theorem zss (b:JobT):pdD (zd2 b)=some (ztO b):=zjr (zaC (zk3 _) (zaC (zeE _) (zaC (zeE _) (zaC (zuz _) (zaC (zc9 (zbN zk3 _)) zef)))))
theorem zqB (b:JobT):pdD (zc3 b)=some (ztO b):=zjr (zaC (zk3 _) (zaC (zeE _) (zaC (zeE _) (zaC (zuz _) (zaC (zcV (zbN zk3 _)) zef)))))
theorem zpC (b:SetT):pdD (zcY b)=some (zuA b):=rfl
theorem zmL (b:LinkT):pdD (zbw b)=some (zsu b):=rfl
theorem zoA (b:StockT):pdD (zdm b)=some (zmQ b):=zjr (zaC (zk3 _) (zaC (zeE _) (zaC (zeE _) (zaC (zc9 (zbN zrH _)) (zaC (zc9 (zbN zrH _)) zef)))))
theorem zmM (b:StockT):pdD (zbB b)=some (zmQ b):=zjr (zaC (zk3 _) (zaC (zeE _) (zaC (zeE _) (zaC (zcV (zbN zrH _)) (zaC (zcV (zbN zrH _)) zef)))))
section
variable {bs:List BenchT} {ss:List StepT} {js:List JobT} {us:List SetT} {ls:List LinkT} {ks:List StockT} {h:Int}
def zmR (bs:List BenchT) (ss:List StepT) (js:List JobT) (us:List SetT) (ls:List LinkT) (ks:List StockT) (h:Int):PyData:=.list [.list (bs.map zmS),.list (ss.map zqC),.list (js.map ztO),.list (us.map zuA),.list (ls.map zsu),.list (ks.map zmQ),.int h]
theorem zuU:pdD (.lst (zfD bs ss js us ls ks h))=some (zmR bs ss js us ls ks h) :=
 zc9 (zaC (zc9 (zbN zoC _)) (zaC (zc9 (zbN zqA _)) (zaC (zc9 (zbN zss _)) (zaC (zc9 (zbN zpC _)) (zaC (zc9 (zbN zmL _)) (zaC (zc9 (zbN zoA _)) (zaC (zeE _) zef)))))))
theorem zuT:pdD (zcW bs ss js us ls ks h)=some (zmR bs ss js us ls ks h) :=
 zcV (zaC (zcV (zbN zmN _)) (zaC (zcV (zbN zoB _)) (zaC (zcV (zbN zqB _)) (zaC (zcV (zbN zpC _)) (zaC (zcV (zbN zmL _)) (zaC (zcV (zbN zmM _)) (zaC (zeE _) zef)))))))
theorem zdW {α:Type} {g:α->PyData} {n:Nat} {xs:List α} (h:∀ x∈xs,Sm n (g x)):Sm (n+1) (.list (xs.map g)):=fun y hy=>by
 obtain ⟨x,hx,rfl⟩:=List.mem_map.mp hy
 exact h x hx
theorem zok {n:Nat} {a b:PyData} (h1:Sm n a) (h2:Sm n b):Sm (n+1) (.tuple [a,b]):=fun y hy=>by
 simp only [qJ,qH,or_false] at hy
 rcases hy with rfl | rfl <;> assumption
theorem zr0 {n:Nat} {a b c:PyData} (h1:Sm n a) (h2:Sm n b) (h3:Sm n c):Sm (n+1) (.tuple [a,b,c]):=fun y hy=>by
 simp only [qJ,qH,or_false] at hy
 rcases hy with rfl | rfl | rfl <;> assumption
theorem ztG {n:Nat} {a b c d:PyData} (h1:Sm n a) (h2:Sm n b) (h3:Sm n c) (h4:Sm n d):Sm (n+1) (.tuple [a,b,c,d]):=fun y hy=>by
 simp only [qJ,qH,or_false] at hy
 rcases hy with rfl | rfl | rfl | rfl <;> assumption
theorem zrZ {n:Nat} {a b c d e:PyData} (h1:Sm n a) (h2:Sm n b) (h3:Sm n c) (h4:Sm n d) (h5:Sm n e):Sm (n+1) (.tuple [a,b,c,d,e]):=fun y hy=>by
 simp only [qJ,qH,or_false] at hy
 rcases hy with rfl | rfl | rfl | rfl | rfl <;> assumption
theorem zn9 (n:Nat) (i:Int):Sm (n+1) (.int i):=trivial
theorem zuP (n:Nat) (i:Bool):Sm (n+1) (.bool i):=trivial
theorem zjX {n:Nat} {x:Str} (h:za2 x=true):Sm (n+1) (.str x):=h
theorem zol (g:Good bs ss js us ls ks h):Sm 8 (zmR bs ss js us ls ks h):=by
 have bn:=g.bnn
 have sn:=g.snn
 have am:∀ {am:List (Str×Int)},GoodA (ss.map (·.nm)) am->Sm 5 (.list (am.map pW)):=fun ga=>zdW fun x hx=>zok (zjX (sn _ (ga.ws x hx).1)) (zn9 _ _)
 intro y hy
 simp only [qJ,qH,or_false] at hy
 rcases hy with rfl | rfl | rfl | rfl | rfl | rfl | rfl
 ·exact zdW fun b hb=>zok (zjX (g.b b hb).nm) (zdW fun x _=>zok (zn9 _ _) (zn9 _ _))
 ·exact zdW fun b hb=>zr0 (zjX (g.s b hb).nm) (zjX (g.s b hb).kd) (zdW fun x hx=>zok (zjX (bn _ ((g.s b hb).ws x hx).1)) (zn9 _ _))
 ·exact zdW fun b hb=>zrZ (zjX (g.j b hb).nm) (zn9 _ _) (zn9 _ _) (zuP _ _) (zdW fun x hx=>zjX (sn _ ((g.j b hb).ms x hx)))
 ·exact zdW fun b hb=>ztG (zjX (bn _ (g.u b hb).b)) (zjX (g.u b hb).p) (zjX (g.u b hb).q) (zn9 _ _)
 ·exact zdW fun b hb=>zr0 (zjX (sn _ (g.l b hb).a)) (zjX (sn _ (g.l b hb).b)) (zn9 _ _)
 ·exact zdW fun b hb=>zrZ (zjX (g.k b hb).nm) (zn9 _ _) (zn9 _ _) (am (g.k b hb).tk) (am (g.k b hb).pt)
 ·trivial
theorem zoG (g:Good bs ss js us ls ks h):neA (.lst (zfD bs ss js us ls ks h)) (zcW bs ss js us ls ks h)=some (.bl false):=zmZ rfl zuU zuT (zol g)
theorem zlv {α:Type} {f d:α->D} {fe:FE} {ρ:zaY} {n:Nat} {fv:List (Option Nat)} {fi:FA} {xs:List α} (h1:fi ρ=some (xs.map f)) (h2:xs.length<=1000) (h3:ze4 fv ρ=[none]) (h:∀ x,fe [oS (f x)]=some (d x)) (hm:∀ x,zex 8 (f x)=d x) :
  zaX (zaH fi (zaV 0) tT fe fv) ρ=some (.lst (xs.map d)):=by
 have:=zbA (fi:=fi) (fe:=fe) (fv:=fv) (ρ:=ρ) (r:=[]) (a:=none) (xs:=xs.map f) (f:=zex 8) h1 (by rw [qe];exact szN h2 (by decide)) h3 (fun x hx=>by
  obtain ⟨y,hy,rfl⟩:=List.mem_map.mp hx
  rw [hm];exact h y)
 rw [this,qm]
 exact congrArg (fun l=>some (D.lst l)) (List.map_congr_left fun x _=>hm x)
theorem zkG {x y:List D} (h1:x≠[]) (h2:y≠[]) (h3:x.length+y.length<=sizeLine):zhR (.tup x) (.tup y)=some (.tup (x++y)):=qW ⟨h1,h2,h3⟩
theorem zkh {f:FE} {ρ:zaY} {l:List D} (h:f ρ=some (.flst l)):cF zei (zab f zaj) ρ=some (.lst l):=za3 (zam h zaD) rfl
theorem zpj {f:FE} {ρ:zaY} {x:D} (h1:f ρ=some x):zca (szF (zab f zaj)) ρ=some (.tup [x]):=by
 simp only [zca,ziA h1,qd]
theorem ztY {f:FE} {ρ:zaY} {x:D} (h1:f ρ=some x):zaX (szF (zab f zaj)) ρ=some (.lst [x]):=by
 simp only [zaX,ziA h1,qd]
theorem zq2 {f g:FE} {ρ:zaY} {x y:D} (h1:f ρ=some x) (h2:g ρ=some y):zaX (szF (zab f (zab g zaj))) ρ=some (.lst [x,y]):=by
 simp only [zaX,szF,zab,zaj,h1,h2,qa,qd,qh,qk,Nat.zero_add,sz2,if_true]
theorem zjz {f:FE} {ρ:zaY} {l:List D} (h:f ρ=some (.flst l)):itF f ρ=some l:=by unfold itF;rw [h];rfl
theorem zrz {fa fb:FE} {ρ:zaY} {x y:List D} (h1:fa ρ=some (.lst x)) (h2:fb ρ=some (.lst y)) (hz:x.length+y.length<=sizeLine):zto fa fb ρ=some (x++y):=by
 unfold zto;rw [h1,qa,h2];exact qW hz
theorem zrA {x y:List D} (hz:x.length+y.length<=sizeLine):zbF (.lst x) (.lst y)=some (.lst (x++y)):=qW hz
theorem zp2 (g:Good bs ss js us ls ks h):zcM [zcW bs ss js us ls ks h]=some (.lst (zfD bs ss js us ls ks h)):=by
 have at':∀ (n:Nat) (d:D) (s:Option Slot),[.flst (bs.map zbf),.flst (ss.map zcc),.flst (js.map zc3),.flst (us.map zcY),.flst (ls.map zbw),.flst (ks.map zbB),.int h][n]?=some d->b2 ixD (vSh 0) (vC (.int (n:Int))) [oS (zcW bs ss js us ls ks h),s]=some d:=fun n d s e=>zaA rfl rfl ((zmc _ n).trans e)
 have hb:=g.bl.2
 have hs:=g.sl.2
 have hj:=g.jl
 have hk:=g.kl
 have c0:∀ s,zaX (zaH (itF (b2 ixD (vSh 0) (vC (.int 0)))) (zaV 0) tT (zca (szF (zab (b2 ixD (vSh 0) (vC (.int 0))) (zab (cF zei (zab (b2 ixD (vSh 0) (vC (.int 1))) zaj)) zaj)))) [none]) [oS (zcW bs ss js us ls ks h),s]=some (.lst (bs.map zbi)):=fun s =>
  zlv (f:=zbf) (n:=0) (zjz (at' 0 _ s rfl)) (by omega) rfl (fun x=>zc4 (zaA rfl rfl zjw) (zkh (zaA rfl rfl znl))) (zfW 5)
 have c1:∀ s,zaX (zaH (itF (b2 ixD (vSh 0) (vC (.int 1)))) (zaV 0) tT (b2 zhR (slF (vSh 0) pN (pS (vC (.int 2)))) (zca (szF (zab (cF zei (zab (b2 ixD (vSh 0) (vC (.int 2))) zaj)) zaj)))) [none]) [oS (zcW bs ss js us ls ks h),s]=some (.lst (ss.map zbl)):=fun s =>
  zlv (f:=zcc) (n:=0) (zjz (at' 1 _ s rfl)) (by omega) rfl (fun x=>zaA (x:=.tup [.str x.nm,.str x.kd]) rfl (zpj (zkh (zaA rfl rfl zrJ))) (zkG (by simp) (by simp) (by simp [sizeLine]))) (zg1 5)
 have c2:∀ s,zaX (zaH (itF (b2 ixD (vSh 0) (vC (.int 2)))) (zaV 0) tT (b2 zhR (slF (vSh 0) pN (pS (vC (.int 4)))) (zca (szF (zab (cF zei (zab (b2 ixD (vSh 0) (vC (.int 4))) zaj)) zaj)))) [none]) [oS (zcW bs ss js us ls ks h),s]=some (.lst (js.map zd2)):=fun s =>
  zlv (f:=zc3) (n:=0) (zjz (at' 2 _ s rfl)) (by omega) rfl (fun x=>zaA (x:=.tup [.str x.nm,.int x.ea,.int x.du,.bl x.od]) rfl (zpj (zkh (zaA rfl rfl zq8))) (zkG (by simp) (by simp) (by simp [sizeLine]))) (ziz 5)
 have c5:∀ s,zaX (zaH (itF (b2 ixD (vSh 0) (vC (.int 5)))) (zaV 0) tT (b2 zhR (slF (vSh 0) pN (pS (vC (.int 3)))) (zca (szF (zab (cF zei (zab (b2 ixD (vSh 0) (vC (.int 3))) zaj)) (zab (cF zei (zab (b2 ixD (vSh 0) (vC (.int 4))) zaj)) zaj))))) [none]) [oS (zcW bs ss js us ls ks h),s]=some (.lst (ks.map zdm)):=fun s =>
  zlv (f:=zbB) (n:=0) (zjz (at' 5 _ s rfl)) (by omega) rfl (fun x=>zaA (x:=.tup [.str x.nm,.int x.lo,.int x.hi]) rfl (zc4 (zkh (zaA rfl rfl zsX)) (zkh (zaA rfl rfl zq8))) (zkG (by simp) (by simp) (by simp [sizeLine]))) (zfV 5)
 have c34:∀ s,zaX (szF (zab (cF zei (zab (b2 ixD (vSh 0) (vC (.int 3))) zaj)) (zab (cF zei (zab (b2 ixD (vSh 0) (vC (.int 4))) zaj)) zaj))) [oS (zcW bs ss js us ls ks h),s]=some (.lst [.lst (us.map zcY),.lst (ls.map zbw)]):=fun s =>
  zq2 (zkh (at' 3 _ s rfl)) (zkh (at' 4 _ s rfl))
 refine za8 [oS (zcW bs ss js us ls ks h),none] rfl ((zgZ (ziA (c0 none))).trans ((zc7 (zhn (i:=1) rfl (c1 _) (by simp [sizeLine]))).trans ((zc7 (zhn (i:=1) rfl (c2 _) (by simp [sizeLine]))).trans ((zfv (i:=1) rfl).trans ((zgZ (ds:=[.lst (bs.map zbi),.lst (ss.map zbl),.lst (js.map zd2),.lst (us.map zcY),.lst (ls.map zbw)]) ?_).trans ((zc7 (zhn (i:=1) rfl (c5 _) (by simp [sizeLine]))).trans ((zfv (i:=1) rfl).trans (za6 (zaA (x:=.lst [.lst (bs.map zbi),.lst (ss.map zbl),.lst (js.map zd2),.lst (us.map zcY),.lst (ls.map zbw),.lst (ks.map zdm)]) rfl (ztY (at' 6 (.int h) _ rfl)) ?_)))))))))
 ·exact zrz (x:=[.lst (bs.map zbi),.lst (ss.map zbl),.lst (js.map zd2)]) rfl (c34 _) (by simp [sizeLine])
 ·exact zrA (x:=[.lst (bs.map zbi),.lst (ss.map zbl),.lst (js.map zd2),.lst (us.map zcY),.lst (ls.map zbw),.lst (ks.map zdm)]) (y:=[.int h]) (by simp [sizeLine])
end
end Law
end
section
namespace Law
open PySem L2
theorem zov {i j:Int} (h:0<=j/\j<=1000000/\i.natAbs < 2 ^ 64):zsk (.int i) (.int j)=some (.int (i ^ j.toNat)):=qW h
theorem ztX {f g e a:FE} {ρ:zaY} {x y z w:D} (h1:f ρ=some x) (h2:g ρ=some y) (h3:e ρ=some z) (h4:a ρ=some w):zaX (szF (zab f (zab g (zab e (zab a zaj))))) ρ=some (.lst [x,y,z,w]):=by
 simp only [zaX,szF,zab,zaj,h1,h2,h3,h4,qa,qd,qh,qk,Nat.zero_add,sz4,if_true]
theorem zsw {f g:FT} {ρ:zaY} {a b:Bool} (h1:f ρ=some a) (h2:g ρ=some b):orT f g ρ=some (a || b):=by
 unfold orT;rw [h1,qa,h2];cases a <;> rfl
theorem zk8 {α:Type} {f:α->D} {nm:α->Str} {xs:List α} {fi:FA} {ρ:zaY} (hf:∀ x,∃ r,f x=.tup (.str (nm x)::r)) (h1:fi ρ=some (xs.map f)) (h2:xs.length<=sizeLine) :
  zaX (zaH fi (zaV 0) tT (b2 ixD (vSh 0) (vC (.int 0))) [none]) ρ=some (.lst ((xs.map nm).map D.str)):=by
 have hc:=zbA (fi:=fi) (fe:=b2 ixD (vSh 0) (vC (.int 0))) (fv:=[none]) (ρ:=ρ) (r:=[]) (a:=none) (xs:=xs.map f) (f:=fun d=>match d with | .tup (x::_)=>x | _=>.non) h1 (by rw [qe];exact h2) rfl (fun x hx=>by
  obtain ⟨y,_,rfl⟩:=List.mem_map.mp hx
  obtain ⟨r,e⟩:=hf y
  simp only [b2,vSh,vC,qb,qa,e,zjw])
 rw [hc]
 congr 2
 rw [qm,qm]
 refine List.map_congr_left fun x _=>?_
 obtain ⟨r,e⟩:=hf x
 simp [e]
section
variable {bs:List BenchT} {ss:List StepT} {js:List JobT} {us:List SetT} {ls:List LinkT} {ks:List StockT} {h:Int}
theorem zt1 {l:List (Int×Int)} (hl:l.length<=1000):InD (l.map dIv):=⟨by rw [qe];exact hl,fun e he=>by
 obtain ⟨x,_,rfl⟩:=List.mem_map.mp he
 exact .inl ⟨_,_,rfl⟩⟩
theorem zt0 {l:List (Str×Int)} (hl:l.length<=1000):InD (l.map dW):=⟨by rw [qe];exact hl,fun e he=>by
 obtain ⟨x,_,rfl⟩:=List.mem_map.mp he
 exact .inr (.inl ⟨_,_,rfl⟩)⟩
theorem zuX {l:List Str} (hl:l.length<=1000):InD (l.map D.str):=⟨by rw [qe];exact hl,fun e he=>by
 obtain ⟨x,_,rfl⟩:=List.mem_map.mp he
 exact .inr (.inr ⟨_,rfl⟩)⟩
theorem zpr (g:Good bs ss js us ls ks h):Shp (.lst (bs.map zbi)) (.lst (ss.map zbl)) (js.map zd2) (.lst (us.map zcY)) (.lst (ls.map zbw)) (ks.map zdm):=by
 have hs:(ss.map (·.nm)).length<=40:=by rw [qe];exact g.sl.2
 have hb:=g.bl
 have hs':=g.sl
 refine ⟨⟨_,rfl,fun z=>?_,by rw [qe];omega,fun d hd=>?_⟩,⟨_,rfl,fun z=>?_,by rw [qe];omega,fun d hd=>?_⟩,⟨by rw [qe];have:=g.jl;omega,fun d hd=>?_⟩,⟨_,rfl,by rw [qe];have:=g.ul;omega⟩,⟨_,rfl,by rw [qe];have:=g.ll;omega⟩,⟨by rw [qe];have:=g.kl;omega,fun d hd=>?_⟩⟩
 ·have:=congrArg List.length z
  rw [qe,qk] at this
  omega
 ·obtain ⟨b,hb,rfl⟩:=List.mem_map.mp hd
  exact ⟨_,_,rfl,zt1 (by have:=(g.b b hb).len;omega)⟩
 ·have:=congrArg List.length z
  rw [qe,qk] at this
  omega
 ·obtain ⟨b,hb,rfl⟩:=List.mem_map.mp hd
  exact ⟨_,_,_,rfl,zt0 (by have:=(g.s b hb).l4;omega)⟩
 ·obtain ⟨b,hb,rfl⟩:=List.mem_map.mp hd
  exact ⟨_,_,_,_,_,rfl,zuX (by have:=(g.j b hb).ln;omega)⟩
 ·obtain ⟨b,hb,rfl⟩:=List.mem_map.mp hd
  exact ⟨_,_,_,_,_,rfl,zt0 (by have:=(g.k b hb).tk.ln;omega),zt0 (by have:=(g.k b hb).pt.ln;omega)⟩
def nms (bs:List BenchT) (ss:List StepT):D:=.lst [.lst ((bs.map (·.nm)).map D.str),.lst ((ss.map (·.nm)).map D.str)]
theorem zsL (g:Good bs ss js us ls ks h):neA (nms bs ss) (nms bs ss)=some (.bl false):=by
 have e:pdD (nms bs ss)=some (.list [.list ((bs.map (·.nm)).map PyData.str),.list ((ss.map (·.nm)).map PyData.str)]):=zc9 (zaC (zc9 (zbN zk3 _)) (zaC (zc9 (zbN zk3 _)) zef))
 refine zmZ rfl e e fun y hy=>?_
 simp only [qJ,qH,or_false] at hy
 rcases hy with rfl | rfl
 ·exact zdW fun x hx=>zjX (g.bnn x hx)
 ·exact zdW fun x hx=>zjX (g.snn x hx)
theorem zoP {Γ:Cn} {K:PySem.W.Frag} {X0 H:Hp} {vs:List V} {N:List Str} {E:Ends} {u1 u2:TS} (ns:List Int) (hlen:ns.length<=63) (hN:N.length=8) (rr:Reps Γ K H vs [.scr ns]) (q:∀ H',E.rt (.bl true) H') :
  ztv Γ K X0 (l1 zav) (lr zav) zcp zcM zcO (zmj Γ K zcN lc (ld zaJ zaG) ln u1 u2) E (zc5 N vs) H:=by
 have a0:0<=(ns.getD 21 0) % 4:=qV _ (by decide)
 have a1:(ns.getD 21 0) % 4 < 4:=qS _ (by decide)
 have c0:0<=(ns.getD 20 0) % 30:=qV _ (by decide)
 have c1:(ns.getD 20 0) % 30 < 30:=qS _ (by decide)
 have b0:0<=(ns.getD 22 0) % 10:=qV _ (by decide)
 have b1:(ns.getD 22 0) % 10 < 10:=qS _ (by decide)
 obtain ⟨n,hn⟩:∃ n:Nat,1+(ns.getD 22 0) % 10=(n:Int):=⟨(1+(ns.getD 22 0) % 10).toNat,by omega⟩
 have pw:zsk (.int 10) (.int 6)=some (.int 1000000):=zov (by decide)
 obtain ⟨h,hh,hr⟩:∃ h:Int,ixD (.lst [.int 9,.int 40,.int 1000000,.int (1+(ns.getD 20 0) % 30)]) (.int ((ns.getD 21 0) % 4))=some (.int h)/\(1<=h/\h<=1000000):=by
  have:(ns.getD 21 0) % 4=0\/(ns.getD 21 0) % 4=1\/(ns.getD 21 0) % 4=2\/(ns.getD 21 0) % 4=3:=by omega
  rcases this with z | z | z | z <;> rw [z]
  ·exact ⟨9,rfl,by decide⟩
  ·exact ⟨40,rfl,by decide⟩
  ·exact ⟨1000000,rfl,by decide⟩
  ·exact ⟨_,rfl,by omega⟩
 obtain ⟨bs,ss,js,us,ls,ks,e2,g,jl⟩:=zoN ns n h 7 (by omega) hr (by decide)
 have ml:(js.flatMap (·.ms)).length<=300:=by
  have:=ziG (f:=fun j:JobT=>j.ms) (m:=40) (l:=js) fun j hj=>qK (g.j j hj).ln (by rw [qe];exact g.sl.2)
  omega
 have e1:l1 zav [oS (.scr ns),none,none,none,none,none,none,none]=some (.int h) :=
  zaA (ztX rfl rfl (zaA rfl rfl pw) (zaA rfl (zaA (za3 (zam rfl (zam rfl zaD)) (zen ns 20)) rfl (zcl (by decide))) rfl)) (zaA (za3 (zam rfl (zam rfl zaD)) (zen ns 21)) rfl (zcl (by decide))) hh
 have e22:b2 zbF (vC (.int 1)) (b2 zcs (cF zav (zab (vSh 0) (zab (vC (.int 22)) zaj))) (vC (.int 10))) [oS (.scr ns),oS (.int h),none,none,none,none,none,none]=some (.int (n:Int)) :=
  zaA rfl (zaA (za3 (zam rfl (zam rfl zaD)) (zen ns 22)) rfl (zcl (by decide))) (by rw [← hn];rfl)
 have er:lr zav [oS (.scr ns),oS (.int h),none,none,none,none,none,none]=some [.scr ns,.int (n:Int),.int h,.int 7]:=zam rfl (zam e22 (zam rfl (zam rfl zaD)))
 have hb:=g.bl
 have hs:=g.sl
 have hT:lc (ρT (zcW bs ss js us ls ks h) (zck bs ss js us ls ks h) (oS (.lst (zfD bs ss js us ls ks h))))=some false :=
  zsw (a:=false) (b:=false) (zbb (zaA rfl rfl (zoG g))) (zbb (za3 (zam (zaA (z:=.int h) rfl rfl (ixL _ 6)) (zam rfl zaD)) (by simp only [zfZ,tyD,qa,i3,qd])))
 have hn':ln (ρT (zcW bs ss js us ls ks h) (zck bs ss js us ls ks h) (oS (.lst (zfD bs ss js us ls ks h))))=some (nms bs ss) :=
  zq2 (zk8 (f:=zbf) (nm:=(·.nm)) (xs:=bs) (fun x=>⟨_,rfl⟩) (zjz (zaA rfl rfl (zmc _ 0))) (szN (k:=8) hb.2 (by decide))) (zk8 (f:=zcc) (nm:=(·.nm)) (xs:=ss) (fun x=>⟨_,rfl⟩) (zjz (zaA rfl rfl (zmc _ 1))) (szN (k:=40) hs.2 (by decide)))
 have m0:zaG [zck bs ss js us ls ks h]=some (.lst ((bs.map (·.nm)).map D.str)):=by
  unfold zaG zcz
  exact za8 [oS (zck bs ss js us ls ks h)] rfl (za6 (zk8 (f:=zbf) (nm:=(·.nm)) (xs:=bs) (fun x=>⟨_,rfl⟩) (zjz (zfw (bs:=bs) (ss:=ss) (js:=js) (us:=us) (ls:=ls) (ks:=ks) (h:=h) 0 rfl rfl)) (szN (k:=8) hb.2 (by decide))))
 have m1:zaJ [zck bs ss js us ls ks h]=some (.lst ((ss.map (·.nm)).map D.str)):=by
  unfold zaJ zcL
  exact za8 [oS (zck bs ss js us ls ks h)] rfl (za6 (zk8 (f:=zcc) (nm:=(·.nm)) (xs:=ss) (fun x=>⟨_,rfl⟩) (zjz (zfw (bs:=bs) (ss:=ss) (js:=js) (us:=us) (ls:=ls) (ks:=ks) (h:=h) 1 rfl rfl)) (szN (k:=40) hs.2 (by decide))))
 have hD:ld zaJ zaG ((ρT (zcW bs ss js us ls ks h) (zck bs ss js us ls ks h) (oS (.lst (zfD bs ss js us ls ks h)))).set 7 (oS (nms bs ss)))=some false :=
  zbb (zaA (x:=nms bs ss) (y:=nms bs ss) (zq2 (ze2 (by decide +kernel) rfl m0) (ze2 (by decide +kernel) rfl m1)) rfl (zsL g))
 exact zsM (ds:=[.scr ns]) e1 rfl er rfl e2 (zpr g) zll (zp2 g) (zqe g ml) zll zre (zp5 g) (zpr g) hT hn' hD hN (zbO.refl H) rr q
end
end Law
end
section
namespace Law
open PySem L2 PySem.Spec PyProof.Rows
def Gam (C_Shop:Addr):Cn:=⟨fun c=>if c="Shop" then some C_Shop else none,none⟩
def zqa (K:PySem.W.Frag):Sp:=fun vs H Q _=>∃ (a:Addr) (ns:List Int),vs=[.ref a]/\SqL K H a (ns.map V.int)/\ns.length<=63/\∀ H',Q (.bl true) H'
set_option maxHeartbeats 4000000 in
theorem all_mk {l:PySem.W.OpenLaw} {w:World} {K:PySem.W.Frag} {h:Heap} {mg:Str->Option Value} {fa:Addr} (X:K.In h) (G:h.Ns mainGlobals mg) (hfa:mg "law"=some (.ref fa))
  {C_Shop:Addr} (aC_Shop:PySem.W.nsIn K mainGlobals "Shop"=some (some (.ref C_Shop)))
  (d0:Dfn K mg "_law_cell" ze0)
  (d1:Dfn K mg "_law_digits" zdO)
  (d2:Dfn K mg "_law_spans" zec)
  (d3:Dfn K mg "_law_name" zeY)
  (d4:Dfn K mg "_law_benches" zdp)
  (d5:Dfn K mg "_law_steps" zea)
  (d6:Dfn K mg "_law_jobs" zeZ)
  (d7:Dfn K mg "_law_setups" zdN)
  (d8:Dfn K mg "_law_links" zee)
  (d9:Dfn K mg "_law_stocks" zdM)
  (d10:Dfn K mg "_law_lists" zed)
  (d11:Dfn K mg "_law_twin" zeV)
  (d12:Dfn K mg "is_whole" zfM)
  (d13:Dfn K mg "is_within" zeQ)
  (d14:Dfn K mg "is_tuple" zfN)
  (d15:Dfn K mg "is_break" zfQ)
  (d16:Dfn K mg "is_list" zgP)
  (d17:Dfn K mg "are_breaks" zd9)
  (d18:Dfn K mg "is_name" zgO)
  (d19:Dfn K mg "is_bench" zfR)
  (d20:Dfn K mg "are_unlike" zd6)
  (d21:Dfn K mg "are_benches" zdK)
  (d22:Dfn K mg "is_one_of" zeR)
  (d23:Dfn K mg "is_way" ziq)
  (d24:Dfn K mg "are_ways" zfS)
  (d25:Dfn K mg "is_step" zgN)
  (d26:Dfn K mg "are_steps" zeT)
  (d27:Dfn K mg "is_job" zir)
  (d28:Dfn K mg "are_jobs" zfT)
  (d29:Dfn K mg "is_setup" zfP)
  (d30:Dfn K mg "are_setups" zd8)
  (d31:Dfn K mg "is_link" zgQ)
  (d32:Dfn K mg "are_links" zeU)
  (d33:Dfn K mg "is_amount" zeS)
  (d34:Dfn K mg "are_amounts" zdL)
  (d35:Dfn K mg "is_stock" zfO)
  (d36:Dfn K mg "are_stocks" zd7)
  (d37:Dfn K mg "first_bad_part" zcS)
  (d38:Dfn K mg "fresh" zj7)
  (d39:DfnM K C_Shop "Shop" "__init__" "Shop.__init__" zc8)
  (d40:Dfn K mg "_law_shop" zeX)
  (d41:DfnM K C_Shop "Shop" "bench_rows" "Shop.bench_rows" zcI)
  (d42:DfnM K C_Shop "Shop" "step_rows" "Shop.step_rows" zcT)
  (d43:Dfn K mg "fresh" zgR)
  (d44:DfnM K C_Shop "Shop" "job_rows" "Shop.job_rows" zcH)
  (d45:DfnM K C_Shop "Shop" "setup_rows" "Shop.setup_rows" zcG)
  (d46:DfnM K C_Shop "Shop" "link_rows" "Shop.link_rows" zcU)
  (d47:DfnM K C_Shop "Shop" "stock_rows" "Shop.stock_rows" zch)
  (d48:DfnM K C_Shop "Shop" "last_moment" "Shop.last_moment" zcq)
  (d49:Dfn K mg "_law_told" zeW)
  (d50:Dfn K mg "_law_spoil" zeb)
  (d51:DfnM K C_Shop "Shop" "step_names" "Shop.step_names" zcF)
  (d52:DfnM K C_Shop "Shop" "bench_names" "Shop.bench_names" zcr)
  (a53:PySem.W.nsIn K mainGlobals "law"=some (some (.ref f53))) (l53:K.lookup f53=some ⟨oc53,od53,.func (PySem.W.fnOf "law" "law" (zbU zgC) (zaW zgC) (zaf zgC) .none kV53 dc53 pm53 an53 cd53 ct53),sl53⟩) (c53:PySem.W.codeIn K cd53 "law"=true) (k53:PySem.W.keepIn K (.ref f53)=true)
  (pg_Shop:PySem.W.plainGet K C_Shop Str.empty=true) (hd_Shop:PySem.W.hasDictIn K C_Shop=true) (po_Shop:PySem.W.plainOver K C_Shop=true) (sa_Shop:PySem.W.findIn K (.ref C_Shop) "__setattr__"=some (some (.builtin "object.__setattr__"))) (mk_Shop:PySem.W.makesIn K C_Shop=true) (kc_Shop:PySem.W.keepIn K (.ref C_Shop)=true)
  (n0_Shop:PySem.W.findIn K (.ref C_Shop) "benches"=some none)
  (n1_Shop:PySem.W.findIn K (.ref C_Shop) "steps"=some none)
  (n2_Shop:PySem.W.findIn K (.ref C_Shop) "jobs"=some none)
  (n3_Shop:PySem.W.findIn K (.ref C_Shop) "setups"=some none)
  (n4_Shop:PySem.W.findIn K (.ref C_Shop) "links"=some none)
  (n5_Shop:PySem.W.findIn K (.ref C_Shop) "stocks"=some none)
  (n6_Shop:PySem.W.findIn K (.ref C_Shop) "horizon"=some none)
  (n7_Shop:PySem.W.findIn K (.ref C_Shop) "bench_by_name"=some none)
  (n8_Shop:PySem.W.findIn K (.ref C_Shop) "step_by_name"=some none)
  (n9_Shop:PySem.W.findIn K (.ref C_Shop) "setup_by_names"=some none)
  (n10_Shop:PySem.W.findIn K (.ref C_Shop) "job_by_step"=some none)
  (z_abs:PySem.W.nsIn K mainGlobals "abs"=some none)
  (z_all:PySem.W.nsIn K mainGlobals "all"=some none)
  (z_bool:PySem.W.nsIn K mainGlobals "bool"=some none)
  (z_dict:PySem.W.nsIn K mainGlobals "dict"=some none)
  (z_enumerate:PySem.W.nsIn K mainGlobals "enumerate"=some none)
  (z_int:PySem.W.nsIn K mainGlobals "int"=some none)
  (z_isinstance:PySem.W.nsIn K mainGlobals "isinstance"=some none)
  (z_len:PySem.W.nsIn K mainGlobals "len"=some none)
  (z_list:PySem.W.nsIn K mainGlobals "list"=some none)
  (z_max:PySem.W.nsIn K mainGlobals "max"=some none)
  (z_min:PySem.W.nsIn K mainGlobals "min"=some none)
  (z_range:PySem.W.nsIn K mainGlobals "range"=some none)
  (z_set:PySem.W.nsIn K mainGlobals "set"=some none)
  (z_str:PySem.W.nsIn K mainGlobals "str"=some none)
  (z_tuple:PySem.W.nsIn K mainGlobals "tuple"=some none)
  {tk_LONGEST_NAME:Tok} (z_LONGEST_NAME:PySem.W.nsIn K mainGlobals "LONGEST_NAME"=some (some (.int 8 tk_LONGEST_NAME)))
  {tk_MOST_AMOUNT:Tok} (z_MOST_AMOUNT:PySem.W.nsIn K mainGlobals "MOST_AMOUNT"=some (some (.int 1000000 tk_MOST_AMOUNT)))
  {tk_MOST_BENCHES:Tok} (z_MOST_BENCHES:PySem.W.nsIn K mainGlobals "MOST_BENCHES"=some (some (.int 8 tk_MOST_BENCHES)))
  {tk_MOST_BREAKS:Tok} (z_MOST_BREAKS:PySem.W.nsIn K mainGlobals "MOST_BREAKS"=some (some (.int 10 tk_MOST_BREAKS)))
  {tk_MOST_HORIZON:Tok} (z_MOST_HORIZON:PySem.W.nsIn K mainGlobals "MOST_HORIZON"=some (some (.int 1000000 tk_MOST_HORIZON)))
  {tk_MOST_JOBS:Tok} (z_MOST_JOBS:PySem.W.nsIn K mainGlobals "MOST_JOBS"=some (some (.int 40 tk_MOST_JOBS)))
  {tk_MOST_LINKS:Tok} (z_MOST_LINKS:PySem.W.nsIn K mainGlobals "MOST_LINKS"=some (some (.int 100 tk_MOST_LINKS)))
  {tk_MOST_SETUPS:Tok} (z_MOST_SETUPS:PySem.W.nsIn K mainGlobals "MOST_SETUPS"=some (some (.int 100 tk_MOST_SETUPS)))
  {tk_MOST_STEPS:Tok} (z_MOST_STEPS:PySem.W.nsIn K mainGlobals "MOST_STEPS"=some (some (.int 40 tk_MOST_STEPS)))
  {tk_MOST_STOCKS:Tok} (z_MOST_STOCKS:PySem.W.nsIn K mainGlobals "MOST_STOCKS"=some (some (.int 6 tk_MOST_STOCKS)))
  {tk_MOST_WAYS:Tok} (z_MOST_WAYS:PySem.W.nsIn K mainGlobals "MOST_WAYS"=some (some (.int 4 tk_MOST_WAYS)))
  : ∃ fd:FuncData,(∀ (s:Shared) (v:Value),BindsTo s fd ⟨[v],[]⟩ [("_law_script",v)])/\∀ base:Heap,K.In base->base.Ns mainGlobals mg->FnOk l.prog w K mg base CX0 12 fa fd ["_law_script"] (zqa K):=by
 have e:=hfa.symm.trans (PySem.W.mg_of X G a53)
 have e2:=Value.ref.inj (qF e)
 subst e2
 have B:Bn mg:=⟨PySem.W.mg_none_of X G z_abs,PySem.W.mg_none_of X G z_all,PySem.W.mg_none_of X G z_bool,PySem.W.mg_none_of X G z_dict,PySem.W.mg_none_of X G z_enumerate,PySem.W.mg_none_of X G z_int,PySem.W.mg_none_of X G z_isinstance,PySem.W.mg_none_of X G z_len,PySem.W.mg_none_of X G z_list,PySem.W.mg_none_of X G z_max,PySem.W.mg_none_of X G z_min,PySem.W.mg_none_of X G z_range,PySem.W.mg_none_of X G z_set,PySem.W.mg_none_of X G z_str,PySem.W.mg_none_of X G z_tuple,by have q:=PySem.W.mg_of X G z_LONGEST_NAME;rw [q];unfold zeD;rw [q],by have q:=PySem.W.mg_of X G z_MOST_AMOUNT;rw [q];unfold zfk;rw [q],by have q:=PySem.W.mg_of X G z_MOST_BENCHES;rw [q];unfold zeC;rw [q],by have q:=PySem.W.mg_of X G z_MOST_BREAKS;rw [q];unfold zfj;rw [q],by have q:=PySem.W.mg_of X G z_MOST_HORIZON;rw [q];unfold zeB;rw [q],by have q:=PySem.W.mg_of X G z_MOST_JOBS;rw [q];unfold zgL;rw [q],by have q:=PySem.W.mg_of X G z_MOST_LINKS;rw [q];unfold zgg;rw [q],by have q:=PySem.W.mg_of X G z_MOST_SETUPS;rw [q];unfold zfi;rw [q],by have q:=PySem.W.mg_of X G z_MOST_STEPS;rw [q];unfold zgf;rw [q],by have q:=PySem.W.mg_of X G z_MOST_STOCKS;rw [q];unfold zfh;rw [q],by have q:=PySem.W.mg_of X G z_MOST_WAYS;rw [q];unfold zgK;rw [q]⟩
 have O_Shop:ClsOk (Gam C_Shop) K mg "Shop" C_Shop:=⟨by unfold Gam;rfl,⟨pg_Shop,hd_Shop,po_Shop,sa_Shop⟩,PySem.W.mg_of X G aC_Shop,mk_Shop,kc_Shop⟩
 have cf_Shop:CF (Gam C_Shop) K "Shop" zdc:=O_Shop.cf (List.forall_mem_cons.mpr ⟨n0_Shop,(List.forall_mem_cons.mpr ⟨n1_Shop,(List.forall_mem_cons.mpr ⟨n2_Shop,(List.forall_mem_cons.mpr ⟨n3_Shop,(List.forall_mem_cons.mpr ⟨n4_Shop,(List.forall_mem_cons.mpr ⟨n5_Shop,(List.forall_mem_cons.mpr ⟨n6_Shop,(List.forall_mem_cons.mpr ⟨n7_Shop,(List.forall_mem_cons.mpr ⟨n8_Shop,(List.forall_mem_cons.mpr ⟨n9_Shop,(List.forall_mem_cons.mpr ⟨n10_Shop,(List.forall_mem_nil _)⟩)⟩)⟩)⟩)⟩)⟩)⟩)⟩)⟩)⟩)⟩)
 refine ⟨PySem.W.fnOf "law" "law" (zbU zgC) (zaW zgC) (zaf zgC) .none kV53 dc53 pm53 an53 cd53 ct53,fun s v=>.of_eq rfl,fun base _ _=>?_⟩
 have C__law_cell:Cal (Gam C_Shop) l.prog w K mg base "_law_cell" 2 1 zav:=ziZ d0 B
 have C__law_digits:Cal (Gam C_Shop) l.prog w K mg base "_law_digits" 3 1 zai:=zhl d1 B
 have C__law_spans:Cal (Gam C_Shop) l.prog w K mg base "_law_spans" 2 1 zbs:=zhO d2 B
 have C__law_name:Cal (Gam C_Shop) l.prog w K mg base "_law_name" 1 1 zaq:=ziX d3 B
 have C__law_benches:Cal (Gam C_Shop) l.prog w K mg base "_law_benches" 2 2 zbg:=zgE d4 B C__law_digits C__law_spans C__law_name
 have C__law_steps:Cal (Gam C_Shop) l.prog w K mg base "_law_steps" 4 2 zbJ:=zhM d5 B C__law_digits C__law_name
 have C__law_jobs:CalO (Gam C_Shop) l.prog w K mg base "_law_jobs" 3 2 zbX:=ziY d6 B C__law_digits C__law_name
 have C__law_setups:Cal (Gam C_Shop) l.prog w K mg base "_law_setups" 3 2 zbt:=zhk d7 B C__law_digits
 have C__law_links:Cal (Gam C_Shop) l.prog w K mg base "_law_links" 3 2 zbK:=zhQ d8 B C__law_digits
 have C__law_stocks:CalO (Gam C_Shop) l.prog w K mg base "_law_stocks" 2 2 zbr:=zhj d9 B C__law_digits C__law_name
 have C__law_lists:CalSep (Gam C_Shop) l.prog w K mg base "_law_lists" 4 3 zcp:=zhP d10 B C__law_cell C__law_benches C__law_steps C__law_jobs C__law_setups C__law_links C__law_stocks
 have C__law_twin:Cal (Gam C_Shop) l.prog w K mg base "_law_twin" 1 1 zcM:=ziU d11 B
 have C_is_whole:Cal (Gam C_Shop) l.prog w K mg base "is_whole" 1 1 zb2:=zjF d12 B
 have C_is_within:Cal (Gam C_Shop) l.prog w K mg base "is_within" 3 2 zak:=ziP d13 B C_is_whole
 have C_is_tuple:Cal (Gam C_Shop) l.prog w K mg base "is_tuple" 2 1 zal:=zjG d14 B
 have C_is_break:Cal (Gam C_Shop) l.prog w K mg base "is_break" 2 3 zb5:=zjJ d15 B C_is_within C_is_tuple
 have C_is_list:Cal (Gam C_Shop) l.prog w K mg base "is_list" 3 1 zap:=zky d16 B
 have C_are_breaks:Cal (Gam C_Shop) l.prog w K mg base "are_breaks" 2 4 zbI:=zhL d17 B C_is_break C_is_list
 have C_is_name:Cal (Gam C_Shop) l.prog w K mg base "is_name" 1 1 zaw:=zkx d18 B
 have C_is_bench:Cal (Gam C_Shop) l.prog w K mg base "is_bench" 2 5 zb6:=zjK d19 B C_are_breaks C_is_name C_is_tuple
 have C_are_unlike:Cal (Gam C_Shop) l.prog w K mg base "are_unlike" 1 1 zag:=zhI d20 B
 have C_are_benches:Cal (Gam C_Shop) l.prog w K mg base "are_benches" 2 6 zbq:=zhh d21 B C_is_bench C_is_list C_are_unlike
 have C_is_one_of:Cal (Gam C_Shop) l.prog w K mg base "is_one_of" 2 2 zar:=ziQ d22 B C_is_name
 have C_is_way:Cal (Gam C_Shop) l.prog w K mg base "is_way" 3 3 zc2:=zl4 d23 B C_is_within C_is_one_of C_is_tuple
 have C_are_ways:Cal (Gam C_Shop) l.prog w K mg base "are_ways" 3 4 zcn:=zjL d24 B C_is_way C_is_list C_are_unlike
 have C_is_step:Cal (Gam C_Shop) l.prog w K mg base "is_step" 3 5 zcA:=zkw d25 B C_is_name C_is_tuple C_are_ways
 have C_are_steps:Cal (Gam C_Shop) l.prog w K mg base "are_steps" 3 6 zbV:=ziS d26 B C_is_step C_is_list C_are_unlike
 have C_is_job:Cal (Gam C_Shop) l.prog w K mg base "is_job" 3 3 zdo:=zl5 d27 B C_is_name C_is_tuple C_is_within C_is_one_of C_is_list
 have C_are_jobs:Cal (Gam C_Shop) l.prog w K mg base "are_jobs" 3 4 zco:=zjM d28 B C_is_job C_is_list C_are_unlike
 have C_is_setup:Cal (Gam C_Shop) l.prog w K mg base "is_setup" 3 3 zb4:=zjI d29 B C_is_one_of C_is_tuple C_is_within C_is_name
 have C_are_setups:Cal (Gam C_Shop) l.prog w K mg base "are_setups" 3 4 zbH:=zhK d30 B C_is_setup C_is_list C_are_unlike
 have C_is_link:Cal (Gam C_Shop) l.prog w K mg base "is_link" 3 3 zcB:=zkz d31 B C_is_one_of C_is_tuple C_is_within
 have C_are_links:Cal (Gam C_Shop) l.prog w K mg base "are_links" 3 4 zbW:=ziT d32 B C_is_link C_is_list C_are_unlike
 have C_is_amount:Cal (Gam C_Shop) l.prog w K mg base "is_amount" 2 3 zbM:=ziR d33 B C_is_within C_is_one_of C_is_tuple
 have C_are_amounts:Cal (Gam C_Shop) l.prog w K mg base "are_amounts" 2 4 zbe:=zhi d34 B C_is_amount C_is_list C_are_unlike
 have C_is_stock:Cal (Gam C_Shop) l.prog w K mg base "is_stock" 2 5 zb3:=zjH d35 B C_is_name C_is_tuple C_is_within C_are_amounts
 have C_are_stocks:Cal (Gam C_Shop) l.prog w K mg base "are_stocks" 2 6 zbG:=zhJ d36 B C_is_stock C_is_list C_are_unlike
 have C_first_bad_part:Cal (Gam C_Shop) l.prog w K mg base "first_bad_part" 7 7 zaZ:=zfA d37 B C_is_within C_are_benches C_are_steps C_are_jobs C_are_setups C_are_links C_are_stocks
 have C_fresh:∀ n,Cal (Gam C_Shop) l.prog w K mg base "fresh" 1 n (zdy n):=fun n=>by
  induction n with
  | zero=>exact Dfn.none (ps:=["thing"]) d38 (fun _ _ _ _ _ _ us hl=>match us,hl with | [_],_=>rfl)
  | succ n ih=>exact znY d38 B ih
 replace C_fresh:Cal (Gam C_Shop) l.prog w K mg base "fresh" 1 8 zay:=C_fresh 8
 have C_Shop___init__:CalI (Gam C_Shop) l.prog w K mg base "Shop" 7 9 za7:=zf6 O_Shop d39 B C_first_bad_part C_fresh cf_Shop
 have C__law_shop:Cal (Gam C_Shop) l.prog w K mg base "_law_shop" 1 11 zcO:=ziW d40 B C_Shop___init__
 have C_Shop_bench_rows:CalM (Gam C_Shop) l.prog w K mg base "Shop" "bench_rows" 1 9 zaU:=zfa O_Shop d41 B C_fresh cf_Shop
 have C_Shop_step_rows:CalM (Gam C_Shop) l.prog w K mg base "Shop" "step_rows" 1 9 za0:=zfB O_Shop d42 B C_fresh cf_Shop
 have C_fresh_O:CalO (Gam C_Shop) l.prog w K mg base "fresh" 1 9 zbp:=zkA d43 B C_fresh
 have C_Shop_job_rows_O:CalMO (Gam C_Shop) l.prog w K mg base "Shop" "job_rows" 1 10 zaT:=ze9 O_Shop d44 B C_fresh_O cf_Shop
 have C_Shop_setup_rows:CalM (Gam C_Shop) l.prog w K mg base "Shop" "setup_rows" 1 9 zaS:=ze8 O_Shop d45 B C_fresh cf_Shop
 have C_Shop_link_rows:CalM (Gam C_Shop) l.prog w K mg base "Shop" "link_rows" 1 9 za1:=zfC O_Shop d46 B C_fresh cf_Shop
 have C_Shop_stock_rows_O:CalMO (Gam C_Shop) l.prog w K mg base "Shop" "stock_rows" 1 10 zaO:=zeo O_Shop d47 B C_fresh_O cf_Shop
 have C_Shop_last_moment:CalM (Gam C_Shop) l.prog w K mg base "Shop" "last_moment" 1 1 zaL:=zez O_Shop d48 B cf_Shop
 have C__law_told:CalSep (Gam C_Shop) l.prog w K mg base "_law_told" 1 11 zcN:=ziV d49 B C_Shop_bench_rows C_Shop_step_rows C_Shop_job_rows_O C_Shop_setup_rows C_Shop_link_rows C_Shop_stock_rows_O C_Shop_last_moment
 have C__law_spoil:CalSp l.prog w K mg base "_law_spoil" 1:=zhN d50 B
 have C_Shop_step_names:CalM (Gam C_Shop) l.prog w K mg base "Shop" "step_names" 1 1 zaJ:=ze7 O_Shop d51 B cf_Shop
 have C_Shop_bench_names:CalM (Gam C_Shop) l.prog w K mg base "Shop" "bench_names" 1 1 zaG:=zeA O_Shop d52 B cf_Shop
 have FL:=znu (st:=zgC) l53 c53 k53
 refine FL.ok (k:=11) zgi (fun vs H Q E h=>?_) (fun cdv A outer s H vs Q E hr h=>?_)
 ·obtain ⟨_,_,rfl,_⟩:=h;rfl
 ·obtain ⟨a,ns,rfl,hS,hlen,kk⟩:=h
  have hb:=zrs B C__law_lists C__law_twin C__law_shop C__law_told C__law_spoil C__law_cell C_Shop_step_names C_Shop_bench_names fa cdv A outer s H E hr
  exact ⟨_,hb,zoP (Γ:=Gam C_Shop) (X0:=H) (N:=["_law_script","_law_horizon","_law_lists_here","_law_due","_law_shop_here","_law_turn","_law_told_here","_law_names"]) (E:={ nx:=fun _ H'=>Q .non H',rt:=Q }) (u1:=zoe (tC (.bl false))) (u2:=zoe (tC (.bl false))) ns hlen rfl (.cons (.scr hS) .nil) kk⟩
theorem walk {l:PySem.W.OpenLaw} {q:Program} {loose:List Str} {XP:(Str->Option Value)->Heap->Prop} {YP:World->Heap->Prop} {d:DefRec} {K:Params->PySem.W.Frag} (hn:l.most=some 63) (hdf:d.params.defaults=[])
  (hY:∀ (w:World) (h:Heap),YP w h->(K w.params).In h)
  (F:∀ (w:World) (mg:Str->Option Value) (fa:Addr) (h:Heap),(K w.params).In h->h.Ns mainGlobals mg->mg d.name=some (.ref fa) ->
   ∃ fd:FuncData,(∀ (s:Shared) (u:Value),BindsTo s fd ⟨[u],[]⟩ [("_law_script",u)])/\∀ base:Heap,(K w.params).In base->base.Ns mainGlobals mg->FnOk l.prog w (K w.params) mg base CX0 12 fa fd ["_law_script"] (zqa (K w.params))) :
  PySem.W.WalkO q loose XP YP l.row.toRowW d [] (fun f vs=>PySem.call f vs) :=
 L2.walk_of (n:=63) (k:=12) (x:="_law_script") (CX:=fun _=>CX0) (sp:=fun w=>zqa (K w.params)) hn (by decide) hdf ⟨rfl,by decide,by decide⟩ hY F (fun _ _ a ns hl _ hS=>⟨a,ns,rfl,hS,hl,fun _=>rfl⟩) fun _ _ _ _ _ z=>z
end Law
def PySem.W.Fast.tw2539822713839130122:Unit:=()
def PySem.W.Fast.tw18117024816403132983:Unit:=()
def PySem.W.Fast.tw14969086222315359278:Unit:=()
def PySem.W.Fast.tw3895385002378767090:Unit:=()
def PySem.W.Fast.tw17794065125880999892:Unit:=()
def PySem.W.Fast.tw17020241572543801941:Unit:=()
def PySem.W.Fast.tw16398444075592574683:Unit:=()
def PySem.W.Fast.tw9316151082013036155:Unit:=()
def PySem.W.Fast.tw4423914182112133997:Unit:=()
def PySem.W.Fast.tw13310915967978283107:Unit:=()
def PySem.W.Fast.tw8767881668185516306:Unit:=()
def PySem.W.Fast.tw3376115232396182920:Unit:=()
def PySem.W.Fast.tw973411204756497321:Unit:=()
def PySem.W.Fast.tw1022558482349004986:Unit:=()
def PySem.W.Fast.tw13267856019209543186:Unit:=()
def PySem.W.Fast.tw11310504248546399794:Unit:=()
def PySem.W.Fast.tw12872353173229216929:Unit:=()
def PySem.W.Fast.tw5845871847659050803:Unit:=()
def PySem.W.Fast.tw12441724721349063354:Unit:=()
def PySem.W.Fast.tw13261265362289916227:Unit:=()
def PySem.W.Fast.tw202312973902517790:Unit:=()
def PySem.W.Fast.tw11296492803395142734:Unit:=()
def PySem.W.Fast.tw7819001325941004274:Unit:=()
def PySem.W.Fast.tw7604145652493820503:Unit:=()
def PySem.W.Fast.tw14794913186582689178:Unit:=()
def PySem.W.Fast.tw16737730597134803491:Unit:=()
def PySem.W.Fast.tw768601101375759441:Unit:=()
def PySem.W.Fast.tw11610452990494147253:Unit:=()
def PySem.W.Fast.tw16705089207264572305:Unit:=()
def PySem.W.Fast.tw8564496963873229054:Unit:=()
def PySem.W.Fast.tw12023246764019189227:Unit:=()
def PySem.W.Fast.tw5940041982283746528:Unit:=()
def PySem.W.Fast.tw18247002079115042045:Unit:=()
def PySem.W.Fast.tw11861419135750312495:Unit:=()
def PySem.W.Fast.tw5693947673090697524:Unit:=()
def PySem.W.Fast.tw9498681651405870953:Unit:=()
def PySem.W.Fast.tw4885910598265536081:Unit:=()
def PySem.W.Fast.tw4623726302205944887:Unit:=()
def PySem.W.Fast.tw16704235243862536780:Unit:=()
def PySem.W.Fast.tw14777946773636963375:Unit:=()
def PySem.W.Fast.tw16195485181744579889:Unit:=()
def PySem.W.Fast.tw4684321231858307051:Unit:=()
def PySem.W.Fast.tw13711372358715982956:Unit:=()
def PySem.W.Fast.tw8486691037116506583:Unit:=()
def PySem.W.Fast.tw26661812709330602:Unit:=()
def PySem.W.Fast.tw2166947244365692967:Unit:=()
def PySem.W.Fast.tw10603067701757523190:Unit:=()
def PySem.W.Fast.tw11817106399678459162:Unit:=()
def PySem.W.Fast.tw1256794967283379823:Unit:=()
def PySem.W.Fast.tw10146449906522167226:Unit:=()
def PySem.W.Fast.tw14345171046724593955:Unit:=()
def PySem.W.Fast.tw13964760892966866252:Unit:=()
def PySem.W.Fast.tw3041677776303971448:Unit:=()
def PySem.W.Fast.tw9129659984727246578:Unit:=()
def PySem.W.Fast.tw6105029718255261798:Unit:=()
def PySem.W.Fast.tw6519594585090605869:Unit:=()
def PySem.W.Fast.tw3488453000273042544:Unit:=()
def PySem.W.Fast.tw17501557996588454663:Unit:=()
def PySem.W.Fast.tw4331454856509464993:Unit:=()
def PySem.W.Fast.tw3406116208108663050:Unit:=()
open PySem PySem.W PyProof.Rows L2
set_option maxRecDepth 100000 in
set_option maxHeartbeats 0 in
theorem PySem.Challenge.cw_shopbound_k01_shops_tell_their_lists_holds : PySem.Challenge.rw_shopbound_k01_shops_tell_their_lists.Holds := by
 w_on;o_law;k_head;(case hw=>w_witness2)
 k_fill
 refine Law.walk (l:=PySem.Challenge.rw_shopbound_k01_shops_tell_their_lists) rfl rfl (fun w h Y=>PySem.W.kIn_of Y) ?F
 case F =>
  intro w mg fa h KX G hmg
  refine' Law.all_mk KX G hmg ?aC_Shop ?d0 ?d1 ?d2 ?d3 ?d4 ?d5 ?d6 ?d7 ?d8 ?d9 ?d10 ?d11 ?d12 ?d13 ?d14 ?d15 ?d16 ?d17 ?d18 ?d19 ?d20 ?d21 ?d22 ?d23 ?d24 ?d25 ?d26 ?d27 ?d28 ?d29 ?d30 ?d31 ?d32 ?d33 ?d34 ?d35 ?d36 ?d37 ?d38 ?d39 ?d40 ?d41 ?d42 ?d43 ?d44 ?d45 ?d46 ?d47 ?d48 ?d49 ?d50 ?d51 ?d52 ?a53 ?l53 ?c53 ?k53 ?pg_Shop ?hd_Shop ?po_Shop ?sa_Shop ?mk_Shop ?kc_Shop ?n0_Shop ?n1_Shop ?n2_Shop ?n3_Shop ?n4_Shop ?n5_Shop ?n6_Shop ?n7_Shop ?n8_Shop ?n9_Shop ?n10_Shop ?z_abs ?z_all ?z_bool ?z_dict ?z_enumerate ?z_int ?z_isinstance ?z_len ?z_list ?z_max ?z_min ?z_range ?z_set ?z_str ?z_tuple ?z_LONGEST_NAME ?z_MOST_AMOUNT ?z_MOST_BENCHES ?z_MOST_BREAKS ?z_MOST_HORIZON ?z_MOST_JOBS ?z_MOST_LINKS ?z_MOST_SETUPS ?z_MOST_STEPS ?z_MOST_STOCKS ?z_MOST_WAYS
  (case aC_Shop=>k_is)
  (case d0=>refine' Dfn.mk' KX G ?a ?l ?c ?k;(case a=>k_is);(case l=>k_is);(case c=>k_is);(case k=>k_is))
  (case d1=>refine' Dfn.mk' KX G ?a ?l ?c ?k;(case a=>k_is);(case l=>k_is);(case c=>k_is);(case k=>k_is))
  (case d2=>refine' Dfn.mk' KX G ?a ?l ?c ?k;(case a=>k_is);(case l=>k_is);(case c=>k_is);(case k=>k_is))
  (case d3=>refine' Dfn.mk' KX G ?a ?l ?c ?k;(case a=>k_is);(case l=>k_is);(case c=>k_is);(case k=>k_is))
  (case d4=>refine' Dfn.mk' KX G ?a ?l ?c ?k;(case a=>k_is);(case l=>k_is);(case c=>k_is);(case k=>k_is))
  (case d5=>refine' Dfn.mk' KX G ?a ?l ?c ?k;(case a=>k_is);(case l=>k_is);(case c=>k_is);(case k=>k_is))
  (case d6=>refine' Dfn.mk' KX G ?a ?l ?c ?k;(case a=>k_is);(case l=>k_is);(case c=>k_is);(case k=>k_is))
  (case d7=>refine' Dfn.mk' KX G ?a ?l ?c ?k;(case a=>k_is);(case l=>k_is);(case c=>k_is);(case k=>k_is))
  (case d8=>refine' Dfn.mk' KX G ?a ?l ?c ?k;(case a=>k_is);(case l=>k_is);(case c=>k_is);(case k=>k_is))
  (case d9=>refine' Dfn.mk' KX G ?a ?l ?c ?k;(case a=>k_is);(case l=>k_is);(case c=>k_is);(case k=>k_is))
  (case d10=>refine' Dfn.mk' KX G ?a ?l ?c ?k;(case a=>k_is);(case l=>k_is);(case c=>k_is);(case k=>k_is))
  (case d11=>refine' Dfn.mk' KX G ?a ?l ?c ?k;(case a=>k_is);(case l=>k_is);(case c=>k_is);(case k=>k_is))
  (case d12=>refine' Dfn.mk' KX G ?a ?l ?c ?k;(case a=>k_is);(case l=>k_is);(case c=>k_is);(case k=>k_is))
  (case d13=>refine' Dfn.mk' KX G ?a ?l ?c ?k;(case a=>k_is);(case l=>k_is);(case c=>k_is);(case k=>k_is))
  (case d14=>refine' Dfn.mk' KX G ?a ?l ?c ?k;(case a=>k_is);(case l=>k_is);(case c=>k_is);(case k=>k_is))
  (case d15=>refine' Dfn.mk' KX G ?a ?l ?c ?k;(case a=>k_is);(case l=>k_is);(case c=>k_is);(case k=>k_is))
  (case d16=>refine' Dfn.mk' KX G ?a ?l ?c ?k;(case a=>k_is);(case l=>k_is);(case c=>k_is);(case k=>k_is))
  (case d17=>refine' Dfn.mk' KX G ?a ?l ?c ?k;(case a=>k_is);(case l=>k_is);(case c=>k_is);(case k=>k_is))
  (case d18=>refine' Dfn.mk' KX G ?a ?l ?c ?k;(case a=>k_is);(case l=>k_is);(case c=>k_is);(case k=>k_is))
  (case d19=>refine' Dfn.mk' KX G ?a ?l ?c ?k;(case a=>k_is);(case l=>k_is);(case c=>k_is);(case k=>k_is))
  (case d20=>refine' Dfn.mk' KX G ?a ?l ?c ?k;(case a=>k_is);(case l=>k_is);(case c=>k_is);(case k=>k_is))
  (case d21=>refine' Dfn.mk' KX G ?a ?l ?c ?k;(case a=>k_is);(case l=>k_is);(case c=>k_is);(case k=>k_is))
  (case d22=>refine' Dfn.mk' KX G ?a ?l ?c ?k;(case a=>k_is);(case l=>k_is);(case c=>k_is);(case k=>k_is))
  (case d23=>refine' Dfn.mk' KX G ?a ?l ?c ?k;(case a=>k_is);(case l=>k_is);(case c=>k_is);(case k=>k_is))
  (case d24=>refine' Dfn.mk' KX G ?a ?l ?c ?k;(case a=>k_is);(case l=>k_is);(case c=>k_is);(case k=>k_is))
  (case d25=>refine' Dfn.mk' KX G ?a ?l ?c ?k;(case a=>k_is);(case l=>k_is);(case c=>k_is);(case k=>k_is))
  (case d26=>refine' Dfn.mk' KX G ?a ?l ?c ?k;(case a=>k_is);(case l=>k_is);(case c=>k_is);(case k=>k_is))
  (case d27=>refine' Dfn.mk' KX G ?a ?l ?c ?k;(case a=>k_is);(case l=>k_is);(case c=>k_is);(case k=>k_is))
  (case d28=>refine' Dfn.mk' KX G ?a ?l ?c ?k;(case a=>k_is);(case l=>k_is);(case c=>k_is);(case k=>k_is))
  (case d29=>refine' Dfn.mk' KX G ?a ?l ?c ?k;(case a=>k_is);(case l=>k_is);(case c=>k_is);(case k=>k_is))
  (case d30=>refine' Dfn.mk' KX G ?a ?l ?c ?k;(case a=>k_is);(case l=>k_is);(case c=>k_is);(case k=>k_is))
  (case d31=>refine' Dfn.mk' KX G ?a ?l ?c ?k;(case a=>k_is);(case l=>k_is);(case c=>k_is);(case k=>k_is))
  (case d32=>refine' Dfn.mk' KX G ?a ?l ?c ?k;(case a=>k_is);(case l=>k_is);(case c=>k_is);(case k=>k_is))
  (case d33=>refine' Dfn.mk' KX G ?a ?l ?c ?k;(case a=>k_is);(case l=>k_is);(case c=>k_is);(case k=>k_is))
  (case d34=>refine' Dfn.mk' KX G ?a ?l ?c ?k;(case a=>k_is);(case l=>k_is);(case c=>k_is);(case k=>k_is))
  (case d35=>refine' Dfn.mk' KX G ?a ?l ?c ?k;(case a=>k_is);(case l=>k_is);(case c=>k_is);(case k=>k_is))
  (case d36=>refine' Dfn.mk' KX G ?a ?l ?c ?k;(case a=>k_is);(case l=>k_is);(case c=>k_is);(case k=>k_is))
  (case d37=>refine' Dfn.mk' KX G ?a ?l ?c ?k;(case a=>k_is);(case l=>k_is);(case c=>k_is);(case k=>k_is))
  (case d38=>refine' Dfn.mk' KX G ?a ?l ?c ?k;(case a=>k_is);(case l=>k_is);(case c=>k_is);(case k=>k_is))
  (case d39=>refine' DfnM.mk' ?a ?i ?l ?c ?k;(case a=>k_is);(case i=>k_is);(case l=>k_is);(case c=>k_is);(case k=>k_is))
  (case d40=>refine' Dfn.mk' KX G ?a ?l ?c ?k;(case a=>k_is);(case l=>k_is);(case c=>k_is);(case k=>k_is))
  (case d41=>refine' DfnM.mk' ?a ?i ?l ?c ?k;(case a=>k_is);(case i=>k_is);(case l=>k_is);(case c=>k_is);(case k=>k_is))
  (case d42=>refine' DfnM.mk' ?a ?i ?l ?c ?k;(case a=>k_is);(case i=>k_is);(case l=>k_is);(case c=>k_is);(case k=>k_is))
  (case d43=>refine' Dfn.mk' KX G ?a ?l ?c ?k;(case a=>k_is);(case l=>k_is);(case c=>k_is);(case k=>k_is))
  (case d44=>refine' DfnM.mk' ?a ?i ?l ?c ?k;(case a=>k_is);(case i=>k_is);(case l=>k_is);(case c=>k_is);(case k=>k_is))
  (case d45=>refine' DfnM.mk' ?a ?i ?l ?c ?k;(case a=>k_is);(case i=>k_is);(case l=>k_is);(case c=>k_is);(case k=>k_is))
  (case d46=>refine' DfnM.mk' ?a ?i ?l ?c ?k;(case a=>k_is);(case i=>k_is);(case l=>k_is);(case c=>k_is);(case k=>k_is))
  (case d47=>refine' DfnM.mk' ?a ?i ?l ?c ?k;(case a=>k_is);(case i=>k_is);(case l=>k_is);(case c=>k_is);(case k=>k_is))
  (case d48=>refine' DfnM.mk' ?a ?i ?l ?c ?k;(case a=>k_is);(case i=>k_is);(case l=>k_is);(case c=>k_is);(case k=>k_is))
  (case d49=>refine' Dfn.mk' KX G ?a ?l ?c ?k;(case a=>k_is);(case l=>k_is);(case c=>k_is);(case k=>k_is))
  (case d50=>refine' Dfn.mk' KX G ?a ?l ?c ?k;(case a=>k_is);(case l=>k_is);(case c=>k_is);(case k=>k_is))
  (case d51=>refine' DfnM.mk' ?a ?i ?l ?c ?k;(case a=>k_is);(case i=>k_is);(case l=>k_is);(case c=>k_is);(case k=>k_is))
  (case d52=>refine' DfnM.mk' ?a ?i ?l ?c ?k;(case a=>k_is);(case i=>k_is);(case l=>k_is);(case c=>k_is);(case k=>k_is))
  (case a53=>k_is)
  (case l53=>k_is)
  (case c53=>k_is)
  (case k53=>k_is)
  (case pg_Shop=>k_is)
  (case hd_Shop=>k_is)
  (case po_Shop=>k_is)
  (case sa_Shop=>k_is)
  (case mk_Shop=>k_is)
  (case kc_Shop=>k_is)
  (case n0_Shop=>k_is)
  (case n1_Shop=>k_is)
  (case n2_Shop=>k_is)
  (case n3_Shop=>k_is)
  (case n4_Shop=>k_is)
  (case n5_Shop=>k_is)
  (case n6_Shop=>k_is)
  (case n7_Shop=>k_is)
  (case n8_Shop=>k_is)
  (case n9_Shop=>k_is)
  (case n10_Shop=>k_is)
  (case z_abs=>k_is)
  (case z_all=>k_is)
  (case z_bool=>k_is)
  (case z_dict=>k_is)
  (case z_enumerate=>k_is)
  (case z_int=>k_is)
  (case z_isinstance=>k_is)
  (case z_len=>k_is)
  (case z_list=>k_is)
  (case z_max=>k_is)
  (case z_min=>k_is)
  (case z_range=>k_is)
  (case z_set=>k_is)
  (case z_str=>k_is)
  (case z_tuple=>k_is)
  (case z_LONGEST_NAME=>k_is)
  (case z_MOST_AMOUNT=>k_is)
  (case z_MOST_BENCHES=>k_is)
  (case z_MOST_BREAKS=>k_is)
  (case z_MOST_HORIZON=>k_is)
  (case z_MOST_JOBS=>k_is)
  (case z_MOST_LINKS=>k_is)
  (case z_MOST_SETUPS=>k_is)
  (case z_MOST_STEPS=>k_is)
  (case z_MOST_STOCKS=>k_is)
  (case z_MOST_WAYS=>k_is)
end
end
