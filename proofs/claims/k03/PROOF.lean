import PyProof.Rows.All
import Wide.All
import OpenK.AllK
import Wide.FinOn
import Lean
import PyProof.EqAt
import PyProof.EqKinds
import PyProof.TupleCall
import KE.KDictOf
import PyProof.AttrMiss
import PyProof.IsiH_list
import PySem.SetOps
import KE.KEqDict
import KE.KItemsList
import KE.KDictSum
import KE.KRevSl
import PyProof.Rows.SortStr
import PyProof.Rows.SortWalk
import PyProof.DictWalks
import PyProof.StrLawsTight
import KE.KIntText
import PyProof.Rows.StrIntSpec
import PyProof.StrLawsJoin
import KE.KTryMore
import PyProof.NsDelKeeps
import PyProof.ExcAttrAll.ValueError
import PyProof.StrReplace2
import PyProof.ReprStr
import PyProof.Rows.RuleU_int
import KE.RegKIsAll
import KE.RegKTryMore
import PyProof.InstStoreFacts
import PyProof.ExcInit
import PySem.Challenge.RW_shopbound_k03_no_shop
set_option Elab.async false
set_option linter.all false
set_option maxRecDepth 100000
theorem oBd {α:Type u} {β:Type v} {o:Option α} {f:α->Option β} {b:β} (h:o.bind f=some b):∃ a,o=some a/\f a=some b:=Option.bind_eq_some_iff.mp h
theorem oMd {α:Type u} {β:Type v} {o:Option α} {f:α->β} {b:β} (h:o.map f=some b):∃ a,o=some a/\f a=b:=Option.map_eq_some_iff.mp h
noncomputable section
section
open PySem PySem.Spec PyProof.Rows
def qa:=@Option.bind_some
def qb:=@List.getElem?_cons_zero
def qc:=@List.getElem?_cons_succ
def qd:=@Option.map_some
def qe:=@List.length_map
def qf:=@List.mem_cons_self
def qg:=@List.mem_cons_of_mem
def qh:=@List.length_cons
def qi:=@List.length_append
def qj:=@List.getElem?_map
def qk:=@List.length_nil
def ql:=@List.map_cons
def qm:=@List.map_map
def qo:=@List.cons_append
def qp:=@Bool.false_eq_true
def qq:=@Bool.false_ne_true
def qr:=@Heap.get?_push_of_some
def qt:=@Heap.lt_size
def qu:=@Nat.le_refl
def qv:=@wpAny_bind
def qw:=@List.getElem?_set_ne
def qx:=@List.getElem?_append_left
def qy:=@wpAny_pure
def qz:=@List.size_toArray
def qA:=@Nat.ne_of_lt
def qB:=@List.getElem?_eq_getElem
def qC:=@List.length_take
def qD:=@Nat.lt_of_lt_of_le
def qE:=@Heap.get?_push_size
def qF:=@Option.some.inj
def qG:=@Array.getElem?_toList
def qH:=@List.not_mem_nil
def qI:=@List.getElem?_append_right
def qJ:=@List.mem_cons
def qK:=@Nat.le_trans
def qL:=@decide_eq_false
def qM:=@List.map_nil
def qN:=@List.mem_of_getElem?
def qO:=@List.mem_append_right
def qP:=@List.nil_append
def qQ:=@decide_eq_true
def qR:=@wpAny_holding
def qS:=@List.length_range
def qT:=@Int.emod_lt_of_pos
def qU:=@List.length_singleton
def qV:=@List.mem_map_of_mem
def qW:=@Int.emod_nonneg
def qX:=@if_pos
def qY:=@if_neg
end
section
namespace L2
open PySem PySem.Spec PyProof.Rows
abbrev Key:=Sum Int Str
def zkz:Key->Value->Bool
 | .inl k,v=>Value.isInt k v
 | .inr x,v=>Value.isStrOf x v
def zt2 (w:World):Key->Int
 | .inl k=>hashInt k
 | .inr x=>hashStr w x
theorem zbx:∀ {k:Key} {v:Value},zkz k v=true->(∃ i t,k=Sum.inl i/\v=Value.int i t)\/(∃ x t,k=Sum.inr x/\v=Value.str x t)
 | .inl i,v,h=>by
  obtain ⟨t,e⟩:=Value.isInt_shape (k:=i) (v:=v) h
  exact .inl ⟨i,t,rfl,e⟩
 | .inr x,v,h=>by
  obtain ⟨t,e⟩:=Value.isStrOf_shape (x:=x) (v:=v) h
  exact .inr ⟨x,t,rfl,e⟩
theorem zlN (i:Int) (t:Tok):zkz (.inl i) (.int i t)=true:=by simp [zkz,Value.isInt]
theorem zlM (x:Str) (t:Tok):zkz (.inr x) (.str x t)=true:=by simp [zkz,Value.isStrOf]
theorem zrf (a b:Int):decide ((Sum.inl a:Key)=Sum.inl b)=(a==b):=by
 by_cases e:a=b
 ·subst e;simp
 ·have h:¬ (Sum.inl a:Key)=Sum.inl b:=fun q=>e (Sum.inl.inj q)
  rw [qL h]
  exact (beq_eq_false_iff_ne.mpr e).symm
theorem zrc (a b:Str):decide ((Sum.inr a:Key)=Sum.inr b)=decide (a=b):=by
 by_cases e:a=b
 ·subst e;simp
 ·have h:¬ (Sum.inr a:Key)=Sum.inr b:=fun q=>e (Sum.inr.inj q)
  rw [qL h,qL e]
theorem zre (a:Int) (b:Str):decide ((Sum.inl a:Key)=Sum.inr b)=false:=qL (fun q=>nomatch q)
theorem zrd (a:Str) (b:Int):decide ((Sum.inr a:Key)=Sum.inl b)=false:=qL (fun q=>nomatch q)
def zba (prog:Program) (w:World):PySem.KeyKind prog w Key where
 is:=zkz
 hash:=zt2 w
 inj:=fun v a b ha hb=>by
  rcases zbx ha with ⟨i,t,rfl,rfl⟩ | ⟨x,t,rfl,rfl⟩
  ·rcases zbx hb with ⟨j,u,rfl,e⟩ | ⟨y,u,rfl,e⟩
   ·injection e with e1 _;rw [e1]
   ·exact nomatch e
  ·rcases zbx hb with ⟨j,u,rfl,e⟩ | ⟨y,u,rfl,e⟩
   ·exact nomatch e
   ·injection e with e1 _;rw [e1]
 byValue:=fun k v h=>by
  rcases zbx h with ⟨i,t,rfl,rfl⟩ | ⟨x,t,rfl,rfl⟩ <;> rfl
 pyHash:=fun hv h=>by
  rcases zbx hv with ⟨i,t,rfl,rfl⟩ | ⟨x,t,rfl,rfl⟩
  ·exact wpAny_pyHash_int h
  ·exact wpAny_pyHash_str h
 eqBool:=fun hu hv h=>by
  rcases zbx hu with ⟨i,t,rfl,rfl⟩ | ⟨x,t,rfl,rfl⟩
  ·rcases zbx hv with ⟨j,u,rfl,rfl⟩ | ⟨y,u,rfl,rfl⟩
   ·rw [zrf] at h;exact wpAny_eqBool_int h
   ·rw [zre] at h;exact SeqAt.EqAt.int_str i t y u _ _ _ _ h
  ·rcases zbx hv with ⟨j,u,rfl,rfl⟩ | ⟨y,u,rfl,rfl⟩
   ·rw [zrd] at h;exact SeqAt.EqAt.str_int x t j u _ _ _ _ h
   ·rw [zrc] at h;exact wpAny_eqBool_str h
 «strs»:=fun k x t v h=>by
  rcases zbx h with ⟨i,u,rfl,e⟩ | ⟨y,u,rfl,e⟩
  ·exact nomatch e
  ·injection e with e1 _
   subst e1
   cases v <;> rfl
theorem zja (prog:Program) (w:World) (i:Int) (t:Tok):(zba prog w).is (.inl i) (.int i t)=true:=zlN i t
theorem zi9 (prog:Program) (w:World) (x:Str) (t:Tok):(zba prog w).is (.inr x) (.str x t)=true:=zlM x t
end L2
namespace L2
open PySem PySem.Spec PyProof.Rows
inductive V where
 | non | bl (b:Bool) | int (i:Int) | str (x:Str) | byt (b:Array UInt8) | flt (b:UInt64) | ref (a:Addr) | ty (n:String)
 deriving DecidableEq
def zb9:V->Value->Prop
 | .non,u=>u=Value.none
 | .bl b,u=>u=Value.bool b
 | .int i,u=>∃ t,u=Value.int i t
 | .str x,u=>∃ t,u=Value.str x t
 | .byt b,u=>∃ t,u=Value.bytes b t
 | .flt b,u=>∃ t,u=Value.float b t
 | .ref a,u=>u=Value.ref a
 | .ty n,u=>u=Value.type n
abbrev zbS:List V->List Value->Prop:=Paired zb9
theorem zbS.length {xs:List V} {us:List Value} (r:zbS xs us):xs.length=us.length:=Paired.length r
theorem zbS.get:∀ {xs:List V} {us:List Value} {i:Nat} {x:V},zbS xs us->xs[i]?=some x->∃ u,us[i]?=some u/\zb9 x u
 | _,_,_,_,.nil,e=>by simp at e
 | _,_,0,_,.cons r _,e=>by simp at e;subst e;exact ⟨_,rfl,r⟩
 | _,_,i+1,x,.cons _ t,e=>by
  obtain ⟨u,h1,h2⟩:=zbS.get (i:=i) (x:=x) t (by simpa using e)
  exact ⟨u,by simpa using h1,h2⟩
theorem zbS.set {x:V} {u:Value} (r:zb9 x u):∀ {xs:List V} {us:List Value} (i:Nat),zbS xs us->zbS (xs.set i x) (us.set i u)
 | _,_,_,.nil=>.nil
 | _,_,0,.cons _ t=>.cons r t
 | _,_,i+1,.cons q t=>.cons q (zbS.set r i t)
theorem zbS.append:∀ {xs ys:List V} {us ws:List Value},zbS xs us->zbS ys ws->zbS (xs++ys) (us++ws)
 | _,_,_,_,.nil,s=>s
 | _,_,_,_,.cons r t,s=>.cons r (zbS.append t s)
theorem zbS.take:∀ {xs:List V} {us:List Value} (n:Nat),zbS xs us->zbS (xs.take n) (us.take n)
 | _,_,0,_=>.nil
 | _,_,_+1,.nil=>.nil
 | _,_,n+1,.cons r t=>.cons r (zbS.take n t)
theorem zbS.drop:∀ {xs:List V} {us:List Value} (n:Nat),zbS xs us->zbS (xs.drop n) (us.drop n)
 | _,_,0,r=>r
 | _,_,_+1,.nil=>.nil
 | _,_,n+1,.cons _ t=>zbS.drop n t
def zkO:Option V->Option Value->Prop
 | some v,some u=>zb9 v u
 | none,none=>True
 | _,_=>False
def KV {κ:Type}:List (κ×V)->List (κ×Value)->Prop:=Paired fun (p:κ×V) (q:κ×Value)=>p.1=q.1/\zb9 p.2 q.2
def kV:Key->V
 | .inl i=>.int i
 | .inr x=>.str x
inductive HO where
 | lst (xs:List V)
 | tup (xs:List V)
 | dK (kvs:List (Key×V)) | dT (kvs:List (List Key×V))
 | set (S:Int->Bool) (n:Nat)
 | ins (C dx:Addr) (fs:List (Str×V))
 | own (x:Addr)
 | xd (fs:List (Str×V))
 | met (f x:Addr)
 | rng (lo hi:Int)
 | frz (o:Obj) (u:HO)
 | tbl (ps:Array Value)
 | ext (φ:Heap->Prop)
abbrev Hp:=Addr->Option HO
def upd (H:Hp) (a:Addr) (o:HO):Hp:=fun b=>if b=a then some o else H b
theorem zav {H:Hp} {a:Addr} {o:HO}:upd H a o a=some o:=by unfold upd;rw [qX rfl]
theorem zaq {H:Hp} {a b:Addr} {o:HO} (h:b≠a):upd H a o b=H b:=by unfold upd;rw [qY h]
theorem zgA {H:Hp} {a b:Addr} {o u:HO} (h:H a=some o) (h':H b=some u) (d:o≠u):a≠b:=by
 intro e;subst e;rw [h] at h';exact d (qF h')
theorem zas {H:Hp} {a b:Addr} {o:HO} (h:H a=some o) (h':H b=none):a≠b:=by
 intro e;subst e;rw [h] at h';cases h'
section
variable (P:Program) (w:World)
def zbX (H:Hp) (h:Heap) (a:Addr):HO->Prop
 | .lst xs=>xs.length<=sizeLine/\∃ (its:List Value) (n:Nat),zbS xs its/\h.get? a=some { cls:=.type "list",data:=.seq its.toArray n }
 | .tup xs=>xs.length<=sizeLine/\∃ its:List Value,zbS xs its/\IsTup h a its.toArray
 | .dK kvs=>kvs.length<=sizeLine/\(a==sysModules)=false/\∃ vs,KV kvs vs/\h.DictOf (zba P w) a vs
 | .dT kvs=>kvs.length<=sizeLine/\(a==sysModules)=false/\∃ xs:List (List Key×Addr×Value),
   Paired (fun (p:List Key×V) (q:List Key×Addr×Value)=>p.1=q.1/\H q.2.1=some (.tup (p.1.map kV))/\zb9 p.2 q.2.2) kvs xs /\
   ∃ o es ep,h.get? a=some o/\o.ExactDict/\o.data=.dict es ep/\es.toList=xs.map (entryOfKey (tupleKind (zba P w)))/\(xs.map (·.1)).Nodup
 | .set S n=>h.SetOf (intKind P w) a S n
 | .ins C dx fs=>H dx=some (.own a)/\fs.length<=1000/\dx≠a/\h.get? a=some (PySem.W.instObj C dx) /\
   ∃ mA,h.Ns1 dx mA/\(∀ f,zkO (fs.lookup f) (mA f))/\PySem.Within mA (fs.map (·.1))
 | .own _=>∃ o,h.get? a=some o
 | .xd fs=>∃ mA,h.Ns1 a mA/\∀ f,zkO (fs.lookup f) (mA f)
 | .rng lo hi=>∃ t u v,h.get? a=some { cls:=.type "range",data:=.fields #[.int lo t,.int hi u,.int 1 v] }
 | .frz o u=>h.get? a=some o/\zbX H h a u
 | .tbl ps=>h.get? a=some { cls:=.none,data:=.fields ps }
 | .met f x=>h.get? a=some (PySem.W.methodObj (.ref f) (.ref x))
 | .ext φ=>φ h/\(∃ o,h.get? a=some o)/\∀ h1 h2:Heap,φ h1->(∀ o,h1.get? a=some o->h2.get? a=some o)->φ h2
def HOk (H:Hp) (h:Heap):Prop:=∀ a o,H a=some o->zbX P w H h a o
end
section
variable {P:Program} {w:World} {H H':Hp} {h h':Heap} {a:Addr} {o:HO}
theorem zbX.lt (x:zbX P w H h a o):a < h.objs.size:=by
 cases o with
 | lst xs=>obtain ⟨_,_,_,_,e⟩:=x;exact qt e
 | tup xs=>obtain ⟨_,_,_,p⟩:=x;exact p.lt
 | dK kvs=>obtain ⟨_,_,_,_,o,_,_,e,_⟩:=x;exact qt e
 | dT kvs=>obtain ⟨_,_,_,_,o,_,_,e,_⟩:=x;exact qt e
 | set S n=>obtain ⟨o,_,_,_,e,_⟩:=x;exact qt e
 | ins C dx fs=>obtain ⟨_,_,_,e,_⟩:=x;exact qt e
 | own y=>obtain ⟨_,e⟩:=x;exact qt e
 | xd fs=>obtain ⟨_,⟨_,_,_,e,_⟩,_⟩:=x;exact qt e
 | rng lo hi=>obtain ⟨_,_,_,e⟩:=x;exact qt e
 | frz ob u=>obtain ⟨e,_⟩:=x;exact qt e
 | tbl ps=>exact qt (show h.get? a=some _ from x)
 | met f y=>exact qt (show h.get? a=some _ from x)
 | ext φ=>obtain ⟨_,⟨_,e⟩,_⟩:=x;exact qt e
theorem Paired.mapP {α β:Type} {F G:α->β->Prop}:∀ {l₁:List α} {l₂:List β},Paired F l₁ l₂->(∀ a b,F a b->G a b)->Paired G l₁ l₂
 | _,_,.nil,_=>.nil
 | _,_,.cons r t,f=>.cons (f _ _ r) (Paired.mapP t f)
theorem zbX.stay (x:zbX P w H h a o) (k:∀ b u,(b=a\/H b=some (.own a))->h.get? b=some u->h'.get? b=some u)
  (ho:∀ b,H b=some (.own a)->H' b=some (.own a)) (ht:∀ b xs,H b=some (.tup xs)->H' b=some (.tup xs)):zbX P w H' h' a o:=by
 induction o with
 | lst xs=>obtain ⟨z,its,n,r,e⟩:=x;exact ⟨z,its,n,r,k _ _ (.inl rfl) e⟩
 | tup xs=>obtain ⟨z,its,r,ob,e,c⟩:=x;exact ⟨z,its,r,ob,k _ _ (.inl rfl) e,c⟩
 | dK kvs=>obtain ⟨z,y,vs,r,ob,es,ep,e,c⟩:=x;exact ⟨z,y,vs,r,ob,es,ep,k _ _ (.inl rfl) e,c⟩
 | dT kvs =>
  obtain ⟨z,y,xs,r,ob,es,ep,e,c⟩:=x
  exact ⟨z,y,xs,Paired.mapP r fun p q z=>⟨z.1,ht _ _ z.2.1,z.2.2⟩,ob,es,ep,k _ _ (.inl rfl) e,c⟩
 | set S n=>obtain ⟨ob,es,ep,t,e,c⟩:=x;exact ⟨ob,es,ep,t,k _ _ (.inl rfl) e,c⟩
 | ins C dx fs =>
  obtain ⟨d,z,ne,e,mA,⟨od,es,ep,e2,c⟩,r⟩:=x
  exact ⟨ho _ d,z,ne,k _ _ (.inl rfl) e,mA,⟨od,es,ep,k _ _ (.inr d) e2,c⟩,r⟩
 | own y=>obtain ⟨ob,e⟩:=x;exact ⟨ob,k _ _ (.inl rfl) e⟩
 | xd fs=>obtain ⟨mA,⟨od,es,ep,e,c⟩,r⟩:=x;exact ⟨mA,⟨od,es,ep,k _ _ (.inl rfl) e,c⟩,r⟩
 | rng lo hi=>obtain ⟨t,u,v,e⟩:=x;exact ⟨t,u,v,k _ _ (.inl rfl) e⟩
 | frz ob u ih=>obtain ⟨e,q⟩:=x;exact ⟨k _ _ (.inl rfl) e,ih q⟩
 | tbl ps =>
  have e:h.get? a=some { cls:=.none,data:=.fields ps }:=x
  show h'.get? a=some { cls:=.none,data:=.fields ps }
  exact k a _ (.inl rfl) e
 | met f y =>
  have e:h.get? a=some (PySem.W.methodObj (.ref f) (.ref y)):=x
  show h'.get? a=some (PySem.W.methodObj (.ref f) (.ref y))
  exact k a _ (.inl rfl) e
 | ext φ=>obtain ⟨p,⟨o,e⟩,st⟩:=x;exact ⟨st _ _ p fun o q=>k _ _ (.inl rfl) q,⟨o,k _ _ (.inl rfl) e⟩,st⟩
theorem HOk.lt (x:HOk P w H h) (e:H a=some o):a < h.objs.size:=(x a o e).lt
theorem HOk.fresh (x:HOk P w H h) (e:h.objs.size<=a):H a=none:=by
 cases q:H a with
 | none=>rfl
 | some u=>exact absurd (qD (x.lt q) e) (Nat.lt_irrefl _)
theorem HOk.kept (x:HOk P w H h) (k:∀ b u,h.get? b=some u->h'.get? b=some u):HOk P w H h':=fun a o e =>
 (x a o e).stay (fun b u _ q=>k b u q) (fun _ q=>q) fun _ _ q=>q
theorem HOk.laid (x:HOk P w H h) (k:∀ b u,h.get? b=some u->h'.get? b=some u) (hp:h.objs.size<=a) (new:zbX P w (upd H a o) h' a o):HOk P w (upd H a o) h':=fun b u e=>by
 have hn:=x.fresh hp
 by_cases hb:b=a
 ·subst hb;rw [zav] at e;cases e;exact new
 ·rw [zaq hb] at e
  exact (x b u e).stay (fun c v _ q=>k c v q) (fun c q=>by rw [zaq (zas q hn)];exact q) fun c xs q=>by rw [zaq (zas q hn)];exact q
end
def Rd (H:Hp) (a:Addr) (u:HO):Prop:=H a=some u\/∃ o,H a=some (.frz o u)
theorem Rd.ok {P:Program} {w:World} {H:Hp} {h:Heap} {a:Addr} {u:HO} (r:Rd H a u) (x:HOk P w H h):zbX P w H h a u:=by
 rcases r with r | ⟨o,r⟩
 ·exact x a u r
 ·obtain ⟨_,q⟩:=x a _ r
  exact q
def Mut:Option HO->Prop
 | some (.lst _)=>True
 | some (.dK _)=>True
 | some (.dT _)=>True
 | some (.set _ _)=>True
 | some (.ins _ _ _)=>True
 | some (.ext _)=>True
 | _=>False
section
variable {P:Program} {w:World} {H:Hp} {h h':Heap} {x e:Addr} {o':HO}
theorem HOk.write (ok:HOk P w H h) (mu:Mut (H x)) (he:e=x\/H e=some (.own x)) (k:∀ b u,b≠e->h.get? b=some u->h'.get? b=some u) (heo:∃ u,h'.get? e=some u)
  (new:zbX P w (upd H x o') h' x o'):HOk P w (upd H x o') h':=fun b u q=>by
 have nown:∀ c y,H c=some (.own y)->c≠x:=fun c y r z=>by subst z;rw [r] at mu;exact mu
 have ntup:∀ c xs,H c=some (.tup xs)->c≠x:=fun c xs r z=>by subst z;rw [r] at mu;exact mu
 by_cases hb:b=x
 ·subst hb;rw [zav] at q;cases q;exact new
 ·rw [zaq hb] at q
  by_cases hbe:b=e
  ·have q':H b=some (.own x):=by
    rcases he with z | z
    ·exact absurd (hbe.trans z) hb
    ·rw [hbe];exact z
   rw [q] at q';cases q'
   obtain ⟨v,hv⟩:=heo
   exact ⟨v,by rw [hbe];exact hv⟩
  ·refine (ok b u q).stay (fun c v hc r=>k c v ?_ r) (fun c r=>by rw [zaq (nown c b r)];exact r) fun c xs r=>by rw [zaq (ntup c xs r)];exact r
   rcases hc with rfl | hc
   ·exact hbe
   ·rintro rfl
    rcases he with z | z
    ·exact nown c b hc z
    ·rw [hc] at z;cases z;exact hb rfl
end
structure Un (fs ex:List Addr) (H H':Hp) (h h':Heap):Prop where
 keep:∀ b o,h.get? b=some o->H b=none->b∉fs->b∉ex->h'.get? b=some o
 slot:∀ b o,h.get? b=some o->H b=none->b∈fs->b∉ex->∃ sl,h'.get? b=some { o with slots:=sl }
 free:∀ b o,h.get? b=some o->H b=none->b∉ex->H' b=none
 there:∀ b o,h.get? b=some o->b∉ex->∃ o',h'.get? b=some o'
 tups:∀ b xs,H b=some (.tup xs)->H' b=some (.tup xs)
 frzs:∀ b o u,H b=some (.frz o u)->H' b=some (.frz o u)
 tbls:∀ b ps,H b=some (.tbl ps)->∃ more,H' b=some (.tbl (ps++more))
section
variable {fs fs' ex ex':List Addr} {H H1 H2:Hp} {h h1 h2 h':Heap} {a x e:Addr} {o:HO}
theorem Un.any (u:Un fs ex H H1 h h1) {b:Addr} {ob:Obj} (q:h.get? b=some ob) (n:H b=none) (hx:b∉ex):∃ sl,h1.get? b=some { ob with slots:=sl }:=by
 by_cases hb:b∈fs
 ·exact u.slot b ob q n hb hx
 ·exact ⟨ob.slots,u.keep b ob q n hb hx⟩
theorem Un.kept (k:∀ b u,h.get? b=some u->h'.get? b=some u):Un fs ex H H h h' :=
 ⟨fun b ob q _ _ _=>k b ob q,fun b ob q _ _ _=>⟨ob.slots,k b ob q⟩,fun _ _ _ n _=>n,fun b ob q _=>⟨ob,k b ob q⟩,fun _ _ q=>q,fun _ _ _ q=>q,fun _ ps q=>⟨#[],by rw [q];simp⟩⟩
theorem Un.refl:Un fs ex H H h h:=Un.kept fun _ _ q=>q
theorem Un.laid (k:∀ b u,h.get? b=some u->h'.get? b=some u) (hp:h.objs.size<=a) (hn:H a=none):Un fs ex H (upd H a o) h h' where
 keep:=fun b u q _ _ _=>k b u q
 slot:=fun b u q _ _ _=>⟨u.slots,k b u q⟩
 free:=fun b u q n _=>by rw [zaq (qA (qD (qt q) hp))];exact n
 there:=fun b u q _=>⟨u,k b u q⟩
 tups:=fun b xs q=>by rw [zaq (zas q hn)];exact q
 frzs:=fun b u xs q=>by rw [zaq (zas q hn)];exact q
 tbls:=fun b ps q=>⟨#[],by rw [zaq (zas q hn),q];simp⟩
theorem Un.write (mu:Mut (H x)) (he:e=x\/H e=some (.own x)) (k:∀ b u,b≠e->h.get? b=some u->h'.get? b=some u) (heo:∃ u,h'.get? e=some u):Un fs ex H (upd H x o) h h':=by
 have hx:∀ b,H b=none->b≠x:=fun b n z=>by subst z;rw [n] at mu;exact mu
 have hb:∀ b,H b=none->b≠e:=fun b n z=>by
  subst z
  rcases he with r | r
  ·exact hx b n r
  ·rw [n] at r;cases r
 have hm:∀ b u,H b=some u->¬ Mut (some u)->b≠x:=fun b u q nm z=>by subst z;rw [q] at mu;exact nm mu
 refine ⟨fun b u q n _ _=>k b u (hb b n) q,fun b u q n _ _=>⟨u.slots,k b u (hb b n) q⟩,fun b u q n _=>by rw [zaq (hx b n)];exact n,fun b u q _=>?_,
  fun b xs q=>by rw [zaq (hm b _ q fun z=>z)];exact q,fun b u xs q=>by rw [zaq (hm b _ q fun z=>z)];exact q,fun b ps q=>⟨#[],by rw [zaq (hm b _ q fun z=>z),q];simp⟩⟩
 by_cases hbe:b=e
 ·subst hbe;exact heo
 ·exact ⟨u,k b u hbe q⟩
end
def trk (h:Heap) (H:Hp):List Addr:=(List.range h.objs.size).filter fun a=>(H a).isSome
def znt (h:Heap) (H:Hp):Heap:=PySem.W.hideAll h (trk h H)
theorem zlV (h:Heap) (H:Hp):(znt h H).objs.size=h.objs.size:=PySem.W.hideAll_size _ _
theorem zns {h:Heap} {H:Hp} {b:Addr} {o:Obj} (e:h.get? b=some o) (n:H b=none):(znt h H).get? b=some o :=
 PySem.W.hideAll_get _ e fun hm=>by
  have q:(H b).isSome=true:=(List.mem_filter.mp hm).2
  rw [n] at q;simp at q
theorem zpd {h:Heap} {H:Hp} {b:Addr} {o:Obj} (e:(znt h H).get? b=some o):h.get? b=some o/\H b=none:=by
 have e':h.get? b=some o:=PySem.W.of_hideAll (trk h H) e
 refine ⟨e',?_⟩
 cases q:H b with
 | none=>rfl
 | some x =>
  have hm:b∈trk h H:=List.mem_filter.mpr ⟨List.mem_range.mpr (qt e'),by simp [q]⟩
  have z:(znt h H).get? b=none:=PySem.W.hideAll_none (trk h H) hm
  rw [z] at e;cases e
def zp1 (g h:Heap) (L:Addr):List (Addr×Obj):=(List.range h.objs.size).filterMap fun a=>if a=L\/(g.get? a).isSome=true then none else (h.get? a).map fun o=>(a,o)
def zcb (g h:Heap) (L d:Addr):List (Addr×Obj):=(zp1 g h L).filter fun p=>decide (p.1≠d)
end L2
namespace L2
open PySem PySem.Spec PyProof.Rows
structure Mod (K:PySem.W.Frag) (mg:Str->Option Value) (base:Heap):Prop where
 kin:K.In base
 glob:base.Ns mainGlobals mg
 blt:∃ mb,base.Ns builtinsNs mb/\∀ x:Str,x≠"__name__"->mb x=bootBuiltins x
 nolimit:base.NoLimit
structure Cx where
 prog:Program
 w:World
 K:PySem.W.Frag
 mg:Str->Option Value
 base:Heap
 A:Around
 N:List Str
 s₀:Shared
 H₀:Hp
 env:Env
 outer:List Env
 stack:List Env
 ex:List Addr
 fn:Str->Bool
 calm:Bool
 pn:List (Addr×Obj)
 xe:Value->Shared->Prop
def frs (l:List Env):List Addr:=l.filterMap (·.frame)
abbrev Cx.fs (X:Cx):List Addr:=frs X.outer
def Vis (sc:Scope) (x:Str):Prop:=sc.names.lookup x=some .local\/sc.names.lookup x=some .cell\/sc.names.lookup x=some .free
def Loc (sc:Scope) (x:Str):Prop:=sc.names.lookup x=some .local\/sc.names.lookup x=some .cell
def zuq (env:Env) (h:Heap) (m:Str->Option Value) (x:Str) (u:Value):Prop :=
 (env.kindOf x=some .local/\m x=some u)\/((env.kindOf x=some .cell\/env.kindOf x=some .free)/\∃ c,env.cells.lookup x=some c/\h.IsCell c (some u))
structure Cx.Ok (X:Cx):Prop where
 mod:Mod X.K X.mg X.base
 kind:X.env.scope.kind=.function
 glob:X.env.globals=mainGlobals
 blt:X.env.builtins=builtinsNs
 above:X.s₀.heap.objs.size<=X.env.locals
 inj:∀ x y c,X.env.cells.lookup x=some c->X.env.cells.lookup y=some c->x=y
 has:∀ x,(X.env.kindOf x=some .cell\/X.env.kindOf x=some .free)->∃ c,X.env.cells.lookup x=some c
 cab:∀ x c,X.fn x=true->X.env.cells.lookup x=some c->X.s₀.heap.objs.size<=c
 hd:X.calm=true->X.A.handled=none
 frames:X.A.frames=some X.stack
 stk:X.stack=X.outer\/(X.stack=X.env::X.outer/\X.env.frame=some X.env.locals)
 exf:∀ b∈X.ex,b≠X.env.locals/\∀ x c,X.env.cells.lookup x=some c->c≠b
 bs:∀ b o,X.base.get? b=some o->X.s₀.heap.get? b=some o/\X.H₀ b=none
 bsz:X.base.objs.size<=X.s₀.heap.objs.size
 noex:∀ b o,X.base.get? b=some o->b∉X.ex
 exfs:∀ b∈X.ex,b∉X.fs
 funs:X.s₀.heap.FunFrames X.base X.outer
 frf:∀ b∈X.fs,X.H₀ b=none
structure Inv (X:Cx) (pins:List (Addr×Obj)) (σ:List (Option V)) (H:Hp) (s:Shared):Prop where
 ok:X.Ok
 os:s.os=X.s₀.os
 bare:AllBare s.gens
 base:Un X.fs X.ex X.H₀ H X.s₀.heap s.heap
 loc:∃ m,s.heap.Ns X.env.locals m/\∀ (i:Nat) (x:Str) (v:V),X.N[i]?=some x->σ[i]?=some (some v)->Vis X.env.scope x->∃ u,zb9 v u/\zuq X.env s.heap m x u
 cell:∀ x c,X.env.cells.lookup x=some c->∃ v,s.heap.IsCell c v
 free:H X.env.locals=none
 freeC:∀ x c,X.env.cells.lookup x=some c->H c=none
 pin:∀ p∈X.pn++pins,s.heap.get? p.1=some p.2/\H p.1=none/\p.1≠X.env.locals/\p.1∉X.fs/\∀ v,p.2.data≠.cell v
 hok:HOk X.prog X.w H s.heap
 len:σ.length=X.N.length
section
variable {X:Cx} {pins:List (Addr×Obj)} {σ:List (Option V)} {H H':Hp} {s:Shared} {h':Heap}
theorem Cx.Ok.nofr (ok:X.Ok) {b:Addr} {o:Obj} (e:X.base.get? b=some o):b∉X.fs:=fun hb=>by
 have:=(ok.funs.mem hb).1
 rw [e] at this;cases this
theorem Inv.bs (I:Inv X pins σ H s):∀ b o,X.base.get? b=some o->s.heap.get? b=some o/\H b=none:=fun b o e =>
 ⟨I.base.keep b o (I.ok.bs b o e).1 (I.ok.bs b o e).2 (I.ok.nofr e) (I.ok.noex b o e),I.base.free b o (I.ok.bs b o e).1 (I.ok.bs b o e).2 (I.ok.noex b o e)⟩
theorem Inv.bk (I:Inv X pins σ H s):∀ b o,X.base.get? b=some o->s.heap.get? b=some o:=fun b o e=>(I.bs b o e).1
theorem Inv.mod (I:Inv X pins σ H s):Mod X.K X.mg X.base:=I.ok.mod
theorem Inv.kIn (I:Inv X pins σ H s):X.K.In s.heap:=I.ok.mod.kin.keeps I.bk
theorem Inv.lt (I:Inv X pins σ H s):X.env.locals < s.heap.objs.size:=let ⟨_,hn,_⟩:=I.loc;hn.lt
theorem Inv.sz (I:Inv X pins σ H s):X.s₀.heap.objs.size<=s.heap.objs.size:=qK I.ok.above (Nat.le_of_lt I.lt)
theorem Inv.nofs (I:Inv X pins σ H s) {a:Addr} (h:s.heap.objs.size<=a):a∉X.fs:=fun hb=>by
 obtain ⟨_,o,ho,_⟩:=I.ok.funs.mem hb
 exact absurd (qD (qt ho) (qK I.sz h)) (Nat.lt_irrefl _)
theorem Inv.cne (I:Inv X pins σ H s):∀ x c,X.env.cells.lookup x=some c->c≠X.env.locals:=fun x c e z=>by
 obtain ⟨v,o,ho,hd⟩:=I.cell x c e
 obtain ⟨m,⟨o',es,ep,ho',hd',_⟩,_⟩:=I.loc
 rw [z,ho'] at ho;cases ho;rw [hd'] at hd;cases hd
theorem Inv.funs (I:Inv X pins σ H s):s.heap.FunFrames X.base X.outer:=by
 have all:∀ (l:List Env),(∀ b∈frs l,b∈X.fs)->X.s₀.heap.FunFrames X.base l->s.heap.FunFrames X.base l:=by
  intro l
  induction l with
  | nil=>intro _ _;trivial
  | cons env r ih =>
   intro hs hl
   obtain ⟨hk,⟨L,o,hf,hn,ho,hd⟩,hr⟩:=hl
   have hL:L∈X.fs:=hs L (by unfold frs;rw [List.filterMap_cons,hf];exact qf)
   obtain ⟨sl,e⟩:=I.base.slot L o ho (I.ok.frf L hL) hL fun z=>I.ok.exfs L z hL
   exact ⟨hk,⟨L,_,hf,hn,e,hd⟩,ih (fun b hb=>hs b (by unfold frs;rw [List.filterMap_cons,hf];exact qg _ hb)) hr⟩
 exact all X.outer (fun _ hb=>hb) I.ok.funs
theorem Inv.stack (I:Inv X pins σ H s):s.heap.FunFrames X.base X.stack:=by
 rcases I.ok.stk with e | ⟨e,hf⟩
 ·rw [e];exact I.funs
 ·rw [e]
  obtain ⟨m,hn,_⟩:=I.loc
  refine .cons (by rw [I.ok.kind];decide) hf hn ?_ I.funs
  exact Heap.get?_none_of_le (qK I.ok.bsz I.ok.above)
theorem Inv.stkSub (I:Inv X pins σ H s):∀ b∈frs X.stack,b∈X.env.locals::X.fs:=fun b hb=>by
 rcases I.ok.stk with e | ⟨e,hf⟩
 ·rw [e] at hb;exact qg _ hb
 ·rw [e] at hb
  unfold frs at hb
  rw [List.filterMap_cons,hf] at hb
  exact hb
theorem Inv.stkFree (I:Inv X pins σ H s):∀ b∈frs X.stack,H b=none:=fun b hb=>by
 rcases List.mem_cons.mp (I.stkSub b hb) with e | hb
 ·rw [e];exact I.free
 ·obtain ⟨_,o,ho,_⟩:=I.ok.funs.mem hb
  exact I.base.free b o ho (I.ok.frf b hb) fun z=>I.ok.exfs b z hb
theorem Inv.step {g':Array GenState} {t':Nat} {d':Drawn} {ch:List Addr} (I:Inv X pins σ H s)
  (hch:∀ b∈ch,(b∈X.ex\/X.s₀.heap.objs.size<=b)/\b≠X.env.locals/\(∀ x c,X.env.cells.lookup x=some c->c≠b)/\∀ p∈X.pn++pins,p.1≠b)
  (keep:∀ b o,b≠X.env.locals->b∉X.fs->b∉ch->s.heap.get? b=some o->H b=none->h'.get? b=some o)
  (slot:∀ b o,b≠X.env.locals->b∈X.fs->b∉ch->s.heap.get? b=some o->H b=none->∃ sl,h'.get? b=some { o with slots:=sl }) (free:∀ b o,b∉ch->s.heap.get? b=some o->H b=none->H' b=none)
  (there:∀ b o,b∉ch->s.heap.get? b=some o->∃ o',h'.get? b=some o')
  (tups:∀ b xs,H b=some (.tup xs)->H' b=some (.tup xs)) (frzs:∀ b o u,H b=some (.frz o u)->H' b=some (.frz o u)) (tbls:∀ b ps,H b=some (.tbl ps)->∃ more,H' b=some (.tbl (ps++more)))
  (ns:∀ m,s.heap.Ns X.env.locals m->h'.Ns X.env.locals m) (hok:HOk X.prog X.w H' h') (hg:AllBare g') :
  Inv X pins σ H' { s with heap:=h',gens:=g',drawn:=d',toks:=t' }:=by
 have neL:∀ b o,X.s₀.heap.get? b=some o->b≠X.env.locals:=fun b o e=>qA (qD (qt e) I.ok.above)
 have neC:∀ b o,X.s₀.heap.get? b=some o->b∉X.ex->b∉ch:=fun b o e hx hb=>by
  rcases (hch b hb).1 with z | z
  ·exact hx z
  ·exact absurd (qD (qt e) z) (Nat.lt_irrefl _)
 have cellK:∀ x c,X.env.cells.lookup x=some c->∀ v,s.heap.IsCell c v->h'.IsCell c v:=fun x c e v ⟨o,ho,hd⟩=>by
  have nch:c∉ch:=fun z=>(hch c z).2.2.1 x c e rfl
  by_cases hc:c∈X.fs
  ·obtain ⟨sl,q⟩:=slot c o (I.cne x c e) hc nch ho (I.freeC x c e)
   exact ⟨_,q,hd⟩
  ·exact ⟨o,keep c o (I.cne x c e) hc nch ho (I.freeC x c e),hd⟩
 refine ⟨I.ok,I.os,hg,⟨fun b o e n hb hx=>?_,fun b o e n hb hx=>?_,fun b o e n hx=>?_,fun b o e hx=>?_,fun b xs e=>tups b xs (I.base.tups b xs e),fun b o xs e=>frzs b o xs (I.base.frzs b o xs e),fun b ps e=>?_⟩,?_,fun x c e=>?_,?_,fun x c e=>?_,fun p hp=>?_,hok,I.len⟩
 ·exact keep b o (neL b o e) hb (neC b o e hx) (I.base.keep b o e n hb hx) (I.base.free b o e n hx)
 ·obtain ⟨sl,e1⟩:=I.base.slot b o e n hb hx
  obtain ⟨sl',e2⟩:=slot b _ (neL b o e) hb (neC b o e hx) e1 (I.base.free b o e n hx)
  exact ⟨sl',e2⟩
 ·obtain ⟨o',e1⟩:=I.base.there b o e hx
  exact free b o' (neC b o e hx) e1 (I.base.free b o e n hx)
 ·obtain ⟨o',e1⟩:=I.base.there b o e hx
  exact there b o' (neC b o e hx) e1
 ·obtain ⟨m1,e1⟩:=I.base.tbls b ps e
  obtain ⟨m2,e2⟩:=tbls b _ e1
  exact ⟨m1++m2,by rw [e2,Array.append_assoc]⟩
 ·obtain ⟨m,hn,hl⟩:=I.loc
  refine ⟨m,ns m hn,fun i x v e1 e2 e3=>?_⟩
  obtain ⟨u,r,l⟩:=hl i x v e1 e2 e3
  refine ⟨u,r,?_⟩
  rcases l with l | ⟨k,c,e,z⟩
  ·exact .inl l
  ·exact .inr ⟨k,c,e,cellK x c e _ z⟩
 ·obtain ⟨v,z⟩:=I.cell x c e
  exact ⟨v,cellK x c e v z⟩
 ·obtain ⟨m,⟨o,_,_,ho,_⟩,_⟩:=I.loc
  exact free _ o (fun z=>(hch _ z).2.1 rfl) ho I.free
 ·obtain ⟨v,o,ho,hd⟩:=I.cell x c e
  exact free c o (fun z=>(hch c z).2.2.1 x c e rfl) ho (I.freeC x c e)
 ·obtain ⟨e,n,ne,nf,d⟩:=I.pin p hp
  have nch:p.1∉ch:=fun z=>(hch p.1 z).2.2.2 p hp rfl
  exact ⟨keep p.1 p.2 ne nf nch e n,free p.1 p.2 nch e n,ne,nf,d⟩
theorem Inv.un {t':Nat} (I:Inv X pins σ H s) (u:Un X.fs [] H H' s.heap h') (hok:HOk X.prog X.w H' h'):Inv X pins σ H' { s with heap:=h',toks:=t' }:=by
 obtain ⟨m,⟨o,es,ep,ho,r⟩,_⟩:=id I.loc
 obtain ⟨sl,hL⟩:=u.any ho I.free (by simp)
 exact I.step (g':=s.gens) (d':=s.drawn) (ch:=[]) (fun _ z=>nomatch z) (fun b o _ hb _ e n=>u.keep b o e n hb (by simp)) (fun b o _ hb _ e n=>u.slot b o e n hb (by simp)) (fun b o _ e n=>u.free b o e n (by simp)) (fun b o _ e=>u.there b o e (by simp)) u.tups u.frzs u.tbls (fun m' hm=>by
  obtain ⟨o',es',ep',ho',r'⟩:=hm
  rw [ho] at ho';cases ho'
  exact ⟨_,es',ep',hL,r'⟩) hok I.bare
theorem Inv.call {g':Array GenState} {t':Nat} {d':Drawn} {ch:List Addr} (I:Inv X pins σ H s) (u:Un (frs X.stack) ch H H' s.heap h') (hok:HOk X.prog X.w H' h') (hg:AllBare g')
  (hch:∀ b∈ch,(b∈X.ex\/X.s₀.heap.objs.size<=b)/\b≠X.env.locals/\(∀ x c,X.env.cells.lookup x=some c->c≠b)/\∀ p∈X.pn++pins,p.1≠b) :
  Inv X pins σ H' { s with heap:=h',gens:=g',drawn:=d',toks:=t' }:=by
 obtain ⟨m,⟨o,es,ep,ho,r⟩,_⟩:=id I.loc
 obtain ⟨sl,hL⟩:=u.any ho I.free fun z=>(hch _ z).2.1 rfl
 exact I.step (ch:=ch) hch (fun b o hL hb hc e n=>u.keep b o e n (fun z=>(List.mem_cons.mp (I.stkSub b z)).elim hL hb) hc) (fun b o _ _ hc e n=>u.any e n hc) (fun b o hc e n=>u.free b o e n hc) (fun b o hc e=>u.there b o e hc) u.tups u.frzs u.tbls (fun m' hm=>by
  obtain ⟨o',es',ep',ho',r'⟩:=hm
  rw [ho] at ho';cases ho'
  exact ⟨_,es',ep',hL,r'⟩) hok hg
theorem Inv.turned {t':Nat} {it:Addr} (I:Inv X pins σ H s) (k:∀ b o,b≠it->s.heap.get? b=some o->h'.get? b=some o) (hn:H it=none) (hL:it≠X.env.locals)
  (h1:it∈X.ex\/X.s₀.heap.objs.size<=it) (h2:∀ x c,X.env.cells.lookup x=some c->c≠it) (h3:∀ p∈X.pn++pins,p.1≠it):Inv X pins σ H { s with heap:=h',toks:=t' }:=by
 have nit:∀ b u,H b=some u->b≠it:=fun b u e z=>by rw [z,hn] at e;cases e
 refine I.step (g':=s.gens) (d':=s.drawn) (ch:=[it]) (fun b hb=>?_) (fun b o _ _ hc e _=>k b o (fun z=>hc (by simp [z])) e) (fun b o _ _ hc e _=>⟨o.slots,k b o (fun z=>hc (by simp [z])) e⟩) (fun _ _ _ _ n=>n)
  (fun b o hc e=>⟨o,k b o (fun z=>hc (by simp [z])) e⟩) (fun _ _ e=>e) (fun _ _ _ e=>e) (fun b ps e=>⟨#[],by rw [e];simp⟩) (fun m hm=>?_) (fun b u e=>?_) I.bare
 ·have e:b=it:=by simpa using hb
  subst e
  exact ⟨h1,hL,h2,h3⟩
 ·obtain ⟨o,es,ep,ho,r⟩:=hm
  exact ⟨o,es,ep,k _ o (Ne.symm hL) ho,r⟩
 ·refine (I.hok b u e).stay (fun c v hc q=>k c v ?_ q) (fun _ q=>q) fun _ _ q=>q
  rcases hc with z | z
  ·rw [z];exact nit b u e
  ·exact nit c _ z
theorem Inv.tok (I:Inv X pins σ H s) (t:Nat):Inv X pins σ H { s with toks:=t }:=I.un (h':=s.heap) (t':=t) Un.refl I.hok
theorem Inv.kept {t':Nat} (I:Inv X pins σ H s) (k:∀ b u,s.heap.get? b=some u->h'.get? b=some u):Inv X pins σ H { s with heap:=h',toks:=t' }:=I.un (Un.kept k) (I.hok.kept k)
theorem Inv.laid {a:Addr} {o:HO} {t':Nat} (I:Inv X pins σ H s) (k:∀ b u,s.heap.get? b=some u->h'.get? b=some u) (hp:s.heap.objs.size<=a) (new:zbX X.prog X.w (upd H a o) h' a o) :
  Inv X pins σ (upd H a o) { s with heap:=h',toks:=t' }:=I.un (Un.laid k hp (I.hok.fresh hp)) (I.hok.laid k hp new)
theorem Inv.write {x e:Addr} {o:HO} {t':Nat} (I:Inv X pins σ H s) (mu:Mut (H x)) (he:e=x\/H e=some (.own x)) (k:∀ b u,b≠e->s.heap.get? b=some u->h'.get? b=some u) (heo:∃ u,h'.get? e=some u)
  (new:zbX X.prog X.w (upd H x o) h' x o):Inv X pins σ (upd H x o) { s with heap:=h',toks:=t' }:=I.un (Un.write mu he k heo) (I.hok.write mu he k heo new)
theorem Inv.pins_of {pins':List (Addr×Obj)} (I:Inv X pins σ H s) (h:∀ p∈pins',s.heap.get? p.1=some p.2/\H p.1=none/\p.1≠X.env.locals/\p.1∉X.fs/\∀ v,p.2.data≠.cell v):Inv X pins' σ H s :=
 ⟨I.ok,I.os,I.bare,I.base,I.loc,I.cell,I.free,I.freeC,fun p hp=>(List.mem_append.mp hp).elim (fun z=>I.pin p (List.mem_append_left _ z)) (h p),I.hok,I.len⟩
theorem zhz {N:List Str} (hN:N.Nodup) {i j:Nat} {x:Str} (a:N[i]?=some x) (b:N[j]?=some x):i=j:=by
 obtain ⟨h1,e1⟩:=List.getElem?_eq_some_iff.mp a
 obtain ⟨h2,e2⟩:=List.getElem?_eq_some_iff.mp b
 exact (List.getElem_inj hN).mp (e1.trans e2.symm)
theorem zh6 {M:Model} {A:Around} {E:Value->Shared->Prop} {i:Nat} {x:Str} {v:V} {u:Value} {Q:Unit->Shared->Prop} (I:Inv X pins σ H s) (hN:X.N.Nodup) (hi:X.N[i]?=some x) (hx:Loc X.env.scope x) (r:zb9 v u)
  (h:∀ s',Inv X pins (σ.set i (some v)) H s'->(∃ a,Heap.SameBut a s.heap s'.heap/\(a=X.env.locals\/X.env.cells.lookup x=some a))->Q () s') (hf:X.fn x=true\/X.env.scope.names.lookup x=some .local:=by first | exact .inl rfl | exact .inr rfl | assumption):wpAny M A (storeName X.env x u) Q E s:=by
 obtain ⟨m,hn,hl⟩:=id I.loc
 have hcls:(X.env.scope.kind==.class || (X.env.scope.kind==.module && X.env.locals != X.env.globals))=false:=by rw [I.ok.kind];rfl
 have hiσ:i < σ.length:=by rw [I.len];exact (List.getElem?_eq_some_iff.mp hi).1
 have cne:=I.cne
 have tracked:∀ {a:Addr} {h':Heap},(∃ o,s.heap.get? a=some o/\H a=none)->Heap.SameBut a s.heap h'->HOk X.prog X.w H h':=fun {a h'} ha hs b ob e=>by
  obtain ⟨_,_,hfree⟩:=ha
  refine (I.hok b ob e).stay (fun c w' hc q=>(hs.2 c ?_).trans q) (fun _ q=>q) fun _ _ q=>q
  rintro rfl
  rcases hc with rfl | hc
  ·rw [hfree] at e;cases e
  ·rw [hfree] at hc;cases hc
 rcases hx with hk | hk
 ·refine wpAny_storeName_local hk hn (fun h' hn' hs=>?_) hcls
  obtain ⟨oL,_,_,hoL,_⟩:=id hn
  refine h _ ⟨I.ok,I.os,I.bare,⟨fun b o e n hb hx=>?_,fun b o e n hb hx=>?_,I.base.free,fun b o e hx=>?_,I.base.tups,I.base.frzs,I.base.tbls⟩,⟨_,hn',fun j y v' e1 e2 e3=>?_⟩,fun y c e=>?_,I.free,I.freeC,fun p hp=>?_,tracked ⟨oL,hoL,I.free⟩ hs,by simpa using I.len⟩ ⟨_,hs,.inl rfl⟩
  ·exact (hs.2 b (qA (qD (qt e) I.ok.above))).trans (I.base.keep b o e n hb hx)
  ·obtain ⟨sl,e1⟩:=I.base.slot b o e n hb hx
   exact ⟨sl,(hs.2 b (qA (qD (qt e) I.ok.above))).trans e1⟩
  ·obtain ⟨o',e1⟩:=I.base.there b o e hx
   exact ⟨o',(hs.2 b (qA (qD (qt e) I.ok.above))).trans e1⟩
  ·by_cases hj:j=i
   ·subst hj
    rw [hi] at e1;cases e1
    rw [List.getElem?_set_self hiσ] at e2
    cases e2
    exact ⟨u,r,.inl ⟨hk,by simp⟩⟩
   ·rw [qw (Ne.symm hj)] at e2
    obtain ⟨u',r',q⟩:=hl j y v' e1 e2 e3
    refine ⟨u',r',?_⟩
    rcases q with ⟨k,e⟩ | ⟨k,c,e,z⟩
    ·refine .inl ⟨k,?_⟩
     have:y≠x:=fun e=>hj (zhz hN e1 (e▸hi))
     simp [this,e]
    ·exact .inr ⟨k,c,e,z.sameBut hs (cne y c e)⟩
  ·obtain ⟨w',z⟩:=I.cell y c e
   exact ⟨w',z.sameBut hs (cne y c e)⟩
  ·obtain ⟨e,n,ne,nf,d⟩:=I.pin p hp
   exact ⟨(hs.2 p.1 ne).trans e,n,ne,nf,d⟩
 ·have hfn:X.fn x=true:=by
   rcases hf with z | z
   ·exact z
   ·rw [z] at hk;cases hk
  obtain ⟨c,hc⟩:=I.ok.has x (.inl hk)
  obtain ⟨w',z⟩:=I.cell x c hc
  refine wpAny_storeName_cell I.ok.kind hk hc z (fun h' hc' hs=>?_)
  obtain ⟨oc,hoc,hocd⟩:=id z
  refine h { s with heap:=h' } ⟨I.ok,I.os,I.bare,⟨fun b o e n hb hx=>?_,fun b o e n hb hx=>?_,I.base.free,fun b o e hx=>?_,I.base.tups,I.base.frzs,I.base.tbls⟩,⟨m,hn.sameBut hs (Ne.symm (cne x c hc)),fun j y v' e1 e2 e3=>?_⟩,fun y c' e=>?_,I.free,I.freeC,fun p hp=>?_,tracked ⟨oc,hoc,I.freeC x c hc⟩ hs,by simpa using I.len⟩ ⟨c,hs,.inr hc⟩
  ·exact (hs.2 b (qA (qD (qt e) (I.ok.cab x c hfn hc)))).trans (I.base.keep b o e n hb hx)
  ·obtain ⟨sl,e1⟩:=I.base.slot b o e n hb hx
   exact ⟨sl,(hs.2 b (qA (qD (qt e) (I.ok.cab x c hfn hc)))).trans e1⟩
  ·obtain ⟨o',e1⟩:=I.base.there b o e hx
   exact ⟨o',(hs.2 b (qA (qD (qt e) (I.ok.cab x c hfn hc)))).trans e1⟩
  ·by_cases hj:j=i
   ·subst hj
    rw [hi] at e1;cases e1
    rw [List.getElem?_set_self hiσ] at e2
    cases e2
    exact ⟨u,r,.inr ⟨.inl hk,c,hc,hc'⟩⟩
   ·rw [qw (Ne.symm hj)] at e2
    obtain ⟨u',r',q⟩:=hl j y v' e1 e2 e3
    refine ⟨u',r',?_⟩
    rcases q with q | ⟨k,c',e,z'⟩
    ·exact .inl q
    ·refine .inr ⟨k,c',e,z'.sameBut hs ?_⟩
     rintro rfl
     exact hj (zhz hN e1 (I.ok.inj _ _ _ e hc▸hi))
  ·by_cases hcc:c'=c
   ·subst hcc;exact ⟨_,hc'⟩
   ·obtain ⟨w2,z2⟩:=I.cell y c' e
    exact ⟨w2,z2.sameBut hs hcc⟩
  ·obtain ⟨e,n,ne,nf,d⟩:=I.pin p hp
   refine ⟨(hs.2 p.1 ?_).trans e,n,ne,nf,d⟩
   intro q
   rw [q,hoc] at e
   have q':oc=p.2:=qF e
   exact d w' (by rw [← q'];exact hocd)
theorem zhm {M:Model} {A:Around} {E:Value->Shared->Prop} {i:Nat} {x:Str} {v:V} {u:Value} {Q:Unit->Shared->Prop} (I:Inv X pins σ H s) (hN:X.N.Nodup) (hi:X.N[i]?=some x) (hx:Loc X.env.scope x) (r:zb9 v u)
  (h:∀ s',Inv X pins (σ.set i (some v)) H s'->Q () s') (hf:X.fn x=true\/X.env.scope.names.lookup x=some .local:=by first | exact .inl rfl | exact .inr rfl | assumption):wpAny M A (storeName X.env x u) Q E s :=
 zh6 I hN hi hx r (fun s' I' _=>h s' I') hf
theorem Inv.call' {s':Shared} {ch:List Addr} (I:Inv X pins σ H s) (ho:s'.os=s.os) (u:Un (frs X.stack) ch H H' s.heap s'.heap) (hok:HOk X.prog X.w H' s'.heap) (hg:AllBare s'.gens)
  (hch:∀ b∈ch,(b∈X.ex\/X.s₀.heap.objs.size<=b)/\b≠X.env.locals/\(∀ x c,X.env.cells.lookup x=some c->c≠b)/\∀ p∈X.pn++pins,p.1≠b):Inv X pins σ H' s':=by
 obtain ⟨h',g',d',t',o'⟩:=s'
 have e:o'=s.os:=ho
 subst e
 exact I.call (g':=g') (t':=t') (d':=d') u hok hg hch
end
abbrev XK:=Value->Option Addr->Hp->Prop
abbrev St:=List (Option V)
abbrev VK:=V->Hp->Prop
abbrev TE:=St->Hp->VK->Prop
abbrev TT:=St->Hp->(Bool->Hp->Prop)->Prop
abbrev TA:=St->Hp->(List V->Hp->Prop)->Prop
structure Ends where
 nx:St->Hp->Prop
 rt:VK
 bk:St->Hp->Prop:=fun _ _=>False
 ct:St->Hp->Prop:=fun _ _=>False
abbrev TS:=Ends->St->Hp->Prop
def EP (X:Cx) (pins:List (Addr×Obj)) (σ:St) (Q:VK) (u:Value) (s':Shared):Prop:=∃ v H',Inv X pins σ H' s'/\zb9 v u/\Q v H'
def TP (X:Cx) (pins:List (Addr×Obj)) (σ:St) (Q:Bool->Hp->Prop) (b:Bool) (s':Shared):Prop:=∃ H',Inv X pins σ H' s'/\Q b H'
def AP (X:Cx) (pins:List (Addr×Obj)) (σ:St) (Q:List V->Hp->Prop) (us:List Value) (s':Shared):Prop:=∃ vs H',Inv X pins σ H' s'/\zbS vs us/\Q vs H'
def SP (X:Cx) (pins:List (Addr×Obj)) (D:Ends) (f:Flow) (s':Shared):Prop :=
 match f with
 | .next=>∃ σ' H',Inv X pins σ' H' s'/\D.nx σ' H'
 | .brk=>∃ σ' H',Inv X pins σ' H' s'/\D.bk σ' H'
 | .cont=>∃ σ' H',Inv X pins σ' H' s'/\D.ct σ' H'
 | .ret u=>∃ v σ' H',Inv X pins σ' H' s'/\zb9 v u/\D.rt v H'
def PE (X:Cx) (e:Expr) (t:TE):Prop :=
 ∀ (pins:List (Addr×Obj)) (s:Shared) (σ:St) (H:Hp) (Q:VK),Inv X pins σ H s->t σ H Q->wpAny (model X.prog X.w) X.A (eval e X.env) (EP X pins σ Q) X.xe s
def PT (X:Cx) (e:Expr) (t:TT):Prop :=
 ∀ (pins:List (Addr×Obj)) (s:Shared) (σ:St) (H:Hp) (Q:Bool->Hp->Prop),Inv X pins σ H s->t σ H Q->wpAny (model X.prog X.w) X.A (isTrue e X.env (eval e X.env)) (TP X pins σ Q) X.xe s
def PW (X:Cx) (e:Expr) (t:TT):Prop :=
 ∀ (whole:Sem Value) (pins:List (Addr×Obj)) (s:Shared) (σ:St) (H:Hp) (Q:Bool->Hp->Prop),Inv X pins σ H s->t σ H Q->wpAny (model X.prog X.w) X.A (isTrue e X.env whole) (TP X pins σ Q) X.xe s
theorem PW.pt {X:Cx} {e:Expr} {t:TT} (h:PW X e t):PT X e t:=h _
def PA (X:Cx) (es:List Expr) (t:TA):Prop :=
 ∀ (pos:Pos) (pins:List (Addr×Obj)) (s:Shared) (σ:St) (H:Hp) (Q:List V->Hp->Prop),Inv X pins σ H s->t σ H Q->wpAny (model X.prog X.w) X.A (spliced (backTo pos (starEach es X.env))) (AP X pins σ Q) X.xe s
def PS (X:Cx) (st:Stmt) (t:TS):Prop :=
 ∀ (pins:List (Addr×Obj)) (s:Shared) (σ:St) (H:Hp) (D:Ends),Inv X pins σ H s->t D σ H->wpAny (model X.prog X.w) X.A (exec st X.env) (SP X pins D) X.xe s
def PSs (X:Cx) (st:List Stmt) (t:TS):Prop :=
 ∀ (pins:List (Addr×Obj)) (s:Shared) (σ:St) (H:Hp) (D:Ends),Inv X pins σ H s->t D σ H->wpAny (model X.prog X.w) X.A (execs st X.env) (SP X pins D) X.xe s
theorem thn {α:Type} {t:Sem α} {Q Q':α->Shared->Prop} {M:Model} {A:Around} {E:Value->Shared->Prop} {s:Shared} (h:wpAny M A t Q E s) (hQ:∀ a s,Q a s->Q' a s):wpAny M A t Q' E s:=wpAny_mono h hQ fun _ _ x=>x
end L2
namespace L2
open PySem PySem.Spec PyProof.Rows
section
variable {X:Cx}
theorem bin {a b:Expr} {ta tb:TE} (ha:PE X a ta) (hb:PE X b tb) {pins:List (Addr×Obj)} {s:Shared} {σ:St} {H:Hp} {R:V->V->Hp->Prop} (I:Inv X pins σ H s) (h:ta σ H fun x H1=>tb σ H1 fun y H2=>R x y H2)
  {α:Type} {Q:α->Shared->Prop} {f:Value->Value->Sem α}
  (hf:∀ v u s2 x y H2,Inv X pins σ H2 s2->zb9 x v->zb9 y u->R x y H2->wpAny (model X.prog X.w) X.A (f v u) Q X.xe s2) :
  wpAny (model X.prog X.w) X.A (eval a X.env) (fun v s₁=>wpAny (model X.prog X.w) X.A (eval b X.env) (fun u s₂=>wpAny (model X.prog X.w) X.A (f v u) Q X.xe s₂) X.xe s₁) X.xe s:=by
 refine thn (ha pins s σ H _ I h) fun v s1 ⟨x,H1,I1,r1,q1⟩=>?_
 refine thn (hb pins s1 σ H1 _ I1 q1) fun u s2 ⟨y,H2,I2,r2,q2⟩=>?_
 exact hf v u s2 x y H2 I2 r1 r2 q2
def zr3 (i:Nat):TE:=fun σ H Q=>∃ v,σ[i]?=some (some v)/\Q v H
def tC (v:V):TE:=fun _ H Q=>Q v H
theorem zcp {i:Nat} {x:Str} {pos:Pos} (hN:X.N[i]?=some x) (hv:Vis X.env.scope x) (hd:(x==("__debug__":Str))=false:=by decide) (hcd:(x==("__classdict__":Str))=false:=by decide):PE X (.Name x pos) (zr3 i):=by
 intro pins s σ H Q I h
 obtain ⟨v,e,h⟩:=h
 obtain ⟨m,hn,hl⟩:=I.loc
 obtain ⟨u,r,l⟩:=hl i x v hN e hv
 have fin:EP X pins σ Q u s:=⟨v,H,I,r,h⟩
 rcases l with ⟨hk,hm⟩ | ⟨hk,c,hc,hcell⟩
 ·exact wpAny_Name (wpAny_loadName_local I.ok.kind hk hn hm fin) hd
 ·rcases hk with hk | hk
  ·exact wpAny_Name (wpAny_loadName_cell I.ok.kind hk hc hcell fin) hd
  ·exact wpAny_Name (wpAny_loadName_free I.ok.kind hk hc hcell fin hcd) hd
theorem zqR {i j pos}:PE X (.Constant (.int i) j pos) (tC (.int i)):=fun _ _ _ H _ I h=>wpAny_Constant_int ⟨.int i,H,I.tok _,⟨_,rfl⟩,h⟩
theorem zsw {b j pos}:PE X (.Constant (.bool b) j pos) (tC (.bl b)):=fun _ _ _ H _ I h=>Constant_bool ⟨.bl b,H,I,rfl,h⟩
theorem zn4 {j pos}:PE X (.Constant .none j pos) (tC .non):=fun _ _ _ H _ I h=>Constant_none ⟨.non,H,I,rfl,h⟩
theorem zil {x j pos}:PE X (.Constant (.str x) j pos) (tC (.str x)):=fun _ _ _ H _ I h=>Calls.Constant_str ⟨.str x,H,I.tok _,⟨_,rfl⟩,h⟩
def Gl (X:Cx) (x:Str):Prop:=X.env.kindOf x=some .globalImplicit
theorem zej {E:Value->Shared->Prop} {pins:List (Addr×Obj)} {s:Shared} {σ:St} {H:Hp} {x:Str} {u:Value} {pos:Pos} {Q:Value->Shared->Prop} (I:Inv X pins σ H s) (hg:Gl X x) (hm:X.mg x=some u) (h:Q u s)
  (hd:(x==("__debug__":Str))=false:=by decide):wpAny (model X.prog X.w) X.A (eval (.Name x pos) X.env) Q E s :=
 Calls.Name_function_global I.ok.kind hg (Calls.loadGlobal_global (by rw [I.ok.glob];exact I.mod.glob.keeps I.bk) hm h) hd
theorem zg5 {E:Value->Shared->Prop} {pins:List (Addr×Obj)} {s:Shared} {σ:St} {H:Hp} {x:Str} {u:Value} {pos:Pos} {Q:Value->Shared->Prop} (I:Inv X pins σ H s) (hg:Gl X x) (hm:X.mg x=none) (hv:bootBuiltins x=some u) (h:Q u s)
  (hn:x≠"__name__":=by decide) (hd:(x==("__debug__":Str))=false:=by decide):wpAny (model X.prog X.w) X.A (eval (.Name x pos) X.env) Q E s:=by
 obtain ⟨mb,h1,h2⟩:=I.mod.blt
 exact Calls.Name_function_global I.ok.kind hg (Calls.loadGlobal_builtin (by rw [I.ok.glob];exact I.mod.glob.keeps I.bk) hm (by rw [I.ok.blt];exact h1.keeps I.bk) ((h2 x hn).trans hv) h) hd
theorem zfV {x:Str} {v:V} {u:Value} {pos:Pos} (hg:Gl X x) (hm:X.mg x=some u) (r:zb9 v u) (hd:(x==("__debug__":Str))=false:=by decide):PE X (.Name x pos) (tC v) :=
 fun _ _ _ H _ I h=>zej I hg hm ⟨v,H,I,r,h⟩ hd
theorem zlm {x:Str} {v:V} {u:Value} {pos:Pos} (hg:Gl X x) (hm:X.mg x=none) (hv:bootBuiltins x=some u) (r:zb9 v u) (hn:x≠"__name__":=by decide) (hd:(x==("__debug__":Str))=false:=by decide):PE X (.Name x pos) (tC v) :=
 fun _ _ _ H _ I h=>zg5 I hg hm hv ⟨v,H,I,r,h⟩ hn hd
variable {a b:Expr} {ta tb:TE} {pos:Pos}
def PC (X:Cx) (op:CmpOp) (a b:Expr) (t:TE):Prop :=
 ∀ (pins:List (Addr×Obj)) (s:Shared) (σ:St) (H:Hp) (Q:VK),Inv X pins σ H s->t σ H Q ->
  wpAny (model X.prog X.w) X.A (eval a X.env) (fun v s₁=>wpAny (model X.prog X.w) X.A (eval b X.env) (fun u s₂=>wpAny (model X.prog X.w) X.A (compareOp op v u) (EP X pins σ Q) X.xe s₂) X.xe s₁) X.xe s
theorem znc (b:Expr) {op:CmpOp} (h:op≠.In) (h2:op≠.NotIn):behindInMarks op b=false:=by
 have e1:(op==CmpOp.In)=false:=by cases op <;> first | rfl | exact absurd rfl h
 have e2:(op==CmpOp.NotIn)=false:=by cases op <;> first | rfl | exact absurd rfl h2
 cases b <;> simp [behindInMarks,e1,e2]
def ztP (ta:TE):TE:=fun σ H Q=>ta σ H fun x H1=>Q (.bl (decide (x=.non))) H1
theorem zb9.none_iff {x:V} {v:Value} (r:zb9 x v):(v==Value.none)=decide (x=.non):=by
 cases x with
 | non=>cases r;rfl
 | bl _=>cases r;rfl
 | int _=>obtain ⟨t,rfl⟩:=r;rfl
 | str _=>obtain ⟨t,rfl⟩:=r;rfl
 | byt _=>obtain ⟨t,rfl⟩:=r;rfl
 | flt _=>obtain ⟨t,rfl⟩:=r;rfl
 | ref _=>cases r;rfl
 | ty _=>cases r;rfl
theorem zqU {j pos'} (ha:PE X a ta):PC X .Is a (.Constant .none j pos') (ztP ta):=by
 intro pins s σ H Q I h
 refine thn (ha pins s σ H _ I h) fun v s1 ⟨x,H1,I1,r1,q1⟩=>?_
 exact Constant_none (is_none_gen ⟨.bl _,H1,I1,by rw [r1.none_iff];rfl,q1⟩)
def tB (t:TE):TT:=fun σ H Q=>t σ H fun x H1=>∃ c,x=.bl c/\Q c H1
theorem zqC {op:CmpOp} {t:TE} (h:PC X op a b t) (h1:behindInMarks op b=false:=by first | exact znc _ (by decide) (by decide) | rfl):PT X (.Compare a [op] [b] pos) (tB t):=by
 intro pins s σ H Q I hw
 refine wpAny_isTrue_Compare1 (thn (h pins s σ H _ I hw) fun v s1 h1=>thn h1 fun u s2 h2=>thn h2 fun c s3 ⟨x,H1,I1,r1,q1⟩=>?_) h1
 obtain ⟨d,rfl,q⟩:=q1
 cases r1
 exact wpAny_truthy_bool ⟨H1,I1,q⟩
theorem zjH {e:Expr} {t:TE} (h:PE X e t) (he:∀ whole,isTrue e X.env whole=(do let v ← whole;standAt e.pos;holding [v] (truthy v)):=by intro _;rfl):PT X e (tB t):=by
 intro pins s σ H Q I hw
 refine isTrue_plain (thn (h pins s σ H _ I hw) fun v s1 ⟨x,H1,I1,r1,q1⟩=>?_) (he _)
 obtain ⟨d,rfl,q⟩:=q1
 cases r1
 exact wpAny_truthy_bool ⟨H1,I1,q⟩
variable {tA tB':TT} {zcb:List Expr}
def ztT (t u:TT):TT:=fun σ H Q=>t σ H fun c H1=>if c=true then u σ H1 Q else Q false H1
def tOr (t u:TT):TT:=fun σ H Q=>t σ H fun c H1=>if c=true then Q true H1 else u σ H1 Q
def ztN (t:TT):TT:=fun σ H Q=>t σ H fun c H1=>Q (!c) H1
theorem zoL (ha:PT X a tA):PW X (.BoolOp .And [a] pos) tA:=by
 intro wh pins s σ H Q I h
 refine isTrue_and (thn (ha pins s σ H Q I h) fun c s1 e=>?_)
 cases c with
 | true=>exact isTrue_and_nil e
 | false=>exact e
theorem zn0 (ha:PT X a tA):PW X (.BoolOp .Or [a] pos) tA:=by
 intro wh pins s σ H Q I h
 refine isTrue_or (thn (ha pins s σ H Q I h) fun c s1 e=>?_)
 cases c with
 | false=>exact isTrue_or_nil e
 | true=>exact e
theorem zqA (ha:PT X a tA) (hb:PW X (.BoolOp .And (b::zcb) pos) tB'):PW X (.BoolOp .And (a::b::zcb) pos) (ztT tA tB'):=by
 intro wh pins s σ H Q I h
 refine isTrue_and (thn (ha pins s σ H _ I h) fun c s1 ⟨H1,I1,q1⟩=>?_)
 cases c with
 | true=>exact hb wh pins s1 σ H1 Q I1 q1
 | false=>exact ⟨H1,I1,q1⟩
theorem zqz (ha:PT X a tA) (hb:PW X (.BoolOp .Or (b::zcb) pos) tB'):PW X (.BoolOp .Or (a::b::zcb) pos) (tOr tA tB'):=by
 intro wh pins s σ H Q I h
 refine isTrue_or (thn (ha pins s σ H _ I h) fun c s1 ⟨H1,I1,q1⟩=>?_)
 cases c with
 | true=>exact ⟨H1,I1,q1⟩
 | false=>exact hb wh pins s1 σ H1 Q I1 q1
theorem zlh (ha:PT X a tA):PT X (.UnaryOp .Not a pos) (ztN tA):=by
 intro pins s σ H Q I h
 exact isTrue_not (ha pins s σ H (fun c H1=>Q (!c) H1) I h)
def zsl (ta tb:TE):TE:=fun σ H Q=>ta σ H fun x H1=>∃ c,x=.bl c/\if c=true then tb σ H1 Q else Q (.bl false) H1
def zsf (ta:TE):TE:=fun σ H Q=>ta σ H fun x H1=>∃ c,x=.bl c/\Q (.bl (!c)) H1
theorem zqO {op} {t:TE} (h:PE X a t):PE X (.BoolOp op [a] pos) t:=fun pins s σ H Q I hw=>BoolOp_one (h pins s σ H Q I hw)
theorem zqT (ha:PE X a ta) (hb:PE X (.BoolOp .And (b::zcb) pos) tb):PE X (.BoolOp .And (a::b::zcb) pos) (zsl ta tb):=by
 intro pins s σ H Q I h
 refine BoolOp_and (thn (ha pins s σ H _ I h) fun v s1 ⟨x,H1,I1,r1,q1⟩=>?_)
 obtain ⟨c,rfl,q1⟩:=q1
 cases r1
 refine wpAny_truthy_bool ?_
 cases c with
 | true=>exact hb pins s1 σ H1 Q I1 q1
 | false=>exact ⟨.bl false,H1,I1,rfl,q1⟩
theorem zqP (ha:PE X a ta):PE X (.UnaryOp .Not a pos) (zsf ta):=by
 intro pins s σ H Q I h
 refine UnaryOp_ (thn (ha pins s σ H _ I h) fun v s1 ⟨x,H1,I1,r1,q1⟩=>?_)
 obtain ⟨c,rfl,q1⟩:=q1
 cases r1
 exact not_of (wpAny_truthy_bool ⟨.bl (!c),H1,I1,rfl,q1⟩)
end
end L2
namespace L2
open PySem PySem.Spec PyProof.Rows
def SqL (K:PySem.W.Frag) (H:Hp) (a:Addr) (xs:List V):Prop :=
 Rd H a (.lst xs) \/
  ∃ (o:Obj) (its:Array Value) (n:Nat),K.lookup a=some o/\o.cls=.type "list"/\o.dict=none/\o.data=.seq its n/\its.size<=sizeLine/\zbS xs its.toList
def SqT (K:PySem.W.Frag) (H:Hp) (a:Addr) (xs:List V):Prop :=
 Rd H a (.tup xs) \/
  ∃ (o:Obj) (its:Array Value) (n:Nat),K.lookup a=some o/\o.cls=.type "tuple"/\o.data=.seq its n/\its.size<=sizeLine/\zbS xs its.toList
def zum:Value->Option V
 | .none=>some .non
 | .bool b=>some (.bl b)
 | .int i _=>some (.int i)
 | .str x _=>some (.str x)
 | .bytes b _=>some (.byt b)
 | .float b _=>some (.flt b)
 | .ref a=>some (.ref a)
 | .type n=>some (.ty n)
 | _=>none
theorem zb9.abs {x:V} {u:Value} (r:zb9 x u):zum u=some x:=by
 cases x with
 | non=>cases r;rfl
 | bl _=>cases r;rfl
 | int _=>obtain ⟨t,rfl⟩:=r;rfl
 | str _=>obtain ⟨t,rfl⟩:=r;rfl
 | byt _=>obtain ⟨t,rfl⟩:=r;rfl
 | flt _=>obtain ⟨t,rfl⟩:=r;rfl
 | ref _=>cases r;rfl
 | ty _=>cases r;rfl
theorem zb9.inj {x y:V} {u:Value} (r:zb9 x u) (q:zb9 y u):x=y:=qF (r.abs.symm.trans q.abs)
theorem zbS.inj:∀ {xs ys:List V} {us:List Value},zbS xs us->zbS ys us->xs=ys
 | _,_,_,.nil,.nil=>rfl
 | _,_,_,.cons r t,.cons r' t'=>by rw [r.inj r',zbS.inj t t']
section
variable {X:Cx} {pins:List (Addr×Obj)} {σ:St} {H:Hp} {s:Shared} {a:Addr} {xs ys:List V}
theorem Inv.list (I:Inv X pins σ H s) (h:SqL X.K H a xs):∃ its:List Value,zbS xs its/\PlainL s.heap a its.toArray/\xs.length<=sizeLine:=by
 rcases h with h | ⟨o,its,n,hk,hc,hd,hs,hz,r⟩
 ·obtain ⟨z,its,n,r,e⟩:=h.ok I.hok
  exact ⟨its,r,⟨_,n,e,rfl,rfl,rfl⟩,z⟩
 ·refine ⟨its.toList,r,⟨o,n,I.kIn a o hk,hc,hd,by simpa using hs⟩,?_⟩
  have e:=r.length
  simp only [Array.length_toList] at e
  omega
theorem Inv.tuple (I:Inv X pins σ H s) (h:SqT X.K H a xs):∃ its:List Value,zbS xs its/\IsTup s.heap a its.toArray/\xs.length<=sizeLine:=by
 rcases h with h | ⟨o,its,n,hk,hc,hs,hz,r⟩
 ·obtain ⟨z,its,r,p⟩:=h.ok I.hok
  exact ⟨its,r,p,z⟩
 ·refine ⟨its.toList,r,⟨o,I.kIn a o hk,hc,n,by simpa using hs⟩,?_⟩
  have e:=r.length
  simp only [Array.length_toList] at e
  omega
theorem Inv.list_inj (I:Inv X pins σ H s) (h:SqL X.K H a xs) (h':SqL X.K H a ys):xs=ys:=by
 obtain ⟨its,r,⟨o,n,e,_,_,d⟩,_⟩:=I.list h
 obtain ⟨its',r',⟨o',n',e',_,_,d'⟩,_⟩:=I.list h'
 rw [e] at e';cases e'
 rw [d] at d'
 injection d' with d1 _
 have:its=its':=by simpa using congrArg Array.toList d1
 subst this
 exact r.inj r'
theorem Inv.tuple_inj (I:Inv X pins σ H s) (h:SqT X.K H a xs) (h':SqT X.K H a ys):xs=ys:=by
 obtain ⟨its,r,⟨o,e,_,n,d⟩,_⟩:=I.tuple h
 obtain ⟨its',r',⟨o',e',_,n',d'⟩,_⟩:=I.tuple h'
 rw [e] at e';cases e'
 rw [d] at d'
 injection d' with d1 _
 have:its=its':=by simpa using congrArg Array.toList d1
 subst this
 exact r.inj r'
end
abbrev Cx.wish (X:Cx) (E:Value->Shared->Prop):Cx:={ X with xe:=E }
abbrev Cx.nox (X:Cx):Cx:=X.wish fun _ _=>False
theorem Cx.Ok.wish {X:Cx} (ok:X.Ok) (E:Value->Shared->Prop):(X.wish E).Ok :=
 ⟨ok.mod,ok.kind,ok.glob,ok.blt,ok.above,ok.inj,ok.has,ok.cab,ok.hd,ok.frames,ok.stk,ok.exf,ok.bs,ok.bsz,ok.noex,ok.exfs,ok.funs,ok.frf⟩
theorem Cx.Ok.unwish {X:Cx} {E:Value->Shared->Prop} (ok:(X.wish E).Ok):X.Ok :=
 ⟨ok.mod,ok.kind,ok.glob,ok.blt,ok.above,ok.inj,ok.has,ok.cab,ok.hd,ok.frames,ok.stk,ok.exf,ok.bs,ok.bsz,ok.noex,ok.exfs,ok.funs,ok.frf⟩
section
variable {X:Cx} {pins:List (Addr×Obj)} {σ:St} {H:Hp} {s:Shared} {E:Value->Shared->Prop}
theorem Inv.wish (I:Inv X pins σ H s) (E:Value->Shared->Prop):Inv (X.wish E) pins σ H s:=⟨I.ok.wish E,I.os,I.bare,I.base,I.loc,I.cell,I.free,I.freeC,I.pin,I.hok,I.len⟩
theorem Inv.unwish (I:Inv (X.wish E) pins σ H s):Inv X pins σ H s:=⟨I.ok.unwish,I.os,I.bare,I.base,I.loc,I.cell,I.free,I.freeC,I.pin,I.hok,I.len⟩
theorem SP.unwish {D:Ends} {f:Flow} {s':Shared} (h:SP (X.wish E) pins D f s'):SP X pins D f s':=by
 cases f with
 | next=>obtain ⟨σ',H',I,q⟩:=h;exact ⟨σ',H',I.unwish,q⟩
 | brk=>obtain ⟨σ',H',I,q⟩:=h;exact ⟨σ',H',I.unwish,q⟩
 | cont=>obtain ⟨σ',H',I,q⟩:=h;exact ⟨σ',H',I.unwish,q⟩
 | ret u=>obtain ⟨v,σ',H',I,r,q⟩:=h;exact ⟨v,σ',H',I.unwish,r,q⟩
theorem PSs.nox {st:List Stmt} {t:TS} (h:PSs X.nox st t):PSs X st t:=fun pins s σ H D I hw =>
 wpAny_mono (h pins s σ H D (I.wish _) hw) (fun _ _ q=>q.unwish) fun _ _ z=>False.elim z
end
section
variable {X:Cx} {st:Stmt} {zcb:List Stmt} {t u:TS} {e:Expr} {te:TE} {pos:Pos}
def zsg:TS:=fun D σ H=>D.nx σ H
def ztL (t u:TS):TS:=fun D σ H=>t { D with nx:=u D } σ H
theorem zfT:PSs X [] zsg:=fun _ _ σ H _ I h=>wpAny_execs_nil ⟨σ,H,I,h⟩
theorem zcY (h1:PS X st t) (h2:PSs X zcb u):PSs X (st::zcb) (ztL t u):=by
 intro pins s σ H D I h
 refine wpAny_execs_cons (thn (h1 pins s σ H { D with nx:=u D } I h) fun f s1 q=>?_)
 cases f with
 | next =>
  obtain ⟨σ',H',I',q⟩:=q
  exact h2 pins s1 σ' H' D I' q
 | ret v=>exact q
 | brk=>exact q
 | cont=>exact q
theorem zds (h1:PS X st t):PSs X [st] t:=by
 intro pins s σ H D I h
 refine wpAny_execs_cons (thn (h1 pins s σ H D I h) fun f s1 q=>?_)
 cases f with
 | next=>exact wpAny_execs_nil q
 | ret v=>exact q
 | brk=>exact q
 | cont=>exact q
theorem Inv.quiet {pins:List (Addr×Obj)} {σ:St} {H:Hp} {s:Shared} (I:Inv X pins σ H s):interactive X.env=false:=by simp [interactive,I.ok.kind]
def zsi (te:TE):TS:=fun D σ H=>te σ H fun _ H1=>D.nx σ H1
theorem zi4 (he:PE X e te) (hs:swapsWith e none pos.line X.env=pure false:=by rfl):PS X (.Expr e pos) (zsi te):=by
 intro pins s σ H D I h
 exact wpAny_Expr_any (thn (he pins s σ H _ I h) fun v s1 ⟨x,H1,I1,r1,q1⟩=>⟨σ,H1,I1,q1⟩) I.quiet hs
def ztM (te:TE):TS:=fun D σ H=>te σ H D.rt
theorem zgW (he:PE X e te):PS X (.Return (some e) pos) (ztM te):=by
 intro pins s σ H D I h
 exact wpAny_Return_some (thn (he pins s σ H _ I h) fun v s1 ⟨x,H1,I1,r1,q1⟩=>⟨x,σ,H1,I1,r1,q1⟩)
def ztQ (c:TT) (t u:TS):TS:=fun D σ H=>c σ H fun b H1=>if b=true then t D σ H1 else u D σ H1
theorem zli {c:Expr} {a b:List Stmt} {tc:TT} (hc:PT X c tc) (ha:PSs X a t) (hb:PSs X b u):PS X (.If c a b pos) (ztQ tc t u):=by
 intro pins s σ H D I h
 refine wpAny_If (thn (hc pins s σ H _ I h) fun d s1 ⟨H1,I1,q1⟩=>?_)
 cases d with
 | true=>exact ha pins s1 σ H1 D I1 q1
 | false=>exact hb pins s1 σ H1 D I1 q1
end
abbrev TG:=V->St->Hp->(St->Hp->Prop)->Prop
abbrev TGs:=List V->St->Hp->(St->Hp->Prop)->Prop
def PG (X:Cx) (target:Expr) (t:TG):Prop :=
 ∀ (pins:List (Addr×Obj)) (s:Shared) (σ:St) (H:Hp) (v:V) (u:Value) (Q:St->Hp->Prop),Inv X pins σ H s->zb9 v u->t v σ H Q ->
  wpAny (model X.prog X.w) X.A (assign target X.env u) (fun _ s'=>∃ σ' H',Inv X pins σ' H' s'/\Q σ' H') X.xe s
def PGs (X:Cx) (ts:List Expr) (t:TGs):Prop :=
 ∀ (pins:List (Addr×Obj)) (s:Shared) (σ:St) (H:Hp) (vs:List V) (us:List Value) (Q:St->Hp->Prop),Inv X pins σ H s->zbS vs us->t vs σ H Q ->
  wpAny (model X.prog X.w) X.A (assignInOrder ((assignEach ts X.env).map (·.2)) us) (fun _ s'=>∃ σ' H',Inv X pins σ' H' s'/\Q σ' H') X.xe s
abbrev ztb:=V->V->V->Hp->(Hp->Prop)->Prop
def ztF (X:Cx) (t:ztb):Prop :=
 ∀ (pins:List (Addr×Obj)) (s:Shared) (σ:St) (H:Hp) (o i v:V) (ov iv u:Value) (Q:Hp->Prop),Inv X pins σ H s->zb9 o ov->zb9 i iv->zb9 v u->t o i v H Q ->
  wpAny (model X.prog X.w) X.A (setItem ov iv u) (fun _ s'=>∃ H',Inv X pins σ H' s'/\Q H') X.xe s
section
variable {X:Cx} {pos:Pos}
def zkD (i:Nat):TG:=fun v σ H Q=>Q (σ.set i (some v)) H
theorem zo0 {i:Nat} {x:Str} (hN:X.N.Nodup) (hi:X.N[i]?=some x) (hx:Loc X.env.scope x) (hf:X.fn x=true\/X.env.scope.names.lookup x=some .local:=by first | exact .inl rfl | exact .inr rfl | assumption):PG X (.Name x pos) (zkD i):=by
 intro pins s σ H v u Q I r h
 exact wpAny_assign_Name (zhm I hN hi hx r (fun s' I'=>⟨_,H,I',h⟩) hf)
def zt8:TGs:=fun vs σ H Q=>vs=[]/\Q σ H
def zsU (t:TG) (u:TGs):TGs:=fun vs σ H Q=>∃ v r,vs=v::r/\t v σ H fun σ' H'=>u r σ' H' Q
theorem zoZ:PGs X [] zt8:=by
 intro pins s σ H vs us Q I r h
 obtain ⟨e,h⟩:=h
 subst e
 cases r
 exact assignInOrder_nil ⟨σ,H,I,h⟩
theorem zm4 {e:Expr} {es:List Expr} {t:TG} {u:TGs} (h1:PG X e t) (h2:PGs X es u)
  (hs:(assignEach (e::es) X.env).map (·.2)=assign e X.env::(assignEach es X.env).map (·.2):=by rfl):PGs X (e::es) (zsU t u):=by
 intro pins s σ H vs us Q I r h
 obtain ⟨v,vr,e1,h⟩:=h
 subst e1
 cases r with
 | cons r rr =>
  rw [hs]
  refine assignInOrder_cons (thn (h1 pins s σ H _ _ _ I r h) fun _ s1 ⟨σ1,H1,I1,q1⟩=>?_)
  exact h2 pins s1 σ1 H1 _ _ Q I1 rr q1
def zt6 (K:PySem.W.Frag) (n:Nat) (t:TGs):TG:=fun v σ H Q=>∃ a xs,v=.ref a/\SqT K H a xs/\xs.length=n/\t xs σ H Q
theorem zqL {es:List Expr} {k:Nat} {t:TGs} {n:Nat} (hc:X.calm=true) (h:PGs X es t)
  (hn:(assignEach es X.env).length=n:=by rfl) (hst:(assignEach es X.env).findIdx? (·.1)=none:=by rfl):PG X (.Tuple es k pos) (zt6 X.K n t):=by
 intro pins s σ H v u Q I r hw
 obtain ⟨a,xs,e1,hq,hl,hw⟩:=hw
 subst e1
 cases r
 obtain ⟨its,rv,ht,hz⟩:=I.tuple hq
 refine assign_Tuple_tuple (I.ok.hd hc) ht (by simp [hn,← hl,rv.length]) hst fun h' hx=>?_
 have I1:Inv X pins σ H { s with heap:=h' }:=I.kept (t':=s.toks) fun b o e=>hx b o (qA (qt e)) e
 exact h pins _ σ H xs _ Q I1 (by simpa using rv) hw
def zt7 (to ti:TE) (t:ztb):TG:=fun v σ H Q=>to σ H fun o H1=>ti σ H1 fun i H2=>t o i v H2 fun H3=>Q σ H3
theorem zqM {o i:Expr} {to ti:TE} {t:ztb} (ho:PE X o to) (hi:PE X i ti) (hs:ztF X t)
  (ha:∀ v,assign (.Subscript o i pos) X.env v=(do
   let ov ← holding [v] (eval o X.env)
   let iv ← holding [v,ov] (eval i X.env)
   standAt pos
   holding [v,ov,iv] (setItem ov iv v)
   release [v,ov,iv] []):=by intro _;rfl):PG X (.Subscript o i pos) (zt7 to ti t):=by
 intro pins s σ H v u Q I r h
 rw [ha]
 refine qv (qR (thn (ho pins s σ H _ I h) fun ov s1 ⟨x,H1,I1,r1,q1⟩=>?_))
 refine qv (qR (thn (hi pins s1 σ H1 _ I1 q1) fun iv s2 ⟨y,H2,I2,r2,q2⟩=>?_))
 refine qv (wpAny_standAt (qv (qR (thn (hs pins s2 σ H2 x y v ov iv u _ I2 r1 r2 r q2) fun _ s3 ⟨H3,I3,q3⟩=>?_))))
 exact wpAny_release ⟨σ,H3,I3,q3⟩
def zp4 (te:TE) (g:TG):TS:=fun D σ H=>te σ H fun x H1=>g x σ H1 D.nx
theorem zqF {tg e:Expr} {te:TE} {g:TG} (he:PE X e te) (hg:PG X tg g) (hs:swapsWithSole [tg] e pos.line X.env=pure false:=by rfl) (hw:swappedStores [tg] e X.env=pure none:=by rfl)
  (h1:(assignEach [tg] X.env).map (·.2)=[assign tg X.env]:=by rfl):PS X (.Assign [tg] e pos) (zp4 te g):=by
 intro pins s σ H D I h
 refine wpAny_Assign_stores (thn (he pins s σ H _ I h) fun v s1 ⟨x,H1,I1,r1,q1⟩=>?_) hs hw
 rw [h1]
 exact thn (hg pins s1 σ H1 x v _ I1 r1 q1) fun _ s2 q=>q
theorem zjI {i:Nat} {x:Str} {e:Expr} {te:TE} {pos':Pos} (hN:X.N.Nodup) (hi:X.N[i]?=some x) (hx:Loc X.env.scope x) (he:PE X e te) (hs:swapsWith e (some (.Name x pos')) pos.line X.env=pure false:=by rfl) (hf:X.fn x=true\/X.env.scope.names.lookup x=some .local:=by first | exact .inl rfl | exact .inr rfl | assumption) :
  PS X (.Assign [.Name x pos'] e pos) (zp4 te (zkD i)):=by
 intro pins s σ H D I h
 refine wpAny_Assign_Name (thn (he pins s σ H _ I h) fun v s1 ⟨y,H1,I1,r1,q1⟩=>?_) hs
 exact zhm I1 hN hi hx r1 (fun s2 I2=>⟨_,H1,I2,q1⟩) hf
end
section
variable {X:Cx} {pos:Pos}
end
structure It where
 go:Nat->Hp->Prop
 yld:Nat->Hp->V->Hp->Prop
 stop:Nat->Hp->Prop
def zkP (X:Cx) (pins:List (Addr×Obj)) (H:Hp) (b:Addr):Prop :=
 H b=none/\b≠X.env.locals/\b∉X.fs/\(b∈X.ex\/X.s₀.heap.objs.size<=b)/\(∀ x c,X.env.cells.lookup x=some c->c≠b)/\∀ p∈X.pn++pins,p.1≠b
theorem Inv.fpOk {X:Cx} {pins:List (Addr×Obj)} {σ:St} {H H':Hp} {s:Shared} {b:Addr} (I:Inv X pins σ H s) (hb:s.heap.objs.size<=b) (hn:H' b=none):zkP X pins H' b:=by
 refine ⟨hn,Nat.ne_of_gt (qD I.lt hb),I.nofs hb,.inr (qK I.sz hb),fun x c e z=>?_,fun p hp z=>?_⟩
 ·obtain ⟨v,q⟩:=I.cell x c e
  exact absurd (qD q.lt (by rw [z];exact hb)) (Nat.lt_irrefl _)
 ·exact absurd (qD (qt (I.pin p hp).1) (by rw [z];exact hb)) (Nat.lt_irrefl _)
structure Turn (P:Program) (w:World) (K:PySem.W.Frag) (tg:Expr) (J:It) (fp:List Addr) (it:Addr) (tn:Nat->Heap->Prop):Prop where
 mem:it∈fp
 obj:∀ i h,tn i h->∀ b∈fp,∃ o,h.get? b=some o/\∀ v,o.data≠.cell v
 keep:∀ i h h',tn i h->(∀ b∈fp,∀ o,h.get? b=some o->h'.get? b=some o)->tn i h'
 item:∀ (X:Cx),X.prog=P->X.w=w->X.K=K->X.calm=true->∀ (i:Nat) (pins:List (Addr×Obj)) (s:Shared) (σ:St) (H:Hp) (E:Value->Shared->Prop),Inv X pins σ H s->(∀ b∈fp,zkP X pins H b)->tn i s.heap->J.go i H ->
  wpAny (model P w) X.A (pyNext (.ref it)) (fun r s1=>∃ u,r=some u /\
   wpAny (model P w) X.A (letOwnedTupleGo tg (.ref it) u) (fun _ s2=>∃ x H',Inv X pins σ H' s2/\zb9 x u/\J.yld i H x H'/\tn (i+1) s2.heap/\∀ b∈fp,H' b=none) E s1) E s
 done:∀ (X:Cx),X.prog=P->X.w=w->X.K=K->X.calm=true->∀ (i:Nat) (pins:List (Addr×Obj)) (s:Shared) (σ:St) (H:Hp) (E:Value->Shared->Prop),Inv X pins σ H s->(∀ b∈fp,zkP X pins H b)->tn i s.heap->J.stop i H ->
  wpAny (model P w) X.A (pyNext (.ref it)) (fun r s1=>r=none/\Inv X pins σ H s1) E s
 self:∀ (A:Around) (i:Nat) (s:Shared) (Q:Value->Shared->Prop) (E:Value->Shared->Prop),tn i s.heap->Q (.ref it) s->wpAny (model P w) A (pyIter (.ref it)) Q E s
abbrev TI:=St->Hp->(It->Hp->Prop)->Prop
def PIE (X:Cx) (pins:List (Addr×Obj)) (σ:St) (tg:Expr) (R:It->Hp->Prop) (itv:Value) (s2:Shared):Prop :=
 ∃ (it:Addr) (fp:List Addr) (tn:Nat->Heap->Prop) (J:It) (H':Hp),itv=.ref it/\Inv X pins σ H' s2/\Turn X.prog X.w X.K tg J fp it tn/\tn 0 s2.heap/\(∀ b∈fp,zkP X pins H' b)/\R J H'
def PI (X:Cx) (tg iter:Expr) (wi:TI):Prop :=
 ∀ (pins:List (Addr×Obj)) (s:Shared) (σ:St) (H:Hp) (R:It->Hp->Prop),Inv X pins σ H s->wi σ H R ->
  wpAny (model X.prog X.w) X.A (eval iter X.env) (fun v s1=>wpAny (model X.prog X.w) X.A (pyIter v) (PIE X pins σ tg R) X.xe s1) X.xe s
theorem zpz {M:Model} {A:Around} {E:Value->Shared->Prop} {s:Shared} {tg:Expr} {it:Addr} {u:Value} {o:Obj} {n:String} {vs:Array Value} {Q:Unit->Shared->Prop} (ho:s.heap.get? it=some o) (hc:o.cls=.type n) (hd:o.data=.fields vs)
  (hn:["enumerate","zip","dict_itemiterator","dict_reverseitemiterator","odict_iterator","itertools.zip_longest","itertools.pairwise"].contains n=false) (hQ:Q () s):wpAny M A (letOwnedTupleGo tg (.ref it) u) Q E s:=by
 unfold letOwnedTupleGo
 cases tg <;> first
  | exact qy hQ
  | (cases u <;> first
    | exact qy hQ
    | (refine qv (wpAny_load ho ?_);rw [hc,hd];show wpAny M A (if (["enumerate","zip","dict_itemiterator","dict_reverseitemiterator","odict_iterator","itertools.zip_longest","itertools.pairwise"].contains n && vs[0]?==some (rawInt _))=true then _ else _) Q E s;rw [qY (by intro h;rw [hn,Bool.false_and] at h;cases h)];exact qy hQ))
def Itl (K:PySem.W.Frag) (a:Addr):It :=
 ⟨fun i H=>∃ xs x,SqL K H a xs/\xs[i]?=some x,fun i H x H'=>H'=H/\∀ xs,SqL K H a xs->xs[i]?=some x,fun i H=>∃ xs,SqL K H a xs/\xs.length<=i⟩
def Itt (K:PySem.W.Frag) (a:Addr):It :=
 ⟨fun i H=>∃ xs x,SqT K H a xs/\xs[i]?=some x,fun i H x H'=>H'=H/\∀ xs,SqT K H a xs->xs[i]?=some x,fun i H=>∃ xs,SqT K H a xs/\xs.length<=i⟩
def Itr (lo:Int) (n:Nat):It:=⟨fun i _=>i < n,fun i H x H'=>H'=H/\x=.int (lo+i),fun i _=>n<=i⟩
theorem zkY {P:Program} {w:World} {K:PySem.W.Frag} {tg:Expr} (a it:Addr):Turn P w K tg (Itl K a) [it] it (fun i h=>h.IsListIter it a i) where
 mem:=by simp
 obj:=fun i h st b hb=>by
  have e:b=it:=by simpa using hb
  subst e
  obtain ⟨o,e,c,d⟩:=st
  exact ⟨o,e,fun v z=>by rw [d] at z;cases z⟩
 keep:=fun i h h' st k=>st.at fun o e=>k it (by simp) o e
 item:=by
  intro X hP hw hK hc i pins s σ H E I hf st hg
  subst hP hw hK
  obtain ⟨xs,x,hq,hx⟩:=hg
  obtain ⟨its,rv,p,hz⟩:=I.list hq
  obtain ⟨u,hu,ru⟩:=rv.get hx
  obtain ⟨f0,f1,f2,f3,f4,f5⟩:=hf it (by simp)
  refine wpAny_pyNext_list_item st p.isList (x:=u) (by simpa using hu) fun h' st' sb=>?_
  have I1:Inv X pins σ H { s with heap:=h' }:=I.turned (t':=s.toks) (fun b o hb e=>(sb.2 b hb).trans e) f0 f1 f3 f4 f5
  obtain ⟨o,e,c,d⟩:=id st'
  exact ⟨u,rfl,zpz (s:={ s with heap:=h' }) e c d (by decide) ⟨x,H,I1,ru,⟨rfl,fun ys hy=>by rw [I.list_inj hy hq];exact hx⟩,st',fun b hb=>(hf b hb).1⟩⟩
 done:=by
  intro X hP hw hK hc i pins s σ H E I hf st hg
  subst hP hw hK
  obtain ⟨xs,hq,hx⟩:=hg
  obtain ⟨its,rv,p,hz⟩:=I.list hq
  obtain ⟨f0,f1,f2,f3,f4,f5⟩:=hf it (by simp)
  have hl:=rv.length
  exact wpAny_pyNext_list_end (I.ok.hd hc) st p.isList (by simp;omega) fun h' eb=>⟨rfl,I.turned (t':=s.toks) (fun b o hb e=>eb b o hb e) f0 f1 f3 f4 f5⟩
 self:=fun _ _ _ _ _ st h=>wpAny_pyIter_listiter st h
theorem zkf {P:Program} {w:World} {K:PySem.W.Frag} {tg:Expr} (a it:Addr):Turn P w K tg (Itt K a) [it] it (fun i h=>h.IsTupleIter it a i) where
 mem:=by simp
 obj:=fun i h st b hb=>by
  have e:b=it:=by simpa using hb
  subst e
  obtain ⟨o,e,c,d⟩:=st
  exact ⟨o,e,fun v z=>by rw [d] at z;cases z⟩
 keep:=fun i h h' st k=>st.at fun o e=>k it (by simp) o e
 item:=by
  intro X hP hw hK hc i pins s σ H E I hf st hg
  subst hP hw hK
  obtain ⟨xs,x,hq,hx⟩:=hg
  obtain ⟨its,rv,p,hz⟩:=I.tuple hq
  obtain ⟨u,hu,ru⟩:=rv.get hx
  obtain ⟨f0,f1,f2,f3,f4,f5⟩:=hf it (by simp)
  refine wpAny_pyNext_tuple_item st (show s.heap.IsTuple a its.toArray from p) (x:=u) (by simpa using hu) fun h' st' sb=>?_
  have I1:Inv X pins σ H { s with heap:=h' }:=I.turned (t':=s.toks) (fun b o hb e=>(sb.2 b hb).trans e) f0 f1 f3 f4 f5
  obtain ⟨o,e,c,d⟩:=id st'
  exact ⟨u,rfl,zpz (s:={ s with heap:=h' }) e c d (by decide) ⟨x,H,I1,ru,⟨rfl,fun ys hy=>by rw [I.tuple_inj hy hq];exact hx⟩,st',fun b hb=>(hf b hb).1⟩⟩
 done:=by
  intro X hP hw hK hc i pins s σ H E I hf st hg
  subst hP hw hK
  obtain ⟨xs,hq,hx⟩:=hg
  obtain ⟨its,rv,p,hz⟩:=I.tuple hq
  obtain ⟨f0,f1,f2,f3,f4,f5⟩:=hf it (by simp)
  have hl:=rv.length
  exact wpAny_pyNext_tuple_end (I.ok.hd hc) st (show s.heap.IsTuple a its.toArray from p) (by simp;omega) fun h' eb=>⟨rfl,I.turned (t':=s.toks) (fun b o hb e=>eb b o hb e) f0 f1 f3 f4 f5⟩
 self:=fun _ _ _ _ _ st h=>wpAny_pyIter_tupleiter st h
theorem zkg {P:Program} {w:World} {K:PySem.W.Frag} {tg:Expr} (it:Addr) (lo:Int) (n:Nat):Turn P w K tg (Itr lo n) [it] it (fun i h=>IsRangeIter h it (lo+(i:Nat)*1) ((n:Int) - (i:Nat)) 1) where
 mem:=by simp
 obj:=fun i h st b hb=>by
  have e:b=it:=by simpa using hb
  subst e
  exact ⟨_,st,fun v z=>by
   have z':Data.fields _=Data.cell v:=z
   cases z'⟩
 keep:=fun i h h' st k=>k it (by simp) _ st
 item:=by
  intro X hP hw hK hc i pins s σ H E I hf st hg
  subst hP hw hK
  obtain ⟨f0,f1,f2,f3,f4,f5⟩:=hf it (by simp)
  have W:=Walks.range (prog:=X.prog) (w:=X.w) (I.ok.hd hc) it lo 1 n
  refine W.item i s _ _ hg st fun v h' tk hv st' kk=>?_
  obtain ⟨t,rfl⟩:=hv
  have I1:Inv X pins σ H { s with heap:=h',toks:=tk }:=I.turned (fun b o hb e=>kk b o (by simpa using hb) e) f0 f1 f3 f4 f5
  refine ⟨_,rfl,zpz (s:={ s with heap:=h',toks:=tk }) (n:="range_iterator") st' rfl rfl (by decide) ⟨.int (lo+i),H,I1,⟨t,?_⟩,⟨rfl,rfl⟩,st',fun b hb=>(hf b hb).1⟩⟩
  rw [Int.mul_one]
 done:=by
  intro X hP hw hK hc i pins s σ H E I hf st hg
  subst hP hw hK
  obtain ⟨f0,f1,f2,f3,f4,f5⟩:=hf it (by simp)
  exact wpAny_pyNext_range_end (I.ok.hd hc) st (by have:n<=i:=hg;omega) fun h' eb=>⟨rfl,I.turned (t':=s.toks) (fun b o hb e=>eb b o hb e) f0 f1 f3 f4 f5⟩
 self:=fun _ _ _ _ _ st h=>wpAny_pyIter_rangeiter st h
end L2
namespace L2
open PySem PySem.Spec PyProof.Rows
section
variable {X:Cx} {tg:Expr}
theorem zjG {pins:List (Addr×Obj)} {σ:St} {H:Hp} {s:Shared} {R:It->Hp->Prop} {E:Value->Shared->Prop} {lo hi:Int} {t u v:Tok} {tk:Nat} (I:Inv X pins σ H s) (h1 : -(2 ^ 62)<=lo) (h2:lo < 2 ^ 62) (h3 : -(2 ^ 62)<=hi) (h4:hi < 2 ^ 62)
  (q:R (Itr lo (hi - lo).toNat) H):wpAny (model X.prog X.w) X.A (pyIter (.ref s.heap.objs.size)) (PIE X pins σ tg R) E { s with heap:=s.heap.push { cls:=.type "range",data:=.fields #[.int lo t,.int hi u,.int 1 v] },toks:=tk }:=by
 refine wpAny_pyIter_range (IsRange.new ..) (small_one h1 h2 h3 h4) ?_
 have I1:Inv X pins σ H { s with heap:=s.heap.push { cls:=.type "range",data:=.fields #[.int lo t,.int hi u,.int 1 v] },toks:=tk }:=I.kept fun b o e=>qr _ e
 refine ⟨(s.heap.push { cls:=.type "range",data:=.fields #[.int lo t,.int hi u,.int 1 v] }).objs.size,[(s.heap.push { cls:=.type "range",data:=.fields #[.int lo t,.int hi u,.int 1 v] }).objs.size],_,_,H,rfl,
  I1.kept (t':=tk) fun b o e=>qr _ e,zkg _ lo (hi - lo).toNat,?_,fun b hb=>?_,q⟩
 ·have e1:lo+((0:Nat):Int)*1=lo:=by simp
  have e2:(((hi - lo).toNat:Nat):Int) - ((0:Nat):Int)=Builtin.Range.rangeSize lo hi 1:=by rw [rangeSize_one];split <;> omega
  show IsRangeIter _ _ (lo+((0:Nat):Int)*1) ((((hi - lo).toNat:Nat):Int) - ((0:Nat):Int)) 1
  rw [e1,e2]
  exact qE _ rfl
 ·have e:b=(s.heap.push { cls:=.type "range",data:=.fields #[.int lo t,.int hi u,.int 1 v] }).objs.size:=by simpa using hb
  subst e
  exact I1.fpOk (qu _) (I1.hok.fresh (qu _))
def zsQ (ta:TA):TI:=fun σ H R=>ta σ H fun vs H1=>∃ j:Int,vs=[.int j] /\ -(2 ^ 62)<=j/\j < 2 ^ 62/\R (Itr 0 j.toNat) H1
def zsP (ta:TA):TI:=fun σ H R=>ta σ H fun vs H1=>∃ i j:Int,vs=[.int i,.int j]/\(-(2 ^ 62)<=i/\i < 2 ^ 62 /\ -(2 ^ 62)<=j/\j < 2 ^ 62)/\R (Itr i (j - i).toNat) H1
theorem zll {a:Expr} {ta:TA} {p pos:Pos} (hg:Gl X "range") (hm:X.mg "range"=none) (ha:PA X [a] ta) (hs:starEach [a] X.env=[(false,eval a X.env)]:=by rfl):PI X tg (.Call (.Name "range" p) [a] [] pos) (zsQ ta):=by
 intro pins s σ H R I h
 refine Call_ (zg5 I hg hm boot_range (PyProof.Rows.callWith_type1 (thn (ha pos pins s σ H _ I h) fun us s1 ⟨vs,H1,I1,r1,q1⟩=>?_) hs rfl))
 obtain ⟨j,e,q1,q2,q⟩:=q1
 subst e
 cases r1 with
 | cons r rr =>
  cases rr
  obtain ⟨t,rfl⟩:=r
  exact call_range_1 (zjG I1 (by omega) (by omega) q1 q2 (by simpa using q))
theorem zlk {a b:Expr} {ta:TA} {p pos:Pos} (hg:Gl X "range") (hm:X.mg "range"=none) (ha:PA X [a,b] ta) (hs:starEach [a,b] X.env=[(false,eval a X.env),(false,eval b X.env)]:=by rfl) (hs2:starEach [b] X.env=[(false,eval b X.env)]:=by rfl) :
  PI X tg (.Call (.Name "range" p) [a,b] [] pos) (zsP ta):=by
 intro pins s σ H R I h
 refine Call_ (zg5 I hg hm boot_range (PyProof.Rows.callWith_type1 (thn (ha pos pins s σ H _ I h) fun us s1 ⟨vs,H1,I1,r1,q1⟩=>?_) (by rw [hs,hs2]) (by rw [hs2];rfl)))
 obtain ⟨i,j,e,⟨q1,q2,q3,q4⟩,q⟩:=q1
 subst e
 cases r1 with
 | cons r rr =>
  cases rr with
  | cons r' rr =>
   cases rr
   obtain ⟨t,rfl⟩:=r
   obtain ⟨t',rfl⟩:=r'
   exact call_range_2 (zjG I1 q1 q2 q3 q4 q)
def ztR (wi:TI) (g:TG) (tb:TS):TS:=fun D σ H=>wi σ H fun J H1=>∃ W:Nat->Nat->St->Hp->Prop,(∃ m,W 0 m σ H1)/\∀ i m σ H,W i m σ H ->
 (J.stop i H/\D.nx σ H)\/(J.go i H/\∃ N:St->Hp->Prop,(∀ σ' H',N σ' H'->∃ m',m' < m/\W (i+1) m' σ' H')/\∀ x H',J.yld i H x H'->g x σ H' fun σ2 H2=>tb { D with nx:=N,ct:=N,bk:=D.nx } σ2 H2)
def zik (fp:List Addr) (h:Heap):List (Addr×Obj):=fp.filterMap fun b=>(h.get? b).map fun o=>(b,o)
theorem zdV {fp:List Addr} {h:Heap} {b:Addr} {o:Obj} (hb:b∈fp) (e:h.get? b=some o):(b,o)∈zik fp h:=List.mem_filterMap.mpr ⟨b,hb,by rw [e];rfl⟩
theorem zlt {fp:List Addr} {h:Heap} {p:Addr×Obj} (hp:p∈zik fp h):p.1∈fp/\h.get? p.1=some p.2:=by
 obtain ⟨b,hb,e⟩:=List.mem_filterMap.mp hp
 cases q:h.get? b with
 | none=>rw [q] at e;cases e
 | some o =>
  rw [q] at e
  have e':(b,o)=p:=qF e
  subst e'
  exact ⟨hb,q⟩
theorem Inv.pinned {pins:List (Addr×Obj)} {σ:St} {H:Hp} {s:Shared} {fp:List Addr} (I:Inv X pins σ H s) (hf:∀ b∈fp,zkP X pins H b) (ho:∀ b∈fp,∃ o,s.heap.get? b=some o/\∀ v,o.data≠.cell v):Inv X (pins++zik fp s.heap) σ H s :=
 I.pins_of fun p hp=>(List.mem_append.mp hp).elim (fun z=>I.pin p (qO _ z)) fun z=>by
  obtain ⟨hb,e⟩:=zlt z
  obtain ⟨f0,f1,f2,_⟩:=hf p.1 hb
  obtain ⟨o,e',d⟩:=ho p.1 hb
  rw [e] at e';cases e'
  exact ⟨e,f0,f1,f2,d⟩
theorem Inv.unpinned {pins pl:List (Addr×Obj)} {σ:St} {H:Hp} {s:Shared} (I:Inv X (pins++pl) σ H s):Inv X pins σ H s:=I.pins_of fun p hp=>I.pin p (qO _ (List.mem_append_left _ hp))
theorem zqE {iter:Expr} {body:List Stmt} {wi:TI} {g:TG} {tb:TS} {pos:Pos} (hp:PassesOwn (model X.prog X.w) X.A X.env X.xe) (hc:X.calm=true) (hi:PI X tg iter wi) (hg:PG X tg g) (hb:PSs X body tb)
  (hs:∀ x,foldedSetIterable iter X.env x=pure x:=by intro _;rfl):PS X (.For tg iter body [] pos) (ztR wi g tb):=by
 intro pins s σ H D I h
 refine wpAny_For (thn (hi pins s σ H _ I h) fun v s1 h1=>thn h1 fun itv s2 h2=>?_) hs
 obtain ⟨it,fp,tn,J,H2,e,I2,T,st2,f2,W,⟨m0,w0⟩,turn⟩:=h2
 subst e
 have stat:∀ {H':Hp},(∀ b∈fp,H' b=none)->∀ b∈fp,zkP X pins H' b:=fun hn b hb=>⟨hn b hb,(f2 b hb).2⟩
 refine codeAny_forLoop_any (fun n s'=>∃ i σ' H',Inv X pins σ' H' s'/\tn i s'.heap/\(∀ b∈fp,H' b=none)/\W i n σ' H') ?_ m0 ⟨0,σ,H2,I2,st2,fun b hb=>(f2 b hb).1,w0⟩
 rintro n s3 ⟨i,σ3,H3,I3,st3,fr3,w3⟩
 rcases turn i n σ3 H3 w3 with ⟨stop,qn⟩ | ⟨go,N,hN,step⟩
 ·refine wpAny_passesOwn hp (thn (T.done X rfl rfl rfl hc i pins s3 σ3 H3 X.xe I3 (stat fr3) st3 stop) fun r s4 ⟨hr,I4⟩=>?_)
  subst hr
  exact wpAny_execs_nil ⟨σ3,H3,I4,qn⟩
 ·refine wpAny_passesOwn hp (thn (T.item X rfl rfl rfl hc i pins s3 σ3 H3 X.xe I3 (stat fr3) st3 go) fun r s4 ⟨u,hr,h4⟩=>?_)
  subst hr
  refine wpAny_passesOwn hp (thn h4 fun _ s5 ⟨x,H5,I5,r5,y5,st5,fr5⟩=>?_)
  have I5':=I5.pinned (stat fr5) (T.obj _ _ st5)
  refine wpAny_passesOwn hp (thn (hg _ s5 σ3 H5 x u _ I5' r5 (step x H5 y5)) fun _ s6 ⟨σ6,H6,I6,q6⟩=>?_)
  refine wpAny_passesOwn hp (thn (hb _ s6 σ6 H6 _ I6 q6) fun f s7 q7=>?_)
  have again:∀ {σ7:St} {H7:Hp},Inv X (pins++zik fp s5.heap) σ7 H7 s7->N σ7 H7->∃ m,m < n/\∃ i σ' H',Inv X pins σ' H' s7/\tn i s7.heap/\(∀ b∈fp,H' b=none)/\W i m σ' H':=fun {σ7 H7} I7 n7=>by
   obtain ⟨m',hm,w7⟩:=hN σ7 H7 n7
   refine ⟨m',hm,i+1,σ7,H7,I7.unpinned,T.keep _ _ _ st5 fun b hb o e=>(I7.pin (b,o) (qO _ (qO _ (zdV hb e)))).1,fun b hb=>?_,w7⟩
   obtain ⟨o,e,d⟩:=T.obj _ _ st5 b hb
   exact (I7.pin (b,o) (qO _ (qO _ (zdV hb e)))).2.1
  cases f with
  | next=>obtain ⟨σ7,H7,I7,n7⟩:=q7;exact again I7 n7
  | cont=>obtain ⟨σ7,H7,I7,n7⟩:=q7;exact again I7 n7
  | brk=>obtain ⟨σ7,H7,I7,q7⟩:=q7;exact ⟨σ7,H7,I7.unpinned,q7⟩
  | ret v=>obtain ⟨x7,σ7,H7,I7,r7,q7⟩:=q7;exact ⟨x7,σ7,H7,I7.unpinned,r7,q7⟩
end
end L2
namespace L2
open PySem PySem.Spec PyProof.Rows
abbrev R2:=V->V->Hp->VK->Prop
def OpR (X:Cx) (f:Value->Value->Sem Value) (r:R2):Prop :=
 ∀ (pins:List (Addr×Obj)) (s:Shared) (σ:St) (H:Hp) (x y:V) (v u:Value) (Q:VK),Inv X pins σ H s->zb9 x v->zb9 y u->r x y H Q ->
  wpAny (model X.prog X.w) X.A (f v u) (EP X pins σ Q) X.xe s
def zdT (X:Cx) (f:Value) (r:List V->Hp->VK->Prop):Prop :=
 ∀ (pins:List (Addr×Obj)) (s:Shared) (σ:St) (H:Hp) (xs:List V) (us:List Value) (Q:VK),Inv X pins σ H s->zbS xs us->r xs H Q ->
  wpAny (model X.prog X.w) X.A (call f us) (EP X pins σ Q) X.xe s
def zuo (X:Cx) (r:V->Hp->(Bool->Hp->Prop)->Prop):Prop :=
 ∀ (pins:List (Addr×Obj)) (s:Shared) (σ:St) (H:Hp) (x:V) (v:Value) (Q:Bool->Hp->Prop),Inv X pins σ H s->zb9 x v->r x H Q ->
  wpAny (model X.prog X.w) X.A (truthy v) (TP X pins σ Q) X.xe s
def tOp (r:R2) (ta tb:TE):TE:=fun σ H Q=>ta σ H fun x H1=>tb σ H1 fun y H2=>r x y H2 Q
def rI (C:Int->Int->Prop) (g:Int->Int->V):R2:=fun x y H Q=>∃ i j,x=.int i/\y=.int j/\C i j/\Q (g i j) H
def rI0 (g:Int->Int->V):R2:=fun x y H Q=>∃ i j,x=.int i/\y=.int j/\Q (g i j) H
section
variable {X:Cx} {a b c:Expr} {ta tb tc:TE} {pos:Pos}
theorem zs7 (ha:PE X a ta) (hb:PE X b tb) {pins:List (Addr×Obj)} {s:Shared} {σ:St} {H:Hp} {R:V->V->Hp->Prop} (I:Inv X pins σ H s)
  (h:ta σ H fun x H1=>tb σ H1 fun y H2=>R x y H2) {Q:Value->Shared->Prop} {f:Value->Value->Sem Value}
  (hf:∀ v u s2 x y H2,Inv X pins σ H2 s2->zb9 x v->zb9 y u->R x y H2->wpAny (model X.prog X.w) X.A (f v u) Q X.xe s2) :
  wpAny (model X.prog X.w) X.A (eval a X.env) (fun v s₁=>wpAny (model X.prog X.w) X.A (eval b X.env) (fun u s₂=>wpAny (model X.prog X.w) X.A (f v u) Q X.xe s₂) X.xe s₁) X.xe s:=by
 refine thn (ha pins s σ H _ I h) fun v s1 ⟨x,H1,I1,r1,q1⟩=>?_
 refine thn (hb pins s1 σ H1 _ I1 q1) fun u s2 ⟨y,H2,I2,r2,q2⟩=>?_
 exact hf v u s2 x y H2 I2 r1 r2 q2
theorem zqN {op:Operator} {r:R2} (ho:OpR X (binaryOp op) r) (ha:PE X a ta) (hb:PE X b tb):PE X (.BinOp a op b pos) (tOp r ta tb):=by
 intro pins s σ H Q I h
 exact wpAny_BinOp (zs7 ha hb I h fun v u s2 x y H2 I2 rx ry q=>ho pins s2 σ H2 x y v u Q I2 rx ry q)
theorem opI {f:Value->Value->Sem Value} {C:Int->Int->Prop} {g:Int->Int->Int}
  (rule:∀ (i j:Int) (t u:Tok) (s:Shared) (Q:Value->Shared->Prop) (E:Value->Shared->Prop),C i j->Q (.int (g i j) s.toks) { s with toks:=s.toks+1 }->wpAny (model X.prog X.w) X.A (f (.int i t) (.int j u)) Q E s) :
  OpR X f (rI C fun i j=>.int (g i j)):=by
 intro pins s σ H x y v u Q I rx ry h
 obtain ⟨i,j,rfl,rfl,hc,q⟩:=h
 obtain ⟨t,rfl⟩:=rx
 obtain ⟨t',rfl⟩:=ry
 exact rule i j t t' s _ _ hc ⟨.int (g i j),H,I.tok _,⟨_,rfl⟩,q⟩
theorem ztv {f:Value->Value->Sem Value} {g:Int->Int->Int}
  (rule:∀ (i j:Int) (t u:Tok) (s:Shared) (Q:Value->Shared->Prop) (E:Value->Shared->Prop),Q (.int (g i j) s.toks) { s with toks:=s.toks+1 }->wpAny (model X.prog X.w) X.A (f (.int i t) (.int j u)) Q E s) :
  OpR X f (rI0 fun i j=>.int (g i j)):=by
 intro pins s σ H x y v u Q I rx ry h
 obtain ⟨i,j,rfl,rfl,q⟩:=h
 obtain ⟨t,rfl⟩:=rx
 obtain ⟨t',rfl⟩:=ry
 exact rule i j t t' s _ _ ⟨.int (g i j),H,I.tok _,⟨_,rfl⟩,q⟩
theorem zsE {f:Value->Value->Sem Value} {g:Int->Int->Bool}
  (rule:∀ (i j:Int) (t u:Tok) (s:Shared) (Q:Value->Shared->Prop) (E:Value->Shared->Prop),Q (.bool (g i j)) s->wpAny (model X.prog X.w) X.A (f (.int i t) (.int j u)) Q E s) :
  OpR X f (rI0 fun i j=>.bl (g i j)):=by
 intro pins s σ H x y v u Q I rx ry h
 obtain ⟨i,j,rfl,rfl,q⟩:=h
 obtain ⟨t,rfl⟩:=rx
 obtain ⟨t',rfl⟩:=ry
 exact rule i j t t' s _ _ ⟨.bl (g i j),H,I,rfl,q⟩
def zut (i j:Int):Prop:=0 < j/\j < 1073741824
def zus (i j:Int):Prop:=0<=j/\j<=1000000/\i.natAbs < 2 ^ 64
def zsb (i j:Int):Prop:=(-(2 ^ 64) < i/\i < 2 ^ 64)\/(-(2 ^ 64) < j/\j < 2 ^ 64)
theorem zsb.ok {i j:Int} (h:zsb i j):IntMulOk i j:=by
 rcases h with ⟨h1,h2⟩ | ⟨h1,h2⟩
 ·exact .of_left (intBits_le_64 h1 h2)
 ·exact .of_right (intBits_le_64 h1 h2)
theorem zq4:OpR X (binaryOp .Add) (rI0 fun i j=>.int (i+j)):=ztv fun _ _ _ _ _ _ _ q=>add_int q
theorem zqX:OpR X (binaryOp .Sub) (rI0 fun i j=>.int (i - j)):=ztv fun _ _ _ _ _ _ _ q=>sub_int q
theorem zq1:OpR X (binaryOp .Mult) (rI zsb fun i j=>.int (i*j)):=opI fun _ _ _ _ _ _ _ hc q=>mul_int q hc.ok
theorem zpb:OpR X (binaryOp .FloorDiv) (rI zut fun i j=>.int (i / j)):=opI fun i j _ _ _ _ _ hc q=>by
 have h1:(0:Int) < j:=hc.1
 have h2:j < 1073741824:=hc.2
 exact floordiv_int (by omega) (by rw [Int.fdiv_eq_ediv_of_nonneg i (by omega)];exact q) (.inl (PyProof.noPylong_small (by omega)))
theorem zq2:OpR X (binaryOp .Mod) (rI (fun _ j=>0 < j) fun i j=>.int (i % j)):=opI fun i j _ _ _ _ _ hc q=>by
 have h1:(0:Int) < j:=hc
 exact mod_int' (by omega) (by rw [Int.fmod_eq_emod_of_nonneg i (by omega)];exact q)
theorem zqZ:OpR X (binaryOp .Pow) (rI zus fun i j=>.int (i ^ j.toNat)):=opI fun _ _ _ _ _ _ _ hc q=>pow_int_small hc.1 hc.2.1 hc.2.2 q
end
def zsn:V->V->Bool
 | .non,.non=>true | .non,.int _=>true | .int _,.non=>true | .non,.bl _=>true | .bl _,.non=>true | .non,.str _=>true | .str _,.non=>true
 | .int _,.int _=>true | .bl _,.bl _=>true | .str _,.str _=>true | .byt _,.byt _=>true
 | .int _,.str _=>true | .str _,.int _=>true | .bl _,.str _=>true | .str _,.bl _=>true
 | _,_=>false
def rEq:R2:=fun x y H Q=>zsn x y=true/\Q (.bl (decide (x=y))) H
def rNe:R2:=fun x y H Q=>zsn x y=true/\Q (.bl (!decide (x=y))) H
theorem zme {i j:Int}:decide (V.int i=V.int j)=(i==j):=by
 rw [Bool.eq_iff_iff]
 simp
theorem zok {i j:Bool}:decide (V.bl i=V.bl j)=(i==j):=by
 rw [Bool.eq_iff_iff]
 simp
theorem zmd {i j:Str}:decide (V.str i=V.str j)=(i==j):=by
 rw [Bool.eq_iff_iff]
 simp
theorem zmf {i j:Array UInt8}:decide (V.byt i=V.byt j)=(i.toList==j.toList):=by
 rw [Bool.eq_iff_iff]
 cases i
 cases j
 simp
section
variable {X:Cx} {a b c:Expr} {ta tb tc:TE} {pos:Pos}
theorem zbj {pins:List (Addr×Obj)} {σ:St} {H:Hp} {s:Shared} {Q:VK} {k k':Bool} (I:Inv X pins σ H s) (q:Q (.bl k) H) (e:k=k'):EP X pins σ Q (.bool k') s:=by
 subst e
 exact ⟨.bl k,H,I,rfl,q⟩
theorem zsD:OpR X (compareOp .Eq) rEq:=by
 intro pins s σ H x y v u Q I rx ry h
 obtain ⟨hs,q⟩:=h
 cases x with
 | non =>
  cases rx
  cases y with
  | non=>cases ry;exact PySem.EqNone.eq_none_none (zbj I q (by simp))
  | bl j=>cases ry;exact PySem.EqNone.eq_none_bool (zbj I q (by simp))
  | int j=>obtain ⟨t',rfl⟩:=ry;exact PySem.EqNone.eq_none_int (zbj I q (by simp))
  | str j=>obtain ⟨t',rfl⟩:=ry;exact PySem.EqNone.eq_none_str (zbj I q (by simp))
  | _=>exact absurd (show false=true from hs) qq
 | bl i =>
  cases rx
  cases y with
  | non=>cases ry;exact PySem.EqNone.eq_bool_none (zbj I q (by simp))
  | bl j=>cases ry;exact eq_bool (zbj I q zok)
  | str j=>obtain ⟨t',rfl⟩:=ry;exact PySem.EqMixed.eq_bool_str (zbj I q (by simp))
  | _=>exact absurd (show false=true from hs) qq
 | int i =>
  obtain ⟨t,rfl⟩:=rx
  cases y with
  | non=>cases ry;exact PySem.EqNone.eq_int_none (zbj I q (by simp))
  | int j=>obtain ⟨t',rfl⟩:=ry;exact eq_int (zbj I q zme)
  | str j=>obtain ⟨t',rfl⟩:=ry;exact PySem.EqMixed.eq_int_str (zbj I q (by simp))
  | _=>exact absurd (show false=true from hs) qq
 | str i =>
  obtain ⟨t,rfl⟩:=rx
  cases y with
  | non=>cases ry;exact PySem.EqNone.eq_str_none (zbj I q (by simp))
  | bl j=>cases ry;exact PySem.EqMixed.eq_str_bool (zbj I q (by simp))
  | int j=>obtain ⟨t',rfl⟩:=ry;exact PySem.EqMixed.eq_str_int (zbj I q (by simp))
  | str j=>obtain ⟨t',rfl⟩:=ry;exact eq_str (zbj I q zmd)
  | _=>exact absurd (show false=true from hs) qq
 | byt i =>
  obtain ⟨t,rfl⟩:=rx
  cases y with
  | byt j=>obtain ⟨t',rfl⟩:=ry;exact PySem.W.eq_bytes (zbj I q zmf)
  | _=>exact absurd (show false=true from hs) qq
 | _=>cases y <;> exact absurd (show false=true from hs) qq
theorem zsz:OpR X (compareOp .NotEq) rNe:=by
 intro pins s σ H x y v u Q I rx ry h
 obtain ⟨hs,q⟩:=h
 cases x with
 | non =>
  cases rx
  cases y with
  | non=>cases ry;exact PySem.EqNone.ne_none_none (zbj I q (by simp))
  | bl j=>cases ry;exact PySem.EqNone.ne_none_bool (zbj I q (by simp))
  | int j=>obtain ⟨t',rfl⟩:=ry;exact PySem.EqNone.ne_none_int (zbj I q (by simp))
  | str j=>obtain ⟨t',rfl⟩:=ry;exact PySem.EqNone.ne_none_str (zbj I q (by simp))
  | _=>exact absurd (show false=true from hs) qq
 | bl i =>
  cases rx
  cases y with
  | non=>cases ry;exact PySem.EqNone.ne_bool_none (zbj I q (by simp))
  | bl j=>cases ry;exact ne_bool (zbj I q (congrArg not zok))
  | str j=>obtain ⟨t',rfl⟩:=ry;exact PySem.EqMixed.ne_bool_str (zbj I q (by simp))
  | _=>exact absurd (show false=true from hs) qq
 | int i =>
  obtain ⟨t,rfl⟩:=rx
  cases y with
  | non=>cases ry;exact PySem.EqNone.ne_int_none (zbj I q (by simp))
  | int j=>obtain ⟨t',rfl⟩:=ry;exact ne_int (zbj I q (congrArg not zme))
  | str j=>obtain ⟨t',rfl⟩:=ry;exact PySem.EqMixed.ne_int_str (zbj I q (by simp))
  | _=>exact absurd (show false=true from hs) qq
 | str i =>
  obtain ⟨t,rfl⟩:=rx
  cases y with
  | non=>cases ry;exact PySem.EqNone.ne_str_none (zbj I q (by simp))
  | bl j=>cases ry;exact PySem.EqMixed.ne_str_bool (zbj I q (by simp))
  | int j=>obtain ⟨t',rfl⟩:=ry;exact PySem.EqMixed.ne_str_int (zbj I q (by simp))
  | str j=>obtain ⟨t',rfl⟩:=ry;exact ne_str (zbj I q (congrArg not zmd))
  | _=>exact absurd (show false=true from hs) qq
 | byt i =>
  obtain ⟨t,rfl⟩:=rx
  cases y with
  | byt j=>obtain ⟨t',rfl⟩:=ry;exact PySem.W.ne_bytes (zbj I q (congrArg not zmf))
  | _=>exact absurd (show false=true from hs) qq
 | _=>cases y <;> exact absurd (show false=true from hs) qq
theorem zsA:OpR X (compareOp .Lt) (rI0 fun i j=>.bl (decide (i < j))):=zsE fun _ _ _ _ _ _ _ q=>lt_int q
theorem zsB:OpR X (compareOp .LtE) (rI0 fun i j=>.bl (decide (i<=j))):=zsE fun _ _ _ _ _ _ _ q=>le_int q
theorem zsC:OpR X (compareOp .Gt) (rI0 fun i j=>.bl (decide (j < i))):=zsE fun _ _ _ _ _ _ _ q=>gt_int q
theorem zlr:OpR X (compareOp .Lt) (fun x y H Q=>∃ i j,x=.str i/\y=.str j/\Q (.bl (decide (i.cps.toList < j.cps.toList))) H):=by
 intro pins s σ H x y v u Q I rx ry h
 obtain ⟨i,j,rfl,rfl,q⟩:=h
 obtain ⟨t,rfl⟩:=rx
 obtain ⟨t',rfl⟩:=ry
 exact lt_str (zbj I q rfl)
theorem zo8:OpR X (compareOp .IsNot) (fun x y H Q=>y=.non/\Q (.bl (!decide (x=.non))) H):=by
 intro pins s σ H x y v u Q I rx ry h
 obtain ⟨rfl,q⟩:=h
 cases ry
 refine isnot_none_gen (zbj I q ?_)
 cases x <;> first
  | (cases rx;rfl)
  | (obtain ⟨t,rfl⟩:=rx;rfl)
theorem OpR.or {f:Value->Value->Sem Value} {r r':R2} (h:OpR X f r) (h':OpR X f r'):OpR X f (fun x y H Q=>r x y H Q\/r' x y H Q):=by
 intro pins s σ H x y v u Q I rx ry q
 rcases q with q | q
 ·exact h pins s σ H x y v u Q I rx ry q
 ·exact h' pins s σ H x y v u Q I rx ry q
theorem zby (b:Expr) {op:CmpOp} (h:op≠.In:=by decide) (h2:op≠.NotIn:=by decide):behindInMarks op b=false:=by
 have e1:(op==CmpOp.In)=false:=by cases op <;> first | rfl | exact absurd rfl h
 have e2:(op==CmpOp.NotIn)=false:=by cases op <;> first | rfl | exact absurd rfl h2
 cases b <;> simp [behindInMarks,e1,e2]
theorem zo2 {op:CmpOp} {r:R2} (ho:OpR X (compareOp op) r) (ha:PE X a ta) (hb:PE X b tb) (hm:behindInMarks op b=false):PE X (.Compare a [op] [b] pos) (tOp r ta tb):=by
 intro pins s σ H Q I h
 exact wpAny_Compare1 (zs7 ha hb I h fun v u s2 x y H2 I2 rx ry q=>ho pins s2 σ H2 x y v u Q I2 rx ry q) hm
def zqj (t:TE):TT:=fun σ H Q=>t σ H fun x H'=>∃ k,x=.bl k/\Q k H'
theorem zoP {op:CmpOp} {r:R2} (ho:OpR X (compareOp op) r) (ha:PE X a ta) (hb:PE X b tb) (hm:behindInMarks op b=false):PT X (.Compare a [op] [b] pos) (zqj (tOp r ta tb)):=by
 intro pins s σ H Q I h
 refine wpAny_isTrue_Compare1 (thn (ha pins s σ H _ I h) fun v s1 ⟨x,H1,I1,r1,q1⟩=>thn (hb pins s1 σ H1 _ I1 q1) fun u s2 ⟨y,H2,I2,r2,q2⟩ =>
  thn (ho pins s2 σ H2 x y v u _ I2 r1 r2 q2) fun c s3 ⟨z,H3,I3,r3,k,e,q3⟩=>?_) hm
 subst e
 cases r3
 exact wpAny_truthy_bool ⟨H3,I3,q3⟩
def zk3 (r r':R2) (ta tb tc:TE):TE:=fun σ H Q=>ta σ H fun x H1=>tb σ H1 fun y H2=>r x y H2 fun z H3=>∃ k,z=.bl k /\
 (if k=true then tc σ H3 fun w' H4=>r' y w' H4 Q else Q (.bl false) H3)
theorem zm7 {op op':CmpOp} {r r':R2} (ho:OpR X (compareOp op) r) (ho':OpR X (compareOp op') r') (ha:PE X a ta) (hb:PE X b tb) (hc:PE X c tc)
  (hm:lastMarks [op,op'] [b,c]=false:=by with_unfolding_all rfl):PE X (.Compare a [op,op'] [b,c] pos) (zk3 r r' ta tb tc):=by
 intro pins s σ H Q I h
 refine Compare_chain (thn (ha pins s σ H _ I h) fun v s1 ⟨x,H1,I1,r1,q1⟩=>chain_link (thn (hb pins s1 σ H1 _ I1 q1) fun u s2 ⟨y,H2,I2,r2,q2⟩ =>
  thn (ho pins s2 σ H2 x y v u _ I2 r1 r2 q2) fun d s3 ⟨z,H3,I3,r3,k,e,q3⟩=>?_)) hm
 subst e
 cases r3
 refine wpAny_truthy_bool ?_
 cases k with
 | false=>exact ite_ff ⟨.bl false,H3,I3,rfl,q3⟩
 | true=>exact ite_tt (chain_last (thn (hc pins s3 σ H3 _ I3 q3) fun w' s4 ⟨z',H4,I4,r4,q4⟩=>ho' pins s4 σ H4 y z' u w' Q I4 r2 r4 q4))
theorem zm0 {op op':CmpOp} {r r':R2} (ho:OpR X (compareOp op) r) (ho':OpR X (compareOp op') r') (ha:PE X a ta) (hb:PE X b tb) (hc:PE X c tc)
  (hm:lastMarks [op,op'] [b,c]=false:=by with_unfolding_all rfl):PT X (.Compare a [op,op'] [b,c] pos) (zqj (zk3 r r' ta tb tc)):=by
 intro pins s σ H Q I h
 refine isTrue_chain (thn (ha pins s σ H _ I h) fun v s1 ⟨x,H1,I1,r1,q1⟩=>test_link (thn (hb pins s1 σ H1 _ I1 q1) fun u s2 ⟨y,H2,I2,r2,q2⟩ =>
  thn (ho pins s2 σ H2 x y v u _ I2 r1 r2 q2) fun d s3 ⟨z,H3,I3,r3,k,e,q3⟩=>?_)) hm
 subst e
 cases r3
 refine wpAny_truthy_bool ?_
 cases k with
 | false =>
  obtain ⟨k',e',q'⟩:=q3
  cases e'
  exact ite_ff ⟨H3,I3,q'⟩
 | true =>
  refine ite_tt (test_last (thn (hc pins s3 σ H3 _ I3 q3) fun w' s4 ⟨z',H4,I4,r4,q4⟩=>thn (ho' pins s4 σ H4 y z' u w' _ I4 r2 r4 q4) fun d' s5 ⟨z2,H5,I5,r5,k2,e2,q5⟩=>?_))
  subst e2
  cases r5
  exact wpAny_truthy_bool ⟨H5,I5,q5⟩
def zun (K:PySem.W.Frag) (x:V) (H:Hp) (k:Bool):Prop :=
 match x with
 | .non=>k=false
 | .bl b=>k=b
 | .int i=>k=(i != 0)
 | .str y=>y.length<=sizeLine/\k=((y.length:Int) != 0)
 | .byt y=>y.size<=sizeLine/\k=((y.size:Int) != 0)
 | .ref p=>(∃ xs,SqL K H p xs/\k=!xs.isEmpty)\/(∃ xs,SqT K H p xs/\k=!xs.isEmpty)\/∃ kvs,H p=some (.dK kvs)/\k=!kvs.isEmpty
 | _=>False
theorem zkB {κ:Type} {kvs:List (κ×V)} {vs:List (κ×Value)} (r:KV kvs vs):(!vs.isEmpty)=!kvs.isEmpty:=by
 cases r <;> rfl
theorem zg9 {xs:List V} {its:List Value} (r:zbS xs its):(!its.toArray.isEmpty)=!xs.isEmpty:=by
 cases r <;> simp
theorem zg4:(sizeLine:Nat) < 2 ^ 63:=by rw [sizeLine_eq];decide
theorem ztl:zuo X (fun x H Q=>∃ k,zun X.K x H k/\Q k H):=by
 intro pins s σ H x v Q I rx h
 obtain ⟨k,e,q⟩:=h
 have hl:=zg4
 have hs:sizeLine=16777216:=sizeLine_eq
 cases x with
 | non =>
  cases rx
  have e':k=false:=e
  subst e'
  exact truthy_none ⟨H,I,q⟩
 | bl b =>
  cases rx
  have e':k=b:=e
  subst e'
  exact wpAny_truthy_bool ⟨H,I,q⟩
 | int i =>
  obtain ⟨t,rfl⟩:=rx
  have e':k=(i != 0):=e
  subst e'
  exact PySem.P.truthy_int ⟨H,I,q⟩
 | str y =>
  obtain ⟨t,rfl⟩:=rx
  obtain ⟨hy,e'⟩:y.length<=sizeLine/\k=((y.length:Int) != 0):=e
  subst e'
  exact PySem.P.truthy_str (by omega) ⟨H,I.tok _,q⟩
 | byt y =>
  obtain ⟨t,rfl⟩:=rx
  obtain ⟨hy,e'⟩:y.size<=sizeLine/\k=((y.size:Int) != 0):=e
  subst e'
  exact PySem.W.truthy_bytes (by omega) ⟨H,I.tok _,q⟩
 | ref p =>
  cases rx
  have e':(∃ xs,SqL X.K H p xs/\k=!xs.isEmpty)\/(∃ xs,SqT X.K H p xs/\k=!xs.isEmpty)\/∃ kvs,H p=some (.dK kvs)/\k=!kvs.isEmpty:=e
  rcases e' with ⟨xs,hx,e'⟩ | ⟨xs,hx,e'⟩ | ⟨kvs,hx,e'⟩
  ·subst e'
   obtain ⟨its,r,pl,hz⟩:=I.list hx
   have hlen:=r.length
   exact wpAny_truthy_list pl.isList (by simp only [qz];omega) ⟨H,I.tok _,by rw [zg9 r];exact q⟩
  ·subst e'
   obtain ⟨its,r,pl,hz⟩:=I.tuple hx
   have hlen:=r.length
   exact truthy_tuple pl (by simp only [qz];omega) ⟨H,I.tok _,by rw [zg9 r];exact q⟩
  ·subst e'
   obtain ⟨hz,hS,vs,r,m⟩:kvs.length<=sizeLine/\(p==sysModules)=false/\∃ vs,KV kvs vs/\s.heap.DictOf (zba X.prog X.w) p vs:=I.hok p _ hx
   have hlen:kvs.length=vs.length:=Paired.length r
   exact wpAny_truthy_dict hS m (by omega) ⟨H,I.tok _,by rw [zkB r];exact q⟩
 | _=>exact (show False from e).elim
theorem zkr:OpR X (binaryOp .Add) (fun x y H Q=>∃ i j,x=.str i/\y=.str j/\i.length+j.length<=sizeLine/\Q (.str (i++j)) H):=by
 intro pins s σ H x y v u Q I rx ry h
 obtain ⟨i,j,rfl,rfl,hz,q⟩:=h
 obtain ⟨t,rfl⟩:=rx
 obtain ⟨t',rfl⟩:=ry
 exact add_str (fun t' tk=>⟨.str (i++j),H,I.tok _,⟨_,rfl⟩,q⟩) hz
theorem zeT {x:V} {us:List Value} (r:zbS [x] us):∃ u,us=[u]/\zb9 x u:=by
 cases r with
 | cons r1 r2=>cases r2;exact ⟨_,rfl,r1⟩
theorem zkV {x y:V} {us:List Value} (r:zbS [x,y] us):∃ u w',us=[u,w']/\zb9 x u/\zb9 y w':=by
 cases r with
 | cons r1 r2 =>
  cases r2 with
  | cons r3 r4=>cases r4;exact ⟨_,_,rfl,r1,r3⟩
theorem znO:zdT X (.builtin "abs") (fun xs H Q=>∃ i,xs=[.int i]/\Q (.int (if i < 0 then -i else i)) H):=by
 intro pins s σ H xs us Q I r h
 obtain ⟨i,rfl,q⟩:=h
 obtain ⟨u,rfl,t,rfl⟩:=zeT r
 exact call_abs_int fun u tk=>⟨.int (if i < 0 then -i else i),H,I.tok _,⟨_,rfl⟩,q⟩
theorem zmq (hc:X.calm=true):zdT X (.builtin "max") (fun xs H Q=>∃ i j,xs=[.int i,.int j]/\Q (.int (if j > i then j else i)) H):=by
 intro pins s σ H xs us Q I r h
 obtain ⟨i,j,rfl,q⟩:=h
 obtain ⟨u,w',rfl,⟨t,rfl⟩,⟨t',rfl⟩⟩:=zkV r
 refine max_two_ints (I.ok.hd hc) fun h' tk k=>⟨_,H,I.kept k,?_,q⟩
 by_cases hj:j > i
 ·rw [qX hj,qX hj];exact ⟨_,rfl⟩
 ·rw [qY hj,qY hj];exact ⟨_,rfl⟩
theorem zmp (hc:X.calm=true):zdT X (.builtin "min") (fun xs H Q=>∃ i j,xs=[.int i,.int j]/\Q (.int (if j < i then j else i)) H):=by
 intro pins s σ H xs us Q I r h
 obtain ⟨i,j,rfl,q⟩:=h
 obtain ⟨u,w',rfl,⟨t,rfl⟩,⟨t',rfl⟩⟩:=zkV r
 refine min_two_ints (I.ok.hd hc) fun h' tk k=>⟨_,H,I.kept k,?_,q⟩
 by_cases hj:j < i
 ·rw [qX hj,qX hj];exact ⟨_,rfl⟩
 ·rw [qY hj,qY hj];exact ⟨_,rfl⟩
theorem zmr:zdT X (.type "int") (fun xs H Q=>(∃ i,xs=[.int i]/\Q (.int i) H)\/∃ k,xs=[.bl k]/\Q (.int (if k then 1 else 0)) H):=by
 intro pins s σ H xs us Q I r h
 rcases h with ⟨i,rfl,q⟩ | ⟨k,rfl,q⟩
 ·obtain ⟨u,rfl,t,rfl⟩:=zeT r
  exact call_int_int ⟨.int i,H,I,⟨_,rfl⟩,q⟩
 ·obtain ⟨u,rfl,r1⟩:=zeT r
  cases r1
  exact call_int_bool ⟨.int (if k then 1 else 0),H,I.tok _,⟨_,rfl⟩,q⟩
def zur (K:PySem.W.Frag) (x:V) (H:Hp) (n:Nat):Prop :=
 match x with
 | .str y=>y.length<=sizeLine/\n=y.length
 | .byt y=>y.size<=sizeLine/\n=y.size
 | .ref p=>(∃ xs,SqL K H p xs/\n=xs.length)\/∃ xs,SqT K H p xs/\n=xs.length
 | _=>False
theorem znN:zdT X (.builtin "len") (fun xs H Q=>∃ x n,xs=[x]/\zur X.K x H n/\Q (.int n) H):=by
 intro pins s σ H xs us Q I r h
 obtain ⟨x,n,rfl,e,q⟩:=h
 obtain ⟨u,rfl,rx⟩:=zeT r
 have hl:=zg4
 have hs:sizeLine=16777216:=sizeLine_eq
 cases x with
 | str y =>
  obtain ⟨t,rfl⟩:=rx
  obtain ⟨hy,e'⟩:y.length<=sizeLine/\n=y.length:=e
  subst e'
  exact len_str (by omega) ⟨.int _,H,I.tok _,⟨_,rfl⟩,q⟩
 | byt y =>
  obtain ⟨t,rfl⟩:=rx
  obtain ⟨hy,e'⟩:y.size<=sizeLine/\n=y.size:=e
  subst e'
  exact PySem.W.len_bytes (by omega) ⟨.int _,H,I.tok _,⟨_,rfl⟩,q⟩
 | ref p =>
  cases rx
  have e':(∃ xs,SqL X.K H p xs/\n=xs.length)\/∃ xs,SqT X.K H p xs/\n=xs.length:=e
  rcases e' with ⟨xs,hx,e'⟩ | ⟨xs,hx,e'⟩
  ·subst e'
   obtain ⟨its,r',pl,hz⟩:=I.list hx
   have hlen:=r'.length
   exact Calls.call_len_list pl.isList (by simp only [qz];omega) ⟨.int xs.length,H,I.tok _,⟨_,by simp only [qz];rw [hlen]⟩,q⟩
  ·subst e'
   obtain ⟨its,r',pl,hz⟩:=I.tuple hx
   have hlen:=r'.length
   exact len_tuple pl (by simp only [qz];omega) ⟨.int xs.length,H,I.tok _,⟨_,by simp only [qz];rw [hlen]⟩,q⟩
 | _=>exact (show False from e).elim
end
end L2
namespace L2
open PySem PySem.Spec PyProof.Rows
structure ObjM (h:Heap) (x dx C:Addr) (mA:Str->Option Value):Prop where
 obj:h.get? x=some (PySem.W.instObj C dx)
 ns:h.Ns1 dx mA
 ne:dx≠x
theorem zir {h:Heap} {dx:Addr} {mA:Str->Option Value} (n:h.Ns1 dx mA):∃ od,h.get? dx=some od/\∀ name,PySem.W.lookIn name od=some (mA name):=by
 obtain ⟨o,es,ep,ho,hd,hk,_,hm⟩:=n
 refine ⟨o,ho,fun name=>?_⟩
 have e:=hm name
 unfold nsFind findBy at e
 rw [← Array.find?_toList] at e
 unfold PySem.W.lookIn
 rw [hd]
 dsimp only
 split
 ·rename_i y q
  rw [q] at e
  exact congrArg some e
 ·rename_i q
  rw [q] at e
  have a:es.toList.any (·.refKey)=false:=by
   rw [List.any_eq_false]
   intro y hy
   obtain ⟨z,t,hkey⟩:=hk y (Array.mem_toList_iff.mp hy)
   simp [DictEntry.refKey,hkey]
  have a':¬ es.toList.any (·.refKey)=true:=by rw [a];exact qq
  rw [qY a']
  exact congrArg some e
theorem ObjM.look {h:Heap} {x dx C:Addr} {mA:Str->Option Value} (I:ObjM h x dx C mA):∃ od,PySem.W.InstAt h x (PySem.W.instObj C dx) C (some od)/\∀ name,PySem.W.lookIn name od=some (mA name) :=
 let ⟨od,ho,hl⟩:=zir I.ns
 ⟨od,⟨I.obj,rfl,rfl,ho⟩,hl⟩
section
variable {prog:Program} {w:World} {A:Around} {E:Value->Shared->Prop} {s:Shared} {K:PySem.W.Frag} {x dx C f:Addr} {mA:Str->Option Value} {name:Str} {v:Value}
theorem zpB {expr:Bool} {Q:Value->Shared->Prop} (X:K.In s.heap) (I:ObjM s.heap x dx C mA) (hg:PySem.W.plainGet K C name=true) (hh:PySem.W.hasDictIn K C=true)
  (ha:PySem.W.findIn K (.ref C) name=some none) (hv:mA name=some v) (hv':PySem.W.handedIn v=true) (h:Q v { s with toks:=s.toks+1 }) :
  wpAny (model prog w) A (getAttr (.ref x) name expr) Q E s:=by
 obtain ⟨od,J,hl⟩:=I.look
 exact PySem.W.get_value X J (PySem.W.plainGet_of hg).1 (PySem.W.findObj_own hh ha rfl (by rw [hl,hv])) hv' h
theorem ziV {ns:List Str} {Q:Unit->Shared->Prop} (X:K.In s.heap) (I:ObjM s.heap x dx C mA)
  (hs:PySem.W.findIn K (.ref C) "__setattr__"=some (some (.builtin "object.__setattr__"))) (hp:PySem.W.plainOver K C=true) (ht:PySem.W.takerIn K C name=some none) (hh:PySem.W.hasDictIn K C=true)
  (hw:PySem.Within mA ns) (hsz:ns.length<=sizeLine)
  (h:∀ h',ObjM h' x dx C (fun y=>if y=name then some v else mA y)->Heap.SameBut dx s.heap h'->Q () { s with heap:=h',toks:=s.toks+2 }) :
  wpAny (model prog w) A (setAttr (.ref x) name v) Q E s:=by
 obtain ⟨od,J,hl⟩:=I.look
 refine PySem.W.set_plain X J hs (PySem.W.osa_open (s:={ s with toks:=s.toks+1 }) (r:=none) X J hp ht fun b=>?_)
 obtain ⟨cd,hc,hd'⟩:=PySem.W.any_some hh
 have hx:s.heap.get? x=some ⟨.ref C,some dx,.plain,#[]⟩:=I.obj
 refine qv (qy (qv (qv (wpAny_loadPart hx (qv (PySem.W.Looks.here (s:={ s with toks:=s.toks+1 }) (PySem.W.looks_clsIn X hc) ?_))))))
 rw [hd']
 refine qy (a:=some dx) (qv (qy (qv ?_)))
 refine wpAny_nsSet1 (s:={ s with toks:=s.toks+1 }) I.ns fun h' hn2 hs2=>?_
 obtain ⟨oD,esD,epD,hoD,hdD,hcD⟩:=hn2.count (PySem.Within.cons name v hw)
 refine qv (wpAny_lookBehind hoD (by rw [hdD];exact pastItsLine_dict (qK hcD (by rw [qh];omega))) ?_)
 exact qy (h _ ⟨(hs2.2 _ (Ne.symm I.ne)).trans I.obj,hn2,I.ne⟩ hs2)
theorem zng {R:Result->Shared->Prop} {vs:List Value} {kw:List (Str×Value)} (X:K.In s.heap) (hm:PySem.W.makesIn K C=true)
  (hi:PySem.W.findIn K (.ref C) "__init__"=some (some (.ref f))) (hf:PySem.W.typeIn K (.ref f)=some (.type "function"))
  (h:codeAny (model prog w) (A.under (.builtin "type.__call__" ⟨.ref C::vs,kw⟩)) (.call (.ref f) ⟨.ref (s.heap.objs.size+1)::vs,kw⟩) (PySem.W.InitBack (s.heap.objs.size+1) R)
   { s with heap:=(s.heap.push PySem.W.emptyDict).push (PySem.W.instObj C s.heap.objs.size) }) :
  codeAny (model prog w) A (.call (.ref C) ⟨vs,kw⟩) R s:=by
 obtain ⟨hh,g,d,t,os⟩:=s
 exact PySem.W.make_core (PySem.W.makes_of X hm) (PySem.W.looks_findIn X hi) (fun self=>PySem.W.bind_fn X self hf) (.inl rfl) h
end
def zh2 (f:Str) (v:V):List (Str×V)->List (Str×V)
 | []=>[(f,v)]
 | (g,x)::r=>if g=f then (g,v)::r else (g,x)::zh2 f v r
theorem zf0 (f g:Str) (v:V):∀ fs:List (Str×V),(zh2 f v fs).lookup g=if g=f then some v else fs.lookup g
 | []=>by
  show List.lookup g [(f,v)]=_
  by_cases h:g=f
  ·have hb:(g==f)=true:=beq_iff_eq.mpr h
   simp only [List.lookup,hb,qX h]
  ·have hb:(g==f)=false:=beq_eq_false_iff_ne.mpr h
   simp only [List.lookup,hb,qY h]
 | (k,x)::r=>by
  have ih:=zf0 f g v r
  rw [show zh2 f v ((k,x)::r)=(if k=f then (k,v)::r else (k,x)::zh2 f v r) from rfl]
  by_cases hk:k=f
  ·rw [qX hk]
   by_cases h:g=k
   ·have hb:(g==k)=true:=beq_iff_eq.mpr h
    simp only [List.lookup,hb,qX (h.trans hk)]
   ·have hb:(g==k)=false:=beq_eq_false_iff_ne.mpr h
    simp only [List.lookup,hb,qY (fun e:g=f=>h (e.trans hk.symm))]
  ·rw [qY hk]
   by_cases h:g=k
   ·have hb:(g==k)=true:=beq_iff_eq.mpr h
    simp only [List.lookup,hb,qY (fun e:g=f=>hk (h.symm.trans e))]
   ·have hb:(g==k)=false:=beq_eq_false_iff_ne.mpr h
    simp only [List.lookup,hb]
    exact ih
theorem zf4 (f:Str) (v:V):∀ fs:List (Str×V),f∈(zh2 f v fs).map (·.1)/\∀ g,g∈fs.map (·.1)->g∈(zh2 f v fs).map (·.1)
 | []=>⟨by simp [zh2],fun g h=>by simp at h⟩
 | (k,x)::r=>by
  obtain ⟨i1,i2⟩:=zf4 f v r
  rw [show zh2 f v ((k,x)::r)=(if k=f then (k,v)::r else (k,x)::zh2 f v r) from rfl]
  by_cases hk:k=f
  ·rw [qX hk]
   subst hk
   exact ⟨by simp,fun g h=>by simpa using h⟩
  ·rw [qY hk]
   refine ⟨?_,fun g h=>?_⟩
   ·rw [ql]
    exact qg _ i1
   ·rw [ql] at h ⊢
    rcases List.mem_cons.mp h with e | e
    ·exact List.mem_cons.mpr (.inl e)
    ·exact qg _ (i2 g e)
theorem zf3 (f:Str) (v:V):∀ fs:List (Str×V),(zh2 f v fs).length<=fs.length+1
 | []=>by simp [zh2]
 | (k,x)::r=>by
  have ih:=zf3 f v r
  rw [show zh2 f v ((k,x)::r)=(if k=f then (k,v)::r else (k,x)::zh2 f v r) from rfl]
  by_cases hk:k=f
  ·rw [qX hk,qh,qh];omega
  ·rw [qY hk,qh,qh];omega
theorem zkO.some_of {v:V} {o:Option Value} (r:zkO (some v) o):∃ u,o=some u/\zb9 v u:=by
 cases o with
 | none=>exact (show False from r).elim
 | some u=>exact ⟨u,rfl,r⟩
theorem ziu {v:V} {u:Value} (r:zb9 v u):PySem.W.handedIn u=true:=by
 cases v with
 | non=>cases (show u=Value.none from r);rfl
 | bl b=>cases (show u=Value.bool b from r);rfl
 | int i=>obtain ⟨t,e⟩:=(show ∃ t,u=Value.int i t from r);cases e;rfl
 | str x=>obtain ⟨t,e⟩:=(show ∃ t,u=Value.str x t from r);cases e;rfl
 | byt b=>obtain ⟨t,e⟩:=(show ∃ t,u=Value.bytes b t from r);cases e;rfl
 | flt b=>obtain ⟨t,e⟩:=(show ∃ t,u=Value.float b t from r);cases e;rfl
 | ref a=>cases (show u=Value.ref a from r);rfl
 | ty n=>cases (show u=Value.type n from r);rfl
section
variable {P:Program} {w:World} {H H':Hp} {h h':Heap} {a C dx:Addr} {fs fs':List (Str×V)}
theorem zjh (hok:HOk P w H h) (e:H a=some (.ins C dx fs)):∃ mA,ObjM h a dx C mA/\(∀ f,zkO (fs.lookup f) (mA f))/\PySem.Within mA (fs.map (·.1))/\fs.length<=1000/\H dx=some (.own a):=by
 obtain ⟨d,z,ne,ob,mA,n,r,q⟩:=(show zbX P w H h a (.ins C dx fs) from hok a _ e)
 exact ⟨mA,⟨ob,n,ne⟩,r,q,z,d⟩
end
structure Cls (K:PySem.W.Frag) (C:Addr):Prop where
 pg:PySem.W.plainGet K C Str.empty=true
 hd:PySem.W.hasDictIn K C=true
 po:PySem.W.plainOver K C=true
 sa:PySem.W.findIn K (.ref C) "__setattr__"=some (some (.builtin "object.__setattr__"))
theorem Cls.get {K:PySem.W.Frag} {C:Addr} (c:Cls K C) (f:Str):PySem.W.plainGet K C f=true:=c.pg
def zdR (K:PySem.W.Frag) (C:Addr) (f:Str):Prop:=PySem.W.findIn K (.ref C) f=some none
theorem zdR.taker {K:PySem.W.Frag} {C:Addr} {f:Str} (n:zdR K C f):PySem.W.takerIn K C f=some none:=by
 unfold PySem.W.takerIn
 rw [show PySem.W.findIn K (.ref C) f=some none from n]
 rfl
structure Con (K:PySem.W.Frag) (C:Addr) (f:Str) (v:V) (u:Value):Prop where
 at_:PySem.W.findIn K (.ref C) f=some (some u)
 rel:zb9 v u
 get:PySem.W.specialIn K u "__get__"=some none
 cp:PySem.W.copiedNames.contains f=false
structure Meth (K:PySem.W.Frag) (C:Addr) (m:Str) (f:Addr):Prop where
 at_:PySem.W.findIn K (.ref C) m=some (some (.ref f))
 fn:PySem.W.isFn K (.ref f)=true
 kp:PySem.W.keepIn K (.ref f)=true
section
variable {X:Cx} {pins:List (Addr×Obj)} {σ:St} {H:Hp} {s:Shared} {a C dx:Addr} {fs:List (Str×V)} {f:Str} {v:V} {A:Around} {E:Value->Shared->Prop}
theorem zkC {b:Bool} {Q:Value->Shared->Prop} (I:Inv X pins σ H s) (e:H a=some (.ins C dx fs)) (c:Cls X.K C) (n:zdR X.K C f) (l:fs.lookup f=some v)
  (h:∀ u s',Inv X pins σ H s'->zb9 v u->Q u s'):wpAny (model X.prog X.w) A (getAttr (.ref a) f b) Q E s:=by
 obtain ⟨mA,O,r,_,_,_⟩:=zjh I.hok e
 obtain ⟨u,hu,ru⟩:=zkO.some_of (v:=v) (o:=mA f) (by rw [← l];exact r f)
 exact zpB I.kIn O (c.get f) c.hd n hu (ziu ru) (h u _ (I.tok _) ru)
theorem zkh {y:V} {u:Value} {Q:Unit->Shared->Prop} (I:Inv X pins σ H s) (e:H a=some (.ins C dx fs)) (c:Cls X.K C) (n:zdR X.K C f) (hl:fs.length < 1000) (ry:zb9 y u)
  (h:∀ s',Inv X pins σ (upd H a (.ins C dx (zh2 f y fs))) s'->Q () s'):wpAny (model X.prog X.w) A (setAttr (.ref a) f u) Q E s:=by
 obtain ⟨mA,O,r,wi,_,ho⟩:=zjh I.hok e
 have hz:(fs.map (·.1)).length<=sizeLine:=by rw [qe,sizeLine_eq];omega
 refine ziV I.kIn O c.sa c.po n.taker c.hd wi hz fun h' O' sb=>h _ ?_
 have hd:∃ o,h'.get? dx=some o:=let ⟨o,_,_,e',_⟩:=O'.ns;⟨o,e'⟩
 refine I.write (x:=a) (e:=dx) (by rw [e];exact True.intro) (.inr ho) (fun b q hb z=>(sb.2 b hb).trans z) hd ?_
 refine ⟨by rw [zaq O.ne];exact ho,?_,O.ne,O'.obj,_,O'.ns,fun g=>?_,fun g hg=>?_⟩
 ·have:=zf3 f y fs;omega
 ·show zkO ((zh2 f y fs).lookup g) (if g=f then some u else mA g)
  rw [zf0]
  by_cases q:g=f
  ·rw [qX q,qX q];exact ry
  ·rw [qY q,qY q];exact r g
 ·by_cases q:g=f
  ·rw [q];exact (zf4 f y fs).1
  ·refine (zf4 f y fs).2 g (wi g fun z=>hg ?_)
   show (if g=f then some u else mA g)=none
   rw [qY q];exact z
theorem Inv.made (I:Inv X pins σ H s):Inv X pins σ (upd (upd H s.heap.objs.size (.own (s.heap.objs.size+1))) (s.heap.objs.size+1) (.ins C s.heap.objs.size []))
  { s with heap:=(s.heap.push PySem.W.emptyDict).push (PySem.W.instObj C s.heap.objs.size) }:=by
 have e1:(s.heap.push PySem.W.emptyDict).get? s.heap.objs.size=some PySem.W.emptyDict:=qE s.heap rfl
 have e2:((s.heap.push PySem.W.emptyDict).push (PySem.W.instObj C s.heap.objs.size)).get? (s.heap.objs.size+1)=some (PySem.W.instObj C s.heap.objs.size):=by
  have:=qE (s.heap.push PySem.W.emptyDict) (o:=PySem.W.instObj C s.heap.objs.size) rfl
  rwa [Heap.size_push] at this
 have e3:(s.heap.push PySem.W.emptyDict).Ns s.heap.objs.size (fun _=>none):=⟨PySem.W.emptyDict,#[],_,e1,rfl,(fun e he=>absurd he (by simp)),fun _=>rfl⟩
 have I1:=I.laid (a:=s.heap.objs.size) (o:=.own (s.heap.objs.size+1)) (h':=s.heap.push PySem.W.emptyDict) (t':=s.toks) (fun b u q=>qr _ q) (qu _) ⟨_,e1⟩
 refine I1.laid (a:=s.heap.objs.size+1) (o:=.ins C s.heap.objs.size []) (t':=s.toks) (fun b u q=>qr _ q) (Nat.le_of_eq (Heap.size_push _ _)) ?_
 have ne:s.heap.objs.size≠s.heap.objs.size+1:=qA (Nat.lt_succ_self _)
 refine ⟨by rw [zaq ne,zav],Nat.zero_le _,ne,e2,fun _=>none,(Heap.Ns1.of_empty e3).at fun o q=>qr _ q,fun _=>True.intro,fun y hy=>absurd rfl hy⟩
theorem zmz {prog:Program} {w:World} {env:Env} {e:Expr} {f:Str} {pos:Pos} {s:Shared} {Q:Value->Shared->Prop} (hb:attributeBase e f env (eval e env)=eval e env)
  (h:wpAny (model prog w) A (eval e env) (fun o s₁=>wpAny (model prog w) A (getAttr o f true) Q E s₁) E s):wpAny (model prog w) A (eval (.Attribute e f pos) env) Q E s :=
 Attribute_any_ h (by rw [arm_eval_Attribute,hb])
end
def ztS (K:PySem.W.Frag) (ta:TE) (f:Str):TE:=fun σ H Q=>ta σ H fun x H1=>∃ a C dx fs v,x=.ref a/\H1 a=some (.ins C dx fs)/\Cls K C/\zdR K C f/\fs.lookup f=some v/\Q v H1
def ztX (K:PySem.W.Frag) (ta tv:TE) (f:Str):TS:=fun D σ H=>tv σ H fun y H1=>ta σ H1 fun x H2=>∃ a C dx fs,x=.ref a/\H2 a=some (.ins C dx fs)/\Cls K C/\zdR K C f/\fs.length < 1000 /\
 D.nx σ (upd H2 a (.ins C dx (zh2 f y fs)))
section
variable {X:Cx} {o e value:Expr} {f:Str} {pos pos' tpos:Pos} {ta tv:TE}
theorem zn5 (he:PE X e ta) (hb:attributeBase e f X.env (eval e X.env)=eval e X.env):PE X (.Attribute e f pos) (ztS X.K ta f):=by
 intro pins s σ H Q I h
 refine zmz hb (thn (he pins s σ H _ I h) fun u s1 ⟨x,H1,I1,rx,a,C,dx,fs,v,ex,ea,c,n,l,q⟩=>?_)
 subst ex
 obtain rfl:u=Value.ref a:=rx
 exact zkC I1 ea c n l fun u' s2 I2 ru=>⟨v,H1,I2,ru,q⟩
theorem zn1 (ha:PE X o ta) (hv:PE X value tv) (hs:swapsWith value (some (.Attribute o f pos')) pos.line X.env=pure false):PS X (.Assign [.Attribute o f pos'] value pos) (ztX X.K ta tv f):=by
 intro pins s σ H D I h
 refine plainObj_wpAny_Assign_Attribute (thn (hv pins s σ H _ I h) fun u s1 ⟨y,H1,I1,ry,q⟩=>thn (ha pins s1 σ H1 _ I1 q) fun ov s2 ⟨x,H2,I2,rx,a,C,dx,fs,ex,ea,c,n,l,q2⟩=>?_) hs
 subst ex
 obtain rfl:ov=Value.ref a:=rx
 exact zkh I2 ea c n l ry fun s3 I3=>⟨σ,_,I3,q2⟩
end
section
variable {X:Cx} {pins:List (Addr×Obj)} {σ:St} {H:Hp} {s:Shared} {A:Around} {E:Value->Shared->Prop} {Q:Value->Shared->Prop} {c:Value} {b:Bool}
inductive TyOf (K:PySem.W.Frag) (H:Hp):V->Value->Prop where
 | non:TyOf K H .non (.type "NoneType")
 | bl (x:Bool):TyOf K H (.bl x) (.type "bool")
 | int (i:Int):TyOf K H (.int i) (.type "int")
 | str (x:Str):TyOf K H (.str x) (.type "str")
 | flt (x:UInt64):TyOf K H (.flt x) (.type "float")
 | lst {a:Addr} {xs:List V} (e:H a=some (.lst xs)):TyOf K H (.ref a) (.type "list")
 | frz {a:Addr} {o:Obj} {xs:List V} (e:H a=some (.frz o (.lst xs))):TyOf K H (.ref a) (.type "list")
 | tup {a:Addr} {xs:List V} (e:H a=some (.tup xs)):TyOf K H (.ref a) (.type "tuple")
 | dK {a:Addr} {kvs:List (Key×V)} (e:H a=some (.dK kvs)):TyOf K H (.ref a) (.type "dict")
 | dT {a:Addr} {kvs:List (List Key×V)} (e:H a=some (.dT kvs)):TyOf K H (.ref a) (.type "dict")
 | ins {a C dx:Addr} {fs:List (Str×V)} (e:H a=some (.ins C dx fs)) (cl:Cls K C) (ha:PySem.W.findIn K (.ref C) "__class__"=some (some (.builtin "object.__class__")))
   (hn:PySem.W.specialIn K (.builtin "object.__class__") "__get__"=some (some (.builtin "getset_descriptor.__get__"))) (htk:PySem.W.takesIn K (.builtin "object.__class__")=some true)
   (hm:PySem.W.mroIn K C (.type "object")=some true):TyOf K H (.ref a) (.ref C)
theorem zlR {x:V} {u t:Value} (I:Inv X pins σ H s) (rx:zb9 x u) (ty:TyOf X.K H x t) (e:PySem.W.kitOne X.K t c=some b) (h:∀ tk,Q (.bool b) { s with toks:=tk }) :
  wpAny (model X.prog X.w) A (call (.builtin "isinstance") [u,c]) Q E s:=by
 cases ty with
 | non=>cases (show u=Value.none from rx);exact PySem.W.kia_one PySem.W.kitx_none I.kIn True.intro e (fun z=>nomatch z) h
 | bl y=>cases (show u=Value.bool y from rx);exact PySem.W.kia_one PySem.W.kitx_bool I.kIn True.intro e (fun z=>nomatch z) h
 | int i=>obtain ⟨t,q⟩:=(show ∃ t,u=Value.int i t from rx);cases q;exact PySem.W.kia_one PySem.W.kitx_int I.kIn True.intro e (fun z=>nomatch z) h
 | str y=>obtain ⟨t,q⟩:=(show ∃ t,u=Value.str y t from rx);cases q;exact PySem.W.kia_one PySem.W.kitx_str I.kIn True.intro e (fun z=>nomatch z) h
 | flt y=>obtain ⟨t,q⟩:=(show ∃ t,u=Value.float y t from rx);cases q;exact PySem.W.kia_one PySem.W.kitx_float I.kIn True.intro e (fun z=>nomatch z) h
 | @lst a xs ea =>
  cases (show u=Value.ref a from rx)
  obtain ⟨_,_,n,_,h1⟩:=(show zbX X.prog X.w H s.heap a (.lst xs) from I.hok a _ ea)
  exact PySem.W.kia_one PySem.W.kitx_list I.kIn ⟨_,h1,rfl⟩ e (fun z=>nomatch z) h
 | @frz a ob xs ea =>
  cases (show u=Value.ref a from rx)
  obtain ⟨_,_,_,n,_,h1⟩:=(show zbX X.prog X.w H s.heap a (.frz ob (.lst xs)) from I.hok a _ ea)
  exact PySem.W.kia_one PySem.W.kitx_list I.kIn ⟨_,h1,rfl⟩ e (fun z=>nomatch z) h
 | @tup a xs ea =>
  cases (show u=Value.ref a from rx)
  obtain ⟨_,_,_,p⟩:=(show zbX X.prog X.w H s.heap a (.tup xs) from I.hok a _ ea)
  obtain ⟨o,h1,h2,_⟩:=p
  exact PySem.W.kia_one PySem.W.kitx_tuple I.kIn ⟨o,h1,h2⟩ e (fun z=>nomatch z) h
 | @dK a kvs ea =>
  cases (show u=Value.ref a from rx)
  obtain ⟨_,_,vs,_,p⟩:=(show zbX X.prog X.w H s.heap a (.dK kvs) from I.hok a _ ea)
  obtain ⟨o,es,ep,h1,h2,_⟩:=p
  exact PySem.W.kia_one PySem.W.kitx_dict I.kIn ⟨o,h1,h2.1⟩ e (fun z=>nomatch z) h
 | @dT a kvs ea =>
  cases (show u=Value.ref a from rx)
  obtain ⟨_,_,xs,_,o,es,ep,h1,h2,_⟩:=(show zbX X.prog X.w H s.heap a (.dT kvs) from I.hok a _ ea)
  exact PySem.W.kia_one PySem.W.kitx_dict I.kIn ⟨o,h1,h2.1⟩ e (fun z=>nomatch z) h
 | @ins a C dx fs ea cl ha hn htk hm =>
  cases (show u=Value.ref a from rx)
  obtain ⟨mA,O,_⟩:=zjh I.hok ea
  obtain ⟨od,J,_⟩:=O.look
  exact PySem.W.kia_one (PySem.W.kitx_own (cl.get _) cl.hd ha hn htk hm) I.kIn J e (fun z=>nomatch z) h
end
end L2
namespace L2
open PySem PySem.Spec PyProof.Rows
structure Room (k:Nat) (A:Around):Prop where
 hd:A.handled=none
 dp:A.depth+3*k+5 < recursionLimit
 un:A.units+16*k+200 < cLine
theorem Room.mono {j k:Nat} {A:Around} (r:Room k A) (h:j<=k):Room j A:=⟨r.hd,by have:=r.dp;omega,by have:=r.un;omega⟩
theorem Room.deeper {k:Nat} {A:Around} (r:Room (k+1) A) (env:Env):Room k (A.deeper env) :=
 ⟨r.hd,by have:=r.dp;show A.depth+1+3*k+5 < _;omega,by have:=r.un;show A.units+3+16*k+200 < _;omega⟩
theorem zkv {A:Around} {C:Addr} {us:List Value} {kw:List (Str×Value)}:(A.under (.builtin "type.__call__" ⟨.ref C::us,kw⟩)).depth=A.depth+1:=by
 first | rfl | simp [Around.under,Code.weight,Code.isCreation,Code.isGuard,Code.isCaller,Code.frames,Code.isFrame,guardIds]
theorem zku {A:Around} {C:Addr} {us:List Value} {kw:List (Str×Value)}:(A.under (.builtin "type.__call__" ⟨.ref C::us,kw⟩)).units=A.units+1:=by
 first | rfl | simp [Around.under,Code.cUnits,Code.frames,Code.isFrame]
theorem Room.make {k:Nat} {A:Around} (r:Room (k+1) A) (C:Addr) (us:List Value) (kw:List (Str×Value)):Room k (A.under (.builtin "type.__call__" ⟨.ref C::us,kw⟩)) :=
 ⟨r.hd,by have:=r.dp;rw [zkv];omega,by have:=r.un;rw [zku];omega⟩
theorem Room.depth {k:Nat} {A:Around} (r:Room k A):A.depth < recursionLimit:=by have:=r.dp;omega
def ztm:TA:=fun _ H Q=>Q [] H
def zql (ta:TE) (tr:TA):TA:=fun σ H Q=>ta σ H fun x H1=>tr σ H1 fun xs H2=>Q (x::xs) H2
section
variable {X:Cx} {e:Expr} {es:List Expr} {te:TE} {t:TA} {pos:Pos}
theorem zdd:PA X [] ztm:=fun _ _ _ _ H Q I h=>Calls.spliced_nil ⟨[],H,I,.nil,h⟩
theorem zbM (ha:PE X e te) (hr:PA X es t) (hs:starEach (e::es) X.env=(false,eval e X.env)::starEach es X.env:=by rfl):PA X (e::es) (zql te t):=by
 intro pos pins s σ H Q I h
 rw [hs]
 show wpAny _ _ (spliced ((false,eval e X.env)::backTo pos (starEach es X.env))) _ _ s
 refine Calls.spliced_cons (thn (ha pins s σ H _ I h) fun u s1 ⟨x,H1,I1,r1,q1⟩=>?_)
 exact thn (hr pos pins s1 σ H1 _ I1 q1) fun us s2 ⟨xs,H2,I2,r2,q2⟩=>⟨x::xs,H2,I2,.cons r1 r2,q2⟩
def ztK (t:TA):TE:=fun σ H Q=>t σ H fun xs H1=>xs.length<=sizeLine/\∀ p,H1 p=none->Q (.ref p) (upd H1 p (.tup xs))
def ztO (t:TA):TE:=fun σ H Q=>t σ H fun xs H1=>xs.length<=sizeLine/\∀ p,H1 p=none->Q (.ref p) (upd H1 p (.lst xs))
theorem zn3 {x1} (h:PA X es t):PE X (.Tuple es x1 pos) (ztK t):=by
 intro pins s σ H Q I hq
 refine wpAny_Tuple_spliced (thn (h pos pins s σ H _ I hq) fun us s1 ⟨xs,H1,I1,r,z,q⟩=>⟨by rw [← r.length];exact z,?_⟩)
 have hf:H1 s1.heap.objs.size=none:=I1.hok.fresh (qu _)
 refine ⟨.ref s1.heap.objs.size,upd H1 s1.heap.objs.size (.tup xs),I1.laid (t':=s1.toks) (fun b u e=>qr _ e) (qu _) ?_,rfl,q _ hf⟩
 exact ⟨z,us,r,⟨_,qE _ rfl,rfl,_,rfl⟩⟩
theorem zqQ (h:PA X es t):PE X (.List es pos) (ztO t):=by
 intro pins s σ H Q I hq
 refine wpAny_List_spliced (thn (h pos pins s σ H _ I hq) fun us s1 ⟨xs,H1,I1,r,z,q⟩=>⟨by rw [← r.length];exact z,?_⟩)
 have hf:H1 s1.heap.objs.size=none:=I1.hok.fresh (qu _)
 refine ⟨.ref s1.heap.objs.size,upd H1 s1.heap.objs.size (.lst xs),I1.laid (t':=s1.toks) (fun b u e=>qr _ e) (qu _) ?_,rfl,q _ hf⟩
 exact ⟨z,us,0,r,qE _ rfl⟩
end
abbrev Sp:=List V->Hp->VK->XK->Prop
abbrev CXT:=List Env->Hp->Shared->XK->Value->Shared->Prop
structure Env0 (P:Program) (w:World) (K:PySem.W.Frag) (mg:Str->Option Value) (base:Heap) (A:Around) (outer:List Env) (s:Shared) (H:Hp):Prop where
 frames:A.frames=some outer
 mod:Mod K mg base
 bs:∀ b o,base.get? b=some o->s.heap.get? b=some o/\H b=none
 bsz:base.objs.size<=s.heap.objs.size
 funs:s.heap.FunFrames base outer
 frf:∀ b∈frs outer,H b=none
 hok:HOk P w H s.heap
 bare:AllBare s.gens
def CE (outer:List Env) (P:Program) (w:World) (H:Hp) (s:Shared) (Q:VK) (u:Value) (s':Shared):Prop :=
 ∃ v H',s'.os=s.os/\AllBare s'.gens/\Un (frs outer) [] H H' s.heap s'.heap/\HOk P w H' s'.heap/\zb9 v u/\Q v H'
def CR (CX:CXT) (outer:List Env) (P:Program) (w:World) (H:Hp) (s:Shared) (Q:VK) (E:XK) (r:Result) (s':Shared):Prop :=
 match r with
 | .ok (.ret u)=>CE outer P w H s Q u s'
 | .ok _=>False
 | .error e=>CX outer H s E e s'
structure FnOk (P:Program) (w:World) (K:PySem.W.Frag) (mg:Str->Option Value) (base:Heap) (CX:CXT) (k:Nat) (f:Addr) (fd:FuncData) (ps:List Str) (sp:Sp):Prop where
 len:∀ vs H Q E,sp vs H Q E->vs.length=ps.length
 run:∀ (A:Around) (outer:List Env) (s:Shared) (H:Hp) (args:Args) (us:List Value) (vs:List V) (Q:VK) (E:XK),Room k A->Env0 P w K mg base A outer s H->BindsTo s fd args (ps.zip us)->zbS vs us->sp vs H Q E ->
  codeAny (model P w) A (.call (.ref f) args) (CR CX outer P w H s Q E) s
theorem FnOk.imp {P:Program} {w:World} {K:PySem.W.Frag} {mg:Str->Option Value} {base:Heap} {CX:CXT} {k:Nat} {f:Addr} {fd:FuncData} {ps:List Str} {sp sp':Sp} (F:FnOk P w K mg base CX k f fd ps sp)
  (h:∀ vs H Q E,sp' vs H Q E->sp vs H Q E):FnOk P w K mg base CX k f fd ps sp' :=
 ⟨fun vs H Q E q=>F.len vs H Q E (h _ _ _ _ q),fun A outer s H args us vs Q E hr he hb hv hs=>F.run A outer s H args us vs Q E hr he hb hv (h _ _ _ _ hs)⟩
theorem Env0.make {P:Program} {w:World} {K:PySem.W.Frag} {mg:Str->Option Value} {base:Heap} {A:Around} {outer:List Env} {s:Shared} {H:Hp} (e:Env0 P w K mg base A outer s H) (C:Addr) (us:List Value) (kw:List (Str×Value)) :
  Env0 P w K mg base (A.under (.builtin "type.__call__" ⟨.ref C::us,kw⟩)) outer s H:=⟨by first | exact e.frames | (simpa [Around.under,Code.envs,Code.isFrame,pushEnvs] using e.frames),e.mod,e.bs,e.bsz,e.funs,e.frf,e.hok,e.bare⟩
section
variable {X:Cx} {pins:List (Addr×Obj)} {σ:St} {H:Hp} {s s':Shared}
theorem Inv.env0 (I:Inv X pins σ H s):Env0 X.prog X.w X.K X.mg X.base X.A X.stack s H :=
 ⟨I.ok.frames,I.ok.mod,I.bs,qK I.ok.bsz I.sz,I.stack,I.stkFree,I.hok,I.bare⟩
theorem Inv.after {Q:VK} {u:Value} (I:Inv X pins σ H s) (h:CE X.stack X.prog X.w H s Q u s'):EP X pins σ Q u s':=by
 obtain ⟨v,H',os,bare,un,hok,r,q⟩:=h
 obtain ⟨hh,g,d,t,os'⟩:=s'
 obtain rfl:os'=s.os:=os
 exact ⟨v,H',I.call (h':=hh) (g':=g) (d':=d) (t':=t) (ch:=[]) un hok bare (fun b z=>absurd z (by simp)),r,q⟩
end
def zsj (sp:Sp) (dvs:List V) (E:XK) (t:TA):TE:=fun σ H Q=>t σ H fun vs H1=>sp (vs++dvs) H1 Q E
def zsh (C:Addr) (sp:Sp) (dvs:List V) (E:XK) (t:TA):TE:=fun σ H Q=>t σ H fun vs H1=>∀ x dx,H1 x=none->H1 dx=none->dx≠x ->
 sp (.ref x::(vs++dvs)) (upd (upd H1 dx (.own x)) x (.ins C dx [])) (fun v H2=>v=.non/\Q (.ref x) H2) E
def zcL (K:PySem.W.Frag) (fd:FuncData) (ps:List Str) (ds:List Value):Prop :=
 ∀ (s:Shared) (us:List Value),K.In s.heap->(us++ds).length=ps.length->BindsTo s fd ⟨us,[]⟩ (ps.zip (us++ds))
theorem zcL.all {K:PySem.W.Frag} {fd:FuncData} {ps:List Str} (h:∀ us:List Value,us.length=ps.length->bindArgs fd ⟨us,[]⟩=pure (ps.zip us)):zcL K fd ps []:=fun s us _ hl=>by
 rw [List.append_nil] at hl ⊢
 exact .of_eq (h us hl)
def zhg (CX:CXT) (X:Cx) (E:XK):Prop:=∀ (pins:List (Addr×Obj)) (σ:St) (H:Hp) (s:Shared) (e:Value) (s':Shared),Inv X pins σ H s->CX X.stack H s E e s'->X.xe e s'
section
variable {X:Cx} {CX:CXT} {k:Nat} {f C:Addr} {fd:FuncData} {ps:List Str} {sp:Sp} {dvs:List V} {ds:List Value} {E:XK} {x m:Str} {p pos apos:Pos} {e o:Expr} {es:List Expr} {ta:TE} {t:TA}
theorem zqu {pins:List (Addr×Obj)} {σ:St} {H:Hp} {s:Shared} {Q:VK} {us:List Value} {vs:List V} (F:FnOk X.prog X.w X.K X.mg X.base CX k f fd ps sp) (hr:Room k X.A) (hb:zcL X.K fd ps ds) (hd:zbS dvs ds) (hx:zhg CX X E)
  (I:Inv X pins σ H s) (r:zbS vs us) (h:sp (vs++dvs) H Q E):wpAny (model X.prog X.w) X.A (call (.ref f) us) (EP X pins σ Q) X.xe s:=by
 have r2:zbS (vs++dvs) (us++ds):=r.append hd
 have hl:(us++ds).length=ps.length:=by rw [← r2.length];exact F.len _ _ _ _ h
 refine wpAny_call (codeAny_mono (F.run X.A X.stack s H ⟨us,[]⟩ (us++ds) (vs++dvs) Q E hr I.env0 (hb s us I.kIn hl) r2 h) fun r s' hq=>?_)
 cases r with
 | error e=>exact hx pins σ H s e s' I hq
 | ok fl =>
  cases fl with
  | ret u=>exact I.after hq
  | next=>exact False.elim hq
  | brk=>exact False.elim hq
  | cont=>exact False.elim hq
theorem zo3 (F:FnOk X.prog X.w X.K X.mg X.base CX k f fd ps sp) (hr:Room k X.A) (hg:Gl X x) (hm:X.mg x=some (.ref f)) (hk:PySem.W.keepIn X.K (.ref f)=true) (hb:zcL X.K fd ps ds) (hd:zbS dvs ds) (hx:zhg CX X E)
  (ha:PA X (e::es) t) (hdb:(x==("__debug__":Str))=false:=by decide) (he:starEach (e::es) X.env=(false,eval e X.env)::starEach es X.env:=by rfl) (hpl:(backTo pos (starEach es X.env)).any (·.1)=false:=by rfl) :
  PE X (.Call (.Name x p) (e::es) [] pos) (zsj sp dvs E t):=by
 intro pins s σ H Q I h
 refine wpAny_Call_Name_kw (zej I hg hm ?_ hdb)
 refine PySem.W.callWith_K (h₀:=X.base) I.ok.mod.kin hk (thn (ha pos pins s σ H _ I h) fun us s1 ⟨vs,H1,I1,r,q⟩=>⟨I1.kIn,?_⟩) he hpl
 exact zqu F hr hb hd hx I1 r q
structure Mk (K:PySem.W.Frag) (C f:Addr):Prop where
 makes:PySem.W.makesIn K C=true
 init:PySem.W.findIn K (.ref C) "__init__"=some (some (.ref f))
 fn:PySem.W.isFn K (.ref f)=true
 kp:PySem.W.keepIn K (.ref C)=true
theorem zmX {pins:List (Addr×Obj)} {σ:St} {H:Hp} {s:Shared} {Q:VK} {us:List Value} {vs:List V} (M:Mk X.K C f) (F:FnOk X.prog X.w X.K X.mg X.base CX k f fd ps sp) (hr:Room (k+1) X.A) (hb:zcL X.K fd ps ds) (hd:zbS dvs ds)
  (hx:zhg CX X E) (I:Inv X pins σ H s) (r:zbS vs us)
  (h:∀ x dx,H x=none->H dx=none->dx≠x->sp (.ref x::(vs++dvs)) (upd (upd H dx (.own x)) x (.ins C dx [])) (fun v H2=>v=.non/\Q (.ref x) H2) E) :
  wpAny (model X.prog X.w) X.A (call (.ref C) us) (EP X pins σ Q) X.xe s:=by
 have hq:=h (s.heap.objs.size+1) s.heap.objs.size (I.hok.fresh (Nat.le_succ _)) (I.hok.fresh (qu _)) (qA (Nat.lt_succ_self _))
 have I2:=Inv.made (C:=C) I
 have r2:zbS (V.ref (s.heap.objs.size+1)::(vs++dvs)) (Value.ref (s.heap.objs.size+1)::(us++ds)):=.cons rfl (r.append hd)
 have hl:(Value.ref (s.heap.objs.size+1)::us++ds).length=ps.length:=by
  have e:=r2.length
  rw [F.len _ _ _ _ hq] at e
  exact e.symm
 refine wpAny_call (zng (f:=f) I.kIn M.makes M.init (beq_iff_eq.mp M.fn) (codeAny_mono (F.run _ X.stack _ _ ⟨Value.ref (s.heap.objs.size+1)::us,[]⟩ (Value.ref (s.heap.objs.size+1)::(us++ds)) _ _ E (hr.make C us [])
  (I2.env0.make C us []) (hb _ (Value.ref (s.heap.objs.size+1)::us) I2.kIn hl) r2 hq) fun r s' hq'=>?_))
 cases r with
 | error e=>exact hx pins σ _ _ e s' I2 hq'
 | ok fl =>
  cases fl with
  | ret u =>
   obtain ⟨v,H',I3,rv,ev,q3⟩:=I2.after hq'
   subst ev
   exact ⟨rv,⟨V.ref (s.heap.objs.size+1),H',I3,rfl,q3⟩⟩
  | next=>exact False.elim hq'
  | brk=>exact False.elim hq'
  | cont=>exact False.elim hq'
theorem zo1 (M:Mk X.K C f) (F:FnOk X.prog X.w X.K X.mg X.base CX k f fd ps sp) (hr:Room (k+1) X.A) (hg:Gl X x) (hm:X.mg x=some (.ref C)) (hb:zcL X.K fd ps ds) (hd:zbS dvs ds) (hx:zhg CX X E)
  (ha:PA X (e::es) t) (hdb:(x==("__debug__":Str))=false:=by decide) (he:starEach (e::es) X.env=(false,eval e X.env)::starEach es X.env:=by rfl) (hpl:(backTo pos (starEach es X.env)).any (·.1)=false:=by rfl) :
  PE X (.Call (.Name x p) (e::es) [] pos) (zsh C sp dvs E t):=by
 intro pins s σ H Q I h
 refine wpAny_Call_Name_kw (zej I hg hm ?_ hdb)
 refine PySem.W.callWith_K (h₀:=X.base) I.ok.mod.kin M.kp (thn (ha pos pins s σ H _ I h) fun us s1 ⟨vs,H1,I1,r,q⟩=>⟨I1.kIn,?_⟩) he hpl
 exact zmX M F hr hb hd hx I1 r q
end
section
variable {X:Cx} {CX:CXT} {k:Nat} {f C:Addr} {fd:FuncData} {ps ks:List Str} {sp:Sp} {E:XK} {x m:Str} {p pos apos kpos:Pos} {e o:Expr} {es:List Expr} {kws:List Keyword} {te ta:TE} {t tk:TA} {nm:Option Str}
structure KBinds (K:PySem.W.Frag) (fd:FuncData) (ps ks:List Str) (g:List Value->List Value->List Value) (gV:List V->List V->List V):Prop where
 to:∀ (s:Shared) (us ws:List Value),K.In s.heap->(g us ws).length=ps.length->BindsTo s fd ⟨us,ks.zip ws⟩ (ps.zip (g us ws))
 rel:∀ {vs:List V} {us:List Value} {zs:List V} {ws:List Value},zbS vs us->zbS zs ws->zbS (gV vs zs) (g us ws)
variable {g:List Value->List Value->List Value} {gV:List V->List V->List V}
end
structure FnScope (N P:List Str) (sc:Scope):Prop where
 kind:sc.kind=.function
 co:sc.isCoroutine=false
 gen:sc.isGenerator=false
 nd:N.Nodup
 pre:N.take P.length=P
 par:∀ x∈P,sc.names.lookup x=some .local\/sc.names.lookup x=some .cell
 nofree:∀ y∈sc.names,y.2≠.free
theorem ziN {kindOf:Str->Option NameKind} {x:Str}:∀ {binds:List (Str×Value)} {m:Str->Option Value},(∀ v,(x,v)∉binds)->bindL kindOf binds m x=m x
 | [],_,_=>rfl
 | (n,v)::r,m,h=>by
  unfold bindL
  rw [ziN fun w hw=>h w (qg _ hw)]
  split
  ·have:x≠n:=by rintro rfl;exact h v qf
   simp [this]
  ·rfl
theorem ziP {kindOf:Str->Option NameKind} {x:Str}:∀ {binds:List (Str×Value)} {m:Str->Option Value},(∀ v,(x,v)∉binds)->bindC kindOf binds m x=m x
 | [],_,_=>rfl
 | (n,v)::r,m,h=>by
  unfold bindC
  rw [ziP fun w hw=>h w (qg _ hw)]
  split
  ·rfl
  ·have:x≠n:=by rintro rfl;exact h v qf
   simp [this]
theorem ziO {kindOf:Str->Option NameKind} {x:Str} {v:Value}:∀ {P:List Str} {vs:List Value} {i:Nat} {m:Str->Option Value},P.Nodup->P[i]?=some x->vs[i]?=some v->kindOf x=some .local ->
  bindL kindOf (P.zip vs) m x=some v
 | [],_,_,_,_,h,_,_=>by simp at h
 | _::_,[],_,_,_,_,h,_=>by simp at h
 | p::P,w::vs,0,m,nd,h1,h2,hk=>by
  simp at h1 h2;subst h1;subst h2
  show bindL kindOf ((p,w)::P.zip vs) m p=_
  unfold bindL
  rw [ziN fun v hv=>(List.nodup_cons.mp nd).1 (List.of_mem_zip hv).1,qX hk]
  simp
 | p::P,w::vs,i+1,m,nd,h1,h2,hk=>by
  show bindL kindOf ((p,w)::P.zip vs) m x=_
  unfold bindL
  exact ziO (i:=i) (List.nodup_cons.mp nd).2 (by simpa using h1) (by simpa using h2) hk
theorem ziQ {kindOf:Str->Option NameKind} {x:Str} {v:Value}:∀ {P:List Str} {vs:List Value} {i:Nat} {m:Str->Option Value},P.Nodup->P[i]?=some x->vs[i]?=some v->kindOf x≠some .local ->
  bindC kindOf (P.zip vs) m x=some v
 | [],_,_,_,_,h,_,_=>by simp at h
 | _::_,[],_,_,_,_,h,_=>by simp at h
 | p::P,w::vs,0,m,nd,h1,h2,hk=>by
  simp at h1 h2;subst h1;subst h2
  show bindC kindOf ((p,w)::P.zip vs) m p=_
  unfold bindC
  rw [ziP fun v hv=>(List.nodup_cons.mp nd).1 (List.of_mem_zip hv).1,qY hk]
  simp
 | p::P,w::vs,i+1,m,nd,h1,h2,hk=>by
  show bindC kindOf ((p,w)::P.zip vs) m x=_
  unfold bindC
  exact ziQ (i:=i) (List.nodup_cons.mp nd).2 (by simpa using h1) (by simpa using h2) hk
def zey (N:List Str) (vs:List V):St:=vs.map some++List.replicate (N.length - vs.length) none
def zgD (CX:CXT) (P:Program) (w:World) (K:PySem.W.Frag) (mg:Str->Option Value) (base:Heap) (N:List Str) (qual:Str) (scope:Scope) (f:Addr) (cd:Value) (A:Around) (outer:List Env) (s:Shared) (H:Hp) (E:XK):Cx where
 prog:=P
 w:=w
 K:=K
 mg:=mg
 base:=base
 A:=A.deeper (envOfC qual scope s.heap.objs.size f cd)
 N:=N
 s₀:=s
 H₀:=H
 env:=envOfC qual scope s.heap.objs.size f cd
 outer:=outer
 stack:=envOfC qual scope s.heap.objs.size f cd::outer
 ex:=[]
 calm:=true
 fn:=fun _=>true
 pn:=[]
 xe:=fun e s'=>wpAny (model P w) (A.deeper (envOfC qual scope s.heap.objs.size f cd)) (leaving (envOfC qual scope s.heap.objs.size f cd) e) (fun _ s''=>CX outer H s E e s'') (fun e' s''=>CX outer H s E e' s'') s'
theorem zj7 {sc:Scope} {n:Nat} {x:Str} (h:sc.names.lookup x=some .cell):∃ c,(cellsFrom n sc.names []).lookup x=some c:=by
 have q:=PySem.W.cellsFrom_some sc.names n [] (.inl h)
 exact Option.isSome_iff_exists.mp q
theorem zlT {CX:CXT} {P:Program} {w:World} {K:PySem.W.Frag} {mg:Str->Option Value} {base:Heap} {N ps:List Str} {qual:Str} {scope:Scope} {f:Addr} {cd:Value} {A:Around} {outer:List Env} {s s1:Shared} {H:Hp} {E:XK} {us:List Value} {vs:List V}
  (S:FnScope N ps scope) (hd:A.handled=none) (e0:Env0 P w K mg base A outer s H) (hl:vs.length=ps.length) (r:zbS vs us)
  (x:InCallC s s.heap.objs.size (bindL (envOfC qual scope s.heap.objs.size f cd).kindOf (ps.zip us) fun _=>none) (cellsFrom (s.heap.objs.size+1) scope.names []) (bindC (envOfC qual scope s.heap.objs.size f cd).kindOf (ps.zip us) fun _=>none) s1) :
  Inv (zgD CX P w K mg base N qual scope f cd A outer s H E) [] (zey N vs) H s1:=by
 have hpl:ps.length<=N.length:=by have:=congrArg List.length S.pre;rw [qC] at this;omega
 obtain ⟨h1,tk,rfl,hk⟩:=x.done
 have noA:∀ b:Addr,b∉(zgD CX P w K mg base N qual scope f cd A outer s H E).ex:=fun b z=>absurd (show b∈([]:List Addr) from z) (by simp)
 refine ⟨⟨e0.mod,S.kind,rfl,rfl,qu _,fun y z c h1 h2=>?_,fun y hy=>?_,fun y c _ h=>?_,fun _=>hd,Around.frames_deeper e0.frames,.inr ⟨rfl,rfl⟩,fun b z=>absurd z (noA b),e0.bs,e0.bsz,fun b _ _=>noA b,fun b z=>absurd z (noA b),e0.funs,e0.frf⟩,
  rfl,e0.bare,Un.kept hk,⟨_,x.toInCall.ns,fun i y v h1 h2 h3=>?_⟩,fun y c h=>⟨_,x.cell y c h⟩,e0.hok.fresh (qu _),fun y c h=>?_,fun p hp=>absurd (show p∈([]:List (Addr×Obj)) from hp) (by simp),e0.hok.kept hk,?_⟩
 ·exact name_of_addr x.apart (PySem.mem_of_lookup h1) (PySem.mem_of_lookup h2)
 ·have hy:scope.names.lookup y=some .cell\/scope.names.lookup y=some .free:=hy
  rcases hy with hy | hy
  ·exact zj7 hy
  ·exact absurd rfl (S.nofree _ (PySem.mem_of_lookup hy))
 ·exact Nat.le_of_lt (x.above y c (PySem.mem_of_lookup h))
 ·have hi:i < vs.length:=by
   unfold zey at h2
   by_cases hi:i < vs.length
   ·exact hi
   ·rw [qI (by simpa using hi)] at h2
    rw [List.getElem?_replicate] at h2
    split at h2 <;> cases h2
  have ha:vs[i]?=some v:=by
   unfold zey at h2
   rw [qx (by simpa using hi),qj] at h2
   cases e:vs[i]? with
   | none=>rw [e] at h2;cases h2
   | some a=>rw [e] at h2;cases h2;rfl
  obtain ⟨u,hu,rv⟩:=r.get ha
  have hp:ps[i]?=some y:=by
   rw [← S.pre,List.getElem?_take_of_lt (by omega)];exact h1
  have ndP:ps.Nodup:=by rw [← S.pre];exact S.nd.sublist (List.take_sublist _ _)
  refine ⟨u,rv,?_⟩
  rcases S.par y (qN hp) with k | k
  ·exact .inl ⟨k,ziO ndP hp hu k⟩
  ·obtain ⟨c,e⟩:=zj7 (n:=s.heap.objs.size+1) k
   refine .inr ⟨.inl k,c,e,?_⟩
   have q:=x.cell y c e
   rw [ziQ ndP hp hu (by show scope.names.lookup y≠_;rw [k];decide)] at q
   exact q
 ·exact e0.hok.fresh (Nat.le_of_lt (x.above y c (PySem.mem_of_lookup h)))
 ·unfold zey
  show _=N.length
  rw [qi,qe,List.length_replicate]
  omega
theorem zpF {CX:CXT} {P:Program} {w:World} {K:PySem.W.Frag} {mg:Str->Option Value} {base:Heap} {k:Nat} {f:Addr} {name qual:Str} {params:Arguments} {body:List Stmt} {scope:Scope} {dV kV doc pm cdv ct oc:Value} {an od:Option Addr}
  {osl:Array (Option Value)} {N ps:List Str} {sp:Sp} (lk:K.lookup f=some ⟨oc,od,.func (PySem.W.fnOf name qual params body scope dV kV doc pm an cdv ct),osl⟩) (hcd:PySem.W.codeIn K cdv qual=true) (S:FnScope N ps scope)
  (len:∀ vs H Q E,sp vs H Q E->vs.length=ps.length)
  (hbody:∀ (A:Around) (outer:List Env) (s:Shared) (H:Hp) (vs:List V) (Q:VK) (E:XK),Room k (A.deeper (envOfC qual scope s.heap.objs.size f cdv))->sp vs H Q E ->
   ∃ t,PSs (zgD CX P w K mg base N qual scope f cdv A outer s H E) body t/\t { nx:=fun _ H'=>Q .non H',rt:=Q } (zey N vs) H) :
  FnOk P w K mg base CX (k+1) f (PySem.W.fnOf name qual params body scope dV kV doc pm an cdv ct) ps sp:=by
 refine ⟨len,fun A outer s H args us vs Q E hr e0 hb r hsp=>?_⟩
 have hl:=len _ _ _ _ hsp
 have KX:K.In s.heap:=e0.mod.kin.keeps fun b o e=>(e0.bs b o e).1
 have lim:s.heap.NoLimit:=e0.mod.nolimit.keeps fun b o e=>(e0.bs b o e).1
 have hkind:∀ y∈ps.zip us,scope.names.lookup y.1=some .local\/(scope.names.lookup y.1=some .cell/\((cellsFrom (s.heap.objs.size+1) scope.names []).lookup y.1).isSome=true):=fun ⟨n,v⟩ hy=>by
  rcases S.par n (List.of_mem_zip hy).1 with q | q
  ·exact .inl q
  ·exact .inr ⟨q,PySem.W.cellsFrom_some _ _ _ (.inl q)⟩
 refine codeAny_call_function hr.depth (KX _ _ lk) rfl S.co S.gen rfl (PySem.W.codeRec_of KX hcd) (hb _ _ _ _ ?_)
 refine wpAny_newFunctionEnv_cells S.kind hkind fun env he s1 x=>?_
 subst he
 refine ⟨lim.keeps x.toInCall.keep,codeAny_func ?_⟩
 obtain ⟨t,ht,hq⟩:=hbody A outer s H vs Q E (hr.deeper _) hsp
 have I:Inv (zgD CX P w K mg base N qual scope f cdv A outer s H E) [] (zey N vs) H s1:=zlT S hr.hd e0 hl r x
 refine wpAny_mono (ht [] s1 (zey N vs) H _ I hq) (fun fl s' hs=>?_) fun e s' hs=>hs
 have fin:∀ {σ':St} {H':Hp} {v:V} {u:Value},Inv (zgD CX P w K mg base N qual scope f cdv A outer s H E) [] σ' H' s'->zb9 v u->Q v H'->CE outer P w H s Q u s' :=
  fun {σ' H' v u} J rv q=>⟨v,H',J.os,J.bare,J.base,J.hok,rv,q⟩
 cases fl with
 | ret u =>
  obtain ⟨v,σ',H',J,rv,q⟩:=hs
  exact fin J rv q
 | next =>
  obtain ⟨σ',H',J,q⟩:=hs
  exact fin (v:=V.non) (u:=Value.none) J rfl q
 | brk =>
  obtain ⟨_,_,_,q⟩:=hs
  exact False.elim q
 | cont =>
  obtain ⟨_,_,_,q⟩:=hs
  exact False.elim q
end L2
namespace L2
open PySem PySem.Spec PyProof.Rows
section
variable {X:Cx} {x:Str} {p pos:Pos} {e:Expr} {es:List Expr} {t:TA} {id T:String} {r:List V->Hp->VK->Prop}
def tCB (r:List V->Hp->VK->Prop) (t:TA):TE:=fun σ H Q=>t σ H fun vs H1=>r vs H1 Q
theorem zeF (hc:zdT X (.builtin id) r) (hg:Gl X x) (hm:X.mg x=none) (hv:bootBuiltins x=some (.builtin id)) (ha:PA X (e::es) t) (hn:x≠"__name__":=by decide) (hdb:(x==("__debug__":Str))=false:=by decide)
  (he:starEach (e::es) X.env=(false,eval e X.env)::starEach es X.env:=by rfl) (hpl:(backTo pos (starEach es X.env)).any (·.1)=false:=by rfl):PE X (.Call (.Name x p) (e::es) [] pos) (tCB r t):=by
 intro pins s σ H Q I h
 refine wpAny_Call_Name_kw (zg5 I hg hm hv ?_ hn hdb)
 exact PyProof.Rows.callWith_builtin1 (thn (ha pos pins s σ H _ I h) fun us s1 ⟨vs,H1,I1,r1,q1⟩=>hc pins s1 σ H1 vs us Q I1 r1 q1) he hpl
theorem zfW (hc:zdT X (.type T) r) (hg:Gl X x) (hm:X.mg x=none) (hv:bootBuiltins x=some (.type T)) (ha:PA X (e::es) t) (hn:x≠"__name__":=by decide) (hdb:(x==("__debug__":Str))=false:=by decide)
  (he:starEach (e::es) X.env=(false,eval e X.env)::starEach es X.env:=by rfl) (hpl:(backTo pos (starEach es X.env)).any (·.1)=false:=by rfl):PE X (.Call (.Name x p) (e::es) [] pos) (tCB r t):=by
 intro pins s σ H Q I h
 refine wpAny_Call_Name_kw (zg5 I hg hm hv ?_ hn hdb)
 exact PyProof.Rows.callWith_type1 (thn (ha pos pins s σ H _ I h) fun us s1 ⟨vs,H1,I1,r1,q1⟩=>hc pins s1 σ H1 vs us Q I1 r1 q1) he hpl
end
end L2
end
section
namespace HT
open PySem PyProof.Rows
section
open PySem.SeqAt
open PySem.AutoSeq1 (wpAny_loadPart')
open PySem.MeetsSeq PySem.MeetsSeq2 PySem.MeetsSeq3
end
section
variable {prog:Program} {w:World} {A:Around} {E:Value->Shared->Prop} {s:Shared}
def sIx (n d:Nat):Option Int->Nat
 | none=>d
 | some v=>if v < 0 then (v+(n:Int)).toNat else min v.toNat n
theorem zqt (n d:Nat) (hd:d<=n) (o:Option Int):sIx n d o<=n:=by
 cases o with
 | none=>exact hd
 | some v =>
  show (if v < 0 then (v+(n:Int)).toNat else min v.toNat n)<=n
  by_cases hv:v < 0
  ·rw [qX hv];omega
  ·rw [qY hv];exact Nat.min_le_right _ _
theorem zmm (v:Int) (n d:Nat):(if v < 0 then max (v+(n:Int)) 0 else min v (n:Int))=((sIx n d (some v):Nat):Int):=by
 show (if v < 0 then max (v+(n:Int)) 0 else min v (n:Int))=(((if v < 0 then (v+(n:Int)).toNat else min v.toNat n):Nat):Int)
 by_cases hv:v < 0
 ·simp only [qX hv];omega
 ·simp only [qY hv];omega
theorem zkN (lo hi:Option Int) (n:Nat):Builtin.Slice.sliceAdjust lo hi 1 (n:Int)=(((sIx n 0 lo:Nat):Int),((sIx n n hi:Nat):Int)):=by
 have h1:¬ ((1:Int) < 0):=by omega
 unfold Builtin.Slice.sliceAdjust
 simp only [h1,if_false]
 refine Prod.ext ?_ ?_
 ·cases lo with
  | none=>rfl
  | some v=>exact zmm v n 0
 ·cases hi with
  | none=>rfl
  | some v=>exact zmm v n n
theorem zkp (i j:Nat):Builtin.Slice.slicePlaces (i:Int) (j:Int) 1=j - i:=by
 unfold Builtin.Slice.slicePlaces
 have h1:(1:Int) > 0:=by omega
 simp only [h1,if_true,Int.ediv_one]
 split <;> omega
theorem zgR {v:Value} {o:Option Int} {Q:Option Int->Shared->Prop} (p:IsPart v o) (h:Q o s):wpAny (model prog w) A (Builtin.Slice.slicePartIndex v) Q E s:=by
 cases p with
 | none=>exact slicePart_none h
 | int i t=>exact slicePart_int h
theorem zfA {sl:Addr} {vl vu:Value} {lo hi:Option Int} {n:Nat} {Q:Int×Int×Nat->Shared->Prop} (hs:s.heap.IsSliceOf sl vl vu .none) (pl:IsPart vl lo) (pu:IsPart vu hi)
  (h:Q (((sIx n 0 lo:Nat):Int),1,sIx n n hi - sIx n 0 lo) s):wpAny (model prog w) A (Builtin.Slice.sliceApplied (.ref sl) (pure (n:Int))) Q E s:=by
 obtain ⟨os,hos,hcs,hds⟩:=id hs
 unfold Builtin.Slice.sliceApplied Builtin.Slice.sliceFields
 refine qv (qv (wpAny_field hos hds (x:=vl) rfl (qv (wpAny_field hos hds (x:=vu) rfl (qv (wpAny_field hos hds (x:=.none) rfl (qy ?_)))))))
 refine qv (slicePart_none ?_)
 show wpAny _ _ (if ((1:Int)==0)=true then _ else _) _ _ s
 rw [qY (by decide)]
 refine qv (zgR pl (qv (zgR pu (qv (qy ?_)))))
 show wpAny _ _ (match Builtin.Slice.sliceAdjust lo hi 1 (n:Int) with | (lo,hi)=>pure (lo,(1:Int),Builtin.Slice.slicePlaces lo hi 1)) _ _ s
 rw [zkN lo hi n]
 show wpAny _ _ (pure (((sIx n 0 lo:Nat):Int),(1:Int),Builtin.Slice.slicePlaces ((sIx n 0 lo:Nat):Int) ((sIx n n hi:Nat):Int) 1)) _ _ s
 rw [zkp]
 exact qy h
theorem zm3 (xs:Array Value) (i k:Nat):((List.range k).filterMap fun (m:Nat)=>xs[((i:Int)+(m:Int)*1).toNat]?).toArray=((xs.toList.drop i).take k).toArray:=by
 have e:(fun (m:Nat)=>xs[((i:Int)+(m:Int)*1).toNat]?)=fun m=>xs[i+m]?:=by
  funext m
  have:((i:Int)+(m:Int)*1).toNat=i+m:=by omega
  rw [this]
 rw [e]
 have:=pick_run xs i k
 rw [List.filterMap_map] at this
 have e2:((fun x=>xs[x]?) ∘ fun x=>i+x)=fun m=>xs[i+m]?:=rfl
 rw [e2] at this
 rw [this]
theorem getItem_tuple_cut {t sl:Addr} {items:Array Value} {vl vu:Value} {lo hi:Option Int} {Q:Value->Shared->Prop} (ht:IsTup s.heap t items) (hs:s.heap.IsSliceOf sl vl vu .none) (pl:IsPart vl lo) (pu:IsPart vu hi)
  (hw:¬ (sIx items.size 0 lo=0/\sIx items.size items.size hi=items.size))
  (h:Q (.ref s.heap.objs.size) { s with heap:=s.heap.push { cls:=.type "tuple",data:=.seq ((items.toList.drop (sIx items.size 0 lo)).take (sIx items.size items.size hi - sIx items.size 0 lo)).toArray } })
  (hsz:items.size<=sizeLine):wpAny (model prog w) A (getItem (.ref t) (.ref sl)) Q E s:=by
 have htake:sizeOk (.seq ((items.toList.drop (sIx items.size 0 lo)).take (sIx items.size items.size hi - sIx items.size 0 lo)).toArray):=by
  show ((items.toList.drop (sIx items.size 0 lo)).take (sIx items.size items.size hi - sIx items.size 0 lo)).toArray.size<=sizeLine
  rw [qz,qC,List.length_drop,Array.length_toList]
  omega
 have hj:sIx items.size items.size hi<=items.size:=zqt _ _ (qu _) hi
 obtain ⟨os,hos,hcs,hds⟩:=id hs
 have hTs:s.TypeIs (.ref sl) "slice":=⟨os,hos,hcs⟩
 unfold getItem
 try with_reducible refine qR ?_
 first | refine qv (qy ?_) | skip
 refine qv (wpAny_sequenceKey ht.typeIs (by decide) ?_)
 refine qv (wpAny_callSpecial?_slot (name:=Str.ofString "__getitem__") ht.typeIs PyProof.Rows.slot_tuple_getitem
  (wpAny_call_entry PyProof.Rows.slot_tuple_getitem ht.typeIs entry_tuple_getitem ?_ (args_tuple_getitem _ _)))
 show wpAny _ _ (Builtin.Tuple.tupleItemsOf (.ref t) >>= _) _ _ s
 refine qv (tupleItemsOf_ ht ?_)
 refine qv (wpAny_typeOf hTs ?_)
 rw [qX (by decide)]
 refine qv (zfA hs pl pu ?_)
 have hno:¬ ((((sIx items.size 0 lo:Nat):Int)==0 && (1:Int)==1 && (sIx items.size items.size hi - sIx items.size 0 lo)==items.size)=true):=by
  intro q
  rw [Bool.and_eq_true,Bool.and_eq_true] at q
  have q1:((sIx items.size 0 lo:Nat):Int)=0:=eq_of_beq q.1.1
  have q2:sIx items.size items.size hi - sIx items.size 0 lo=items.size:=eq_of_beq q.2
  exact hw ⟨by omega,by omega⟩
 show wpAny _ _ (if (((sIx items.size 0 lo:Nat):Int)==0 && (1:Int)==1 && (sIx items.size items.size hi - sIx items.size 0 lo)==items.size)=true then _ else _) _ _ s
 rw [qY hno,zm3]
 first
  | exact qv (m:=Builtin.Tuple.tupleExact _) (wpAny_newObj_type (qy ⟨_,rfl,qy h⟩) htake)
  | exact qv (m:=Builtin.Tuple.tupleExact _) (wpAny_newObj_type (qv (qy (qy ⟨_,rfl,qy h⟩))) htake)
  | exact qv (qv (m:=Builtin.Tuple.tupleExact _) (wpAny_newObj_type (qy (qy ⟨_,rfl,qy h⟩)) htake))
  | exact qv (qv (m:=Builtin.Tuple.tupleExact _) (wpAny_newObj_type (qy ⟨_,rfl,qy h⟩) htake))
end
end HT
namespace L2
open PySem PySem.Spec PyProof.Rows
abbrev TO:=St->Hp->(Option Int->Hp->Prop)->Prop
def PO (X:Cx) (e:Option Expr) (t:TO):Prop :=
 ∀ (pins:List (Addr×Obj)) (s:Shared) (σ:St) (H:Hp) (Q:Option Int->Hp->Prop),Inv X pins σ H s->t σ H Q ->
  wpAny (model X.prog X.w) X.A (evalPart e X.env) (fun u s'=>∃ o H',Inv X pins σ H' s'/\IsPart u o/\Q o H') X.xe s
def zow:TO:=fun _ H Q=>Q none H
def zse (t:TE):TO:=fun σ H Q=>t σ H fun x H1=>∃ i,x=.int i/\Q (some i) H1
section
variable {X:Cx} {e:Expr} {te:TE} {lo hi:Option Expr} {tl th:TO} {pos p2:Pos}
theorem zoU:PO X none zow:=by
 intro pins s σ H Q I h
 rw [evalPart_none]
 exact qy ⟨none,H,I,.none,h⟩
theorem zoT (h:PE X e te):PO X (some e) (zse te):=by
 intro pins s σ H Q I hw
 rw [evalPart_some]
 refine thn (h pins s σ H _ I hw) fun u s1 ⟨x,H1,I1,r1,q1⟩=>?_
 obtain ⟨i,rfl,q⟩:=q1
 obtain ⟨t,rfl⟩:=r1
 exact ⟨some i,H1,I1,.int i t,q⟩
def SlR (X:Cx) (r:V->Option Int->Option Int->Hp->VK->Prop):Prop :=
 ∀ (pins:List (Addr×Obj)) (s:Shared) (σ:St) (H:Hp) (x:V) (v vl vu:Value) (lo hi:Option Int) (sl:Addr) (Q:VK),Inv X pins σ H s->zb9 x v->s.heap.IsSliceOf sl vl vu .none->IsPart vl lo->IsPart vu hi->r x lo hi H Q ->
  ∃ T id,typeLookup (.type T) "__getitem__"=pure (some (.builtin id))/\s.TypeIs v T/\wpAny (model X.prog X.w) X.A (getItem v (.ref sl)) (EP X pins σ Q) X.xe s
theorem SlR.or {r r':V->Option Int->Option Int->Hp->VK->Prop} (h:SlR X r) (h':SlR X r'):SlR X (fun x lo hi H Q=>r x lo hi H Q\/r' x lo hi H Q):=by
 intro pins s σ H x v vl vu lo hi sl Q I rx hs pl pu q
 rcases q with q | q
 ·exact h pins s σ H x v vl vu lo hi sl Q I rx hs pl pu q
 ·exact h' pins s σ H x v vl vu lo hi sl Q I rx hs pl pu q
def tSl (r:V->Option Int->Option Int->Hp->VK->Prop) (te:TE) (tl th:TO):TE:=fun σ H Q=>te σ H fun x H1=>tl σ H1 fun l H2=>th σ H2 fun u H3=>r x l u H3 Q
theorem zm5 {r:V->Option Int->Option Int->Hp->VK->Prop} (hr:SlR X r) (he:PE X e te) (hl:PO X lo tl) (hu:PO X hi th):PE X (.Subscript e (.Slice lo hi none p2) pos) (tSl r te tl th):=by
 intro pins s σ H Q I h
 refine Subscript_ (thn (he pins s σ H _ I h) fun v s1 ⟨x,H1,I1,r1,q1⟩=>?_)
 refine wpAny_Slice (thn (hl pins s1 σ H1 _ I1 q1) fun vl s2 ⟨l,H2,I2,pl,q2⟩=>thn (hu pins s2 σ H2 _ I2 q2) fun vu s3 ⟨u,H3,I3,pu,q3⟩=>?_)
 rw [evalPart_none]
 refine qy ?_
 have I4:Inv X pins σ H3 { s3 with heap:=s3.heap.push { cls:=.type "slice",data:=.fields #[vl,vu,.none] } }:=I3.kept (t':=s3.toks) fun b ob q=>qr _ q
 obtain ⟨T,id,hT,ht,hg⟩:=hr pins { s3 with heap:=s3.heap.push { cls:=.type "slice",data:=.fields #[vl,vu,.none] } } σ H3 x v vl vu l u s3.heap.objs.size Q I4 r1 (Heap.IsSliceOf.new ..) pl pu q3
 show wpAny (model X.prog X.w) X.A (subscriptTail e (.Slice lo hi none p2) v (.ref s3.heap.objs.size)) (EP X pins σ Q) X.xe { s3 with heap:=s3.heap.push { cls:=.type "slice",data:=.fields #[vl,vu,.none] } }
 exact tail_any (ops:=[.ref s3.heap.objs.size,v]) ht hT hg (by with_unfolding_all rfl)
def zol (xs:List V) (lo hi:Option Int):List V:=(xs.drop (HT.sIx xs.length 0 lo)).take (HT.sIx xs.length xs.length hi - HT.sIx xs.length 0 lo)
theorem zgc (xs:List V) (lo hi:Option Int):(zol xs lo hi).length<=xs.length:=by
 unfold zol
 rw [qC,List.length_drop]
 omega
def ztY (K:PySem.W.Frag):V->Option Int->Option Int->Hp->VK->Prop:=fun x lo hi H Q=>∃ a xs,x=.ref a/\SqT K H a xs /\
 ¬ (HT.sIx xs.length 0 lo=0/\HT.sIx xs.length xs.length hi=xs.length)/\∀ p,H p=none->Q (.ref p) (upd H p (.tup (zol xs lo hi)))
theorem zqo:SlR X (ztY X.K):=by
 intro pins s σ H x v vl vu lo hi sl Q I rx hs pl pu h
 obtain ⟨a,xs,rfl,hx,hw,q⟩:=h
 cases rx
 obtain ⟨its,r,ht,hz⟩:=I.tuple hx
 have hlen:its.toArray.size=xs.length:=by rw [qz];exact r.length.symm
 refine ⟨"tuple",_,PyProof.Rows.slot_tuple_getitem.lookup,ht.typeIs,?_⟩
 refine HT.getItem_tuple_cut ht hs pl pu (by rw [hlen];exact hw) ?_ (by rw [hlen];exact hz)
 rw [hlen]
 refine ⟨.ref s.heap.objs.size,_,I.laid (t':=s.toks) (o:=.tup (zol xs lo hi)) (fun b ob q=>qr _ q) (qu _) ?_,rfl,q _ (I.hok.fresh (qu _))⟩
 exact ⟨qK (zgc xs lo hi) hz,_,(r.drop (HT.sIx xs.length 0 lo)).take (HT.sIx xs.length xs.length hi - HT.sIx xs.length 0 lo),IsTup.new _ _⟩
end
end L2
namespace L2
open PySem PySem.Spec PyProof.Rows
def ixN (n:Nat) (i:Int):Option Nat:=if 0<=i then (if i < n then some i.toNat else none) else if -(n:Int)<=i then some (i+n).toNat else none
def atI {α:Type} (xs:List α) (i:Int):Option α:=(ixN xs.length i).bind fun j=>xs[j]?
theorem zlQ {n:Nat} {i:Int} {j:Nat} (h:ixN n i=some j):seqIndex? i n=some j/\j < n /\ -(n:Int)<=i/\i < n:=by
 unfold ixN at h
 by_cases h0:0<=i
 ·rw [qX h0] at h
  by_cases h1:i < n
  ·rw [qX h1] at h
   have e:i.toNat=j:=qF h
   exact ⟨by rw [seqIndex_of h0 h1,e],by omega,by omega,h1⟩
  ·rw [qY h1] at h;cases h
 ·rw [qY h0] at h
  by_cases h1 : -(n:Int)<=i
  ·rw [qX h1] at h
   have e:(i+n).toNat=j:=qF h
   exact ⟨by rw [seqIndex_neg (by omega) h1,e],by omega,h1,by omega⟩
  ·rw [qY h1] at h;cases h
theorem zjs {α:Type} {xs:List α} {i:Int} {v:α} (h:atI xs i=some v):∃ j,seqIndex? i xs.length=some j/\xs[j]?=some v/\j < xs.length /\ -(xs.length:Int)<=i/\i < xs.length:=by
 unfold atI at h
 cases e:ixN xs.length i with
 | none=>rw [e] at h;cases h
 | some j =>
  rw [e] at h
  obtain ⟨h1,h2,h3,h4⟩:=zlQ e
  exact ⟨j,h1,h,h2,h3,h4⟩
theorem zdQ {α:Type} {xs:List α} {j:Nat} {v:α} (h:xs[j]?=some v):atI xs (j:Int)=some v:=by
 have hj:j < xs.length:=(List.getElem?_eq_some_iff.mp h).1
 have e:ixN xs.length (j:Int)=some j:=by
  unfold ixN
  rw [qX (by omega),qX (by omega)];simp
 unfold atI;rw [e];exact h
def zmE (b:Expr):Prop:=∀ o i,subscripted b false o i=operate [o,i] (getItem o i)
def IxR (X:Cx) (r:R2):Prop :=
 ∀ (value slice:Expr) (pins:List (Addr×Obj)) (s:Shared) (σ:St) (H:Hp) (x y:V) (v u:Value) (Q:VK),Inv X pins σ H s->zb9 x v->zb9 y u->r x y H Q ->
  subscripted slice false v u=operate [v,u] (getItem v u)->wpAny (model X.prog X.w) X.A (subscriptTail value slice v u) (EP X pins σ Q) X.xe s
def MtR (X:Cx) (id:String) (r:V->List V->Hp->VK->Prop):Prop :=
 ∀ (pins:List (Addr×Obj)) (s:Shared) (σ:St) (H:Hp) (x:V) (xs:List V) (v:Value) (us:List Value) (Q:VK),Inv X pins σ H s->zb9 x v->zbS xs us->r x xs H Q ->
  wpAny (model X.prog X.w) X.A (call (.builtin id) (v::us)) (EP X pins σ Q) X.xe s
section
variable {X:Cx} {a b:Expr} {ta tb:TE} {pos:Pos}
theorem IxR.or {r r':R2} (h:IxR X r) (h':IxR X r'):IxR X (fun x y H Q=>r x y H Q\/r' x y H Q):=by
 intro value slice pins s σ H x y v u Q I rx ry q hs
 rcases q with q | q
 ·exact h value slice pins s σ H x y v u Q I rx ry q hs
 ·exact h' value slice pins s σ H x y v u Q I rx ry q hs
theorem zsv {r:R2} (hr:IxR X r) (ha:PE X a ta) (hb:PE X b tb) (hs:zmE b):PE X (.Subscript a b pos) (tOp r ta tb):=by
 intro pins s σ H Q I h
 exact Subscript_ (zs7 ha hb I h fun v u s2 x y H2 I2 rx ry q=>hr a b pins s2 σ H2 x y v u Q I2 rx ry q (hs _ _))
def ztt (K:PySem.W.Frag):R2:=fun x y H Q=>∃ p xs i v,x=.ref p/\y=.int i/\SqL K H p xs/\atI xs i=some v/\Q v H
def ztr (K:PySem.W.Frag):R2:=fun x y H Q=>∃ p xs i v,x=.ref p/\y=.int i/\SqT K H p xs/\atI xs i=some v/\Q v H
def zts:R2:=fun x y H Q=>∃ z i c,x=.str z/\y=.int i/\z.length<=sizeLine/\atI z.cps.toList i=some c/\Q (.str ⟨#[c]⟩) H
theorem zpv:IxR X (ztt X.K):=by
 intro value slice pins s σ H x y v u Q I rx ry h hs
 obtain ⟨p,xs,i,z,rfl,rfl,hq,he,q⟩:=h
 cases rx
 obtain ⟨t,rfl⟩:=ry
 obtain ⟨its,r,pl,hz⟩:=I.list hq
 obtain ⟨j,h1,h2,h3,h4,h5⟩:=zjs he
 obtain ⟨w,ew,rw'⟩:=r.get h2
 have hl:=r.length
 have hn:=zg4
 have fin:EP X pins σ Q w s:=⟨z,H,I,rw',q⟩
 by_cases h0:0<=i
 ·have hj:i.toNat=j:=by
   rw [seqIndex_of h0 h5] at h1
   exact qF h1
  exact item_listR pl.isList h0 (by omega) (by rw [hj];simpa using ew) fin hs
 ·have hj:(i+(its.toArray.size:Int)).toNat=j:=by
   rw [seqIndex_neg (by omega) h4] at h1
   rw [qz,← hl]
   exact qF h1
  exact subscriptTail_builtinR (x:=w) pl.isList.typeIs slot_list_getitem.lookup
   (wpAny_getItem_list_neg (Q:=fun r s'=>r=w/\EP X pins σ Q r s') pl.isList (by omega) (by rw [qz] <;> omega) (by omega) (by rw [hj];simpa using ew) ⟨rfl,fin⟩) hs
theorem zri:IxR X (ztr X.K):=by
 intro value slice pins s σ H x y v u Q I rx ry h hs
 obtain ⟨p,xs,i,z,rfl,rfl,hq,he,q⟩:=h
 cases rx
 obtain ⟨t,rfl⟩:=ry
 obtain ⟨its,r,pl,hz⟩:=I.tuple hq
 obtain ⟨j,h1,h2,h3,h4,h5⟩:=zjs he
 obtain ⟨w,ew,rw'⟩:=r.get h2
 have hl:=r.length
 have hn:=zg4
 have fin:EP X pins σ Q w s:=⟨z,H,I,rw',q⟩
 exact subscriptTail_builtinR (x:=w) pl.typeIs slot_tuple_getitem.lookup
  (getItem_tuple (j:=j) (Q:=fun r s'=>r=w/\EP X pins σ Q r s') pl (by omega) (by omega) (by rw [qz,← hl];exact h1) (by simpa using ew) ⟨rfl,fin⟩) hs
theorem zrj:IxR X zts:=by
 intro value slice pins s σ H x y v u Q I rx ry h hs
 obtain ⟨z,i,c,rfl,rfl,hz,he,q⟩:=h
 obtain ⟨t,rfl⟩:=rx
 obtain ⟨t',rfl⟩:=ry
 obtain ⟨j,h1,h2,h3,h4,h5⟩:=zjs he
 have hl:z.cps.toList.length=z.length:=by simp [Str.length]
 rw [hl] at h1 h4 h5
 have hn:=zg4
 exact tail_any (typeIs_str s z t) slot_str_getitem.lookup (getItem_str (c:=c) (by
  have e1:decide (i < -(2 ^ 63:Int))=false:=qL (by omega)
  have e2:decide (i ≥ 2 ^ 63)=false:=qL (by omega)
  rw [e1,e2,Bool.or_false]) (by rw [h1];simpa using h2) ⟨.str ⟨#[c]⟩,H,I.tok _,⟨_,rfl⟩,q⟩) hs
def rIx (K:PySem.W.Frag):R2:=fun x y H Q=>ztt K x y H Q\/ztr K x y H Q\/zts x y H Q
theorem zrk:IxR X (rIx X.K):=zpv.or (zri.or zrj)
theorem zkt (its:List Value) (n j:Nat) (u:Value):Obj.mapSeq (·.setIfInBounds j u) { cls:=.type "list",data:=.seq its.toArray n }={ cls:=.type "list",data:=.seq (its.set j u).toArray n }:=by
 simp [Obj.mapSeq]
theorem Inv.lst {pins:List (Addr×Obj)} {σ:St} {H:Hp} {s:Shared} {p:Addr} {xs:List V} (I:Inv X pins σ H s) (h:H p=some (.lst xs)) :
  ∃ (its:List Value) (n:Nat),zbS xs its/\s.heap.get? p=some { cls:=.type "list",data:=.seq its.toArray n }/\xs.length<=sizeLine:=by
 obtain ⟨z,its,n,r,e⟩:=I.hok p _ h
 exact ⟨its,n,r,e,z⟩
theorem Inv.lstUpd {pins:List (Addr×Obj)} {σ:St} {H:Hp} {s:Shared} {p:Addr} {xs ys:List V} {its its':List Value} {n n':Nat} {f:Obj->Obj} (I:Inv X pins σ H s) (h:H p=some (.lst xs))
  (ho:s.heap.get? p=some { cls:=.type "list",data:=.seq its.toArray n }) (hf:f { cls:=.type "list",data:=.seq its.toArray n }={ cls:=.type "list",data:=.seq its'.toArray n' }) (r:zbS ys its') (hz:ys.length<=sizeLine) (t:Nat) :
  Inv X pins σ (upd H p (.lst ys)) { s with heap:=s.heap.update p f,toks:=t }:=by
 have e:(s.heap.update p f).get? p=some { cls:=.type "list",data:=.seq its'.toArray n' }:=by
  rw [Heap.get?_update_self f ho (by rw [hf] <;> rfl),hf]
 refine I.write (x:=p) (e:=p) (by rw [h];trivial) (.inl rfl) (fun b u hb q=>(Heap.get?_update_other _ _ (Ne.symm hb)).trans q) ⟨_,e⟩ ?_
 exact ⟨hz,its',n',r,e⟩
def zsp:V->V->V->Hp->(Hp->Prop)->Prop:=fun o i v H Q=>∃ p xs k j,o=.ref p/\i=.int k/\H p=some (.lst xs)/\ixN xs.length k=some j/\Q (upd H p (.lst (xs.set j v)))
theorem zmU:ztF X zsp:=by
 intro pins s σ H o i v ov iv u Q I ro ri rv h
 obtain ⟨p,xs,k,j,rfl,rfl,hp,hj,q⟩:=h
 cases ro
 obtain ⟨t,rfl⟩:=ri
 obtain ⟨its,n,r,ho,hz⟩:=I.lst hp
 obtain ⟨h1,h2,h3,h4⟩:=zlQ hj
 have hl:=r.length
 have hn:=zg4
 have I':Inv X pins σ (upd H p (.lst (xs.set j v))) { s with heap:=s.heap.update p (Obj.mapSeq (·.setIfInBounds j u)) } :=
  I.lstUpd hp ho (zkt its n j u) (r.set rv j) (by rw [List.length_set];exact hz) s.toks
 by_cases h0:0<=k
 ·have hk:k.toNat=j:=by
   rw [seqIndex_of h0 h4] at h1
   exact qF h1
  exact PySem.W.ki_setAt ho h0 (by omega) (by rw [qz,← hl];exact h4) (by rw [hk];exact ⟨_,I',q⟩)
 ·have hk:(k+(its.toArray.size:Int)).toNat=j:=by
   rw [seqIndex_neg (by omega) h3] at h1
   rw [qz,← hl]
   exact qF h1
  exact PySem.W.ki_setBack ho (by omega) (by rw [qz,← hl];exact h3) (by omega) (by rw [hk];exact ⟨_,I',q⟩)
theorem zh7 (lo hi:Option Int) (n:Nat):(sliceBounds lo hi none n).1=((HT.sIx n 0 lo:Nat):Int)/\(sliceBounds lo hi none n).2.1=((HT.sIx n n hi:Nat):Int)/\(sliceBounds lo hi none n).2.2=1:=by
 refine ⟨?_,?_,rfl⟩
 ·cases lo with
  | none=>simp [sliceBounds,HT.sIx]
  | some i =>
   simp only [sliceBounds,HT.sIx,Option.getD_none,show (1:Int) > 0 by decide,if_true]
   by_cases h:i < 0
   ·simp only [h,if_true] <;> omega
   ·simp only [h,if_false] <;> omega
 ·cases hi with
  | none=>simp [sliceBounds,HT.sIx]
  | some i =>
   simp only [sliceBounds,HT.sIx,Option.getD_none,show (1:Int) > 0 by decide,if_true]
   by_cases h:i < 0
   ·simp only [h,if_true] <;> omega
   ·simp only [h,if_false] <;> omega
theorem zho (its:List Value) (lo hi:Option Int):slicePick its.toArray lo hi none=((its.drop (HT.sIx its.length 0 lo)).take (HT.sIx its.length its.length hi - HT.sIx its.length 0 lo)).toArray:=by
 obtain ⟨h1,h2,h3⟩:=zh7 lo hi its.toArray.size
 unfold slicePick
 rw [h1,h2,h3]
 simp only [sliceRange_one,pick_run,qz] <;> rfl
def ztZ (K:PySem.W.Frag):V->Option Int->Option Int->Hp->VK->Prop:=fun x lo hi H Q=>∃ a xs,x=.ref a/\SqL K H a xs/\∀ p,H p=none->Q (.ref p) (upd H p (.lst (zol xs lo hi)))
theorem zoC:SlR X (ztZ X.K):=by
 intro pins s σ H x v vl vu lo hi sl Q I rx hs pl pu h
 obtain ⟨a,xs,rfl,hx,q⟩:=h
 cases rx
 obtain ⟨its,r,ht,hz⟩:=I.list hx
 have hlen:=r.length
 refine ⟨"list",_,slot_list_getitem.lookup,ht.isList.typeIs,?_⟩
 refine wpAny_getItem_list_slice ht.isList hs pl pu .none (by simp) ?_ (by rw [qz] <;> omega)
 rw [zho,← hlen]
 refine ⟨.ref s.heap.objs.size,_,I.laid (t':=s.toks) (o:=.lst (zol xs lo hi)) (fun b ob q=>qr _ q) (qu _) ?_,rfl,q _ (I.hok.fresh (qu _))⟩
 exact ⟨qK (zgc xs lo hi) hz,_,0,(r.drop (HT.sIx xs.length 0 lo)).take (HT.sIx xs.length xs.length hi - HT.sIx xs.length 0 lo),qE _ rfl⟩
theorem ziD:zdT X (.type "list") (fun xs H Q=>∃ p ys,xs=[.ref p]/\(SqL X.K H p ys\/SqT X.K H p ys)/\∀ l,H l=none->Q (.ref l) (upd H l (.lst ys))):=by
 intro pins s σ H xs us Q I r h
 obtain ⟨p,ys,rfl,hq,q⟩:=h
 obtain ⟨u,rfl,rx⟩:=zeT r
 cases rx
 have fin:∀ (its:List Value),zbS ys its->ys.length<=sizeLine->∀ (h':Heap) (c':Nat),(∀ b o',s.heap.get? b=some o'->h'.get? b=some o') ->
   h'.get? s.heap.objs.size=some { cls:=.type "list",dict:=none,data:=.seq its.toArray c',slots:=#[] }->EP X pins σ Q (.ref s.heap.objs.size) { s with heap:=h' }:=fun its r' hz h' c' kp e =>
  ⟨.ref s.heap.objs.size,_,I.laid (t':=s.toks) kp (qu _) (show zbX X.prog X.w _ h' _ (.lst ys) from ⟨hz,its,c',r',e⟩),rfl,q _ (I.hok.fresh (qu _))⟩
 rcases hq with hq | hq
 ·obtain ⟨its,r',pl,hz⟩:=I.list hq
  have hlen:=r'.length
  obtain ⟨o,ho,hc,n,hd⟩:=pl.isList
  exact call_list_seq p (.inl rfl) ho hc hd (fun h' c' kp e=>fin its r' hz h' c' kp e) (by simp only [qz] <;> omega)
 ·obtain ⟨its,r',pl,hz⟩:=I.tuple hq
  have hlen:=r'.length
  obtain ⟨o,ho,hc,n,hd⟩:=pl
  exact call_list_seq p (.inr rfl) ho hc hd (fun h' c' kp e=>fin its r' hz h' c' kp e) (by simp only [qz] <;> omega)
theorem zhP:zdT X (.type "tuple") (fun xs H Q=>∃ p ys,xs=[.ref p]/\((SqL X.K H p ys/\∀ l,H l=none->Q (.ref l) (upd H l (.tup ys)))\/(SqT X.K H p ys/\Q (.ref p) H))):=by
 intro pins s σ H xs us Q I r h
 obtain ⟨p,ys,rfl,h⟩:=h
 obtain ⟨u,rfl,rx⟩:=zeT r
 cases rx
 rcases h with ⟨hq,q⟩ | ⟨hq,q⟩
 ·obtain ⟨its,r',pl,hz⟩:=I.list hq
  have hlen:=r'.length
  refine call_tuple_list pl.isList (fun h' kp=>?_) (by simp only [qz] <;> omega)
  have I1:Inv X pins σ H { s with heap:=h' }:=I.kept (t':=s.toks) kp
  have I2:Inv X pins σ (upd H h'.objs.size (.tup ys)) { s with heap:=h'.push { cls:=.type "tuple",data:=.seq its.toArray } } :=
   I1.laid (t':=s.toks) (fun b o e=>qr _ e) (qu _) (show zbX X.prog X.w _ _ _ (.tup ys) from ⟨hz,its,r',IsTup.new _ _⟩)
  exact ⟨.ref h'.objs.size,_,I2,rfl,q _ (I1.hok.fresh (qu _))⟩
 ·obtain ⟨its,r',pl,hz⟩:=I.tuple hq
  exact call_tuple_same pl ⟨.ref p,H,I,rfl,q⟩
def tyV (K:PySem.W.Frag) (T:String) (x:V) (H:Hp):Prop:=match x with
 | .str _=>T="str"
 | .int _=>T="int"
 | .ref p=>(T="list"/\∃ xs,SqL K H p xs)\/(T="tuple"/\∃ o,K.lookup p=some o/\o.cls=.type "tuple"/\o.dict=none) \/
   (T="dict"/\((∃ kvs,H p=some (.dK kvs))\/∃ kvs,H p=some (.dT kvs)))\/(T="set"/\∃ S n,H p=some (.set S n))
 | _=>False
theorem zqg {pins:List (Addr×Obj)} {σ:St} {H:Hp} {s:Shared} {T:String} {x:V} {v:Value} (I:Inv X pins σ H s) (r:zb9 x v) (ty:tyV X.K T x H) :
  s.TypeIs v T/\∀ a,v=.ref a->∃ ob,s.heap.get? a=some ob/\ob.dict=none:=by
 cases x with
 | str z =>
  obtain ⟨t,rfl⟩:=r
  cases (show T="str" from ty)
  exact ⟨typeIs_str s z t,fun _ e=>nomatch e⟩
 | int i =>
  obtain ⟨t,rfl⟩:=r
  cases (show T="int" from ty)
  exact ⟨typeIs_int s i t,fun _ e=>nomatch e⟩
 | ref p =>
  cases r
  rcases ty with ⟨rfl,xs,hq⟩ | ⟨rfl,o,hk,hc,hd⟩ | ⟨rfl,hk⟩ | ⟨rfl,S,n,hk⟩
  ·obtain ⟨its,_,pl,_⟩:=I.list hq
   refine ⟨pl.isList.typeIs,fun a e=>?_⟩
   cases e
   obtain ⟨o,n,e,c,hd,_⟩:=pl
   exact ⟨o,e,hd⟩
  ·refine ⟨⟨o,I.kIn p o hk,hc⟩,fun a e=>?_⟩
   cases e
   exact ⟨o,I.kIn _ o hk,hd⟩
  ·have z:∃ o,s.heap.get? p=some o/\o.ExactDict:=by
    rcases hk with ⟨kvs,hk⟩ | ⟨kvs,hk⟩
    ·obtain ⟨_,_,_,_,o,_,_,e,ex,_⟩:=I.hok p _ hk
     exact ⟨o,e,ex⟩
    ·obtain ⟨_,_,_,_,o,_,_,e,ex,_⟩:=I.hok p _ hk
     exact ⟨o,e,ex⟩
   obtain ⟨o,e,ex⟩:=z
   refine ⟨⟨o,e,ex.1⟩,fun a e2=>?_⟩
   cases e2
   exact ⟨o,e,ex.2.1⟩
  ·obtain ⟨o,_,_,_,e,ex,_⟩:=I.hok p _ hk
   refine ⟨⟨o,e,ex.1⟩,fun a e2=>?_⟩
   cases e2
   exact ⟨o,e,ex.2.1⟩
 | _=>exact False.elim ty
def tBM (K:PySem.W.Frag) (T:String) (r:V->List V->Hp->VK->Prop) (to:TE) (t:TA):TE:=fun σ H Q=>to σ H fun x H1=>tyV K T x H1/\t σ H1 fun xs H2=>r x xs H2 Q
variable {o e:Expr} {es:List Expr} {to:TE} {t:TA} {name:Str} {apos cpos:Pos} {T id:String} {r:V->List V->Hp->VK->Prop}
theorem zqS (pa:PlainAttrs T) (slot:Slot T name id) (hty:typeOf (.builtin id)=pure (.type "method_descriptor")) (hm:MtR X id r) (ho:PE X o to) (ha:PA X (e::es) t)
  (hbase:attributeBase o name X.env (eval o X.env)=eval o X.env:=by rfl)
  (hfew:((backTo cpos (starEach (e::es) X.env)).all (fun x=>!x.1) && (backToKw cpos (keywordEach [] X.env)).all (fun x=>x.1.isSome)
   && decide ((e::es).length+([]:List Keyword).length+(if ([]:List Keyword).isEmpty then 0 else 1) < 30))=true:=by rfl)
  (hline:(apos.endLine==cpos.line)=true:=by rfl) (hs:starEach (e::es) X.env=(false,eval e X.env)::starEach es X.env:=by rfl) (hplain:(backTo cpos (starEach es X.env)).any (·.1)=false:=by rfl) :
  PE X (.Call (.Attribute o name apos) (e::es) [] cpos) (tBM X.K T r to t):=by
 intro pins s σ H Q I h
 refine wpAny_Call_method_late hbase hfew hline rfl (thn (ho pins s σ H _ I h) fun v s1 ⟨x,H1,I1,r1,ty,q1⟩=>?_)
 obtain ⟨h1,h2⟩:=zqg I1 r1 ty
 refine ⟨T,id,pa,slot,hty,h1,h2,?_⟩
 have hA:=ha cpos pins s1 σ H1 _ I1 q1
 rw [hs] at hA ⊢
 refine Calls.callWith_builtin (by show (false || (backTo cpos (starEach es X.env)).any (·.1))=false;rw [hplain] <;> rfl) (Calls.evalArgs_plain ?_)
 exact thn hA fun us s2 ⟨vs,H2,I2,r2,q2⟩=>hm pins s2 σ H2 x vs v us Q I2 r1 r2 q2
end
end L2
namespace L2
open PySem PySem.Spec PyProof.Rows
def MtM (X:Cx) (id:String) (r:V->List V->Hp->VK->Prop):Prop :=
 ∀ (pins:List (Addr×Obj)) (s:Shared) (σ:St) (H:Hp) (x:V) (xs:List V) (v:Value) (us:List Value) (Q:VK),Inv X pins σ H s->zb9 x v->zbS xs us->r x xs H Q ->
  wpAny (model X.prog X.w) X.A (call (.builtin id) (v::us)) (EP X pins σ Q) X.xe s
theorem zbS.one:∀ {x:V} {us:List Value},zbS [x] us->∃ u,us=[u]/\zb9 x u
 | _,_,.cons r .nil=>⟨_,rfl,r⟩
theorem zbS.rep {xs:List V} {us:List Value} (h:zbS xs us):∀ k:Nat,zbS (List.replicate k xs).flatten (List.replicate k us).flatten
 | 0=>.nil
 | k+1=>by
  rw [List.replicate_succ,List.replicate_succ,List.flatten_cons,List.flatten_cons]
  exact zbS.append h (zbS.rep h k)
theorem ziw (its:List Value):∀ (k:Nat) (acc:List Value),
  List.foldl (fun x1 x2=>x1++x2) acc.toArray (List.replicate k its.toArray)=(acc++(List.replicate k its).flatten).toArray
 | 0,acc=>by simp
 | k+1,acc=>by
  have e:acc.toArray++its.toArray=(acc++its).toArray:=by simp
  have e2:(acc++its)++(List.replicate k its).flatten=acc++(List.replicate (k+1) its).flatten:=by
   rw [List.replicate_succ,List.flatten_cons,List.append_assoc]
  rw [← e2,← ziw its k (acc++its),← e,List.replicate_succ,List.foldl_cons]
section
variable {X:Cx} {pins:List (Addr×Obj)} {σ:St} {H:Hp} {s:Shared} {l b:Addr} {xs ys zs:List V}
theorem Inv.lset {its its':List Value} {n:Nat} {f:Array Value->Array Value} {t':Nat} (I:Inv X pins σ H s) (hH:H l=some (.lst xs))
  (e:s.heap.get? l=some { cls:=.type "list",data:=.seq its.toArray n }) (hf:f its.toArray=its'.toArray) (hv:zbS ys its') (hz:ys.length<=sizeLine) :
  Inv X pins σ (upd H l (.lst ys)) { s with heap:=s.heap.update l (Obj.mapSeq f),toks:=t' }:=by
 have q:=PySem.IsL.update e f
 rw [hf] at q
 refine I.write (x:=l) (e:=l) (by rw [hH];exact trivial) (.inl rfl) (fun b' u hb hu=>(Heap.get?_update_other s.heap (Obj.mapSeq f) (Ne.symm hb)).trans hu) ⟨_,q⟩ ?_
 exact ⟨hz,its',_,hv,q⟩
theorem Inv.lnew {its:List Value} {t':Nat} (I:Inv X pins σ H s) (hv:zbS ys its) (hz:ys.length<=sizeLine) :
  Inv X pins σ (upd H s.heap.objs.size (.lst ys)) { s with heap:=s.heap.push { cls:=.type "list",data:=.seq its.toArray },toks:=t' } :=
 I.laid (fun _ _ q=>qr _ q) (qu _) ⟨hz,its,0,hv,qE _ rfl⟩
theorem Inv.fresh (I:Inv X pins σ H s):H s.heap.objs.size=none:=I.hok.fresh (qu _)
theorem Inv.lstM (I:Inv X pins σ H s) (hH:H l=some (.lst xs)):xs.length<=sizeLine/\∃ (its:List Value) (n:Nat),zbS xs its/\xs.length=its.length/\s.heap.get? l=some { cls:=.type "list",data:=.seq its.toArray n }:=by
 obtain ⟨z,its,n,r,e⟩:=I.hok l _ hH
 exact ⟨z,its,n,r,r.length,e⟩
theorem zjL {n:Nat} (h:n<=sizeLine):Builtin.List.listTooLong n=false:=by
 unfold Builtin.List.listTooLong
 exact qL (by omega)
end
section
variable {X:Cx}
def zoK:V->List V->Hp->VK->Prop:=fun x vs H Q=>∃ l xs y,x=.ref l/\vs=[y]/\H l=some (.lst xs)/\xs.length < sizeLine/\Q .non (upd H l (.lst (xs++[y])))
theorem ziq:MtM X "list.append" zoK:=by
 intro pins s σ H x vs v us Q I rx rv h
 obtain ⟨l,xs,y,rfl,rfl,hH,hz,q⟩:=h
 cases rx
 obtain ⟨u,rfl,ru⟩:=rv.one
 obtain ⟨z,its,n,r,hl,e⟩:=I.lstM hH
 refine call_meets F.slot_list_append ⟨_,e,rfl⟩ F.entry_list_append (F.args_list_append_2 _ _) (PySem.list_append l its.toArray n u (by rw [qz];omega)) ⟨e,?_⟩
 refine ⟨.non,_,I.lset (its':=its++[u]) hH e (by simp) (r.append (.cons ru .nil)) ?_,rfl,q⟩
 rw [qi,qU]
 omega
def zoJ:V->List V->Hp->VK->Prop:=fun x vs H Q=>∃ l b xs zs,x=.ref l/\vs=[.ref b]/\H l=some (.lst xs)/\H b=some (.lst zs)/\xs.length+zs.length<=sizeLine/\Q .non (upd H l (.lst (xs++zs)))
theorem zlx:MtM X "list.extend" zoJ:=by
 intro pins s σ H x vs v us Q I rx rv h
 obtain ⟨l,b,xs,zs,rfl,rfl,hH,hB,hz,q⟩:=h
 cases rx
 obtain ⟨u,rfl,ru⟩:=rv.one
 cases ru
 obtain ⟨z,its,n,r,hl,e⟩:=I.lstM hH
 obtain ⟨z2,its2,n2,r2,hl2,e2⟩:=I.lstM hB
 have hsz:its.toArray.size+its2.toArray.size<=sizeLine:=by rw [qz,qz];omega
 have hlong:¬ (!its.toArray.isEmpty && Builtin.List.listTooLong (its.toArray.size+its2.toArray.size))=true:=by
  rw [zjL hsz,Bool.and_false]
  exact qq
 refine call_meets F.slot_list_extend ⟨_,e,rfl⟩ F.entry_list_extend (F.args_list_extend_2 _ _)
  (AutoSeq1.list_extend_list_list_0 l its.toArray n b its2.toArray n2 hlong (by rw [qz];omega) (by omega)) ⟨e,e2,?_⟩
 refine ⟨.non,_,I.lset (its':=its++its2) hH e (by simp) (r.append r2) ?_,rfl,q⟩
 rw [qi]
 omega
def zsq:R2:=fun x y H Q=>∃ l b xs zs,x=.ref l/\y=.ref b/\H l=some (.lst xs)/\H b=some (.lst zs)/\xs.length+zs.length<=sizeLine/\∀ p,H p=none->Q (.ref p) (upd H p (.lst (xs++zs)))
theorem zn7:OpR X (binaryOp .Add) zsq:=by
 intro pins s σ H x y v u Q I rx ry h
 obtain ⟨l,b,xs,zs,rfl,rfl,hH,hB,hz,q⟩:=h
 cases rx
 cases ry
 obtain ⟨z,its,n,r,hl,e⟩:=I.lstM hH
 obtain ⟨z2,its2,n2,r2,hl2,e2⟩:=I.lstM hB
 refine PySem.P.add_list e e2 ?_ (by rw [qz,qz];omega)
 have ea:its.toArray++its2.toArray=(its++its2).toArray:=by simp
 rw [ea]
 exact ⟨.ref _,_,I.lnew (t':=s.toks) (r.append r2) (by rw [qi];omega),rfl,q _ I.fresh⟩
def ztq:R2:=fun x y H Q=>∃ l k xs,x=.ref l/\y=.int k/\H l=some (.lst xs) /\ -(2 ^ 63)<=k/\k < 2 ^ 63/\xs.length*k.toNat<=sizeLine /\
 ∀ p,H p=none->Q (.ref p) (upd H p (.lst (List.replicate k.toNat xs).flatten))
theorem zlI {α:Type} (xs:List α) (k:Nat):(List.replicate k xs).flatten.length=k*xs.length:=by
 induction k with
 | zero=>simp
 | succ k ih=>rw [List.replicate_succ,List.flatten_cons,qi,ih,Nat.succ_mul,Nat.add_comm]
theorem zqY:OpR X (binaryOp .Mult) ztq:=by
 intro pins s σ H x y v u Q I rx ry h
 obtain ⟨l,k,xs,rfl,rfl,hH,h1,h2,hz,q⟩:=h
 cases rx
 obtain ⟨t,rfl⟩:=ry
 obtain ⟨z,its,n,r,hl,e⟩:=I.lstM hH
 have hlen:its.toArray.size*k.toNat<=sizeLine:=by rw [qz,← hl];exact hz
 have hcap:¬ its.toArray.size*k.toNat > (2 ^ 63 - 1) / 8:=by
  have:(sizeLine:Nat)<=(2 ^ 63 - 1) / 8:=by decide
  omega
 have hfit:¬ (!Builtin.List.listFitsIndex k)=true:=by
  rw [fitsIndex_both h1 h2]
  exact qq
 have hlong:¬ Builtin.List.listTooLong (its.toArray.size*k.toNat)=true:=by
  rw [zjL hlen]
  exact qq
 have hnew:List.foldl (fun x1 x2=>x1++x2) #[] (List.replicate (if its.toArray.isEmpty=true then 0 else k.toNat) its.toArray)=(List.replicate k.toNat its).flatten.toArray:=by
  have f0:∀ m:Nat,List.foldl (fun x1 x2=>x1++x2) #[] (List.replicate m its.toArray)=(List.replicate m its).flatten.toArray:=fun m=>by
   have:=ziw its m []
   rw [qP] at this
   exact this
  rw [f0]
  cases its with
  | nil=>simp
  | cons a r'=>rw [qY (by simp)]
 refine wpAny_binaryOp_repeat_ref (T:="list") (U:="int") (by decide) ⟨_,e,rfl⟩ (fun s'=>typeIs_int s' k t) noFill_list_mul F.fills_int_mul F.slot_int_rmul repeat_list F.slot_int_index.lookup
  (call_meets F.slot_int_rmul (typeIs_int s k t) F.entry_int_rmul (F.args_int_rmul_2 _ _) (int___rmul___int_list k t l its.toArray n)
   ⟨e,rfl,⟨_,e,rfl⟩,call_meets F.slot_list_mul ⟨_,e,rfl⟩ F.entry_list_mul (F.args_list_mul_2 _ _) (AutoListH.list___mul___list_int_3 l its.toArray n k t hfit hcap hlong) ⟨e,?_⟩⟩)
 rw [hnew]
 exact ⟨.ref _,_,I.lnew (t':=s.toks) (r.rep k.toNat) (by rw [zlI,Nat.mul_comm];exact hz),rfl,q _ I.fresh⟩
end
section
variable {prog:Program} {w:World} {A:Around} {E:Value->Shared->Prop} {s:Shared}
end
section
variable {X:Cx}
end
end L2
end
section
namespace L2
open PySem PySem.Spec PyProof.Rows
section
variable {κ:Type} [DecidableEq κ]
def zmJ (kvs:List (κ×V)) (k:κ):Option V:=(kvs.find? fun kv=>decide (kv.1=k)).map (·.2)
def zgV (kvs:List (κ×V)) (k:κ) (v:V):List (κ×V) :=
 if (kvs.any fun kv=>decide (kv.1=k))=true then kvs.map (fun kv=>if kv.1=k then (kv.1,v) else kv) else kvs++[(k,v)]
theorem zhj {p:κ×V} {r:List (κ×V)} {k:κ} (e:p.1=k):zmJ (p::r) k=some p.2:=by simp [zmJ,List.find?_cons,e]
theorem zhk {p:κ×V} {r:List (κ×V)} {k:κ} (e:¬ p.1=k):zmJ (p::r) k=zmJ r k:=by simp [zmJ,List.find?_cons,e]
theorem zjw (k:κ):∀ kvs:List (κ×V),(kvs.any fun kv=>decide (kv.1=k))=(zmJ kvs k).isSome
 | []=>rfl
 | p::r=>by
  rw [List.any_cons]
  by_cases e:p.1=k
  ·simp only [zhj e,qQ e,Bool.true_or,Option.isSome_some]
  ·rw [zhk e,qL e,Bool.false_or];exact zjw k r
theorem zf2 (kvs:List (κ×V)) (k:κ) (v:V):(zgV kvs k v).length<=kvs.length+1:=by
 unfold zgV
 split
 ·rw [qe];omega
 ·rw [qi,qh,qk];omega
theorem zkO.isSome_eq {o:Option V} {u:Option Value} (r:zkO o u):o.isSome=u.isSome:=by
 cases o with
 | none=>cases u with
  | none=>rfl
  | some _=>exact (show False from r).elim
 | some _=>cases u with
  | none=>exact (show False from r).elim
  | some _=>rfl
theorem KV.any {kvs:List (κ×V)} {vs:List (κ×Value)} (r:KV kvs vs) (k:κ):(kvs.any fun kv=>decide (kv.1=k))=vs.any fun kv=>decide (kv.1=k):=by
 unfold KV at r
 induction r with
 | nil=>rfl
 | cons h t ih=>rw [List.any_cons,List.any_cons,ih,h.1]
theorem KV.repl {kvs:List (κ×V)} {vs:List (κ×Value)} (r:KV kvs vs) (k:κ) {y:V} {u:Value} (ry:zb9 y u) :
  KV (kvs.map fun kv=>if kv.1=k then (kv.1,y) else kv) (vs.map fun kv=>if kv.1=k then (kv.1,u) else kv):=by
 unfold KV at r ⊢
 induction r with
 | nil=>exact .nil
 | @cons p q ps qs h t ih =>
  rw [ql,ql]
  refine .cons ?_ ih
  obtain ⟨h1,h2⟩:=h
  by_cases e:p.1=k
  ·rw [qX e,qX (h1.symm.trans e)];exact ⟨h1,ry⟩
  ·rw [qY e,qY (fun z=>e (h1.trans z))];exact ⟨h1,h2⟩
theorem KV.put {kvs:List (κ×V)} {vs:List (κ×Value)} (r:KV kvs vs) (k:κ) {y:V} {u:Value} (ry:zb9 y u):KV (zgV kvs k y) (stored vs k u):=by
 unfold zgV stored
 rw [r.any k]
 by_cases e:(vs.any fun kv=>decide (kv.1=k))=true
 ·rw [qX e,qX e];exact r.repl k ry
 ·rw [qY e,qY e];exact Paired.snoc r ⟨rfl,ry⟩
theorem KV.length {kvs:List (κ×V)} {vs:List (κ×Value)} (r:KV kvs vs):kvs.length=vs.length:=Paired.length r
end
theorem zno {P:Program} {w:World} {k:Key} {u:Value} (r:zb9 (kV k) u):(zba P w).is k u=true:=by
 cases k with
 | inl i=>obtain ⟨t,e⟩:=(show ∃ t,u=Value.int i t from r);subst e;exact zja P w i t
 | inr x=>obtain ⟨t,e⟩:=(show ∃ t,u=Value.str x t from r);subst e;exact zi9 P w x t
theorem zit {P:Program} {w:World}:∀ {ks:List Key} {us:List Value},zbS (ks.map kV) us->ItemsAre (zba P w) ks us
 | [],_,r=>by rw [qM] at r;cases r;exact .nil
 | k::ks,_,r=>by
  rw [ql] at r
  cases r with
  | cons h t=>exact .cons (zno h) (zit t)
abbrev KT (H:Hp):List (List Key×V)->List (List Key×Addr×Value)->Prop:=Paired fun p q=>p.1=q.1/\H q.2.1=some (.tup (p.1.map kV))/\zb9 p.2 q.2.2
theorem KT.val {H:Hp} {kvs:List (List Key×V)} {xs:List (List Key×Addr×Value)} (r:KT H kvs xs) (k:List Key):zkO (zmJ kvs k) ((atKey xs k).map (·.2)):=by
 induction r with
 | nil=>exact True.intro
 | @cons p q ps qs h t ih =>
  obtain ⟨h1,_,h2⟩:=h
  by_cases e:p.1=k
  ·have e':q.1=k:=h1.symm.trans e
   have b:atKey (q::qs) k=some q.2:=by simp [atKey,List.find?_cons,e']
   rw [zhj e,b];exact h2
  ·have e':¬ q.1=k:=fun z=>e (h1.trans z)
   have b:atKey (q::qs) k=atKey qs k:=by simp [atKey,List.find?_cons,e']
   rw [zhk e,b];exact ih
theorem KT.repl {H:Hp} {kvs:List (List Key×V)} {xs:List (List Key×Addr×Value)} (r:KT H kvs xs) (k:List Key) {y:V} {u:Value} (ry:zb9 y u) :
  KT H (kvs.map fun kv=>if kv.1=k then (kv.1,y) else kv) (xs.map (putAt k u)):=by
 induction r with
 | nil=>exact .nil
 | @cons p q ps qs h t ih =>
  rw [ql,ql]
  refine .cons ?_ ih
  obtain ⟨h1,h2,h3⟩:=h
  unfold putAt
  by_cases e:p.1=k
  ·rw [qX e,qX (h1.symm.trans e)];exact ⟨h1,h2,ry⟩
  ·rw [qY e,qY (fun z=>e (h1.trans z))];exact ⟨h1,h2,h3⟩
theorem KT.put {H:Hp} {kvs:List (List Key×V)} {xs:List (List Key×Addr×Value)} (r:KT H kvs xs) (k:List Key) {b:Addr} {y:V} {u:Value} (hb:H b=some (.tup (k.map kV))) (ry:zb9 y u) :
  KT H (zgV kvs k y) (storedH xs k b u):=by
 have e:(kvs.any fun kv=>decide (kv.1=k))=(atKey xs k).isSome:=by
  rw [zjw,(r.val k).isSome_eq,Option.isSome_map]
 unfold zgV storedH
 rw [e]
 by_cases q:(atKey xs k).isSome=true
 ·rw [qX q,qX q];exact r.repl k ry
 ·rw [qY q,qY q];exact Paired.snoc r ⟨rfl,hb,ry⟩
theorem KT.keeps {H H':Hp} {kvs:List (List Key×V)} {xs:List (List Key×Addr×Value)} (r:KT H kvs xs) (ht:∀ b ys,H b=some (.tup ys)->H' b=some (.tup ys)):KT H' kvs xs :=
 Paired.mapP r fun _ _ z=>⟨z.1,ht _ _ z.2.1,z.2.2⟩
section
variable {P:Program} {w:World} {H:Hp} {h:Heap} {a:Addr}
theorem zqv {u:HO} (ok:HOk P w H h) (e:Rd H a u):zbX P w H h a u:=e.ok ok
theorem zs0 {kvs:List (Key×V)} (ok:HOk P w H h) (e:Rd H a (.dK kvs)):kvs.length<=sizeLine/\(a==sysModules)=false/\∃ vs,KV kvs vs/\h.DictOf (zba P w) a vs :=
 show zbX P w H h a (.dK kvs) from zqv ok e
theorem zs1 {kvs:List (Key×V)} (ok:HOk P w H h) (e:H a=some (.dK kvs)):kvs.length<=sizeLine/\(a==sysModules)=false/\∃ vs,KV kvs vs/\h.DictOf (zba P w) a vs:=zs0 ok (.inl e)
theorem zjU {ks:List Key} (ok:HOk P w H h) (e:H a=some (.tup (ks.map kV))):(tupleKind (zba P w)).is h ks a:=by
 obtain ⟨_,its,r,o,h1,h2,n,h3⟩:=(show zbX P w H h a (.tup (ks.map kV)) from ok a _ e)
 exact ⟨o,its.toArray,n,h1,h2,h3,by simpa using zit r⟩
theorem zsY {kvs:List (List Key×V)} (ok:HOk P w H h) (e:Rd H a (.dT kvs)):kvs.length<=sizeLine/\(a==sysModules)=false /\
  ∃ xs,KT H kvs xs/\h.DictOfH (tupleKind (zba P w)) a xs:=by
 obtain ⟨z,y,xs,r,o,es,ep,h1,h2,h3,h4,h5⟩:=(show zbX P w H h a (.dT kvs) from zqv ok e)
 refine ⟨z,y,xs,r,o,es,ep,h1,h2,h3,h4,fun x hx=>?_,h5⟩
 have all:∀ {l:List (List Key×V)} {m:List (List Key×Addr×Value)},KT H l m->∀ x∈m,(tupleKind (zba P w)).is h x.1 x.2.1:=by
  intro l m q
  induction q with
  | nil=>intro x hx;exact nomatch hx
  | @cons p q ps qs hq t ih =>
   intro x hx
   rcases List.mem_cons.mp hx with e | hx
   ·subst e
    exact zjU ok (by rw [← hq.1];exact hq.2.1)
   ·exact ih x hx
 exact all r x hx
theorem zsZ {kvs:List (List Key×V)} (ok:HOk P w H h) (e:H a=some (.dT kvs)):kvs.length<=sizeLine/\(a==sysModules)=false /\
  ∃ xs,KT H kvs xs/\h.DictOfH (tupleKind (zba P w)) a xs:=zsY ok (.inl e)
end
def zrY (H:Hp) (a:Addr) (y v:V) (H':Hp):Prop :=
 (∃ kvs k,H a=some (.dK kvs)/\y=kV k/\kvs.length < sizeLine/\H'=upd H a (.dK (zgV kvs k v))) \/
 ∃ kvs k b,H a=some (.dT kvs)/\y=.ref b/\H b=some (.tup (k.map kV))/\kvs.length < sizeLine/\H'=upd H a (.dT (zgV kvs k v))
theorem zrY.k {H:Hp} {a:Addr} {kvs:List (Key×V)} {k:Key} {v:V} (e:H a=some (.dK kvs)) (hl:kvs.length < sizeLine):zrY H a (kV k) v (upd H a (.dK (zgV kvs k v))):=.inl ⟨kvs,k,e,rfl,hl,rfl⟩
section
variable {X:Cx} {pins:List (Addr×Obj)} {σ:St} {H:Hp} {s:Shared} {a:Addr} {y v:V} {u r:Value} {o:Option V} {A:Around} {E:Value->Shared->Prop}
theorem Inv.big (I:Inv X pins σ H s):sysModules < s.heap.objs.size:=by
 have h:mainGlobals < s.heap.objs.size:=(I.mod.glob.keeps I.bk).lt
 exact Nat.lt_trans (by decide) h
theorem zmj {h':Heap} {t':Nat} {ob:HO} (I:Inv X pins σ H s) (mu:Mut (H a)) (hs:Heap.SameBut a s.heap h') (he:∃ q,h'.get? a=some q) (new:zbX X.prog X.w (upd H a ob) h' a ob) :
  Inv X pins σ (upd H a ob) { s with heap:=h',toks:=t' } :=
 I.write (x:=a) (e:=a) mu (.inl rfl) (fun b q hb z=>(hs.2 b hb).trans z) he new
theorem zrF {P:Program} {w:World} {H':Hp} {h':Heap} {kvs:List (Key×V)} {vs:List (Key×Value)} (z:kvs.length<=sizeLine) (hd:(a==sysModules)=false) (rel:KV kvs vs) (dd:h'.DictOf (zba P w) a vs) :
  zbX P w H' h' a (.dK kvs):=⟨z,hd,vs,rel,dd⟩
theorem zmk {H':Hp} {Q:Unit->Shared->Prop} (hu:A.units+1 < cLine) (I:Inv X pins σ H s) (g:zrY H a y v H') (ry:zb9 y u) (rv:zb9 v r) (h:∀ s',Inv X pins σ H' s'->Q () s') :
  wpAny (model X.prog X.w) A (setItem (.ref a) u r) Q E s:=by
 rcases g with ⟨kvs,k,e,ey,l,eH⟩ | ⟨kvs,k,b,e,ey,eb,l,eH⟩
 ·subst ey eH
  obtain ⟨z,hd,vs,rel,dd⟩:=zs1 I.hok e
  have hz:vs.length<=sizeLine:=by rw [← rel.length];exact z
  have hl:(zgV kvs k v).length<=sizeLine:=by have:=zf2 kvs k v;omega
  refine wpAny_setItem_pairs (hsz:=hz) (zno ry) dd fun h' dd' hs=>h _ ?_
  have he:∃ q,h'.get? a=some q:=let ⟨q,_,_,hq,_⟩:=dd';⟨q,hq⟩
  exact zmj I (by rw [e];exact True.intro) hs he (zrF hl hd (rel.put k rv) dd')
 ·subst ey eH
  cases (show u=Value.ref b from ry)
  obtain ⟨z,hd,xs,rel,dd⟩:=zsZ I.hok e
  have hz:xs.length<=sizeLine:=by rw [← Paired.length rel];exact z
  have hl:(zgV kvs k v).length<=sizeLine:=by have:=zf2 kvs k v;omega
  refine wpAny_setItem_heap (hsz:=hz) (tupleKind_room_in1 hu) (zjU I.hok eb) dd fun h' dd' hs=>h _ ?_
  obtain ⟨q,es,ep,hq,h2,h3,h4,_,h5⟩:=dd'
  refine zmj I (by rw [e];exact True.intro) hs ⟨q,hq⟩ ⟨hl,hd,_,(rel.put k eb rv).keeps fun c ys ec=>?_,q,es,ep,hq,h2,h3,h4,h5⟩
  rw [zaq (zgA ec e (fun z=>nomatch z))]
  exact ec
end
section
variable {X:Cx} {pins:List (Addr×Obj)} {σ:St} {H:Hp} {s:Shared} {a:Addr} {kvs:List (Key×V)} {k:Key} {u:Value} {A:Around} {E:Value->Shared->Prop}
end
def zso (td ty tv:TE):TS:=fun D σ H=>tv σ H fun v H1=>td σ H1 fun x H2=>ty σ H2 fun y H3=>∃ a H4,x=.ref a/\zrY H3 a y v H4/\D.nx σ H4
section
variable {X:Cx} {o i e value:Expr} {pos pos' tpos:Pos} {td ty tv:TE}
theorem zoS (hu:X.A.units+1 < cLine) (ho:PE X o td) (hi:PE X i ty) (hv:PE X value tv) (hs:swapsWith value (some (.Subscript o i pos')) pos.line X.env=pure false) :
  PS X (.Assign [.Subscript o i pos'] value pos) (zso td ty tv):=by
 intro pins s σ H D I h
 refine wpAny_Assign_Subscript (thn (hv pins s σ H _ I h) fun r s1 ⟨v,H1,I1,rv,q1⟩=>thn (ho pins s1 σ H1 _ I1 q1) fun u s2 ⟨x,H2,I2,rx,q2⟩=>thn (hi pins s2 σ H2 _ I2 q2) fun iv s3 ⟨y,H3,I3,ry,a,H4,ex,g,q3⟩=>?_) hs
 subst ex
 obtain rfl:u=Value.ref a:=rx
 exact zmk hu I3 g ry rv fun s4 I4=>⟨σ,H4,I4,q3⟩
end
theorem znE {P:Program} {w:World} {H:Hp} (h:Heap) (hb:sysModules < h.objs.size):zbX P w H (h.push { cls:=.type "dict",data:=.dict #[] }) h.objs.size (.dK []) :=
 ⟨Nat.zero_le _,beq_eq_false_iff_ne.mpr (Ne.symm (qA hb)),[],.nil,Heap.DictOf.new h⟩
def zqk:TE:=fun _ H Q=>∀ p,H p=none->Q (.ref p) (upd H p (.dK []))
section
variable {X:Cx} {pos:Pos}
theorem zm6:PE X (.Dict [] [] pos) zqk:=fun pins s σ H Q I h =>
 wpAny_Dict_empty ⟨.ref s.heap.objs.size,_,I.laid (a:=s.heap.objs.size) (o:=.dK []) (t':=s.toks) (fun _ _ q=>qr _ q) (qu _) (znE s.heap I.big),rfl,h _ (I.hok.fresh (qu _))⟩
end
structure M1 (X:Cx) (o:Expr) (m:Str) (apos:Pos) (e:Expr) (cpos:Pos):Prop where
 base:attributeBase o m X.env (eval o X.env)=eval o X.env
 few:((backTo cpos (starEach [e] X.env)).all (fun x=>!x.1) && (backToKw cpos (keywordEach [] X.env)).all (fun x=>x.1.isSome)
  && decide (([e]:List Expr).length+([]:List Keyword).length+(if ([]:List Keyword).isEmpty then 0 else 1) < 30))=true
 line:(apos.endLine==cpos.line)=true
 trees:backTo cpos (starEach [e] X.env)=[(false,eval e X.env)]
structure M2 (X:Cx) (o:Expr) (m:Str) (apos:Pos) (e f:Expr) (cpos:Pos):Prop where
 base:attributeBase o m X.env (eval o X.env)=eval o X.env
 few:((backTo cpos (starEach [e,f] X.env)).all (fun x=>!x.1) && (backToKw cpos (keywordEach [] X.env)).all (fun x=>x.1.isSome)
  && decide (([e,f]:List Expr).length+([]:List Keyword).length+(if ([]:List Keyword).isEmpty then 0 else 1) < 30))=true
 line:(apos.endLine==cpos.line)=true
 trees:backTo cpos (starEach [e,f] X.env)=[(false,eval e X.env),(false,eval f X.env)]
section
variable {X:Cx} {pins:List (Addr×Obj)} {σ:St} {H:Hp} {s:Shared} {a:Addr} {y d:V} {u r:Value} {o:Option V} {A:Around} {E:Value->Shared->Prop}
end
section
variable {X:Cx} {o e f:Expr} {apos cpos:Pos} {td ty tx:TE}
end
section
variable {X:Cx} {pins:List (Addr×Obj)} {σ:St} {H:Hp} {s:Shared} {a:Addr} {kvs:List (Key×V)} {A:Around} {E:Value->Shared->Prop}
end
section
variable {X:Cx} {pins:List (Addr×Obj)} {σ:St} {H:Hp} {s:Shared} {a:Addr} {y:V} {u:Value} {A:Around} {E:Value->Shared->Prop}
end
end L2
end
section
namespace Att
open PySem PySem.W PySem.Calls PyProof.Rows
theorem zf7 {P:Params} {h:Heap}:∀ (ns:List Int) (vs:List Value),WellAll P h vs (ns.map WData.int)->IntsAre vs ns:=by
 intro ns
 induction ns with
 | nil =>
  intro vs w
  rw [qM] at w
  cases w
  exact .nil
 | cons n ns ih =>
  intro vs w
  rw [ql] at w
  cases w with
  | cons a b =>
   cases a
   exact .cons _ _ (ih _ b)
theorem zia {l:OpenLaw} {n:Nat} (hn:l.most=some n) {P:Params} {h:Heap} {args:List WData} {vals:List Value}
  (hpre:l.row.toRowW.claim.pre args=true) (hwl:WellAll P h vals args) :
  ∃ a vs ns,vals=[Value.ref a]/\args=[WData.list (ns.map WData.int)]/\h.get? a=some { cls:=.type "list",data:=.seq vs.toArray }/\IntsAre vs ns/\ns.length<=n:=by
 have hsh:WShape.hasAll [] args [.list .int]=true:=(pre_splitW hpre).1
 have hc:l.pre.holds [] { args:=args }=true:=(pre_splitW hpre).2
 obtain ⟨d,r,rfl,h1,h2⟩:=hasAllW_cons hsh
 obtain rfl:=hasAllW_nil h2
 obtain ⟨xs,rfl,h3⟩:=hasW_list h1
 obtain ⟨ns,rfl⟩:=items_int h3
 have hlen:ns.length<=n:=by
  unfold OpenLaw.pre at hc
  have h4:(WTm.not (.lt (.lit (.int (n:Int))) (.len (.arg 0)))).holds [] { args:=[.list (ns.map .int)] }=true:=by
   have h4:=(holds_andW hc).1
   rw [hn] at h4
   exact h4
  have h5:=condW_of h4 (w_not (w_lt w_lit (w_len_list (w_arg rfl))))
  rw [qe] at h5
  refine Nat.le_of_not_lt fun q=>?_
  have q':(n:Int) < ((ns.length:Nat):Int):=by omega
  first
   | (rw [qQ q'] at h5;exact absurd h5 (by decide))
   | (simp at h5;omega)
 cases hwl with
 | cons w1 w2 =>
  cases w2
  cases w1 with
  | list ho hall=>exact ⟨_,_,ns,rfl,rfl,ho,zf7 ns _ hall,hlen⟩
theorem zij (l:OpenLaw) (args:List WData):l.row.toRowW.claim.post args (.bool true) args=true :=
 postW_of (r:=l.row.toRowW) (X:=(true==true))
  (show WShape.has [] (.bool true) .bool=true by first | rfl | decide | simp [WShape.has,WShape.arms,WShape.armsAll])
  (show (WTm.eq .res (.lit (.bool true))).value [] { args:=args,res:=some (.bool true),after:=args }=some (.bool (true==true)) from w_eq_bool (w_res rfl) w_lit) rfl
theorem ztD {l:OpenLaw} {n:Nat} {q:Program} {loose:List Str} {XP:(Str->Option Value)->Heap->Prop} {YP:World->Heap->Prop} {d:DefRec} {x:Str}
  (hn:l.most=some n) (hdf:d.params.defaults=[])
  (hbind:∀ pm cd doc v:Value,bindArgs (docDef d.name d.params d.body d.scope pm cd doc) ⟨[v],[]⟩=pure [(x,v)])
  (hx:d.scope.names.lookup x=some .local\/d.scope.names.lookup x=some .cell)
  (hk:d.scope.kind=.function) (hco:d.scope.isCoroutine=false) (hgen:d.scope.isGenerator=false)
  (body:∀ (w:World) (s₀ s₁ s:Shared) (mg mb:Str->Option Value) (fa:Addr) (o:Obj) (pm cd doc:Value) (a:Addr) (vs:List Value) (ns:List Int),
   Ground q loose [] XP w s₀ mg mb s₁.heap->YP w s₁.heap ->
   s₁.heap.get? fa=some o->o.data=.func (docDef d.name d.params d.body d.scope pm cd doc)->s₁.heap.CodeRec cd d.name->mg d.name=some (.ref fa) ->
   s₁.heap.get? a=some { cls:=.type "list",data:=.seq vs.toArray }->IntsAre vs ns->ns.length<=n ->
   s.gens=#[]->s.os=s₁.os ->
   Fr s₁.heap s₁.heap.objs.size s.heap (bindL (envOfC d.name d.scope s₁.heap.objs.size fa cd).kindOf [(x,.ref a)] fun _=>none) ->
   Cl s₁.heap.objs.size (cellsFrom (s₁.heap.objs.size+1) d.scope.names []) s.heap (bindC (envOfC d.name d.scope s₁.heap.objs.size fa cd).kindOf [(x,.ref a)] fun _=>none) ->
   wpAny (model l.prog w) (callerA.deeper (envOfC d.name d.scope s₁.heap.objs.size fa cd)) (execs d.body (envOfC d.name d.scope s₁.heap.objs.size fa cd))
    (fun f s'=>f=.ret (.bool true)/\OldK s₁.heap s'.heap/\s'.os=s₁.os/\AllBare s'.gens) (fun _ _=>False) s) :
  WalkO q loose XP YP l.row.toRowW d [] (fun f vs=>PySem.call f vs):=by
 intro w s₀ s₁ mg mb G Y fa o pm cd doc dV kV ho hd hcd hD hmg hg args vals as hpre hlay hrd hwl hlo
 obtain rfl:dV=.none:=Dflts.none hD hdf
 obtain rfl:kV=.none:=Dflts.noKw hD
 obtain ⟨a,vs,ns,rfl,rfl,hobj,hints,hlen⟩:=zia hn hpre hwl
 refine enter_call ?_
 refine call_cells_ret (o:=o) (by rw [depth_caller];decide) ho (fd_plain hd) G.T.nolimit hcd (hbind pm cd doc (.ref a)) (fun y hy=>?_) (fun h₁ tk F X=>?_) hco hgen hk
 ·obtain rfl:y=(x,Value.ref a):=List.mem_singleton.mp hy
  rcases hx with e | e
  ·exact .inl e
  ·exact .inr ⟨e,cellsFrom_some _ _ _ (.inl e)⟩
 ·refine wpAny_mono (body w s₀ s₁ { s₁ with heap:=h₁,toks:=tk } mg mb fa o pm cd doc a vs ns G Y ho (fd_plain hd) hcd hmg hobj hints hlen hg rfl F X) (fun f s' hq=>?_) (fun _ _ hq=>hq)
  obtain ⟨rfl,h2,h3,h4⟩:=hq
  exact ⟨.inl ⟨.bool true,.bool true,[],rfl,fun _=>rfl,.bool true,zij l _,fun _=>⟨List.Pairwise.nil,fun _ hm=>(nomatch hm)⟩⟩,h2,h3,h4⟩
theorem attach_call {l:OpenLaw} {n:Nat} {q:Program} {loose:List Str} {XP:(Str->Option Value)->Heap->Prop} {YP:World->Heap->Prop} {d:DefRec}
  (hn:l.most=some n) (hdf:d.params.defaults=[])
  (call:∀ (w:World) (s₀ s₁:Shared) (mg mb:Str->Option Value) (fa:Addr) (o:Obj) (pm cd doc:Value) (a:Addr) (vs:List Value) (ns:List Int),
   Ground q loose [] XP w s₀ mg mb s₁.heap->YP w s₁.heap ->
   s₁.heap.get? fa=some o->o.data=.func (docDef d.name d.params d.body d.scope pm cd doc)->s₁.heap.CodeRec cd d.name->mg d.name=some (.ref fa) ->
   s₁.heap.get? a=some { cls:=.type "list",data:=.seq vs.toArray }->IntsAre vs ns->ns.length<=n->s₁.gens=#[] ->
   codeAny (model l.prog w) callerA (.call (.ref fa) ⟨[.ref a],[]⟩) (fun r s'=>r=.ok (.ret (.bool true))/\OldK s₁.heap s'.heap/\s'.os=s₁.os/\AllBare s'.gens) s₁) :
  WalkO q loose XP YP l.row.toRowW d [] (fun f vs=>PySem.call f vs):=by
 intro w s₀ s₁ mg mb G Y fa o pm cd doc dV kV ho hd hcd hD hmg hg args vals as hpre hlay hrd hwl hlo
 obtain rfl:dV=.none:=Dflts.none hD hdf
 obtain rfl:kV=.none:=Dflts.noKw hD
 obtain ⟨a,vs,ns,rfl,rfl,hobj,hints,hlen⟩:=zia hn hpre hwl
 refine enter_call (codeAny_mono (call w s₀ s₁ mg mb fa o pm cd doc a vs ns G Y ho (fd_plain hd) hcd hmg hobj hints hlen hg) fun r s' hq=>?_)
 obtain ⟨rfl,h2,h3,h4⟩:=hq
 exact ⟨.inl ⟨.bool true,.bool true,[],rfl,fun _=>rfl,.bool true,zij l _,fun _=>⟨List.Pairwise.nil,fun _ hm=>(nomatch hm)⟩⟩,h2,h3,h4⟩
section
variable {prog:Program} {w:World} {A:Around} {E:Value->Shared->Prop} {s:Shared} {K:Frag}
def zty (h:Heap) (L d:Addr):List (Addr×Obj):=(List.range h.objs.size).filterMap fun a=>if a=L\/a=d then none else (h.get? a).map fun o=>(a,o)
end
end Att
namespace L2
open PySem PySem.Spec PyProof.Rows
theorem zh3:∀ {vs:List Value} {ns:List Int},IntsAre vs ns->zbS (ns.map V.int) vs
 | _,_,.nil=>.nil
 | _,_,.cons n t h=>.cons ⟨t,rfl⟩ (zh3 h)
def ztc (H:Hp):Prop:=∀ b,H b=none\/∃ o xs,H b=some (.frz o (.lst xs))
theorem znm {P:Program} {w:World} {K:PySem.W.Frag} {mg mb:Str->Option Value} {CX:CXT} {k:Nat} {fa a:Addr} {fd:FuncData} {x:Str} {sp:Sp} {s₁:Shared} {vs:List Value} {ns:List Int}
  (KX:K.In s₁.heap) (hns:s₁.heap.Ns mainGlobals mg) (hb:s₁.heap.Ns builtinsNs mb) (hbb:∀ x:Str,x≠"__name__"->mb x=bootBuiltins x) (hlim:s₁.heap.NoLimit) (hg:s₁.gens=#[])
  (ha:s₁.heap.get? a=some { cls:=.type "list",data:=.seq vs.toArray }) (hi:IntsAre vs ns) (hl:ns.length<=sizeLine) (hr:Room k callerA)
  (F:∀ base:Heap,K.In base->base.Ns mainGlobals mg->FnOk P w K mg base CX k fa fd [x] sp) (hbind:∀ (s:Shared) (u:Value),BindsTo s fd ⟨[u],[]⟩ [(x,u)])
  (hsp:∀ H:Hp,ztc H->SqL K H a (ns.map V.int)->sp [.ref a] H (fun v _=>v=.bl true) fun _ _ _=>False)
  (hCX:∀ H e s',CX [] H s₁ (fun _ _ _=>False) e s'->False) :
  codeAny (model P w) callerA (.call (.ref fa) ⟨[.ref a],[]⟩) (fun r s'=>r=.ok (.ret (.bool true))/\OldK s₁.heap s'.heap/\s'.os=s₁.os/\AllBare s'.gens) s₁:=by
 have rv:=zh3 hi
 have lenV:=hi.length
 have core:∀ H:Hp,ztc H->SqL K H a (ns.map V.int)->HOk P w H s₁.heap->(∀ b,H b≠none->b=a)->(H a≠none->K.lookup a=none) ->
   codeAny (model P w) callerA (.call (.ref fa) ⟨[.ref a],[]⟩) (fun r s'=>r=.ok (.ret (.bool true))/\OldK s₁.heap s'.heap/\s'.os=s₁.os/\AllBare s'.gens) s₁:=by
  intro H hO hS hok hA hK
  have base_of:∀ {b:Addr} {o:Obj},s₁.heap.get? b=some o->H b=none->(znt s₁.heap H).get? b=some o:=fun e n=>zns e n
  have noA:∀ {b:Addr} {o:Obj} {es:Array DictEntry} {ep:Nat},s₁.heap.get? b=some o->o.data=.dict es ep->H b=none:=fun {b o es ep} e d=>by
   cases q:H b with
   | none=>rfl
   | some u =>
    have e':b=a:=hA b (by rw [q];simp)
    subst e'
    rw [ha] at e;cases e
    have d':Data.seq vs.toArray _=Data.dict es ep:=d
    cases d'
  have nsK:∀ {b:Addr} {m:Str->Option Value},s₁.heap.Ns b m->(znt s₁.heap H).Ns b m:=fun {b m} ⟨o,es,ep,e,d,r⟩=>⟨o,es,ep,base_of e (noA e d),d,r⟩
  have hKb:K.In (znt s₁.heap H):=fun b o e=>base_of (KX b o e) (by
   cases q:H b with
   | none=>rfl
   | some u =>
    have e':b=a:=hA b (by rw [q];simp)
    subst e'
    rw [hK (by rw [q];simp)] at e;cases e)
  have hM:Mod K mg (znt s₁.heap H):=⟨hKb,nsK hns,⟨mb,nsK hb,hbb⟩,let ⟨mc,h1,h2⟩:=hlim;⟨mc,nsK h1,h2⟩⟩
  have e0:Env0 P w K mg (znt s₁.heap H) callerA [] s₁ H:=⟨rfl,hM,fun b o e=>zpd e,Nat.le_of_eq (zlV _ _),trivial,fun b hb=>absurd (show b∈([]:List Addr) from hb) (by simp),hok,.of_eq hg⟩
  refine codeAny_mono ((F _ hKb (nsK hns)).run callerA [] s₁ H ⟨[.ref a],[]⟩ [.ref a] [.ref a] _ _ hr e0 (hbind s₁ (.ref a)) (.cons rfl .nil) (hsp H hO hS)) fun r s' h=>?_
  cases r with
  | error e=>exact (hCX H e s' h).elim
  | ok fl =>
   cases fl with
   | next=>exact False.elim h
   | brk=>exact False.elim h
   | cont=>exact False.elim h
   | ret u =>
    obtain ⟨v,H',os,bare,un,hok',r',q⟩:=h
    have q':v=.bl true:=q
    subst q'
    obtain rfl:u=Value.bool true:=r'
    refine ⟨rfl,OldK.of_keep fun b o e=>?_,os,bare⟩
    cases q:H b with
    | none=>exact un.keep b o e q (by intro z;exact absurd (show b∈([]:List Addr) from z) (by simp)) (by simp)
    | some u =>
     rcases hO b with z | ⟨ob,xs,z⟩
     ·rw [q] at z;cases z
     ·have z2:=un.frzs b ob _ z
      obtain ⟨e1,_⟩:=hok b _ z
      obtain ⟨e2,_⟩:=hok' b _ z2
      rw [e] at e1;cases e1
      exact e2
 cases hk:K.lookup a with
 | some o =>
  have e:=KX a o hk
  rw [ha] at e
  cases e
  refine core (fun _=>none) (fun _=>.inl rfl) (.inr ⟨_,vs.toArray,_,hk,rfl,rfl,rfl,by rw [qz,lenV];exact hl,by simpa using rv⟩) (fun b u z=>by have z':(none:Option HO)=some u:=z;cases z') (fun b z=>absurd rfl z) fun z=>absurd rfl z
 | none =>
  refine core (fun b=>if b=a then some (.frz { cls:=.type "list",data:=.seq vs.toArray } (.lst (ns.map V.int))) else none) (fun b=>?_) (.inl (.inr ⟨{ cls:=.type "list",data:=.seq vs.toArray },qX rfl⟩)) (fun b u z=>?_) (fun b z=>?_) fun _=>hk
  ·by_cases hb:b=a
   ·exact .inr ⟨_,_,qX hb⟩
   ·exact .inl (qY hb)
  ·by_cases hb:b=a
   ·have z':=(qX hb).symm.trans z
    cases z'
    subst hb
    exact ⟨ha,by rw [qe];exact hl,vs,_,rv,ha⟩
   ·have z':=(qY hb).symm.trans z
    cases z'
  ·by_cases hb:b=a
   ·exact hb
   ·exact absurd (qY hb) z
end L2
namespace L2
open PySem PySem.Spec PyProof.Rows
abbrev KOf {K:PySem.W.Frag} {h:Heap} (_:K.In h):PySem.W.Frag:=K
theorem walk_of {l:PySem.W.OpenLaw} {n k:Nat} {q:Program} {loose:List Str} {XP:(Str->Option Value)->Heap->Prop} {YP:World->Heap->Prop} {d:DefRec} {K:Params->PySem.W.Frag} {CX:World->CXT} {sp:World->Sp} {x:Str}
  (hn:l.most=some n) (hn2:n<=sizeLine) (hdf:d.params.defaults=[]) (hr:Room k callerA)
  (hY:∀ (w:World) (h:Heap),YP w h->(K w.params).In h)
  (F:∀ (w:World) (mg:Str->Option Value) (fa:Addr) (h:Heap),(K w.params).In h->h.Ns mainGlobals mg->mg d.name=some (.ref fa) ->
   ∃ fd:FuncData,(∀ (s:Shared) (u:Value),BindsTo s fd ⟨[u],[]⟩ [(x,u)]) /\
    ∀ base:Heap,(K w.params).In base->base.Ns mainGlobals mg->FnOk l.prog w (K w.params) mg base (CX w) k fa fd [x] (sp w))
  (hsp:∀ (w:World) (H:Hp) (a:Addr) (ns:List Int),ns.length<=n->ztc H->SqL (K w.params) H a (ns.map V.int)->sp w [.ref a] H (fun v _=>v=.bl true) fun _ _ _=>False)
  (hCX:∀ (w:World) (H:Hp) (s:Shared) (e:Value) (s':Shared),CX w [] H s (fun _ _ _=>False) e s'->False) :
  PySem.W.WalkO q loose XP YP l.row.toRowW d [] (fun f vs=>PySem.call f vs):=by
 refine Att.attach_call hn hdf fun w s₀ s₁ mg mb fa o pm cd doc a vs ns G Y ho hd hcd hmg hobj hints hlen hg=>?_
 have KX:=hY w _ Y
 obtain ⟨fd,hb,hF⟩:=F w mg fa _ KX G.T.g hmg
 exact znm KX G.T.g G.T.b G.T.builtins G.T.nolimit hg hobj hints (qK hlen hn2) hr hF hb (fun H hO hS=>hsp w H a ns hlen hO hS) fun H e s'=>hCX w H s₁ e s'
end L2
namespace L2
open PySem PySem.Spec PyProof.Rows
def zlU (s:Stmt) (j:Nat):Stmt:=match s with
 | .ClassDef _ _ _ body _ _ _ _ _ _ _=>body.getD j (.Pass ⟨0,0,0,0⟩)
 | _=>.Pass ⟨0,0,0,0⟩
def zcS (s:Stmt):Arguments:=match s with
 | .FunctionDef _ a _ _ _ _ _ _ _ _=>a
 | _=>{ posonlyargs:=[],args:=[],vararg:=none,kwonlyargs:=[],kw_defaults:=[],kwarg:=none,defaults:=[] }
def zbW (s:Stmt):List Stmt:=match s with
 | .FunctionDef _ _ b _ _ _ _ _ _ _=>b
 | _=>[]
def zao (s:Stmt):Scope:=match s with
 | .FunctionDef _ _ _ _ _ _ sc _ _ _=>sc
 | _=>{ kind:=.function,names:=[],isGenerator:=false,isCoroutine:=false }
abbrev CX0:CXT:=fun _ _ _ _ _ _=>False
abbrev E0:XK:=fun _ _ _=>False
theorem zsx {X:Cx}:zhg CX0 X E0:=fun _ _ _ _ _ _ _ h=>h.elim
structure Fun (K:PySem.W.Frag) (x qual:Str) (st:Stmt) (f:Addr) (fd:FuncData):Prop where
 ex:∃ (oc:Value) (od:Option Addr) (kV doc pm:Value) (an:Option Addr) (cdv ct:Value) (osl:Array (Option Value)),
  fd=PySem.W.fnOf x qual (zcS st) (zbW st) (zao st) .none kV doc pm an cdv ct/\K.lookup f=some ⟨oc,od,.func fd,osl⟩/\PySem.W.codeIn K cdv qual=true
 kp:PySem.W.keepIn K (.ref f)=true
section
variable {P:Program} {w:World} {K:PySem.W.Frag} {mg:Str->Option Value} {base:Heap}
theorem Fun.ok {x qual:Str} {st:Stmt} {f:Addr} {fd:FuncData} {N ps:List Str} {k:Nat} {sp:Sp} (F:Fun K x qual st f fd) (S:FnScope N ps (zao st)) (len:∀ vs H Q E,sp vs H Q E->vs.length=ps.length)
  (hbody:∀ (cdv:Value) (A:Around) (outer:List Env) (s:Shared) (H:Hp) (vs:List V) (Q:VK) (E:XK),Room k (A.deeper (envOfC qual (zao st) s.heap.objs.size f cdv))->sp vs H Q E ->
   ∃ t,PSs (zgD CX0 P w K mg base N qual (zao st) f cdv A outer s H E).nox (zbW st) t/\t { nx:=fun _ H'=>Q .non H',rt:=Q } (zey N vs) H):FnOk P w K mg base CX0 (k+1) f fd ps sp:=by
 obtain ⟨oc,od,kV,doc,pm,an,cdv,ct,osl,rfl,lk,hcd⟩:=F.ex
 refine zpF lk hcd S len fun A outer s H vs Q E hr hsp=>?_
 obtain ⟨t,h,q⟩:=hbody cdv A outer s H vs Q E hr hsp
 exact ⟨t,h.nox,q⟩
theorem Fun.binds {x qual:Str} {st:Stmt} {f:Addr} {fd:FuncData} {ps:List Str} (F:Fun K x qual st f fd)
  (h:∀ (kV doc pm:Value) (an:Option Addr) (cdv ct:Value) (us:List Value),us.length=ps.length->bindArgs (PySem.W.fnOf x qual (zcS st) (zbW st) (zao st) .none kV doc pm an cdv ct) ⟨us,[]⟩=pure (ps.zip us)):zcL K fd ps []:=by
 obtain ⟨oc,od,kV,doc,pm,an,cdv,ct,osl,rfl,lk,hcd⟩:=F.ex
 exact .all (h kV doc pm an cdv ct)
theorem zlX {x qual:Str} {st:Stmt} {f:Addr} {oc:Value} {od an:Option Addr} {osl:Array (Option Value)} {kV doc pm cdv ct:Value} (l:K.lookup f=some ⟨oc,od,.func (PySem.W.fnOf x qual (zcS st) (zbW st) (zao st) .none kV doc pm an cdv ct),osl⟩)
  (c:PySem.W.codeIn K cdv qual=true) (k:PySem.W.keepIn K (.ref f)=true):Fun K x qual st f (PySem.W.fnOf x qual (zcS st) (zbW st) (zao st) .none kV doc pm an cdv ct):=⟨⟨oc,od,kV,doc,pm,an,cdv,ct,osl,rfl,l,c⟩,k⟩
end
section
variable {X:Cx}
theorem pv (i:Nat) {x:Str} {pos:Pos} (hN:X.N[i]?=some x:=by rfl) (hv:Vis X.env.scope x:=by first | exact Or.inl rfl | exact Or.inr (Or.inl rfl) | exact Or.inr (Or.inr rfl)) (hd:(x==("__debug__":Str))=false:=by decide)
  (hcd:(x==("__classdict__":Str))=false:=by decide):PE X (.Name x pos) (zr3 i):=zcp hN hv hd hcd
end
theorem zoe {A B:Prop} (h:B):if false=true then A else B:=by
 rw [qY qq]
 exact h
theorem zod {A B:Prop} (h:A):if true=true then A else B:=by
 rw [qX rfl]
 exact h
def zbT (H H':Hp):Prop:=∀ b o,H b=some o->H' b=some o
theorem zbT.refl (H:Hp):zbT H H:=fun _ _ h=>h
theorem zbT.trans {H H1 H2:Hp} (a:zbT H H1) (b:zbT H1 H2):zbT H H2:=fun c o h=>b c o (a c o h)
theorem zbT.free {H H':Hp} (e:zbT H H') {l:Addr} (h:H' l=Option.none):H l=Option.none:=by
 cases q:H l with
 | none=>rfl
 | some o =>
  rw [e l o q] at h
  cases h
theorem zbT.seq {K:PySem.W.Frag} {H H':Hp} {a:Addr} {xs:List V} (e:zbT H H') (h:SqL K H a xs):SqL K H' a xs:=by
 rcases h with (h | ⟨o,h⟩) | h
 ·exact .inl (.inl (e _ _ h))
 ·exact .inl (.inr ⟨o,e _ _ h⟩)
 ·exact .inr h
section
variable {κ:Type} [DecidableEq κ]
end
end L2
end
section
namespace L2
open PySem PySem.Spec PyProof.Rows
theorem zdY {prog:Program} {w:World} {A:Around} {R:Result->Shared->Prop} {s:Shared} {elt target iter:Expr} {ifs:List Expr} {scope:Scope} {pos:Pos} {it acc:Value} {env:Env} (I:Nat->Shared->Prop)
  (turn:∀ n s,I n s->wpAny (model prog w) A (pyNext it) (fun r s₁=>match r with
   | none=>R (.ok .next) s₁
   | some v=>wpAny (model prog w) A (letOwnedTupleGo target it v) (fun _ s₁'=>wpAny (model prog w) A (assign target env v) (fun _ s₂ =>
     wpAny (model prog w) A (forIn ifs true fun c r=>if r=true then do let ok ← isTrue c env (eval c env);pure (ForInStep.yield ok) else pure (ForInStep.yield r)) (fun ok s₃ =>
      if ok=true then wpAny (model prog w) A (eval elt env) (fun x s₄ =>
       wpAny (model prog w) A (call (.builtin "list.append") [acc,x]) (fun _ s₅=>∃ m,m < n/\I m s₅) (fun _ _=>False) s₄) (fun _ _=>False) s₃
      else ∃ m,m < n/\I m s₃) (fun _ _=>False) s₂) (fun _ _=>False) s₁') (fun _ _=>False) s₁) (fun _ _=>False) s)
  (n:Nat) (h:I n s) :
  codeAny (model prog w) A (.compLoop (.ListComp elt [⟨target,iter,ifs,0⟩] scope pos) 0 it acc env) R s:=by
 refine codeAny_loop rfl I (fun n s hI=>?_) n h
 show wpAny _ A ((compTurn (.ListComp elt [⟨target,iter,ifs,0⟩] scope pos) 0 it acc env).onRaise (fun x=>do noteFrame x env;theTreesLotGoes x)) _ _ s
 refine wpAny_noted ?_
 rw [compTurn_list]
 refine qv (wpAny_standAt (qv (wpAny_mono (turn n s hI) (fun r s₁ h₁=>?_) fun _ _ h'=>h'.elim)))
 cases r with
 | none=>exact qy h₁
 | some v =>
  refine qv (wpAny_mono h₁ (fun _ s₁' h₁'=>?_) fun _ _ h'=>h'.elim)
  refine qv (wpAny_mono h₁' (fun _ s₂ h₂=>qv (wpAny_mono h₂ (fun ok s₃ h₃=>?_) fun _ _ h'=>h'.elim)) fun _ _ h'=>h'.elim)
  cases ok with
  | false=>exact qy ⟨rfl,h₃⟩
  | true =>
   exact qv (qv (wpAny_mono h₃ (fun x s₄ h₄=>qv (wpAny_mono h₄ (fun _ s₅ h₅=>qy (qy ⟨rfl,h₅⟩)) fun _ _ h'=>h'.elim)) fun _ _ h'=>h'.elim))
def zc1 (X:Cx) (N':List Str) (scope:Scope) (cl:List (Str×Addr)) (C:Addr) (s₀:Shared) (H₀:Hp) (fp:List Addr):Cx :=
 { X with N:=N',s₀:=s₀,H₀:=H₀,env:=compEnvC scope cl C X.env,outer:=X.stack,stack:=X.stack,ex:=fp,fn:=fun _=>false,pn:=[],xe:=fun _ _=>False }
def zdz (env:Env):List (Str×NameKind)->List (Str×Addr)->List (Str×Addr)
 | [],acc=>acc
 | (n,k)::r,acc=>zdz env r (if k==.free then (match env.cells.lookup n with | some c=>(n,c)::acc | none=>acc) else acc)
theorem zhM {env:Env} {scope:Scope} (h:∀ y∈scope.names,y.2=.free->∃ c,env.cells.lookup y.1=some c):closureFor scope env=pure (zdz env scope.names []):=by
 have all:∀ (l:List (Str×NameKind)) (acc:List (Str×Addr)),(∀ y∈l,y.2=.free->∃ c,env.cells.lookup y.1=some c) ->
   (forIn l acc fun x r=>match x with
    | (name,kind)=>if kind==.free then do let c ← cellOf env name;pure (ForInStep.yield ((name,c)::r)) else pure (ForInStep.yield r):Sem (List (Str×Addr)))=pure (zdz env l acc):=by
  intro l
  induction l with
  | nil=>intro acc _;rfl
  | cons y r ih =>
   intro acc hl
   obtain ⟨n,k⟩:=y
   rw [List.forIn_cons]
   have hr:∀ y∈r,y.2=.free->∃ c,env.cells.lookup y.1=some c:=fun y hy=>hl y (qg _ hy)
   unfold zdz
   cases hk:(k==NameKind.free) with
   | false =>
    simp only [hk,qp,if_false,pure_bind]
    exact ih acc hr
   | true =>
    obtain ⟨c,hc⟩:=hl (n,k) qf (by simpa using hk)
    have hc':env.cells.lookup n=some c:=hc
    simp only [hk,if_true,cellOf,hc',pure_bind]
    exact ih _ hr
 have e:=all scope.names [] h
 exact Eq.trans (bind_pure _) e
theorem zgd {env:Env}:∀ (l:List (Str×NameKind)) (acc:List (Str×Addr)),(∀ x c,acc.lookup x=some c->env.cells.lookup x=some c)->∀ x c,(zdz env l acc).lookup x=some c->env.cells.lookup x=some c
 | [],_,h=>h
 | (n,k)::r,acc,h=>by
  unfold zdz
  refine zgd r _ ?_
  split
  ·split
   ·rename_i c hc
    intro x d hx
    rw [List.lookup_cons] at hx
    cases e:x==n with
    | true =>
     rw [e] at hx
     have e':x=n:=by simpa using e
     have e2:c=d:=qF hx
     rw [e',← e2];exact hc
    | false=>rw [e] at hx;exact h x d hx
   ·exact h
  ·exact h
theorem zhd {env:Env}:∀ (l:List (Str×NameKind)) (acc:List (Str×Addr)) (x:Str),(acc.lookup x).isSome=true->((zdz env l acc).lookup x).isSome=true
 | [],_,_,h=>h
 | (n,k)::r,acc,x,h=>by
  unfold zdz
  refine zhd r _ x ?_
  split
  ·split
   ·rw [List.lookup_cons]
    split
    ·rfl
    ·exact h
   ·exact h
  ·exact h
theorem zge {env:Env}:∀ (l:List (Str×NameKind)) (acc:List (Str×Addr)) (x:Str) (c:Addr),(x,NameKind.free)∈l->env.cells.lookup x=some c->((zdz env l acc).lookup x).isSome=true
 | [],_,_,_,h,_=>nomatch h
 | (n,k)::r,acc,x,c,h,hc=>by
  unfold zdz
  rcases List.mem_cons.mp h with e | h
  ·injection e with e1 e2
   subst e1;subst e2
   refine zhd r _ _ ?_
   rw [qX (by rfl),hc]
   simp
  ·exact zge r _ x c h hc
theorem zcA {env:Env}:∀ (names:List (Str×NameKind)) (x:Str) (k':NameKind),
  (names.map fun (n,k)=>if (k==NameKind.free && env.scope.kind==.function && env.kindOf n==some .cell) then (n,NameKind.cell) else (n,k)).lookup x=some k' ->
  names.lookup x=some k'\/(k'=.cell/\names.lookup x=some .free)
 | [],_,_,h=>by simp at h
 | (n,k)::r,x,k',h=>by
  have ih:=@zcA env r x k'
  have h':List.lookup x ((if (k==NameKind.free && env.scope.kind==.function && env.kindOf n==some .cell)=true then (n,NameKind.cell) else (n,k))::(r.map fun (n,k)=>if (k==NameKind.free && env.scope.kind==.function && env.kindOf n==some .cell) then (n,NameKind.cell) else (n,k)))=some k':=h
  cases hx:x==n with
  | true =>
   by_cases hc:(k==NameKind.free && env.scope.kind==.function && env.kindOf n==some .cell)=true
   ·rw [qX hc] at h'
    simp only [List.lookup_cons,hx] at h' ⊢
    have hk:k=.free:=by
     simp only [Bool.and_eq_true,beq_iff_eq] at hc
     exact hc.1.1
    right
    exact ⟨(qF h').symm,by rw [hk]⟩
   ·rw [qY hc] at h'
    simp only [List.lookup_cons,hx] at h' ⊢
    exact .inl h'
  | false =>
   have h2:List.lookup x (r.map fun (n,k)=>if (k==NameKind.free && env.scope.kind==.function && env.kindOf n==some .cell) then (n,NameKind.cell) else (n,k))=some k':=by
    by_cases hc:(k==NameKind.free && env.scope.kind==.function && env.kindOf n==some .cell)=true
    ·rw [qX hc] at h'
     simpa only [List.lookup_cons,hx] using h'
    ·rw [qY hc] at h'
     simpa only [List.lookup_cons,hx] using h'
   simp only [List.lookup_cons,hx]
   exact ih h2
structure CompScope (X:Cx) (scope:Scope):Prop where
 kind:scope.kind=.function
 nocell:∀ y∈scope.names,y.2≠.cell
 names:∀ y∈scope.names,y.2=.local->scope.names.lookup y.1=some .local
 free:∀ y∈scope.names,y.2=.free->X.env.kindOf y.1=some .cell\/X.env.kindOf y.1=some .free
def zlW (fv:List (Option Nat)) (σ:St):St:=fv.map fun o=>o.bind fun j=>(σ[j]?).join
section
variable {X:Cx} {pins:List (Addr×Obj)} {σ:St} {H:Hp} {s:Shared}
theorem zfq (I:Inv X pins σ H s) {scope:Scope} (S:CompScope X scope):closureFor scope X.env=pure (zdz X.env scope.names []) :=
 zhM fun y hy hf=>I.ok.has y.1 (S.free y hy hf)
theorem zpS (I:Inv X pins σ H s) {N':List Str} {scope:Scope} (S:CompScope X scope) {fp:List Addr} (hf:∀ b∈fp,zkP X pins H b) (hlt:∀ b∈fp,b < s.heap.objs.size) {C:Addr} (hC:s.heap.objs.size<=C) :
  (zc1 X N' scope (zdz X.env scope.names []) C s H fp).Ok:=by
 have sub:=zgd (env:=X.env) scope.names [] (fun x c h=>by simp at h)
 refine ⟨I.ok.mod,S.kind,I.ok.glob,I.ok.blt,hC,fun x y c h1 h2=>I.ok.inj x y c (sub x c h1) (sub y c h2),fun x hx=>?_,fun x c h _=>by simp [zc1] at h,I.ok.hd,I.ok.frames,.inl rfl,fun b hb=>⟨?_,fun x c e=>?_⟩,I.bs,qK I.ok.bsz I.sz,
  fun b o e hb=>?_,fun b hb=>?_,I.stack,I.stkFree⟩
 ·have hx':((relabel scope X.env).names.lookup x=some .cell\/(relabel scope X.env).names.lookup x=some .free):=hx
  have hfr:scope.names.lookup x=some .free:=by
   rcases hx' with h | h
   ·rcases zcA _ _ _ h with h | ⟨_,h⟩
    ·exact absurd rfl (S.nocell _ (PySem.mem_of_lookup h))
    ·exact h
   ·rcases zcA _ _ _ h with h | ⟨h,_⟩
    ·exact h
    ·cases h
  have hm:=PySem.mem_of_lookup hfr
  obtain ⟨c,hc⟩:=I.ok.has x (S.free _ hm rfl)
  exact Option.isSome_iff_exists.mp (zge _ _ x c hm hc)
 ·exact qA (qD (hlt b hb) hC)
 ·exact (hf b hb).2.2.2.2.1 x c (sub x c e)
 ·rcases (hf b hb).2.2.2.1 with z | z
  ·exact I.ok.noex b o e z
  ·exact absurd (qD (qt e) I.ok.bsz) (Nat.not_lt.mpr z)
 ·intro z
  rcases List.mem_cons.mp (I.stkSub b z) with e | e
  ·exact (hf b hb).2.1 e
  ·exact (hf b hb).2.2.1 e
theorem zkH (I:Inv X pins σ H s) {N':List Str} {scope:Scope} (S:CompScope X scope) {fp:List Addr} (hf:∀ b∈fp,zkP X pins H b) (hlt:∀ b∈fp,b < s.heap.objs.size) {C:Addr} (hC:C=s.heap.objs.size) {fv:List (Option Nat)} (hlen:fv.length=N'.length)
  (hfv:∀ (i j:Nat) x,N'[i]?=some x->fv[i]?=some (some j)->X.N[j]?=some x/\(X.env.kindOf x=some .cell\/X.env.kindOf x=some .free)/\scope.names.lookup x=some .free) {h':Heap} {t':Nat} {m:Str->Option Value} (hn:h'.Ns C m) (hk:∀ b o,s.heap.get? b=some o->h'.get? b=some o) :
  Inv (zc1 X N' scope (zdz X.env scope.names []) C s H fp) [] (zlW fv σ) H { s with heap:=h',toks:=t' }:=by
 have ok:=zpS (N':=N') I S hf hlt (C:=C) (Nat.le_of_eq hC.symm)
 have sub:=zgd (env:=X.env) scope.names [] (fun x c h=>by simp at h)
 refine ⟨ok,rfl,I.bare,Un.kept hk,⟨m,hn,fun i x v e1 e2 e3=>?_⟩,fun x c e=>?_,?_,fun x c e=>I.freeC x c (sub x c e),fun p hp=>?_,I.hok.kept hk,?_⟩
 ·have e1':N'[i]?=some x:=e1
  have e2':(zlW fv σ)[i]?=some (some v):=e2
  unfold zlW at e2'
  rw [qj] at e2'
  cases q:fv[i]? with
  | none=>rw [q] at e2';cases e2'
  | some o =>
   rw [q] at e2'
   cases o with
   | none=>cases e2'
   | some j =>
    have e2'':(σ[j]?).join=some v:=by simpa using e2'
    obtain ⟨hN,hkk,hfree⟩:=hfv i j x e1' q
    have hσ:σ[j]?=some (some v):=by
     cases z:σ[j]? with
     | none=>rw [z] at e2'';cases e2''
     | some w=>rw [z] at e2'';cases w with
      | none=>cases e2''
      | some w'=>simp at e2'';rw [e2'']
    obtain ⟨m0,hn0,hl⟩:=I.loc
    obtain ⟨u,r,l⟩:=hl j x v hN hσ (.inr hkk)
    refine ⟨u,r,.inr ⟨?_,?_⟩⟩
    ·rcases e3 with z | z | z
     ·have z':(relabel scope X.env).names.lookup x=some .local:=z
      rcases zcA _ _ _ z' with y | ⟨y,_⟩
      ·rw [hfree] at y;cases y
      ·cases y
     ·exact .inl z
     ·exact .inr z
    ·rcases l with ⟨k,_⟩ | ⟨_,c,hc,hcell⟩
     ·rcases hkk with y | y
      ·rw [k] at y;cases y
      ·rw [k] at y;cases y
     ·obtain ⟨c',hc'⟩:=Option.isSome_iff_exists.mp (zge scope.names [] x c (PySem.mem_of_lookup hfree) hc)
      have e:=sub x c' hc'
      rw [hc] at e
      cases e
      obtain ⟨oc,ho,hd⟩:=hcell
      exact ⟨c,hc',oc,hk _ _ ho,hd⟩
 ·obtain ⟨v,oc,ho,hd⟩:=I.cell x c (sub x c e)
  exact ⟨v,oc,hk _ _ ho,hd⟩
 ·exact I.hok.fresh (Nat.le_of_eq hC.symm)
 ·exact absurd (show p∈([]:List (Addr×Obj)) from hp) (by simp)
 ·show (zlW fv σ).length=N'.length
  unfold zlW
  rw [qe,hlen]
theorem znJ (I:Inv X pins σ H s) {N':List Str} {scope:Scope} {cl:List (Str×Addr)} {fp:List Addr} (hf:∀ b∈fp,zkP X pins H b) {C:Addr} (hC:s.heap.objs.size<=C) {σ':St} {H':Hp} {s':Shared} {pl:List (Addr×Obj)}
  (J:Inv (zc1 X N' scope cl C s H fp) pl σ' H' s') {h':Heap} (hs:Heap.SameBut C s'.heap h'):Inv X pins σ H' { s' with heap:=h' }:=by
 have hCn:H' C=none:=J.free
 refine I.call' (ch:=fp) (s':={ s' with heap:=h' }) J.os ?_ ?_ J.bare fun b hb=>⟨(hf b hb).2.2.2.1,(hf b hb).2.1,(hf b hb).2.2.2.2.1,(hf b hb).2.2.2.2.2⟩
 ·have U:Un (frs X.stack) fp H H' s.heap s'.heap:=J.base
  have neC:∀ b o,s.heap.get? b=some o->b≠C:=fun b o e=>qA (qD (qt e) hC)
  refine ⟨fun b o e n h1 h2=>?_,fun b o e n h1 h2=>?_,U.free,fun b o e h2=>?_,U.tups,U.frzs,U.tbls⟩
  ·exact (hs.2 b (neC b o e)).trans (U.keep b o e n h1 h2)
  ·obtain ⟨sl,q⟩:=U.slot b o e n h1 h2
   exact ⟨sl,(hs.2 b (neC b o e)).trans q⟩
  ·obtain ⟨o',q⟩:=U.there b o e h2
   exact ⟨o',(hs.2 b (neC b o e)).trans q⟩
 ·intro b u e
  refine (J.hok b u e).stay (fun c v hc q=>(hs.2 c ?_).trans q) (fun _ q=>q) fun _ _ q=>q
  rintro rfl
  rcases hc with z | z
  ·rw [← z,hCn] at e;cases e
  ·rw [hCn] at z;cases z
end
end L2
end
section
namespace L2
open PySem PySem.Spec PyProof.Rows
def PTs (X:Cx) (es:List Expr) (t:TT):Prop :=
 ∀ (pins:List (Addr×Obj)) (s:Shared) (σ:St) (H:Hp) (Q:Bool->Hp->Prop),Inv X pins σ H s->t σ H Q ->
  wpAny (model X.prog X.w) X.A (forIn es true fun c r=>if r=true then do let ok ← isTrue c X.env (eval c X.env);pure (ForInStep.yield ok) else pure (ForInStep.yield r)) (TP X pins σ Q) X.xe s
def zsd:TT:=fun _ H Q=>Q true H
theorem zoN {X:Cx}:PTs X [] zsd:=fun _ _ _ H _ I h=>wpAny_tests_nil ⟨H,I,h⟩
theorem zoM {X:Cx} {c:Expr} {t:TT} (hc:PT X c t):PTs X [c] t:=fun pins s σ H Q I h=>wpAny_tests_one (hc pins s σ H Q I h)
def LcW (J:It) (g:TG) (tc:TT) (te:TE) (acc:Addr) (Q:V->Hp->Prop) (σ0:St) (H1:Hp):Prop :=
 ∃ W:Nat->Nat->List V->St->Hp->Prop,(∃ m,W 0 m [] σ0 (upd H1 acc (.lst [])))/\∀ i m ys σ' H',W i m ys σ' H'->H' acc=some (.lst ys) /\
  ((J.stop i H'/\Q (.ref acc) H')\/(J.go i H'/\∀ x H2,J.yld i H' x H2->g x σ' H2 fun σ2 H3=>tc σ2 H3 fun b H4 =>
   if b=true then te σ2 H4 fun v H5=>H5 acc=some (.lst ys)/\ys.length < sizeLine/\∃ m',m' < m/\W (i+1) m' (ys++[v]) σ2 (upd H5 acc (.lst (ys++[v])))
   else ∃ m',m' < m/\W (i+1) m' ys σ2 H4))
def tLC (wi:TI) (g:TG) (tc:TT) (te:TE) (fv:List (Option Nat)):TE:=fun σ H Q=>wi σ H fun J H1=>∀ acc,H1 acc=none->LcW J g tc te acc Q (zlW fv σ) H1
def PB (X:Cx) (N':List Str) (scope:Scope) (tg:Expr) (ifs:List Expr) (elt:Expr) (g:TG) (tc:TT) (te:TE):Prop :=
 ∀ (cl:List (Str×Addr)) (C:Addr) (s₀:Shared) (H₀:Hp) (fp:List Addr),PG (zc1 X N' scope cl C s₀ H₀ fp) tg g/\PTs (zc1 X N' scope cl C s₀ H₀ fp) ifs tc/\PE (zc1 X N' scope cl C s₀ H₀ fp) elt te
structure FvOk (X:Cx) (N':List Str) (scope:Scope) (fv:List (Option Nat)):Prop where
 len:fv.length=N'.length
 at':∀ (i j:Nat) x,N'[i]?=some x->fv[i]?=some (some j)->X.N[j]?=some x/\(X.env.kindOf x=some .cell\/X.env.kindOf x=some .free)/\scope.names.lookup x=some .free
section
variable {X:Cx} {elt tg iter:Expr} {ifs:List Expr} {scope:Scope} {pos:Pos} {N':List Str} {fv:List (Option Nat)} {g:TG} {tc:TT} {te:TE}
theorem zj6 {pins:List (Addr×Obj)} {σ:St} {H1:Hp} {s2:Shared} {it:Addr} {fp:List Addr} {tn:Nat->Heap->Prop} {J:It} {Q:VK} {RR:Value->Addr->Result->Shared->Prop} (hc:X.calm=true) (S:CompScope X scope) (F:FvOk X N' scope fv) (hb:PB X N' scope tg ifs elt g tc te)
  (I2:Inv X pins σ H1 s2) (T:Turn X.prog X.w X.K tg J fp it tn) (st2:tn 0 s2.heap) (f2:∀ b∈fp,zkP X pins H1 b) (q:∀ acc,H1 acc=none->LcW J g tc te acc Q (zlW fv σ) H1)
  (hRR:∀ (a C:Addr) (H':Hp) (s':Shared) (m:Str->Option Value),s'.heap.Ns C m->(∀ h',Heap.SameBut C s'.heap h'->Inv X pins σ H' { s' with heap:=h' })->zkP X pins H' C->Q (.ref a) H'->RR (.ref a) C (.ok .next) s') :
  wpAny (model X.prog X.w) X.A (newList []) (fun acc s₃=>wpAny (model X.prog X.w) X.A (newFunctionEnv scope X.env.globals (zdz X.env scope.names []) [] X.env.qual none .none (some X.env)) (fun cenv s₄ =>
   codeAny (model X.prog X.w) X.A (.compStart (.ListComp elt [⟨tg,iter,ifs,0⟩] scope pos) 0 (.ref it) acc { cenv with scope:=relabel scope X.env }) (RR acc cenv.locals) s₄) X.xe s₃) X.xe s2:=by
 refine wpAny_newObj_type ?_
 have hacc:H1 s2.heap.objs.size=none:=I2.fresh
 have I3:Inv X pins σ (upd H1 s2.heap.objs.size (.lst [])) { s2 with heap:=s2.heap.push { cls:=.type "list",data:=.seq ([]:List Value).toArray } }:=I2.lnew (t':=s2.toks) .nil (Nat.zero_le _)
 generalize hs3:({ s2 with heap:=s2.heap.push { cls:=.type "list",data:=.seq ([]:List Value).toArray } }:Shared)=s3 at I3 ⊢
 have up:∀ b o,s2.heap.get? b=some o->s3.heap.get? b=some o:=fun b o e=>by rw [← hs3];exact qr _ e
 have lt2:∀ b∈fp,b < s2.heap.objs.size:=fun b hb=>by
  obtain ⟨o,e,_⟩:=T.obj 0 _ st2 b hb
  exact qt e
 have sz3:s2.heap.objs.size < s3.heap.objs.size:=by rw [← hs3];show _ < (s2.heap.push _).objs.size;rw [Heap.size_push];exact Nat.lt_succ_self _
 have lt3:∀ b∈fp,b < s3.heap.objs.size:=fun b hb=>Nat.lt_trans (lt2 b hb) sz3
 have f3:∀ b∈fp,zkP X pins (upd H1 s2.heap.objs.size (.lst [])) b:=fun b hb=>⟨by rw [zaq (qA (lt2 b hb))];exact (f2 b hb).1,(f2 b hb).2⟩
 have st3:tn 0 s3.heap:=T.keep _ _ _ st2 fun b _ o e=>up b o e
 refine wpAny_newFunctionEnv S.nocell (by intro y hy;simp at hy) (fun h4 hn4 sb4=>?_) S.kind
 have k4:∀ b o,s3.heap.get? b=some o->h4.get? b=some o:=fun b o e=>(sb4.2 b (qA (qt e))).trans (qr _ e)
 have st4:tn 0 h4:=T.keep _ _ _ st3 fun b _ o e=>k4 b o e
 have I4:=zkH I3 S f3 lt3 (C:=s3.heap.objs.size) rfl F.len F.at' hn4 k4 (t':=s3.toks+([]:List (Str×Value)).length)
 generalize hX:zc1 X N' scope (zdz X.env scope.names []) s3.heap.objs.size s3 (upd H1 s2.heap.objs.size (.lst [])) fp=X' at I4
 obtain ⟨bg,bt,be⟩:=hb (zdz X.env scope.names []) s3.heap.objs.size s3 (upd H1 s2.heap.objs.size (.lst [])) fp
 rw [hX] at bg bt be
 have hprog:X'.prog=X.prog:=by rw [← hX];rfl
 have hw:X'.w=X.w:=by rw [← hX];rfl
 have hK:X'.K=X.K:=by rw [← hX];rfl
 have hA:X'.A=X.A:=by rw [← hX];rfl
 have hcalm:X'.calm=true:=by rw [← hX];exact hc
 have hxe:X'.xe=fun _ _=>False:=by rw [← hX];rfl
 have henv:X'.env=compEnvC scope (zdz X.env scope.names []) s3.heap.objs.size X.env:=by rw [← hX];rfl
 have stat:∀ {H':Hp},(∀ b∈fp,H' b=none)->∀ b∈fp,zkP X' [] H' b:=fun {H'} hn b hb=>by
  have f:=f3 b hb
  have ok:=I4.ok
  refine ⟨hn b hb,(ok.exf b (by rw [← hX];exact hb)).1,ok.exfs b (by rw [← hX];exact hb),.inl (by rw [← hX];exact hb),fun x c e=>(ok.exf b (by rw [← hX];exact hb)).2 x c e,fun p hp=>?_⟩
  rw [← hX] at hp
  exact absurd (show p∈([]:List (Addr×Obj)) from hp) (by simp)
 obtain ⟨W,⟨m0,w0⟩,turn⟩:=q s2.heap.objs.size hacc
 have loop:∀ s5:Shared,s5={ s3 with heap:=h4,toks:=s3.toks+([]:List (Str×Value)).length } ->
   codeAny (model X.prog X.w) X.A (.compLoop (.ListComp elt [⟨tg,iter,ifs,0⟩] scope pos) 0 (.ref it) (.ref s2.heap.objs.size) (compEnvC scope (zdz X.env scope.names []) s3.heap.objs.size X.env))
    (RR (.ref s2.heap.objs.size) s3.heap.objs.size) s5:=by
  intro s5 hs5
  refine zdY (fun n s'=>∃ i ys σ' H',Inv X' [] σ' H' s'/\tn i s'.heap/\(∀ b∈fp,H' b=none)/\W i n ys σ' H') ?_ m0 ⟨0,[],zlW fv σ,_,hs5▸I4,hs5▸st4,fun b hb=>(f3 b hb).1,w0⟩
  rintro n s6 ⟨i,ys,σ6,H6,I6,st6,fr6,w6⟩
  obtain ⟨ha6,turn6⟩:=turn i n ys σ6 H6 w6
  rw [← henv]
  rcases turn6 with ⟨stop,qn⟩ | ⟨go,step⟩
  ·have d:=T.done X' hprog hw hK hcalm i [] s6 σ6 H6 (fun _ _=>False) I6 (stat fr6) st6 stop
   rw [hA] at d
   refine thn d fun r s7 ⟨hr,I7⟩=>?_
   subst hr
   obtain ⟨m7,hn7,_⟩:=I7.loc
   have hl:X'.env.locals=s3.heap.objs.size:=by rw [henv];rfl
   refine hRR _ _ H6 s7 m7 (hl▸hn7) (fun h' hs'=>?_) ?_ qn
   ·rw [← hX] at I7
    exact znJ I3 f3 (qu _) I7 hs'
   ·exact I3.fpOk (qu _) (by have:=I7.free;rw [hl] at this;exact this)
  ·have d:=T.item X' hprog hw hK hcalm i [] s6 σ6 H6 (fun _ _=>False) I6 (stat fr6) st6 go
   rw [hA] at d
   refine thn d fun r s7 ⟨u,hr,h7⟩=>?_
   subst hr
   refine thn h7 fun _ s8 ⟨x,H8,I8,r8,y8,st8,fr8⟩=>?_
   have I8':=I8.pinned (stat fr8) (T.obj _ _ st8)
   have dg:=bg _ s8 σ6 H8 x u _ I8' r8 (step x H8 y8)
   rw [hprog,hw,hA,hxe] at dg
   refine thn dg fun _ s9 ⟨σ9,H9,I9,q9⟩=>?_
   have dt:=bt _ s9 σ9 H9 _ I9 q9
   rw [hprog,hw,hA,hxe] at dt
   refine thn dt fun b s10 ⟨H10,I10,q10⟩=>?_
   have again:∀ {σ7:St} {H7:Hp} {s7:Shared} {ys':List V},Inv X' ([]++zik fp s8.heap) σ7 H7 s7->(∃ m',m' < n/\W (i+1) m' ys' σ7 H7)->∃ m,m < n/\∃ i ys σ' H',Inv X' [] σ' H' s7/\tn i s7.heap/\(∀ b∈fp,H' b=none)/\W i m ys σ' H':=fun {σ7 H7 s7 ys'} I7 n7=>by
    obtain ⟨m',hm,w7⟩:=n7
    refine ⟨m',hm,i+1,ys',σ7,H7,I7.unpinned,T.keep _ _ _ st8 fun b hb o e=>(I7.pin (b,o) (qO _ (qO _ (zdV hb e)))).1,fun b hb=>?_,w7⟩
    obtain ⟨o,e,_⟩:=T.obj _ _ st8 b hb
    exact (I7.pin (b,o) (qO _ (qO _ (zdV hb e)))).2.1
   cases b with
   | false =>
    rw [qY qq] at q10 ⊢
    exact again I10 q10
   | true =>
    rw [qX rfl] at q10 ⊢
    have de:=be _ s10 σ9 H10 _ I10 q10
    rw [hprog,hw,hA,hxe] at de
    refine thn de fun v s11 ⟨y,H11,I11,r11,ha11,hz11,n11⟩=>?_
    have da:=ziq _ s11 σ9 H11 (.ref s2.heap.objs.size) [y] (.ref s2.heap.objs.size) [v] (fun _ H'=>H'=upd H11 s2.heap.objs.size (.lst (ys++[y]))) I11 rfl (.cons r11 .nil) ⟨_,ys,y,rfl,rfl,ha11,hz11,rfl⟩
    rw [hprog,hw,hA,hxe] at da
    refine thn da fun _ s12 ⟨_,H12,I12,_,e12⟩=>?_
    subst e12
    exact again I12 n11
 exact codeAny_compStart_list (loop _ rfl) (T.self _ 0 _ _ _ st4 (loop _ rfl))
theorem zsu {wi:TI} (hc:X.calm=true) (S:CompScope X scope) (F:FvOk X N' scope fv) (hi:PI X tg iter wi) (hb:PB X N' scope tg ifs elt g tc te) (hs:∀ x,foldedSetIterable iter X.env x=pure x:=by intro _;rfl) :
  PE X (.ListComp elt [⟨tg,iter,ifs,0⟩] scope pos) (tLC wi g tc te fv):=by
 intro pins s σ H Q I h
 rw [eval_ListComp]
 refine wpAny_comprehension_free (use:=none) rfl hs (zfq I S) S.kind S.names (thn (hi pins s σ H _ I h) fun x s1 h1=>thn h1 fun itv s2 h2=>?_)
 obtain ⟨it,fp,tn,J,H1,e,I2,T,st2,f2,q⟩:=h2
 subst e
 refine zj6 (RR:=fun acc C=>compPost (model X.prog X.w) X.A X.xe none (EP X pins σ Q) acc C) hc S F hb I2 T st2 f2 q ?_
 intro a C H' s' m hn hI hCL hq
 exact ⟨m,hn,fun h' hs'=>⟨.ref a,H',hI h' hs',rfl,hq⟩⟩
theorem zsr {wi:TI} {i:Nat} {y:Str} {py spos:Pos} (hN:X.N.Nodup) (hy:X.N[i]?=some y) (hyl:X.env.scope.names.lookup y=some .local) (hc:X.calm=true) (S:CompScope X scope) (F:FvOk X N' scope fv) (hi:PI X tg iter wi) (hb:PB X N' scope tg ifs elt g tc te)
  (hsw:swapsWith (.ListComp elt [⟨tg,iter,ifs,0⟩] scope pos) (some (.Name y py)) spos.line X.env=pure true)
  (hs:∀ x,foldedSetIterable iter X.env x=pure x:=by intro _;rfl) :
  PS X (.Assign [.Name y py] (.ListComp elt [⟨tg,iter,ifs,0⟩] scope pos) spos) (zp4 (tLC wi g tc te fv) (zkD i)):=by
 intro pins s σ H D I h
 rw [exec_Assign_Name_used _ _ _ _ hsw]
 refine qv (wpAny_standAt (qv ?_))
 show wpAny _ _ (do let _ ← comprehension (.ListComp elt [⟨tg,iter,ifs,0⟩] scope pos) scope X.env _ (newList []) false (eval iter X.env) (some (assign (.Name y py) X.env))) _ _ s
 refine qv (wpAny_mono (wpAny_comprehension_free (use:=some (assign (.Name y py) X.env)) (Q:=fun _ s'=>SP X pins D .next s') rfl hs (zfq I S) S.kind S.names
  (thn (hi pins s σ H _ I h) fun x s1 h1=>thn h1 fun itv s2 h2=>?_)) (fun _ s' hq=>qy (qy hq)) fun _ _ e=>e)
 obtain ⟨it,fp,tn,J,H1,e,I2,T,st2,f2,q⟩:=h2
 subst e
 refine zj6 (RR:=fun acc C=>compPost (model X.prog X.w) X.A X.xe (some (assign (.Name y py) X.env)) (fun _ s'=>SP X pins D .next s') acc C) hc S F hb I2 T st2 f2 q ?_
 intro a C H' s' m hn hI hCL hq
 show wpAny _ _ (assign (.Name y py) X.env (.ref a)) _ _ _
 have I':Inv X pins σ H' s':=hI s'.heap (Heap.SameBut.refl _ _)
 refine wpAny_assign_Name ?_
 refine zh6 (v:=.ref a) I' hN hy (.inl hyl) rfl (fun s'' I'' hch=>?_) (.inr hyl)
 obtain ⟨ad,hsb,had⟩:=hch
 obtain ⟨f0,f1,f2',f3,f4,f5⟩:=hCL
 have hne:C≠ad:=by
  rcases had with z | z
  ·rw [z];exact f1
  ·exact fun e=>f4 y ad z e.symm
 refine ⟨m,hn.sameBut hsb hne,fun h' hs'=>?_⟩
 exact ⟨_,H',I''.turned (t':=s''.toks) (fun b o hb e=>(hs'.2 b hb).trans e) f0 f1 f3 f4 f5,hq⟩
end
end L2
end
section
namespace L2
open PySem PySem.Spec PyProof.Rows
def Its (x:Str):It:=⟨fun i _=>i < x.cps.size,fun i H v H'=>H'=H/\∃ c,x.cps[i]?=some c/\v=.str ⟨#[c]⟩,fun i _=>i=x.cps.size⟩
theorem zpA {M:Model} {A:Around} {E:Value->Shared->Prop} {s:Shared} {n:Str} {p:Pos} {it:Value} {u:Value} {Q:Unit->Shared->Prop} (hQ:Q () s):wpAny M A (letOwnedTupleGo (.Name n p) it u) Q E s:=qy hQ
theorem zjy {P:Program} {w:World} {K:PySem.W.Frag} {n:Str} {p:Pos} {ty:String} (it:Addr) (x:Str) (t:Tok)
  (W:∀ A:Around,A.handled=none->Walks P w A it [it] [it] x.cps.size (SignAt x) (fun i h=>h.IsStrIter it ty x t i))
  (sf:∀ (A:Around) (i:Nat) (s:Shared) (Q:Value->Shared->Prop) (E:Value->Shared->Prop),s.heap.IsStrIter it ty x t i->Q (.ref it) s->wpAny (model P w) A (pyIter (.ref it)) Q E s):Turn P w K (.Name n p) (Its x) [it] it (fun i h=>h.IsStrIter it ty x t i) where
 mem:=by simp
 obj:=fun i h st b hb=>by
  have e:b=it:=by simpa using hb
  subst e
  obtain ⟨o,e,c,d⟩:=st
  exact ⟨o,e,fun v z=>by rw [d] at z;cases z⟩
 keep:=fun i h h' st k=>by
  obtain ⟨o,e,r⟩:=st
  exact ⟨o,k it (by simp) o e,r⟩
 item:=by
  intro X hP hw hK hc i pins s σ H E I hf st hg
  subst hP hw hK
  obtain ⟨f0,f1,f2,f3,f4,f5⟩:=hf it (by simp)
  refine (W X.A (I.ok.hd hc)).item i s _ _ hg st fun v h' tk hv st' kk=>?_
  obtain ⟨c,u,hcc,rfl⟩:=hv
  have I1:Inv X pins σ H { s with heap:=h',toks:=tk }:=I.turned (fun b o hb e=>kk b o (by simpa using hb) e) f0 f1 f3 f4 f5
  exact ⟨_,rfl,zpA ⟨.str ⟨#[c]⟩,H,I1,⟨_,rfl⟩,⟨rfl,c,hcc,rfl⟩,st',fun b hb=>(hf b hb).1⟩⟩
 done:=by
  intro X hP hw hK hc i pins s σ H E I hf st hg
  subst hP hw hK
  obtain ⟨f0,f1,f2,f3,f4,f5⟩:=hf it (by simp)
  have hi:i=x.cps.size:=hg
  subst hi
  exact (W X.A (I.ok.hd hc)).done s _ _ st fun h' tk kk=>⟨rfl,I.turned (fun b o hb e=>kk b o (by simpa using hb) e) f0 f1 f3 f4 f5⟩
 self:=sf
def zt5 (te:TE):TI:=fun σ H R=>te σ H fun v H1=>∃ x,v=.str x/\R (Its x) H1
theorem zqJ {X:Cx} {e:Expr} {te:TE} {n:Str} {p:Pos} (he:PE X e te):PI X (.Name n p) e (zt5 te):=by
 intro pins s σ H R I h
 refine thn (he pins s σ H _ I h) fun v s1 ⟨y,H1,I1,r1,q1⟩=>?_
 obtain ⟨x,e,q⟩:=q1
 subst e
 obtain ⟨t,rfl⟩:=r1
 have fin:∀ (ty:String) (o:Obj),(s1.heap.push o).IsStrIter s1.heap.objs.size ty x t 0->Turn X.prog X.w X.K (.Name n p) (Its x) [s1.heap.objs.size] s1.heap.objs.size (fun i h=>h.IsStrIter s1.heap.objs.size ty x t i) ->
   PIE X pins σ (.Name n p) R (.ref s1.heap.objs.size) { s1 with heap:=s1.heap.push o }:=fun ty o st T=>by
  refine ⟨s1.heap.objs.size,[s1.heap.objs.size],_,_,H1,rfl,I1.kept (t':=s1.toks) fun b o e=>qr _ e,T,st,fun b hb=>?_,q⟩
  have e:b=s1.heap.objs.size:=by simpa using hb
  subst e
  exact I1.fpOk (qu _) (I1.hok.fresh (qu _))
 cases ha:x.cps.all (· < 128)
 ·exact wpAny_pyIter_wide ha (fin _ _ ⟨_,qE _ rfl,rfl,rfl⟩ (zjy _ x t (fun A' hA=>Walks.strWide hA _ x t) fun _ _ _ _ _ st h=>wpAny_pyIter_striter_wide st h))
 ·exact wpAny_pyIter_ascii ha (fin _ _ ⟨_,qE _ rfl,rfl,rfl⟩ (zjy _ x t (fun A' hA=>Walks.strAscii hA _ x t) fun _ _ _ _ _ st h=>wpAny_pyIter_striter_ascii st h))
def Ite (K:PySem.W.Frag) (a:Addr):It :=
 ⟨fun i H=>∃ xs x,SqL K H a xs/\xs[i]?=some x,fun i H v H'=>∃ T x,v=.ref T/\H T=none/\H'=upd H T (.tup [.int i,x])/\∀ xs,SqL K H a xs->xs[i]?=some x,fun i H=>∃ xs,SqL K H a xs/\xs.length<=i⟩
theorem zkZ {P:Program} {w:World} {K:PySem.W.Frag} {elts:List Expr} {k1:Nat} {pos:Pos} (e it a:Addr) (hei:e≠it) :
  Turn P w K (.Tuple elts k1 pos) (Ite K a) [e,it] e (fun i h=>(∃ old,IsEnum h e it i old)/\h.IsListIter it a i) where
 mem:=by simp
 obj:=fun i h st b hb=>by
  obtain ⟨⟨old,he⟩,o,ho,c,d⟩:=st
  rcases List.mem_cons.mp hb with z | z
  ·subst z
   exact ⟨_,he,fun v z=>by cases z⟩
  ·have z':b=it:=by simpa using z
   subst z'
   exact ⟨o,ho,fun v z=>by rw [d] at z;cases z⟩
 keep:=fun i h h' st k=>by
  obtain ⟨⟨old,he⟩,hi⟩:=st
  exact ⟨⟨old,k e (by simp) _ he⟩,hi.at fun o x=>k it (by simp) o x⟩
 item:=by
  intro X hP hw hK hc i pins s σ H E I hf st hg
  subst hP hw hK
  obtain ⟨xs,x,hq,hx⟩:=hg
  obtain ⟨its,rv,p,hz⟩:=I.list hq
  obtain ⟨u,hu,ru⟩:=rv.get hx
  obtain ⟨⟨old,he⟩,hit⟩:=st
  obtain ⟨e0,e1,e2,e3,e4,e5⟩:=hf e (by simp)
  obtain ⟨f0,f1,f2,f3,f4,f5⟩:=hf it (by simp)
  have helt:e < s.heap.objs.size:=qt he
  have hilt:it < s.heap.objs.size:=by obtain ⟨_,x,_⟩:=hit;exact qt x
  refine wpAny_pyNext_enum_item he hit p.isList (x:=u) (by simpa using hu) hei fun h' ho hit' hT hsz hk=>?_
  refine ⟨_,rfl,wpAny_letOwnedTupleGo_enum ho fun h2 he2 hs2=>?_⟩
  have hs2':Heap.SameBut e h' h2:=hs2
  have kk:∀ b o,b≠e->b≠it->s.heap.get? b=some o->h2.get? b=some o:=fun b o h1 h3 q=>(hs2'.2 b h1).trans (hk b o h1 h3 q)
  have hT2:h2.get? s.heap.objs.size=some { cls:=.type "tuple",data:=.seq #[.int i s.toks,u] }:=(hs2'.2 _ (Nat.ne_of_gt helt)).trans hT
  have nH:H s.heap.objs.size=none:=I.fresh
  have I1:Inv X pins σ (upd H s.heap.objs.size (.tup [.int i,x])) { s with heap:=h2,toks:=s.toks+1 }:=by
   have ne:∀ b o,H b=some o->b≠e/\b≠it:=fun b o q=>⟨fun z=>(by rw [z,e0] at q;cases q),fun z=>(by rw [z,f0] at q;cases q)⟩
   refine I.step (g':=s.gens) (d':=s.drawn) (ch:=[e,it]) (fun b hb=>?_) (fun b o _ _ hc q _=>kk b o (fun z=>hc (by simp [z])) (fun z=>hc (by simp [z])) q) (fun b o _ _ hc q _=>⟨o.slots,kk b o (fun z=>hc (by simp [z])) (fun z=>hc (by simp [z])) q⟩) (fun b o _ q n=>?_)
    (fun b o hc q=>⟨o,kk b o (fun z=>hc (by simp [z])) (fun z=>hc (by simp [z])) q⟩) (fun b ys q=>?_) (fun b o y q=>?_) (fun b ps q=>⟨#[],?_⟩) (fun m hm=>?_) (fun b v q=>?_) I.bare
   ·rcases List.mem_cons.mp hb with z | z
    ·subst z;exact ⟨e3,e1,e4,e5⟩
    ·have z':b=it:=by simpa using z
     subst z';exact ⟨f3,f1,f4,f5⟩
   ·rw [zaq (qA (qt q))];exact n
   ·rw [zaq (zas q nH)];exact q
   ·rw [zaq (zas q nH)];exact q
   ·rw [zaq (zas q nH),q];simp
   ·obtain ⟨o,es,ep,q,r⟩:=hm
    exact ⟨o,es,ep,kk _ o (Ne.symm e1) (Ne.symm f1) q,r⟩
   ·by_cases hb:b=s.heap.objs.size
    ·subst hb
     rw [zav] at q
     cases q
     exact ⟨by show 2<=sizeLine;decide,[.int i s.toks,u],.cons ⟨_,rfl⟩ (.cons ru .nil),⟨_,hT2,rfl,_,rfl⟩⟩
    ·rw [zaq hb] at q
     refine (I.hok b v q).stay (fun c v hc r=>?_) (fun c r=>by rw [zaq (zas r nH)];exact r) fun c ys r=>by rw [zaq (zas r nH)];exact r
     rcases hc with z | z
     ·rw [z] at r ⊢;exact kk b v (ne b _ q).1 (ne b _ q).2 r
     ·exact kk c v (ne c _ z).1 (ne c _ z).2 r
  refine ⟨.ref s.heap.objs.size,_,I1,rfl,⟨_,x,rfl,nH,rfl,fun ys hy=>by rw [I.list_inj hy hq];exact hx⟩,⟨⟨_,by simpa using he2⟩,hit'.at fun o y=>(hs2'.2 it hei.symm).trans y⟩,fun b hb=>?_⟩
  rcases List.mem_cons.mp hb with z | z
  ·subst z;rw [zaq (qA helt)];exact e0
  ·have z':b=it:=by simpa using z
   subst z';rw [zaq (qA hilt)];exact f0
 done:=by
  intro X hP hw hK hc i pins s σ H E I hf st hg
  subst hP hw hK
  obtain ⟨xs,hq,hx⟩:=hg
  obtain ⟨its,rv,p,hz⟩:=I.list hq
  obtain ⟨⟨old,he⟩,hit⟩:=st
  obtain ⟨f0,f1,f2,f3,f4,f5⟩:=hf it (by simp)
  have hl:=rv.length
  exact wpAny_pyNext_enum_end (I.ok.hd hc) he hit p.isList (by simp;omega) fun h' eb=>⟨rfl,I.turned (t':=s.toks) (fun b o hb e=>eb b o hb e) f0 f1 f3 f4 f5⟩
 self:=fun A i s Q E st h=>by
  obtain ⟨⟨old,he⟩,_⟩:=st
  exact wpAny_pyIter_enum he h
def zsR (K:PySem.W.Frag) (ta:TA):TI:=fun σ H R=>ta σ H fun vs H1=>∃ a,vs=[.ref a]/\(∃ xs,SqL K H1 a xs)/\R (Ite K a) H1
theorem zoY {X:Cx} {a:Expr} {ta:TA} {p pos:Pos} {elts:List Expr} {k1:Nat} {tpos:Pos} (hg:Gl X "enumerate") (hm:X.mg "enumerate"=none) (ha:PA X [a] ta) (hs:starEach [a] X.env=[(false,eval a X.env)]:=by rfl) :
  PI X (.Tuple elts k1 tpos) (.Call (.Name "enumerate" p) [a] [] pos) (zsR X.K ta):=by
 intro pins s σ H R I h
 refine Call_ (zg5 I hg hm PyProof.Rows.boot_enumerate (PyProof.Rows.callWith_type1 (thn (ha pos pins s σ H _ I h) fun us s1 ⟨vs,H1,I1,r1,q1⟩=>?_) hs rfl))
 obtain ⟨l,e,⟨xs,hq⟩,q⟩:=q1
 subst e
 obtain ⟨u,rfl,r2⟩:=zeT r1
 cases r2
 obtain ⟨its,rv,pl,hz⟩:=I1.list hq
 refine call_enumerate_list pl.isList fun h' he hit hsz hk=>?_
 have I2:Inv X pins σ H1 { s1 with heap:=h' }:=I1.kept (t':=s1.toks) hk
 refine wpAny_pyIter_enum he ?_
 refine ⟨s1.heap.objs.size+1,[s1.heap.objs.size+1,s1.heap.objs.size],_,_,H1,rfl,I2,zkZ _ _ l (Nat.succ_ne_self _),⟨⟨_,he⟩,hit⟩,fun b hb=>?_,q⟩
 rcases List.mem_cons.mp hb with z | z
 ·subst z;exact I1.fpOk (Nat.le_succ _) (I1.hok.fresh (Nat.le_succ _))
 ·have z':b=s1.heap.objs.size:=by simpa using z
  subst z';exact I1.fpOk (qu _) (I1.hok.fresh (qu _))
end L2
end
section
namespace L2
open PySem PySem.Spec PyProof.Rows
inductive D where
 | non | bl (b:Bool) | int (i:Int) | str (x:Str) | tup (l:List D) | lst (l:List D) | scr (ns:List Int)
 | dk (l:List (Key×D)) | dt (l:List (List Key×D)) | ins (c:Str) (fs:List (Str×D)) | ty (n:String)
structure Cn where
 cls:Str->Option Addr
 self:Option Addr:=none
mutual
inductive Rep (Γ:Cn) (K:PySem.W.Frag) (G:Hp):V->D->Prop where
 | non:Rep Γ K G .non .non
 | bl (b:Bool):Rep Γ K G (.bl b) (.bl b)
 | int (i:Int):Rep Γ K G (.int i) (.int i)
 | str (x:Str):Rep Γ K G (.str x) (.str x)
 | ty (n:String):Rep Γ K G (.ty n) (.ty n)
 | tup {a:Addr} {vs:List V} {ds:List D}:G a=some (.tup vs)->Reps Γ K G vs ds->Rep Γ K G (.ref a) (.tup ds)
 | lst {a:Addr} {vs:List V} {ds:List D}:G a=some (.lst vs)->Reps Γ K G vs ds->Rep Γ K G (.ref a) (.lst ds)
 | scr {a:Addr} {ns:List Int}:SqL K G a (ns.map V.int)->Rep Γ K G (.ref a) (.scr ns)
 | dk {a:Addr} {us:List (Key×V)} {kvs:List (Key×D)}:G a=some (.dK us)->us.map (·.1)=kvs.map (·.1)->Reps Γ K G (us.map (·.2)) (kvs.map (·.2))->Rep Γ K G (.ref a) (.dk kvs)
 | dt {a:Addr} {us:List (List Key×V)} {kvs:List (List Key×D)}:G a=some (.dT us)->us.map (·.1)=kvs.map (·.1)->Reps Γ K G (us.map (·.2)) (kvs.map (·.2))->Rep Γ K G (.ref a) (.dt kvs)
 | ins {a C dx:Addr} {c:Str} {us:List (Str×V)} {fs:List (Str×D)}:G a=some (.ins C dx us)->Γ.cls c=some C->us.map (·.1)=fs.map (·.1)->Reps Γ K G (us.map (·.2)) (fs.map (·.2))->Rep Γ K G (.ref a) (.ins c fs)
inductive Reps (Γ:Cn) (K:PySem.W.Frag) (G:Hp):List V->List D->Prop where
 | nil:Reps Γ K G [] []
 | cons {v:V} {d:D} {vs:List V} {ds:List D}:Rep Γ K G v d->Reps Γ K G vs ds->Reps Γ K G (v::vs) (d::ds)
end
section
variable {Γ:Cn} {K:PySem.W.Frag} {G G' G1 H H' H1 H2 G2:Hp}
mutual
theorem Rep.mono:∀ {v:V} {d:D},Rep Γ K G v d->zbT G G'->Rep Γ K G' v d
 | _,_,.non,_=>.non
 | _,_,.bl b,_=>.bl b
 | _,_,.int i,_=>.int i
 | _,_,.str x,_=>.str x
 | _,_,.ty x,_=>.ty x
 | _,_,.tup h r,s=>.tup (s _ _ h) (r.mono s)
 | _,_,.lst h r,s=>.lst (s _ _ h) (r.mono s)
 | _,_,.scr h,s=>.scr (s.seq h)
 | _,_,.dk h e r,s=>.dk (s _ _ h) e (r.mono s)
 | _,_,.dt h e r,s=>.dt (s _ _ h) e (r.mono s)
 | _,_,.ins h c e r,s=>.ins (s _ _ h) c e (r.mono s)
theorem Reps.mono:∀ {vs:List V} {ds:List D},Reps Γ K G vs ds->zbT G G'->Reps Γ K G' vs ds
 | _,_,.nil,_=>.nil
 | _,_,.cons h r,s=>.cons (h.mono s) (r.mono s)
end
mutual
theorem Rep.re {Γ':Cn} (hc:Γ'.cls=Γ.cls):∀ {v:V} {d:D},Rep Γ K G v d->Rep Γ' K G v d
 | _,_,.non=>.non
 | _,_,.bl b=>.bl b
 | _,_,.int i=>.int i
 | _,_,.str x=>.str x
 | _,_,.ty x=>.ty x
 | _,_,.tup h r=>.tup h (r.re hc)
 | _,_,.lst h r=>.lst h (r.re hc)
 | _,_,.scr h=>.scr h
 | _,_,.dk h e r=>.dk h e (r.re hc)
 | _,_,.dt h e r=>.dt h e (r.re hc)
 | _,_,.ins h c e r=>.ins h (by rw [hc];exact c) e (r.re hc)
theorem Reps.re {Γ':Cn} (hc:Γ'.cls=Γ.cls):∀ {vs:List V} {ds:List D},Reps Γ K G vs ds->Reps Γ' K G vs ds
 | _,_,.nil=>.nil
 | _,_,.cons h r=>.cons (h.re hc) (r.re hc)
end
theorem Reps.length:∀ {vs:List V} {ds:List D},Reps Γ K G vs ds->vs.length=ds.length
 | _,_,.nil=>rfl
 | _,_,.cons _ r=>by rw [qh,qh,r.length]
theorem Reps.get:∀ {vs:List V} {ds:List D} {i:Nat} {d:D},Reps Γ K G vs ds->ds[i]?=some d->∃ v,vs[i]?=some v/\Rep Γ K G v d
 | _,_,_,_,.nil,e=>by simp at e
 | _,_,0,_,.cons r _,e=>by simp at e;subst e;exact ⟨_,rfl,r⟩
 | _,_,i+1,d,.cons _ t,e=>by
  obtain ⟨u,h1,h2⟩:=Reps.get (i:=i) (d:=d) t (by simpa using e)
  exact ⟨u,by simpa using h1,h2⟩
theorem Reps.append:∀ {vs ws:List V} {ds es:List D},Reps Γ K G vs ds->Reps Γ K G ws es->Reps Γ K G (vs++ws) (ds++es)
 | _,_,_,_,.nil,s=>s
 | _,_,_,_,.cons r t,s=>.cons r (t.append s)
theorem Reps.take:∀ {vs:List V} {ds:List D} (n:Nat),Reps Γ K G vs ds->Reps Γ K G (vs.take n) (ds.take n)
 | _,_,0,_=>.nil
 | _,_,_+1,.nil=>.nil
 | _,_,n+1,.cons r t=>.cons r (t.take n)
theorem Reps.drop:∀ {vs:List V} {ds:List D} (n:Nat),Reps Γ K G vs ds->Reps Γ K G (vs.drop n) (ds.drop n)
 | _,_,0,r=>r
 | _,_,_+1,.nil=>.nil
 | _,_,n+1,.cons _ t=>t.drop n
theorem Reps.ints:∀ (ns:List Int),Reps Γ K G (ns.map V.int) (ns.map D.int)
 | []=>.nil
 | n::r=>.cons (.int n) (Reps.ints r)
theorem Reps.rep {vs:List V} {ds:List D} (h:Reps Γ K G vs ds):∀ k:Nat,Reps Γ K G (List.replicate k vs).flatten (List.replicate k ds).flatten
 | 0=>.nil
 | k+1=>by
  rw [List.replicate_succ,List.replicate_succ,List.flatten_cons,List.flatten_cons]
  exact h.append (Reps.rep h k)
structure Step (G H G' H':Hp):Prop where
 hh:zbT H H'
 gg:zbT G G'
 gh:zbT G' H'
 out:∀ a o,H a=some o->G' a=G a
theorem Step.refl (gh:zbT G H):Step G H G H:=⟨.refl _,.refl _,gh,fun _ _ _=>rfl⟩
theorem Step.trans (a:Step G H G1 H1) (b:Step G1 H1 G2 H2):Step G H G2 H2 :=
 ⟨a.hh.trans b.hh,a.gg.trans b.gg,b.gh,fun c o e=>(b.out c o (a.hh c o e)).trans (a.out c o e)⟩
theorem Step.new {p:Addr} {o:HO} (gh:zbT G H) (hp:H p=none):Step G H (upd G p o) (upd H p o):=by
 have gp:G p=none:=gh.free hp
 refine ⟨fun b u e=>?_,fun b u e=>?_,fun b u e=>?_,fun b u e=>?_⟩
 ·rw [zaq (zas e hp)];exact e
 ·rw [zaq (zas e gp)];exact e
 ·by_cases hb:b=p
  ·subst hb;rw [zav] at e ⊢;exact e
  ·rw [zaq hb] at e ⊢;exact gh b u e
 ·rw [zaq (zas e hp)]
theorem Step.newOwn {p:Addr} {o:HO} (gh:zbT G H) (hp:H p=none):Step G H G (upd H p o):=by
 refine ⟨fun b u e=>?_,.refl _,fun b u e=>?_,fun _ _ _=>rfl⟩
 ·rw [zaq (zas e hp)];exact e
 ·rw [zaq (zas (gh b u e) hp)];exact gh b u e
end
inductive Slot where
 | sh (d:D)
 | own (ds:List D)
 | obj (c:Str) (fs:List (Str×D))
 | objd (c:Str) (fs:List (Str×D)) (n:Str) (kvs:List (Key×D))
 | odk (kvs:List (Key×D))
 | odt (kvs:List (List Key×D))
 | tlo (ds es:List D)
 | pin (a:Addr)
abbrev za5:=List (Option Slot)
def zsV:D->Bool
 | .non=>true
 | .bl _=>true
 | .int _=>true
 | .str _=>true
 | _=>false
inductive SR (Γ:Cn) (K:PySem.W.Frag) (H₀ G H:Hp):Slot->V->List Addr->Prop where
 | sh {d:D} {v:V}:Rep Γ K G v d->SR Γ K H₀ G H (.sh d) v []
 | own {a:Addr} {vs:List V} {ds:List D}:H₀ a=none->G a=none->H a=some (.lst vs)->Reps Γ K G vs ds->SR Γ K H₀ G H (.own ds) (.ref a) [a]
 | obj {c:Str} {a C dx:Addr} {vs:List (Str×V)} {fs:List (Str×D)}:Γ.cls c=some C->H₀ a=none->G a=none->H a=some (.ins C dx vs)->vs.map (·.1)=fs.map (·.1)->Reps Γ K G (vs.map (·.2)) (fs.map (·.2))->Γ.self=some a->SR Γ K H₀ G H (.obj c fs) (.ref a) [a]
 | objd {c n:Str} {a C dx p:Addr} {vs:List (Str×V)} {fs:List (Str×D)} {us:List (Key×V)} {kvs:List (Key×D)}:Γ.cls c=some C->H₀ a=none->G a=none->H a=some (.ins C dx (vs++[(n,.ref p)]))->vs.map (·.1)=fs.map (·.1)->Reps Γ K G (vs.map (·.2)) (fs.map (·.2)) ->
   H₀ p=none->G p=none->H p=some (.dK us)->us.map (·.1)=kvs.map (·.1)->Reps Γ K G (us.map (·.2)) (kvs.map (·.2))->Γ.self=some a->SR Γ K H₀ G H (.objd c fs n kvs) (.ref a) [a,p]
 | odk {a:Addr} {us:List (Key×V)} {kvs:List (Key×D)}:H₀ a=none->G a=none->H a=some (.dK us)->us.map (·.1)=kvs.map (·.1)->Reps Γ K G (us.map (·.2)) (kvs.map (·.2))->SR Γ K H₀ G H (.odk kvs) (.ref a) [a]
 | odt {a:Addr} {us:List (List Key×V)} {kvs:List (List Key×D)}:H₀ a=none->G a=none->H a=some (.dT us)->us.map (·.1)=kvs.map (·.1)->Reps Γ K G (us.map (·.2)) (kvs.map (·.2))->SR Γ K H₀ G H (.odt kvs) (.ref a) [a]
 | tlo {t p:Addr} {vs ws:List V} {ds es:List D}:H₀ p=none->G p=none->H p=some (.lst ws)->G t=some (.tup (vs++[.ref p]))->Reps Γ K G vs ds->Reps Γ K G ws es->SR Γ K H₀ G H (.tlo ds es) (.ref t) [p]
 | pin (a:Addr):SR Γ K H₀ G H (.pin a) (.ref a) []
section
variable {Γ:Cn} {K:PySem.W.Frag} {H₀ G G' H H':Hp} {s:Slot} {v:V} {fp:List Addr}
theorem SR.fpt (r:SR Γ K H₀ G H s v fp):∀ b∈fp,H₀ b=none/\G b=none/\∃ o,H b=some o:=by
 cases r with
 | sh r=>intro b hb;cases hb
 | own h1 h2 h3 _=>intro b hb;rw [List.mem_singleton.mp hb];exact ⟨h1,h2,_,h3⟩
 | obj _ h1 h2 h3 _ _ _=>intro b hb;rw [List.mem_singleton.mp hb];exact ⟨h1,h2,_,h3⟩
 | objd _ h1 h2 h3 _ _ q1 q2 q3 _ _ _ =>
  intro b hb
  rcases List.mem_cons.mp hb with rfl | hb
  ·exact ⟨h1,h2,_,h3⟩
  ·rw [List.mem_singleton.mp hb];exact ⟨q1,q2,_,q3⟩
 | odk h1 h2 h3 _ _=>intro b hb;rw [List.mem_singleton.mp hb];exact ⟨h1,h2,_,h3⟩
 | odt h1 h2 h3 _ _=>intro b hb;rw [List.mem_singleton.mp hb];exact ⟨h1,h2,_,h3⟩
 | tlo h1 h2 h3 _ _ _=>intro b hb;rw [List.mem_singleton.mp hb];exact ⟨h1,h2,_,h3⟩
 | pin a=>intro b hb;cases hb
theorem SR.stay (r:SR Γ K H₀ G H s v fp) (gg:zbT G G') (hg:∀ b∈fp,G' b=none) (hh:∀ b∈fp,H' b=H b):SR Γ K H₀ G' H' s v fp:=by
 cases r with
 | sh r=>exact .sh (r.mono gg)
 | own h1 h2 h3 h4=>exact .own h1 (hg _ (List.mem_singleton.mpr rfl)) ((hh _ (List.mem_singleton.mpr rfl)).trans h3) (h4.mono gg)
 | obj c h1 h2 h3 h4 h5 hs=>exact .obj c h1 (hg _ (List.mem_singleton.mpr rfl)) ((hh _ (List.mem_singleton.mpr rfl)).trans h3) h4 (h5.mono gg) hs
 | objd c h1 h2 h3 h4 h5 q1 q2 q3 q4 q5 hs =>
  exact .objd c h1 (hg _ qf) ((hh _ qf).trans h3) h4 (h5.mono gg) q1 (hg _ (qg _ qf)) ((hh _ (qg _ qf)).trans q3) q4 (q5.mono gg) hs
 | odk h1 h2 h3 h4 h5=>exact .odk h1 (hg _ (List.mem_singleton.mpr rfl)) ((hh _ (List.mem_singleton.mpr rfl)).trans h3) h4 (h5.mono gg)
 | odt h1 h2 h3 h4 h5=>exact .odt h1 (hg _ (List.mem_singleton.mpr rfl)) ((hh _ (List.mem_singleton.mpr rfl)).trans h3) h4 (h5.mono gg)
 | pin a=>exact .pin a
 | tlo h1 h2 h3 h4 h5 h6=>exact .tlo h1 (hg _ (List.mem_singleton.mpr rfl)) ((hh _ (List.mem_singleton.mpr rfl)).trans h3) (gg _ _ h4) (h5.mono gg) (h6.mono gg)
theorem SR.stepS (r:SR Γ K H₀ G H s v fp) (t:Step G H G' H'):SR Γ K H₀ G' H' s v fp:=r.stay t.gg (fun b hb=>by
 obtain ⟨_,h2,o,h3⟩:=r.fpt b hb
 exact (t.out b o h3).trans h2) (fun b hb=>by
 obtain ⟨_,_,o,h3⟩:=r.fpt b hb
 rw [h3];exact t.hh b o h3)
end
theorem SR.uniq {Γ:Cn} {K:PySem.W.Frag} {H₀ G H:Hp} {s:Slot} {v:V} {fp fq:List Addr} (r:SR Γ K H₀ G H s v fp) (q:SR Γ K H₀ G H s v fq):fp=fq:=by
 cases r with
 | sh r=>cases q;rfl
 | own h1 h2 h3 _=>cases q;rfl
 | obj _ h1 h2 h3 _ _ _=>cases q;rfl
 | objd _ h1 h2 h3 _ _ q1 q2 q3 _ _ _ =>
  cases q with
  | objd _ _ _ k3 _ _ _ _ _ _ _ _ =>
   rw [h3] at k3
   have z:=(HO.ins.inj (qF k3)).2.2
   have z2:=(List.append_inj' z rfl).2
   cases z2
   rfl
 | odk h1 h2 h3 _ _=>cases q;rfl
 | odt h1 h2 h3 _ _=>cases q;rfl
 | pin a=>cases q;rfl
 | tlo _ _ _ h4 _ _ =>
  cases q with
  | tlo _ _ _ k4 _ _ =>
   rw [h4] at k4
   have z:=HO.tup.inj (qF k4)
   have z2:=(List.append_inj' z rfl).2
   cases z2
   rfl
structure EnvRel (Γ:Cn) (K:PySem.W.Frag) (H₀ G H:Hp) (ρ:za5) (σ:St):Prop where
 len:ρ.length=σ.length
 sl:∃ fps:Nat->List Addr,(∀ (i:Nat) s,ρ[i]?=some (some s)->∃ v,σ[i]?=some (some v)/\SR Γ K H₀ G H s v (fps i)) /\
  ∀ (i j:Nat) s t,i≠j->ρ[i]?=some (some s)->ρ[j]?=some (some t)->∀ b∈fps i,b∉fps j
structure At (Γ:Cn) (K:PySem.W.Frag) (G₀ H₀ G H:Hp) (ρ:za5) (σ:St):Prop where
 st:Step G₀ H₀ G H
 env:EnvRel Γ K H₀ G H ρ σ
def ze9 (ρ:za5):Prop:=∀ (i:Nat) s,ρ[i]?=some (some s)->∃ d,s=.sh d
section
variable {Γ:Cn} {K:PySem.W.Frag} {G₀ H₀ G G' H H':Hp} {ρ:za5} {σ:St}
theorem EnvRel.ofSh (len:ρ.length=σ.length) (no:ze9 ρ) (sh:∀ (i:Nat) d,ρ[i]?=some (some (.sh d))->∃ v,σ[i]?=some (some v)/\Rep Γ K G v d):EnvRel Γ K H₀ G H ρ σ :=
 ⟨len,fun _=>[],fun i s e=>by
  obtain ⟨d,rfl⟩:=no i s e
  obtain ⟨v,h1,h2⟩:=sh i d e
  exact ⟨v,h1,.sh h2⟩,fun _ _ _ _ _ _ _ b hb=>by cases hb⟩
theorem EnvRel.sh (E:EnvRel Γ K H₀ G H ρ σ) (i:Nat) (d:D) (e:ρ[i]?=some (some (.sh d))):∃ v,σ[i]?=some (some v)/\Rep Γ K G v d:=by
 obtain ⟨fps,h,_⟩:=E.sl
 obtain ⟨v,h1,h2⟩:=h i _ e
 generalize fps i=fp at h2
 cases h2 with
 | sh r=>exact ⟨v,h1,r⟩
theorem EnvRel.own (E:EnvRel Γ K H₀ G H ρ σ) (i:Nat) (ds:List D) (e:ρ[i]?=some (some (.own ds))):∃ a vs,σ[i]?=some (some (.ref a))/\H₀ a=none/\G a=none/\H a=some (.lst vs)/\Reps Γ K G vs ds:=by
 obtain ⟨fps,h,_⟩:=E.sl
 obtain ⟨v,h1,h2⟩:=h i _ e
 generalize fps i=fp at h2
 cases h2 with
 | own q1 q2 q3 q4=>exact ⟨_,_,h1,q1,q2,q3,q4⟩
theorem At.gh (A:At Γ K G₀ H₀ G H ρ σ):zbT G H:=A.st.gh
theorem At.step (A:At Γ K G₀ H₀ G H ρ σ) (s:Step G H G' H'):At Γ K G₀ H₀ G' H' ρ σ:=by
 obtain ⟨fps,h,ap⟩:=A.env.sl
 exact ⟨A.st.trans s,A.env.len,fps,fun i t e=>by
  obtain ⟨v,h1,h2⟩:=h i t e
  exact ⟨v,h1,h2.stepS s⟩,ap⟩
theorem At.put (A:At Γ K G₀ H₀ G H ρ σ) {i:Nat} {s':Slot} {v':V} {fp fp':List Addr}
  (hfp:fp=[]\/∃ s v,ρ[i]?=some (some s)/\σ[i]?=some (some v)/\SR Γ K H₀ G H s v fp)
  (hH:∀ b o,H b=some o->b∉fp->H' b=some o) (hS:SR Γ K H₀ G' H' s' v' fp') (hn:∀ b∈fp',b∈fp\/H b=none)
  (gg:zbT G G') (gh:zbT G' H') (out:∀ b o,H b=some o->b∉fp->G' b=G b) (out2:∀ b∈fp,H₀ b=none):At Γ K G₀ H₀ G' H' (ρ.set i (some s')) (σ.set i (some v')):=by
 obtain ⟨fps,h,ap⟩:=A.env.sl
 have hl:=A.env.len
 have old:∀ b∈fp,∀ j t,j≠i->ρ[j]?=some (some t)->b∉fps j:=fun b hb j t hj e=>by
  rcases hfp with rfl | ⟨s,v,h1,h2,h3⟩
  ·cases hb
  ·obtain ⟨v2,h4,h5⟩:=h i s h1
   rw [h2] at h4
   cases h4
   have efp:fp=fps i:=h3.uniq h5
   subst efp
   exact ap i j s t (Ne.symm hj) h1 e b hb
 have slj:∀ (j:Nat) t,j≠i->ρ[j]?=some (some t)->∃ v,σ[j]?=some (some v)/\SR Γ K H₀ G' H' t v (fps j):=fun j t hj e=>by
  obtain ⟨v,h1,h2⟩:=h j t e
  refine ⟨v,h1,h2.stay gg (fun b hb=>?_) (fun b hb=>?_)⟩
  ·obtain ⟨_,q2,o,q3⟩:=h2.fpt b hb
   exact (out b o q3 fun z=>old b z j t hj e hb).trans q2
  ·obtain ⟨_,_,o,q3⟩:=h2.fpt b hb
   rw [q3];exact hH b o q3 fun z=>old b z j t hj e hb
 have no2:∀ b o,H₀ b=some o->b∉fp:=fun b o e z=>by rw [out2 b z] at e;cases e
 have hst:Step G₀ H₀ G' H':=⟨fun b o e=>hH b o (A.st.hh b o e) (no2 b o e),A.st.gg.trans gg,gh,fun b o e=>(out b o (A.st.hh b o e) (no2 b o e)).trans (A.st.out b o e)⟩
 refine ⟨hst,by simp [hl],fun j=>if j=i then fp' else fps j,fun j t e=>?_,fun j k t u hjk e1 e2 b hb=>?_⟩
 ·by_cases hj:j=i
  ·subst hj
   have hlt:j < ρ.length:=by
    rcases Nat.lt_or_ge j ρ.length with q | q
    ·exact q
    ·rw [List.getElem?_eq_none (by simp;omega)] at e;cases e
   rw [List.getElem?_set_self hlt] at e
   cases e
   show ∃ v,_/\SR _ _ _ _ _ _ v (if j=j then fp' else fps j)
   rw [qX rfl]
   exact ⟨v',by rw [List.getElem?_set_self (by omega)],hS⟩
  ·rw [qw (Ne.symm hj)] at e ⊢
   show ∃ v,_/\SR _ _ _ _ _ _ v (if j=i then fp' else fps j)
   rw [qY hj]
   exact slj j t hj e
 ·have cross:∀ {k:Nat} {u:Slot},k≠i->ρ[k]?=some (some u)->∀ b∈fp',b∉fps k:=fun {k u} hk e b hb hb2=>by
   rcases hn b hb with z | z
   ·exact old b z k u hk e hb2
   ·obtain ⟨v,_,q⟩:=h k u e
    obtain ⟨_,_,o,q3⟩:=q.fpt b hb2
    rw [z] at q3;cases q3
  replace hb:b∈(if j=i then fp' else fps j):=hb
  show b∉(if k=i then fp' else fps k)
  by_cases hj:j=i
  ·subst hj
   have hk:k≠j:=Ne.symm hjk
   rw [qX rfl] at hb
   rw [qY hk]
   rw [qw hjk] at e2
   exact cross hk e2 b hb
  ·rw [qY hj] at hb
   rw [qw (Ne.symm hj)] at e1
   by_cases hk:k=i
   ·subst hk
    rw [qX rfl]
    exact fun z=>cross hj e1 b z hb
   ·rw [qY hk]
    rw [qw (Ne.symm hk)] at e2
    exact ap j k t u hjk e1 e2 b hb
theorem At.setSh (A:At Γ K G₀ H₀ G H ρ σ) {i:Nat} {v:V} {d:D} (r:Rep Γ K G v d):At Γ K G₀ H₀ G H (ρ.set i (some (.sh d))) (σ.set i (some v)) :=
 A.put (fp:=[]) (fp':=[]) (.inl rfl) (fun b o e _=>e) (.sh r) (fun b hb=>by cases hb) (.refl _) A.gh (fun _ _ _ _=>rfl) (fun b hb=>by cases hb)
theorem At.setOwn (A:At Γ K G₀ H₀ G H ρ σ) {i:Nat} {a:Addr} {vs:List V} {ds:List D} (ha:H a=none) (r:Reps Γ K G vs ds):At Γ K G₀ H₀ G (upd H a (.lst vs)) (ρ.set i (some (.own ds))) (σ.set i (some (.ref a))):=by
 have h0:H₀ a=none:=A.st.hh.free ha
 have hg:G a=none:=A.gh.free ha
 refine A.put (fp:=[]) (fp':=[a]) (.inl rfl) (fun b o e _=>by rw [zaq (zas e ha)];exact e) (.own h0 hg zav r) (fun b hb=>.inr (by rw [List.mem_singleton.mp hb];exact ha)) (.refl _) (fun b o e=>?_) (fun _ _ _ _=>rfl) (fun b hb=>by cases hb)
 rw [zaq (zas e hg)];exact A.gh b o e
theorem zh9 {α:Type} {l:List α} {i:Nat} {x:α} (h:l[i]?=some x):l.set i x=l:=by
 apply List.ext_getElem?
 intro j
 by_cases hj:j=i
 ·subst hj
  rw [List.getElem?_set_self (List.getElem?_eq_some_iff.mp h).1,h]
 ·rw [qw (Ne.symm hj)]
theorem At.ch (A:At Γ K G₀ H₀ G H ρ σ) {i:Nat} {s s':Slot} {v:V} {fp fp':List Addr} (hi:ρ[i]?=some (some s)) (hv:σ[i]?=some (some v)) (hs:SR Γ K H₀ G H s v fp)
  (hH:∀ b o,H b=some o->b∉fp->H' b=some o) (hS:SR Γ K H₀ G' H' s' v fp') (hn:∀ b∈fp',b∈fp\/H b=none)
  (gg:zbT G G') (gh:zbT G' H') (out:∀ b o,H b=some o->b∉fp->G' b=G b):At Γ K G₀ H₀ G' H' (ρ.set i (some s')) σ:=by
 have:=A.put (i:=i) (.inr ⟨s,v,hi,hv,hs⟩) hH hS hn gg gh out fun b hb=>(hs.fpt b hb).1
 rwa [zh9 hv] at this
theorem At.get (A:At Γ K G₀ H₀ G H ρ σ) {i:Nat} {s:Slot} (hi:ρ[i]?=some (some s)):∃ v fp,σ[i]?=some (some v)/\SR Γ K H₀ G H s v fp:=by
 obtain ⟨fps,h,_⟩:=A.env.sl
 obtain ⟨v,h1,h2⟩:=h i s hi
 exact ⟨v,_,h1,h2⟩
theorem At.chOwn (A:At Γ K G₀ H₀ G H ρ σ) {i:Nat} {a:Addr} {ds es:List D} {ws:List V} (hi:ρ[i]?=some (some (.own ds))) (ha:σ[i]?=some (some (.ref a))) (r:Reps Γ K G ws es):At Γ K G₀ H₀ G (upd H a (.lst ws)) (ρ.set i (some (.own es))) σ:=by
 obtain ⟨v,fp,h1,h2⟩:=A.get hi
 rw [ha] at h1
 cases h1
 cases h2 with
 | own q1 q2 q3 q4 =>
  refine A.ch hi ha (.own q1 q2 q3 q4) (fun b o e hb=>?_) (.own q1 q2 zav r) (fun b hb=>.inl hb) (.refl _) (fun b o e=>?_) (fun _ _ _ _=>rfl)
  ·rw [zaq (fun z=>hb (List.mem_singleton.mpr z))];exact e
  ·rw [zaq (zas e q2)];exact A.gh b o e
theorem At.freeze (A:At Γ K G₀ H₀ G H ρ σ) {i:Nat} {ds:List D} (hi:ρ[i]?=some (some (.own ds))):∃ G',zbT G G'/\At Γ K G₀ H₀ G' H (ρ.set i (some (.sh (.lst ds)))) σ:=by
 obtain ⟨v,fp,h1,h2⟩:=A.get hi
 cases h2 with
 | own q1 q2 q3 q4 =>
  rename_i a vs
  have sm:zbT G (upd G a (.lst vs)):=fun b o e=>by rw [zaq (zas e q2)];exact e
  refine ⟨upd G a (.lst vs),sm,A.ch hi h1 (.own q1 q2 q3 q4) (fun b o e hb=>e) (.sh (.lst zav (q4.mono sm))) (fun b hb=>by cases hb) sm (fun b o e=>?_) (fun b o e hb=>?_)⟩
  ·by_cases hb:b=a
   ·subst hb;rw [zav] at e;cases e;exact q3
   ·rw [zaq hb] at e;exact A.gh b o e
  ·rw [zaq (fun z=>hb (List.mem_singleton.mpr z))]
end
end L2
end
section
namespace L2
open PySem PySem.Spec PyProof.Rows
mutual
inductive NewL (H G:Hp):V->D->Prop where
 | flat {v:V} {d:D}:zsV d=true->NewL H G v d
 | tup {a:Addr} {vs:List V} {ds:List D}:G a=some (.tup vs)->NewLs H G vs ds->NewL H G (.ref a) (.tup ds)
 | lst {a:Addr} {vs:List V} {ds:List D}:G a=some (.lst vs)->H a=none->NewLs H G vs ds->NewL H G (.ref a) (.lst ds)
inductive NewLs (H G:Hp):List V->List D->Prop where
 | nil:NewLs H G [] []
 | cons {v:V} {d:D} {vs:List V} {ds:List D}:NewL H G v d->NewLs H G vs ds->NewLs H G (v::vs) (d::ds)
end
section
variable {H H' G G':Hp}
mutual
theorem NewL.mono:∀ {v:V} {d:D},NewL H G v d->zbT G G'->zbT H' H->NewL H' G' v d
 | _,_,.flat h,_,_=>.flat h
 | _,_,.tup h r,s,t=>.tup (s _ _ h) (r.mono s t)
 | _,_,.lst h n r,s,t=>.lst (s _ _ h) (t.free n) (r.mono s t)
theorem NewLs.mono:∀ {vs:List V} {ds:List D},NewLs H G vs ds->zbT G G'->zbT H' H->NewLs H' G' vs ds
 | _,_,.nil,_,_=>.nil
 | _,_,.cons h r,s,t=>.cons (h.mono s t) (r.mono s t)
end
end
inductive Fl where
 | nx | bk | ct | rt (d:D) | ow (ds:List D) | nw (d:D) | od (kvs:List (Key×D))
abbrev FE:=za5->Option D
abbrev FT:=za5->Option Bool
abbrev FA:=za5->Option (List D)
abbrev FS:=za5->Option (Fl×za5)
def TD (Γ:Cn) (K:PySem.W.Frag) (f:FE):TE:=fun σ H Q=>∃ G₀ H₀ G ρ d,At Γ K G₀ H₀ G H ρ σ/\f ρ=some d/\∀ v G' H',Step G H G' H'->Rep Γ K G' v d->Q v H'
def TDt (Γ:Cn) (K:PySem.W.Frag) (f:FT):TT:=fun σ H Q=>∃ G₀ H₀ G ρ b,At Γ K G₀ H₀ G H ρ σ/\f ρ=some b/\∀ G' H',Step G H G' H'->Q b H'
def TDa (Γ:Cn) (K:PySem.W.Frag) (f:FA):TA:=fun σ H Q=>∃ G₀ H₀ G ρ ds,At Γ K G₀ H₀ G H ρ σ/\f ρ=some ds/\∀ vs G' H',Step G H G' H'->Reps Γ K G' vs ds->Q vs H'
def zth (Γ:Cn) (K:PySem.W.Frag) (E:Ends) (H₀ G' H':Hp) (σ':St):Fl->Prop
 | .nx=>E.nx σ' H'
 | .bk=>E.bk σ' H'
 | .ct=>E.ct σ' H'
 | .rt d=>∀ v,Rep Γ K G' v d->E.rt v H'
 | .ow ds=>∀ p vs,H₀ p=none->G' p=none->H' p=some (.lst vs)->Reps Γ K G' vs ds->E.rt (.ref p) H'
 | .nw d=>∀ v,Rep Γ K G' v d->NewL H₀ G' v d->E.rt v H'
 | .od kvs=>∀ p us,H₀ p=none->G' p=none->H' p=some (.dK us)->us.map (·.1)=kvs.map (·.1)->Reps Γ K G' (us.map (·.2)) (kvs.map (·.2))->E.rt (.ref p) H'
def TDs (Γ:Cn) (K:PySem.W.Frag) (g:FS):TS:=fun E σ H=>∃ G₀ H₀ G ρ fl ρ',At Γ K G₀ H₀ G H ρ σ/\g ρ=some (fl,ρ')/\∀ σ' G' H',zbT G G'->At Γ K G₀ H₀ G' H' ρ' σ'->zth Γ K E H₀ G' H' σ' fl
def TDo (Γ:Cn) (K:PySem.W.Frag) (f:FA):TE:=fun σ H Q=>∃ G₀ H₀ G ρ ds,At Γ K G₀ H₀ G H ρ σ/\f ρ=some ds/\∀ p vs G' H',Step G H G' H'->H' p=none->Reps Γ K G' vs ds->Q (.ref p) (upd H' p (.lst vs))
structure DE (Γ:Cn) (X:Cx) (e:Expr) (f:FE):Prop where
 out:PE X e (TD Γ X.K f)
structure DT (Γ:Cn) (X:Cx) (e:Expr) (f:FT):Prop where
 out:PT X e (TDt Γ X.K f)
structure DW (Γ:Cn) (X:Cx) (e:Expr) (f:FT):Prop where
 out:PW X e (TDt Γ X.K f)
structure DA (Γ:Cn) (X:Cx) (es:List Expr) (f:FA):Prop where
 out:PA X es (TDa Γ X.K f)
structure DS (Γ:Cn) (X:Cx) (st:Stmt) (g:FS):Prop where
 out:PS X st (TDs Γ X.K g)
structure DSs (Γ:Cn) (X:Cx) (st:List Stmt) (g:FS):Prop where
 out:PSs X st (TDs Γ X.K g)
structure DO (Γ:Cn) (X:Cx) (e:Expr) (f:FA):Prop where
 out:PE X e (TDo Γ X.K f)
section
variable {Γ:Cn} {X:Cx} {a b c e:Expr} {es:List Expr} {fa fb fc f:FE} {pos:Pos}
theorem PE.imp {t t':TE} (h:PE X e t) (i:∀ σ H Q,t' σ H Q->t σ H Q):PE X e t':=fun pins s σ H Q I q=>h pins s σ H Q I (i _ _ _ q)
theorem PT.imp {t t':TT} (h:PT X e t) (i:∀ σ H Q,t' σ H Q->t σ H Q):PT X e t':=fun pins s σ H Q I q=>h pins s σ H Q I (i _ _ _ q)
theorem PW.imp {t t':TT} (h:PW X e t) (i:∀ σ H Q,t' σ H Q->t σ H Q):PW X e t':=fun wh pins s σ H Q I q=>h wh pins s σ H Q I (i _ _ _ q)
theorem PA.imp {t t':TA} (h:PA X es t) (i:∀ σ H Q,t' σ H Q->t σ H Q):PA X es t':=fun p pins s σ H Q I q=>h p pins s σ H Q I (i _ _ _ q)
theorem PS.imp {st:Stmt} {t t':TS} (h:PS X st t) (i:∀ E σ H,t' E σ H->t E σ H):PS X st t':=fun pins s σ H E I q=>h pins s σ H E I (i _ _ _ q)
theorem PSs.imp {st:List Stmt} {t t':TS} (h:PSs X st t) (i:∀ E σ H,t' E σ H->t E σ H):PSs X st t':=fun pins s σ H E I q=>h pins s σ H E I (i _ _ _ q)
def vSh (i:Nat):FE:=fun ρ=>match ρ[i]? with
 | some (some (.sh d))=>some d
 | _=>none
theorem zmK {i:Nat} {ρ:za5} {d:D} (h:vSh i ρ=some d):ρ[i]?=some (some (.sh d)):=by
 unfold vSh at h
 split at h
 ·rename_i e;cases h;exact e
 ·cases h
theorem zac (i:Nat) {x:Str} (hN:X.N[i]?=some x:=by rfl) (hv:Vis X.env.scope x:=by first | exact Or.inl rfl | exact Or.inr (Or.inl rfl) | exact Or.inr (Or.inr rfl)) (hd:(x==("__debug__":Str))=false:=by decide)
  (hcd:(x==("__classdict__":Str))=false:=by decide):DE Γ X (.Name x pos) (vSh i):=⟨(zcp hN hv hd hcd).imp fun σ H Q ⟨G₀,H₀,G,ρ,d,A,h,k⟩=>by
 obtain ⟨v,h1,h2⟩:=A.env.sh i d (zmK h)
 exact ⟨v,h1,k v G H (.refl A.gh) h2⟩⟩
def vC (d:D):FE:=fun _=>some d
theorem TD.const {d:D} {v:V} (r:∀ G,Rep Γ X.K G v d) (h:PE X e (tC v)):DE Γ X e (vC d):=⟨h.imp fun σ H Q ⟨G₀,H₀,G,ρ,d',A,h,k⟩=>by
 cases h
 exact k v G H (.refl A.gh) (r G)⟩
theorem zae {i j}:DE Γ X (.Constant (.int i) j pos) (vC (.int i)):=TD.const (fun _=>.int i) zqR
theorem zbU {i j}:DE Γ X (.Constant (.bool i) j pos) (vC (.bl i)):=TD.const (fun _=>.bl i) zsw
theorem zeL {j}:DE Γ X (.Constant .none j pos) (vC .non):=TD.const (fun _=>.non) zn4
theorem zay {i j}:DE Γ X (.Constant (.str i) j pos) (vC (.str i)):=TD.const (fun _=>.str i) zil
theorem zcg {x:Str} {i:Int} {t:Tok} (hg:Gl X x) (hm:X.mg x=some (.int i t)) (hd:(x==("__debug__":Str))=false:=by decide):DE Γ X (.Name x pos) (vC (.int i)):=TD.const (fun _=>.int i) (zfV hg hm ⟨t,rfl⟩ hd)
def b2 (g:D->D->Option D) (fa fb:FE):FE:=fun ρ=>(fa ρ).bind fun x=>(fb ρ).bind fun y=>g x y
def b1 (g:D->Option D) (fa:FE):FE:=fun ρ=>(fa ρ).bind g
def zju (Γ:Cn) (K:PySem.W.Frag) (g:D->D->Option D) (r:R2):Prop :=
 ∀ {G H v u x y z},zbT G H->Rep Γ K G v x->Rep Γ K G u y->g x y=some z->∀ Q:VK,(∀ w G' H',Step G H G' H'->Rep Γ K G' w z->Q w H')->r v u H Q
theorem TD.two {g:D->D->Option D} {r:R2} (hr:zju Γ X.K g r):∀ σ H Q,TD Γ X.K (b2 g fa fb) σ H Q->tOp r (TD Γ X.K fa) (TD Γ X.K fb) σ H Q:=by
 rintro σ H Q ⟨G₀,H₀,G,ρ,d,A,h,k⟩
 unfold b2 at h
 cases ha:fa ρ with
 | none=>rw [ha] at h;cases h
 | some x =>
  cases hb:fb ρ with
  | none=>rw [ha] at h;simp only [qa,hb,Option.bind_none] at h;cases h
  | some y =>
   simp only [ha,hb,qa] at h
   refine ⟨G₀,H₀,G,ρ,x,A,ha,fun v G1 H1 s1 r1=>⟨G₀,H₀,G1,ρ,y,A.step s1,hb,fun u G2 H2 s2 r2=>?_⟩⟩
   exact hr s2.gh (r1.mono s2.gg) r2 h Q fun w G' H' s r=>k w G' H' ((s1.trans s2).trans s) r
theorem zkG {op:Operator} {g:D->D->Option D} {r:R2} (ho:OpR X (binaryOp op) r) (hr:zju Γ X.K g r) (ha:DE Γ X a fa) (hb:DE Γ X b fb):DE Γ X (.BinOp a op b pos) (b2 g fa fb):=⟨(zqN ho ha.1 hb.1).imp (TD.two hr)⟩
def zbe:D->D->Option D
 | .int i,.int j=>some (.int (i+j))
 | .str x,.str y=>if x.length+y.length<=sizeLine then some (.str (x++y)) else none
 | .lst x,.lst y=>if x.length+y.length<=sizeLine then some (.lst (x++y)) else none
 | _,_=>none
def zk4:D->D->Option D
 | .int i,.int j=>some (.int (i - j))
 | _,_=>none
def zmG (x:Str) (n:Nat):Str:=⟨(List.replicate n x.cps.toList).flatten.toArray⟩
def zdw:D->D->Option D
 | .int i,.int j=>if (-(2 ^ 64) < i/\i < 2 ^ 64)\/(-(2 ^ 64) < j/\j < 2 ^ 64) then some (.int (i*j)) else none
 | .lst x,.int j=>if -(2 ^ 63)<=j/\j < 2 ^ 63/\x.length*j.toNat<=sizeLine then some (.lst (List.replicate j.toNat x).flatten) else none
 | .str x,.int j=>if 0<=j/\j < 1000/\x.length < 1000 then some (.str (zmG x j.toNat)) else none
 | _,_=>none
def zcJ:D->D->Option D
 | .int i,.int j=>if 0 < j/\j < 1073741824 then some (.int (i / j)) else none
 | _,_=>none
def zbF:D->D->Option D
 | .int i,.int j=>if 0 < j then some (.int (i % j)) else none
 | _,_=>none
def zn2:D->D->Option D
 | .int i,.int j=>if 0<=j/\j<=1000000/\i.natAbs < 2 ^ 64 then some (.int (i ^ j.toNat)) else none
 | _,_=>none
theorem Rep.int_inv {K:PySem.W.Frag} {G:Hp} {v:V} {i:Int} (r:Rep Γ K G v (.int i)):v=.int i:=by cases r;rfl
theorem Rep.str_inv {K:PySem.W.Frag} {G:Hp} {v:V} {i:Str} (r:Rep Γ K G v (.str i)):v=.str i:=by cases r;rfl
theorem Rep.bl_inv {K:PySem.W.Frag} {G:Hp} {v:V} {i:Bool} (r:Rep Γ K G v (.bl i)):v=.bl i:=by cases r;rfl
theorem Rep.lst_inv {K:PySem.W.Frag} {G:Hp} {v:V} {ds:List D} (r:Rep Γ K G v (.lst ds)):∃ a vs,v=.ref a/\G a=some (.lst vs)/\Reps Γ K G vs ds:=by cases r;exact ⟨_,_,rfl,by assumption,by assumption⟩
theorem Rep.tup_inv {K:PySem.W.Frag} {G:Hp} {v:V} {ds:List D} (r:Rep Γ K G v (.tup ds)):∃ a vs,v=.ref a/\G a=some (.tup vs)/\Reps Γ K G vs ds:=by cases r;exact ⟨_,_,rfl,by assumption,by assumption⟩
theorem Rep.scr_inv {K:PySem.W.Frag} {G:Hp} {v:V} {ns:List Int} (r:Rep Γ K G v (.scr ns)):∃ a,v=.ref a/\SqL K G a (ns.map V.int):=by cases r;exact ⟨_,rfl,by assumption⟩
theorem zfY {K:PySem.W.Frag} {G H:Hp} {vs:List V} {ds:List D} {Q:VK} (gh:zbT G H) (r:Reps Γ K G vs ds) (k:∀ w G' H',Step G H G' H'->Rep Γ K G' w (.lst ds)->Q w H'):∀ p,H p=none->Q (.ref p) (upd H p (.lst vs)):=fun p hp=>by
 have s:=Step.new (o:=.lst vs) gh hp
 exact k _ _ _ s (.lst zav (r.mono s.gg))
theorem zi6 {K:PySem.W.Frag} {G H:Hp} {vs:List V} {ds:List D} {Q:VK} (gh:zbT G H) (r:Reps Γ K G vs ds) (k:∀ w G' H',Step G H G' H'->Rep Γ K G' w (.tup ds)->Q w H'):∀ p,H p=none->Q (.ref p) (upd H p (.tup vs)):=fun p hp=>by
 have s:=Step.new (o:=.tup vs) gh hp
 exact k _ _ _ s (.tup zav (r.mono s.gg))
theorem znC {K:PySem.W.Frag}:zju Γ K zbe (fun x y H Q=>(rI0 (fun i j=>V.int (i+j)) x y H Q\/(∃ i j,x=.str i/\y=.str j/\i.length+j.length<=sizeLine/\Q (.str (i++j)) H))\/zsq x y H Q):=by
 intro G H v u x y z gh r1 r2 h Q k
 unfold zbe at h
 split at h
 ·cases h
  cases r1.int_inv;cases r2.int_inv
  exact .inl (.inl ⟨_,_,rfl,rfl,k _ G H (.refl gh) (.int _)⟩)
 ·split at h
  ·cases h
   cases r1.str_inv;cases r2.str_inv
   exact .inl (.inr ⟨_,_,rfl,rfl,by assumption,k _ G H (.refl gh) (.str _)⟩)
  ·cases h
 ·split at h
  ·rename_i hz
   cases h
   obtain ⟨a,vs,rfl,ha,ra⟩:=r1.lst_inv
   obtain ⟨b,us,rfl,hb,rb⟩:=r2.lst_inv
   exact .inr ⟨a,b,vs,us,rfl,rfl,gh _ _ ha,gh _ _ hb,by rw [ra.length,rb.length];exact hz,zfY gh (ra.append rb) k⟩
  ·cases h
 ·cases h
theorem zpc:OpR X (binaryOp .Add) (fun x y H Q=>(rI0 (fun i j=>V.int (i+j)) x y H Q\/(∃ i j,x=.str i/\y=.str j/\i.length+j.length<=sizeLine/\Q (.str (i++j)) H))\/zsq x y H Q):=(zq4.or zkr).or zn7
theorem zaL (ha:DE Γ X a fa) (hb:DE Γ X b fb):DE Γ X (.BinOp a .Add b pos) (b2 zbe fa fb):=zkG zpc znC ha hb
theorem zl9 {K:PySem.W.Frag} {g:D->D->Option D} {o:Int->Int->Int} (hg:∀ x y z,g x y=some z->∃ i j,x=.int i/\y=.int j/\z=.int (o i j)):zju Γ K g (rI0 fun i j=>V.int (o i j)):=by
 intro G H v u x y z gh r1 r2 h Q k
 obtain ⟨i,j,rfl,rfl,rfl⟩:=hg x y z h
 cases r1.int_inv;cases r2.int_inv
 exact ⟨_,_,rfl,rfl,k _ G H (.refl gh) (.int _)⟩
theorem zgb {K:PySem.W.Frag} {g:D->D->Option D} {C:Int->Int->Prop} {o:Int->Int->Int} (hg:∀ x y z,g x y=some z->∃ i j,x=.int i/\y=.int j/\C i j/\z=.int (o i j)):zju Γ K g (rI C fun i j=>V.int (o i j)):=by
 intro G H v u x y z gh r1 r2 h Q k
 obtain ⟨i,j,rfl,rfl,hc,rfl⟩:=hg x y z h
 cases r1.int_inv;cases r2.int_inv
 exact ⟨_,_,rfl,rfl,hc,k _ G H (.refl gh) (.int _)⟩
theorem zmg (ha:DE Γ X a fa) (hb:DE Γ X b fb):DE Γ X (.BinOp a .Sub b pos) (b2 zk4 fa fb):=zkG zqX (zl9 fun x y z h=>by
 unfold zk4 at h;split at h <;> cases h;exact ⟨_,_,rfl,rfl,rfl⟩) ha hb
theorem zdv (ha:DE Γ X a fa) (hb:DE Γ X b fb):DE Γ X (.BinOp a .FloorDiv b pos) (b2 zcJ fa fb):=zkG zpb (zgb fun x y z h=>by
 unfold zcJ at h;split at h
 ·split at h <;> cases h;exact ⟨_,_,rfl,rfl,by assumption,rfl⟩
 ·cases h) ha hb
theorem zbc (ha:DE Γ X a fa) (hb:DE Γ X b fb):DE Γ X (.BinOp a .Mod b pos) (b2 zbF fa fb):=zkG zq2 (zgb fun x y z h=>by
 unfold zbF at h;split at h
 ·split at h <;> cases h;exact ⟨_,_,rfl,rfl,by assumption,rfl⟩
 ·cases h) ha hb
theorem ziA (ha:DE Γ X a fa) (hb:DE Γ X b fb):DE Γ X (.BinOp a .Pow b pos) (b2 zn2 fa fb):=zkG zqZ (zgb fun x y z h=>by
 unfold zn2 at h;split at h
 ·split at h <;> cases h;exact ⟨_,_,rfl,rfl,by assumption,rfl⟩
 ·cases h) ha hb
theorem zj0 (a:Array Nat):∀ (k:Nat) (acc:List Nat),(List.replicate k a).foldl (·++·) acc.toArray=(acc++(List.replicate k a.toList).flatten).toArray
 | 0,acc=>by simp
 | k+1,acc=>by
  rw [List.replicate_succ,List.foldl_cons,List.replicate_succ,List.flatten_cons,← List.append_assoc,← zj0 a k (acc++a.toList)]
  congr 1
  simp
def zqw:R2:=fun x y H Q=>∃ z n,x=.str z/\y=.int n/\0<=n/\n < 1000/\z.length < 1000/\Q (.str (zmG z n.toNat)) H
theorem zpa:OpR X (binaryOp .Mult) zqw:=by
 intro pins s σ H x y v u Q I rx ry h
 obtain ⟨z,n,rfl,rfl,h0,h1,h2,q⟩:=h
 obtain ⟨t,rfl⟩:=rx
 obtain ⟨t',rfl⟩:=ry
 have hl:z.length*n.toNat<=1000000:=qK (Nat.mul_le_mul (Nat.le_of_lt h2) (show n.toNat<=1000 by omega)) (by decide)
 have e0:(List.replicate n.toNat z.cps).foldl (·++·) #[]=(zmG z n.toNat).cps:=by
  have:=zj0 z.cps n.toNat []
  simpa [zmG] using this
 refine PySem.P.mul_str ?_ (fun h _=>?_) (fun _ _=>?_) ?_
 ·rw [qL (by omega),qL (by omega)];rfl
 ·have e:(z.length:Int)*n=((z.length*n.toNat:Nat):Int):=by rw [Int.natCast_mul];congr 1;omega
  have:(z.length:Int)<=(2 ^ 63 - 1:Int) / n:=Int.le_ediv_of_mul_le (by omega) (by rw [e];omega)
  omega
 ·unfold Builtin.Str.tooLong
  exact qL (by have:=sizeLine_eq;omega)
 ·split
  ·have:n=0:=by omega
   subst this
   exact ⟨by decide,⟨.str _,H,I.tok _,⟨_,rfl⟩,by simpa [zmG,Str.empty] using q⟩⟩
  ·split
   ·rename_i hc
    have ez:zmG z n.toNat=z:=by
     rcases Bool.or_eq_true _ _▸hc with e | e
     ·have:n=1:=by simpa using e
      subst this
      simp [zmG]
     ·have hz:z.cps=#[]:=by
       have:z.cps.size=0:=by simpa [Str.length] using e
       exact Array.eq_empty_of_size_eq_zero this
      cases z
      simp only at hz
      subst hz
      simp [zmG]
    exact ⟨.str _,H,I,⟨_,rfl⟩,by rw [← ez];exact q⟩
   ·rw [e0]
    refine ⟨?_,⟨.str _,H,I.tok _,⟨_,rfl⟩,q⟩⟩
    have e1:(zmG z n.toNat).length=n.toNat*z.length:=by
     show (List.replicate n.toNat z.cps.toList).flatten.toArray.size=_
     rw [qz,zlI]
     simp [Str.length]
    show (zmG z n.toNat).length<=sizeLine
    rw [e1,Nat.mul_comm]
    have:=sizeLine_eq
    omega
theorem znB {K:PySem.W.Frag}:zju Γ K zdw (fun x y H Q=>(rI zsb (fun i j=>V.int (i*j)) x y H Q\/ztq x y H Q)\/zqw x y H Q):=by
 intro G H v u x y z gh r1 r2 h Q k
 unfold zdw at h
 split at h
 ·split at h
  ·cases h
   cases r1.int_inv;cases r2.int_inv
   exact .inl (.inl ⟨_,_,rfl,rfl,by assumption,k _ G H (.refl gh) (.int _)⟩)
  ·cases h
 ·split at h
  ·rename_i hz
   cases h
   obtain ⟨a,vs,rfl,ha,ra⟩:=r1.lst_inv
   cases r2.int_inv
   exact .inl (.inr ⟨a,_,vs,rfl,rfl,gh _ _ ha,hz.1,hz.2.1,by rw [ra.length];exact hz.2.2,zfY gh (ra.rep _) k⟩)
  ·cases h
 ·split at h
  ·rename_i hz
   cases h
   cases r1.str_inv
   cases r2.int_inv
   exact .inr ⟨_,_,rfl,rfl,hz.1,hz.2.1,hz.2.2,k _ G H (.refl gh) (.str _)⟩
  ·cases h
 ·cases h
theorem zcH (ha:DE Γ X a fa) (hb:DE Γ X b fb):DE Γ X (.BinOp a .Mult b pos) (b2 zdw fa fb):=zkG ((zq1.or zqY).or zpa) znB ha hb
end
end L2
end
section
namespace L2
open PySem PySem.Spec PyProof.Rows
section
variable {Γ:Cn} {X:Cx} {a b c e:Expr} {es:List Expr} {fa fb fc f:FE} {pos:Pos}
theorem Rep.non_inv {K:PySem.W.Frag} {G:Hp} {v:V} (r:Rep Γ K G v .non):v=.non:=by cases r;rfl
def ltS (x y:Str):Bool:=decide (x.cps.toList < y.cps.toList)
def ltD:D->D->Option D
 | .int i,.int j=>some (.bl (decide (i < j)))
 | .str x,.str y=>some (.bl (ltS x y))
 | _,_=>none
def leD:D->D->Option D
 | .int i,.int j=>some (.bl (decide (i<=j)))
 | .str x,.str y=>some (.bl (!ltS y x))
 | _,_=>none
def gtD:D->D->Option D
 | .int i,.int j=>some (.bl (decide (j < i)))
 | _,_=>none
def eqS:D->D->Option Bool
 | .int i,.int j=>some (decide (i=j))
 | .bl i,.bl j=>some (decide (i=j))
 | .str i,.str j=>some (decide (i=j))
 | .non,.non=>some true
 | .non,.int _=>some false | .int _,.non=>some false | .non,.bl _=>some false | .bl _,.non=>some false | .non,.str _=>some false | .str _,.non=>some false
 | .int _,.str _=>some false | .str _,.int _=>some false | .bl _,.str _=>some false | .str _,.bl _=>some false
 | _,_=>none
def eqD (x y:D):Option D:=(eqS x y).map D.bl
def neD (x y:D):Option D:=(eqS x y).map fun b=>D.bl (!b)
theorem zoj {K:PySem.W.Frag} {G:Hp} {v u:V} {x y:D} {k:Bool} (r1:Rep Γ K G v x) (r2:Rep Γ K G u y) (h:eqS x y=some k):zsn v u=true/\decide (v=u)=k:=by
 unfold eqS at h
 split at h <;> cases h
 ·cases r1.int_inv;cases r2.int_inv;exact ⟨rfl,by simp⟩
 ·cases r1.bl_inv;cases r2.bl_inv;exact ⟨rfl,by simp⟩
 ·cases r1.str_inv;cases r2.str_inv;exact ⟨rfl,by simp⟩
 ·cases r1.non_inv;cases r2.non_inv;exact ⟨rfl,by simp⟩
 ·cases r1.non_inv;cases r2.int_inv;exact ⟨rfl,by simp⟩
 ·cases r1.int_inv;cases r2.non_inv;exact ⟨rfl,by simp⟩
 ·cases r1.non_inv;cases r2.bl_inv;exact ⟨rfl,by simp⟩
 ·cases r1.bl_inv;cases r2.non_inv;exact ⟨rfl,by simp⟩
 ·cases r1.non_inv;cases r2.str_inv;exact ⟨rfl,by simp⟩
 ·cases r1.str_inv;cases r2.non_inv;exact ⟨rfl,by simp⟩
 ·cases r1.int_inv;cases r2.str_inv;exact ⟨rfl,by simp⟩
 ·cases r1.str_inv;cases r2.int_inv;exact ⟨rfl,by simp⟩
 ·cases r1.bl_inv;cases r2.str_inv;exact ⟨rfl,by simp⟩
 ·cases r1.str_inv;cases r2.bl_inv;exact ⟨rfl,by simp⟩
theorem zpP {K:PySem.W.Frag}:zju Γ K eqD rEq:=by
 intro G H v u x y z gh r1 r2 h Q k
 unfold eqD at h
 cases e:eqS x y with
 | none=>rw [e] at h;cases h
 | some b =>
  rw [e] at h
  cases h
  obtain ⟨h1,h2⟩:=zoj r1 r2 e
  exact ⟨h1,by rw [h2];exact k _ G H (.refl gh) (.bl _)⟩
theorem zpL {K:PySem.W.Frag}:zju Γ K neD rNe:=by
 intro G H v u x y z gh r1 r2 h Q k
 unfold neD at h
 cases e:eqS x y with
 | none=>rw [e] at h;cases h
 | some b =>
  rw [e] at h
  cases h
  obtain ⟨h1,h2⟩:=zoj r1 r2 e
  exact ⟨h1,by rw [h2];exact k _ G H (.refl gh) (.bl _)⟩
theorem zl8 {K:PySem.W.Frag} {g:D->D->Option D} {o:Int->Int->Bool} (hg:∀ x y z,g x y=some z->∃ i j,x=.int i/\y=.int j/\z=.bl (o i j)):zju Γ K g (rI0 fun i j=>V.bl (o i j)):=by
 intro G H v u x y z gh r1 r2 h Q k
 obtain ⟨i,j,rfl,rfl,rfl⟩:=hg x y z h
 cases r1.int_inv;cases r2.int_inv
 exact ⟨_,_,rfl,rfl,k _ G H (.refl gh) (.bl _)⟩
theorem zls:OpR X (compareOp .LtE) (fun x y H Q=>∃ i j,x=.str i/\y=.str j/\Q (.bl (!ltS j i)) H):=by
 intro pins s σ H x y v u Q I rx ry h
 obtain ⟨i,j,rfl,rfl,q⟩:=h
 obtain ⟨t,rfl⟩:=rx
 obtain ⟨t',rfl⟩:=ry
 exact PySem.P.le_str (zbj I q (by simp [ltS]))
theorem zpM {K:PySem.W.Frag}:zju Γ K ltD (fun x y H Q=>rI0 (fun i j=>V.bl (decide (i < j))) x y H Q\/∃ i j,x=.str i/\y=.str j/\Q (.bl (decide (i.cps.toList < j.cps.toList))) H):=by
 intro G H v u x y z gh r1 r2 h Q k
 unfold ltD at h
 split at h <;> cases h
 ·cases r1.int_inv;cases r2.int_inv;exact .inl ⟨_,_,rfl,rfl,k _ G H (.refl gh) (.bl _)⟩
 ·cases r1.str_inv;cases r2.str_inv;exact .inr ⟨_,_,rfl,rfl,k _ G H (.refl gh) (.bl _)⟩
theorem zpN {K:PySem.W.Frag}:zju Γ K leD (fun x y H Q=>rI0 (fun i j=>V.bl (decide (i<=j))) x y H Q\/∃ i j,x=.str i/\y=.str j/\Q (.bl (!ltS j i)) H):=by
 intro G H v u x y z gh r1 r2 h Q k
 unfold leD at h
 split at h <;> cases h
 ·cases r1.int_inv;cases r2.int_inv;exact .inl ⟨_,_,rfl,rfl,k _ G H (.refl gh) (.bl _)⟩
 ·cases r1.str_inv;cases r2.str_inv;exact .inr ⟨_,_,rfl,rfl,k _ G H (.refl gh) (.bl _)⟩
structure CmpD (Γ:Cn) (X:Cx) (op:CmpOp) (g:D->D->Option D):Prop where
 ex:∃ r,OpR X (compareOp op) r/\zju Γ X.K g r
theorem zpU:CmpD Γ X .Lt ltD:=⟨_,zsA.or zlr,zpM⟩
theorem zhO:CmpD Γ X .LtE leD:=⟨_,zsB.or zls,zpN⟩
theorem zs5:CmpD Γ X .Gt gtD:=⟨_,zsC,zl8 fun x y z h=>by unfold gtD at h;split at h <;> cases h;exact ⟨_,_,rfl,rfl,rfl⟩⟩
theorem zdP:CmpD Γ X .Eq eqD:=⟨_,zsD,zpP⟩
theorem zs4:CmpD Γ X .NotEq neD:=⟨_,zsz,zpL⟩
theorem zd2 {op:CmpOp} {g:D->D->Option D} (h:CmpD Γ X op g) (ha:DE Γ X a fa) (hb:DE Γ X b fb) (hm:behindInMarks op b=false):DE Γ X (.Compare a [op] [b] pos) (b2 g fa fb):=⟨by
 obtain ⟨r,ho,hr⟩:=h.ex
 exact (zo2 ho ha.1 hb.1 hm).imp (TD.two hr)⟩
def chD (g g':D->D->Option D) (fa fb fc:FE):FE:=fun ρ=>(fa ρ).bind fun x=>(fb ρ).bind fun y=>(g x y).bind fun z=>match z with
 | .bl true=>(fc ρ).bind fun w=>g' y w
 | .bl false=>some (.bl false)
 | _=>none
theorem TD.chain {g g':D->D->Option D} {r r':R2} (hr:zju Γ X.K g r) (hr':zju Γ X.K g' r'):∀ σ H Q,TD Γ X.K (chD g g' fa fb fc) σ H Q->zk3 r r' (TD Γ X.K fa) (TD Γ X.K fb) (TD Γ X.K fc) σ H Q:=by
 rintro σ H Q ⟨G₀,H₀,G,ρ,d,A,h,k⟩
 unfold chD at h
 obtain ⟨x,ha,h⟩:=oBd h
 obtain ⟨y,hb,h⟩:=oBd h
 obtain ⟨z,hz,h⟩:=oBd h
 refine ⟨G₀,H₀,G,ρ,x,A,ha,fun v G1 H1 s1 r1=>⟨G₀,H₀,G1,ρ,y,A.step s1,hb,fun u G2 H2 s2 r2=>?_⟩⟩
 refine hr s2.gh (r1.mono s2.gg) r2 hz _ fun w G3 H3 s3 r3=>?_
 split at h
 ·cases r3.bl_inv
  obtain ⟨w,hc,h⟩:=oBd h
  refine ⟨true,rfl,zod ⟨G₀,H₀,G3,ρ,w,((A.step s1).step s2).step s3,hc,fun q G4 H4 s4 r4=>?_⟩⟩
  exact hr' s4.gh ((r2.mono s3.gg).mono s4.gg) r4 h Q fun w' G' H' s r=>k w' G' H' ((((s1.trans s2).trans s3).trans s4).trans s) r
 ·cases r3.bl_inv
  cases h
  exact ⟨false,rfl,zoe (k _ G3 H3 ((s1.trans s2).trans s3) (.bl _))⟩
 ·cases h
theorem zhL {op op':CmpOp} {g g':D->D->Option D} (h:CmpD Γ X op g) (h':CmpD Γ X op' g') (ha:DE Γ X a fa) (hb:DE Γ X b fb) (hc:DE Γ X c fc) (hm:lastMarks [op,op'] [b,c]=false:=by with_unfolding_all rfl) :
  DE Γ X (.Compare a [op,op'] [b,c] pos) (chD g g' fa fb fc):=⟨by
 obtain ⟨r,ho,hr⟩:=h.ex
 obtain ⟨r',ho',hr'⟩:=h'.ex
 exact (zm7 ho ho' ha.1 hb.1 hc.1 hm).imp (TD.chain hr hr')⟩
def toB (f:FE):FT:=fun ρ=>(f ρ).bind fun d=>match d with
 | .bl b=>some b
 | _=>none
theorem TDt.val {f:FE}:∀ σ H Q,TDt Γ X.K (toB f) σ H Q->TD Γ X.K f σ H fun x H'=>∃ k,x=.bl k/\Q k H':=by
 rintro σ H Q ⟨G₀,H₀,G,ρ,b,A,h,k⟩
 unfold toB at h
 obtain ⟨d,hd,h⟩:=oBd h
 split at h <;> cases h
 exact ⟨G₀,H₀,G,ρ,_,A,hd,fun v G' H' s r=>⟨b,r.bl_inv,k G' H' s⟩⟩
theorem zce {op:CmpOp} {g:D->D->Option D} (h:CmpD Γ X op g) (ha:DE Γ X a fa) (hb:DE Γ X b fb) (hm:behindInMarks op b=false):DT Γ X (.Compare a [op] [b] pos) (toB (b2 g fa fb)):=⟨by
 obtain ⟨r,ho,hr⟩:=h.ex
 exact (zoP ho ha.1 hb.1 hm).imp fun σ H Q q=>TD.two hr σ H _ (TDt.val σ H Q q)⟩
theorem znz {op op':CmpOp} {g g':D->D->Option D} (h:CmpD Γ X op g) (h':CmpD Γ X op' g') (ha:DE Γ X a fa) (hb:DE Γ X b fb) (hc:DE Γ X c fc) (hm:lastMarks [op,op'] [b,c]=false:=by with_unfolding_all rfl) :
  DT Γ X (.Compare a [op,op'] [b,c] pos) (toB (chD g g' fa fb fc)):=⟨by
 obtain ⟨r,ho,hr⟩:=h.ex
 obtain ⟨r',ho',hr'⟩:=h'.ex
 exact (zm0 ho ho' ha.1 hb.1 hc.1 hm).imp fun σ H Q q=>TD.chain hr hr' σ H _ (TDt.val σ H Q q)⟩
theorem zaO (h:DE Γ X e f) (he:∀ whole,isTrue e X.env whole=(do let v ← whole;standAt e.pos;holding [v] (truthy v)):=by intro _;rfl):DT Γ X e (toB f):=⟨(zjH h.1 he).imp TDt.val⟩
def zcc (f:FT):FT:=fun ρ=>(f ρ).map (!·)
def zkM (f g:FT):FT:=fun ρ=>(f ρ).bind fun b=>if b=true then g ρ else some false
def orT (f g:FT):FT:=fun ρ=>(f ρ).bind fun b=>if b=true then some true else g ρ
variable {ft gt:FT} {zcb:List Expr}
theorem DW.dt {e:Expr} (h:DW Γ X e ft):DT Γ X e ft:=⟨h.1.pt⟩
theorem zaR (h:DT Γ X a ft):DT Γ X (.UnaryOp .Not a pos) (zcc ft):=⟨(zlh h.1).imp fun σ H Q=>by
 rintro ⟨G₀,H₀,G,ρ,b,A,h,k⟩
 unfold zcc at h
 obtain ⟨c,hc,h⟩:=oMd h
 exact ⟨G₀,H₀,G,ρ,c,A,hc,fun G' H' s=>by show Q (!c) H';rw [h];exact k G' H' s⟩⟩
theorem zji (h:DT Γ X a ft):DW Γ X (.BoolOp .And [a] pos) ft:=⟨zoL h.1⟩
theorem zct (h:DT Γ X a ft):DW Γ X (.BoolOp .Or [a] pos) ft:=⟨zn0 h.1⟩
theorem zl3 (h:DT Γ X a ft) (h':DW Γ X (.BoolOp .And (b::zcb) pos) gt):DW Γ X (.BoolOp .And (a::b::zcb) pos) (zkM ft gt):=⟨(zqA h.1 h'.1).imp fun σ H Q=>by
 rintro ⟨G₀,H₀,G,ρ,r,A,h,k⟩
 unfold zkM at h
 obtain ⟨c,hc,h⟩:=oBd h
 refine ⟨G₀,H₀,G,ρ,c,A,hc,fun G1 H1 s1=>?_⟩
 cases c with
 | true=>exact zod ⟨G₀,H₀,G1,ρ,r,A.step s1,by simpa using h,fun G' H' s=>k G' H' (s1.trans s)⟩
 | false =>
  rw [qY qq] at h
  cases h
  exact zoe (k _ _ s1)⟩
theorem zcR (h:DT Γ X a ft) (h':DW Γ X (.BoolOp .Or (b::zcb) pos) gt):DW Γ X (.BoolOp .Or (a::b::zcb) pos) (orT ft gt):=⟨(zqz h.1 h'.1).imp fun σ H Q=>by
 rintro ⟨G₀,H₀,G,ρ,r,A,h,k⟩
 unfold orT at h
 obtain ⟨c,hc,h⟩:=oBd h
 refine ⟨G₀,H₀,G,ρ,c,A,hc,fun G1 H1 s1=>?_⟩
 cases c with
 | false=>exact zoe ⟨G₀,H₀,G1,ρ,r,A.step s1,by simpa using h,fun G' H' s=>k G' H' (s1.trans s)⟩
 | true =>
  rw [qX rfl] at h
  cases h
  exact zod (k _ _ s1)⟩
def zd3 (fa fb:FE):FE:=fun ρ=>(fa ρ).bind fun d=>match d with
 | .bl true=>fb ρ
 | .bl false=>some (.bl false)
 | _=>none
def zr6 (fa:FE):FE:=fun ρ=>(fa ρ).bind fun d=>match d with
 | .bl b=>some (.bl (!b))
 | _=>none
theorem zdj {op} (h:DE Γ X a fa):DE Γ X (.BoolOp op [a] pos) fa:=⟨zqO h.1⟩
theorem zcB (ha:DE Γ X a fa) (hb:DE Γ X (.BoolOp .And (b::zcb) pos) fb):DE Γ X (.BoolOp .And (a::b::zcb) pos) (zd3 fa fb):=⟨(zqT ha.1 hb.1).imp fun σ H Q=>by
 rintro ⟨G₀,H₀,G,ρ,d,A,h,k⟩
 unfold zd3 at h
 obtain ⟨x,hx,h⟩:=oBd h
 refine ⟨G₀,H₀,G,ρ,x,A,hx,fun v G1 H1 s1 r1=>?_⟩
 split at h
 ·cases r1.bl_inv
  exact ⟨true,rfl,zod ⟨G₀,H₀,G1,ρ,d,A.step s1,h,fun w G' H' s r=>k w G' H' (s1.trans s) r⟩⟩
 ·cases r1.bl_inv
  cases h
  exact ⟨false,rfl,zoe (k _ G1 H1 s1 (.bl _))⟩
 ·cases h⟩
theorem zrJ (ha:DE Γ X a fa):DE Γ X (.UnaryOp .Not a pos) (zr6 fa):=⟨(zqP ha.1).imp fun σ H Q=>by
 rintro ⟨G₀,H₀,G,ρ,d,A,h,k⟩
 unfold zr6 at h
 obtain ⟨x,hx,h⟩:=oBd h
 refine ⟨G₀,H₀,G,ρ,x,A,hx,fun v G1 H1 s1 r1=>?_⟩
 split at h
 ·cases r1.bl_inv
  cases h
  exact ⟨_,rfl,k _ G1 H1 s1 (.bl _)⟩
 ·cases h⟩
def zag:FA:=fun _=>some []
def zab (fa:FE) (fr:FA):FA:=fun ρ=>(fa ρ).bind fun x=>(fr ρ).map (x::·)
variable {fr:FA}
theorem zad:DA Γ X [] zag:=⟨zdd.imp fun σ H Q=>by
 rintro ⟨G₀,H₀,G,ρ,d,A,h,k⟩
 cases h
 exact k _ G H (.refl A.gh) .nil⟩
theorem zaa (ha:DE Γ X e fa) (hr:DA Γ X es fr) (hs:starEach (e::es) X.env=(false,eval e X.env)::starEach es X.env:=by rfl):DA Γ X (e::es) (zab fa fr):=⟨(zbM ha.1 hr.1 hs).imp fun σ H Q=>by
 rintro ⟨G₀,H₀,G,ρ,d,A,h,k⟩
 unfold zab at h
 obtain ⟨x,hx,h⟩:=oBd h
 obtain ⟨xs,hxs,h⟩:=oMd h
 subst h
 exact ⟨G₀,H₀,G,ρ,x,A,hx,fun v G1 H1 s1 r1=>⟨G₀,H₀,G1,ρ,xs,A.step s1,hxs,fun vs G2 H2 s2 r2=>k _ G2 H2 (s1.trans s2) (.cons (r1.mono s2.gg) r2)⟩⟩⟩
def szF (fr:FA):FA:=fun ρ=>(fr ρ).bind fun l=>if l.length<=sizeLine then some l else none
def zax (fr:FA):FE:=fun ρ=>(fr ρ).map D.lst
def zaQ (fr:FA):FE:=fun ρ=>(fr ρ).map D.tup
theorem DO.de (h:DO Γ X e fr):DE Γ X e (zax fr):=⟨h.1.imp fun σ H Q=>by
 rintro ⟨G₀,H₀,G,ρ,d,A,h,k⟩
 unfold zax at h
 obtain ⟨ds,hd,rfl⟩:=oMd h
 exact ⟨G₀,H₀,G,ρ,ds,A,hd,fun p vs G' H' s hp r=>zfY s.gh r (fun w G2 H2 s2 r2=>k w G2 H2 (s.trans s2) r2) p hp⟩⟩
theorem zai (h:DA Γ X es fr):DO Γ X (.List es pos) (szF fr):=⟨(zqQ h.1).imp fun σ H Q=>by
 rintro ⟨G₀,H₀,G,ρ,d,A,h,k⟩
 unfold szF at h
 obtain ⟨ds,hd,h⟩:=oBd h
 split at h
 ·rename_i hz
  cases h
  exact ⟨G₀,H₀,G,ρ,d,A,hd,fun vs G' H' s r=>⟨by rw [r.length];exact hz,fun p hp=>k p vs G' H' s hp r⟩⟩
 ·cases h⟩
theorem zar {x1} (h:DA Γ X es fr):DE Γ X (.Tuple es x1 pos) (zaQ (szF fr)):=⟨(zn3 h.1).imp fun σ H Q=>by
 rintro ⟨G₀,H₀,G,ρ,d,A,h,k⟩
 unfold zaQ szF at h
 obtain ⟨ds',hd',rfl⟩:=oMd h
 obtain ⟨ds,hd,h⟩:=oBd hd'
 split at h
 ·rename_i hz
  cases h
  exact ⟨G₀,H₀,G,ρ,ds',A,hd,fun vs G' H' s r=>⟨by rw [r.length];exact hz,zi6 s.gh r fun w G2 H2 s2 r2=>k w G2 H2 (s.trans s2) r2⟩⟩
 ·cases h⟩
def zp3 (Γ:Cn) (K:PySem.W.Frag) (g:List D->Option D) (r:List V->Hp->VK->Prop):Prop :=
 ∀ {G H vs ds z},zbT G H->Reps Γ K G vs ds->g ds=some z->∀ Q:VK,(∀ w G' H',Step G H G' H'->Rep Γ K G' w z->Q w H')->r vs H Q
def cF (g:List D->Option D) (fr:FA):FE:=fun ρ=>(fr ρ).bind g
theorem TD.call {g:List D->Option D} {r:List V->Hp->VK->Prop} (hr:zp3 Γ X.K g r):∀ σ H Q,TD Γ X.K (cF g fr) σ H Q->tCB r (TDa Γ X.K fr) σ H Q:=by
 rintro σ H Q ⟨G₀,H₀,G,ρ,d,A,h,k⟩
 unfold cF at h
 obtain ⟨ds,hd,h⟩:=oBd h
 exact ⟨G₀,H₀,G,ρ,ds,A,hd,fun vs G1 H1 s1 r1=>hr s1.gh r1 h Q fun w G' H' s r=>k w G' H' (s1.trans s) r⟩
structure BltD (Γ:Cn) (X:Cx) (id:String) (g:List D->Option D):Prop where
 ex:∃ r,zdT X (.builtin id) r/\zp3 Γ X.K g r
structure TyD (Γ:Cn) (X:Cx) (id:String) (g:List D->Option D):Prop where
 ex:∃ r,zdT X (.type id) r/\zp3 Γ X.K g r
variable {x:Str} {p:Pos}
theorem zaI {id:String} {g:List D->Option D} (hc:BltD Γ X id g) (hg:Gl X x) (hm:X.mg x=none) (hv:bootBuiltins x=some (.builtin id)) (ha:DA Γ X (e::es) fr) (hn:x≠"__name__":=by decide) (hdb:(x==("__debug__":Str))=false:=by decide)
  (he:starEach (e::es) X.env=(false,eval e X.env)::starEach es X.env:=by rfl) (hpl:(backTo pos (starEach es X.env)).any (·.1)=false:=by rfl):DE Γ X (.Call (.Name x p) (e::es) [] pos) (cF g fr):=⟨by
 obtain ⟨r,h1,h2⟩:=hc.ex
 exact (zeF h1 hg hm hv ha.1 hn hdb he hpl).imp (TD.call h2)⟩
theorem zdk {id:String} {g:List D->Option D} (hc:TyD Γ X id g) (hg:Gl X x) (hm:X.mg x=none) (hv:bootBuiltins x=some (.type id)) (ha:DA Γ X (e::es) fr) (hn:x≠"__name__":=by decide) (hdb:(x==("__debug__":Str))=false:=by decide)
  (he:starEach (e::es) X.env=(false,eval e X.env)::starEach es X.env:=by rfl) (hpl:(backTo pos (starEach es X.env)).any (·.1)=false:=by rfl):DE Γ X (.Call (.Name x p) (e::es) [] pos) (cF g fr):=⟨by
 obtain ⟨r,h1,h2⟩:=hc.ex
 exact (zfW h1 hg hm hv ha.1 hn hdb he hpl).imp (TD.call h2)⟩
theorem ziz {n:String} (hg:Gl X x) (hm:X.mg x=none) (hv:bootBuiltins x=some (.type n)) (hn:x≠"__name__":=by decide) (hd:(x==("__debug__":Str))=false:=by decide):DE Γ X (.Name x pos) (vC (.ty n)):=TD.const (fun _=>.ty n) (zlm hg hm hv rfl hn hd)
theorem Reps.one {K:PySem.W.Frag} {G:Hp} {vs:List V} {d:D} (r:Reps Γ K G vs [d]):∃ v,vs=[v]/\Rep Γ K G v d:=by
 cases r with
 | cons h t=>cases t;exact ⟨_,rfl,h⟩
theorem Reps.two {K:PySem.W.Frag} {G:Hp} {vs:List V} {d d':D} (r:Reps Γ K G vs [d,d']):∃ v u,vs=[v,u]/\Rep Γ K G v d/\Rep Γ K G u d':=by
 cases r with
 | cons h t=>cases t with
  | cons h2 t2=>cases t2;exact ⟨_,_,rfl,h,h2⟩
def zsa:List D->Option D
 | [.int i]=>some (.int (if i < 0 then -i else i))
 | _=>none
theorem zrU:BltD Γ X "abs" zsa:=⟨_,znO,fun {G H vs ds z} gh r h Q k=>by
 unfold zsa at h
 split at h <;> cases h
 obtain ⟨v,rfl,r1⟩:=r.one
 cases r1.int_inv
 exact ⟨_,rfl,k _ G H (.refl gh) (.int _)⟩⟩
def zp9:List D->Option D
 | [.int i,.int j]=>some (.int (if j > i then j else i))
 | _=>none
theorem zrT (hc:X.calm=true):BltD Γ X "max" zp9:=⟨_,zmq hc,fun {G H vs ds z} gh r h Q k=>by
 unfold zp9 at h
 split at h <;> cases h
 obtain ⟨v,u,rfl,r1,r2⟩:=r.two
 cases r1.int_inv;cases r2.int_inv
 exact ⟨_,_,rfl,k _ G H (.refl gh) (.int _)⟩⟩
def zlz:List D->Option D
 | [.int i,.int j]=>some (.int (if j < i then j else i))
 | _=>none
theorem zmx (hc:X.calm=true):BltD Γ X "min" zlz:=⟨_,zmp hc,fun {G H vs ds z} gh r h Q k=>by
 unfold zlz at h
 split at h <;> cases h
 obtain ⟨v,u,rfl,r1,r2⟩:=r.two
 cases r1.int_inv;cases r2.int_inv
 exact ⟨_,_,rfl,k _ G H (.refl gh) (.int _)⟩⟩
def zdu:List D->Option D
 | [.str x]=>if x.length<=sizeLine then some (.int (x.length:Nat)) else none
 | [.lst l]=>some (.int (l.length:Nat))
 | [.tup l]=>some (.int (l.length:Nat))
 | [.scr l]=>some (.int (l.length:Nat))
 | _=>none
theorem zdl:BltD Γ X "len" zdu:=⟨_,znN,fun {G H vs ds z} gh r h Q k=>by
 unfold zdu at h
 split at h
 ·split at h
  ·cases h
   obtain ⟨v,rfl,r1⟩:=r.one
   cases r1.str_inv
   exact ⟨_,_,rfl,⟨by assumption,rfl⟩,k _ G H (.refl gh) (.int _)⟩
  ·cases h
 ·cases h
  obtain ⟨v,rfl,r1⟩:=r.one
  obtain ⟨a,vs,rfl,ha,rv⟩:=r1.lst_inv
  exact ⟨_,_,rfl,.inl ⟨vs,.inl (.inl (gh _ _ ha)),rfl⟩,k _ G H (.refl gh) (by rw [rv.length];exact .int _)⟩
 ·cases h
  obtain ⟨v,rfl,r1⟩:=r.one
  obtain ⟨a,vs,rfl,ha,rv⟩:=r1.tup_inv
  exact ⟨_,_,rfl,.inr ⟨vs,.inl (.inl (gh _ _ ha)),rfl⟩,k _ G H (.refl gh) (by rw [rv.length];exact .int _)⟩
 ·cases h
  obtain ⟨v,rfl,r1⟩:=r.one
  obtain ⟨a,rfl,ha⟩:=r1.scr_inv
  exact ⟨_,_,rfl,.inl ⟨_,gh.seq ha,rfl⟩,k _ G H (.refl gh) (by rw [qe];exact .int _)⟩
 ·cases h⟩
def tyD:D->Option String
 | .non=>some "NoneType"
 | .bl _=>some "bool"
 | .int _=>some "int"
 | .str _=>some "str"
 | .lst _=>some "list"
 | .tup _=>some "tuple"
 | .dk _=>some "dict"
 | .dt _=>some "dict"
 | _=>none
def zjf (t c:String):Option Bool:=if (Value.type t==Value.type c)=true then some true else if PySem.W.kitMeta c=true then Option.map (fun x=>x.contains (Value.type c)) (PySem.fastBuiltinMro t) else none
def zgC:List D->Option D
 | [d,.ty c]=>(tyD d).bind fun t=>(zjf t c).map D.bl
 | _=>none
theorem zot {K:PySem.W.Frag} {G H:Hp} {v:V} {d:D} {t:String} (gh:zbT G H) (r:Rep Γ K G v d) (h:tyD d=some t):TyOf K H v (.type t):=by
 unfold tyD at h
 split at h <;> cases h
 ·cases r.non_inv;exact .non
 ·cases r.bl_inv;exact .bl _
 ·cases r.int_inv;exact .int _
 ·cases r.str_inv;exact .str _
 ·obtain ⟨a,vs,rfl,ha,_⟩:=r.lst_inv;exact .lst (gh _ _ ha)
 ·obtain ⟨a,vs,rfl,ha,_⟩:=r.tup_inv;exact .tup (gh _ _ ha)
 ·cases r with
  | dk h _ _=>exact .dK (gh _ _ h)
 ·cases r with
  | dt h _ _=>exact .dT (gh _ _ h)
theorem zfs:BltD Γ X "isinstance" zgC:=by
 refine ⟨fun vs H Q=>∃ v t c b,vs=[v,.ty c]/\TyOf X.K H v (.type t)/\PySem.W.kitOne X.K (.type t) (.type c)=some b/\Q (.bl b) H,?_,?_⟩
 ·intro pins s σ H xs us Q I r h
  obtain ⟨v,t,c,b,rfl,ty,hk,q⟩:=h
  obtain ⟨u,w',rfl,r1,r2⟩:=zkV r
  cases r2
  exact zlR I r1 ty hk fun tk=>⟨.bl b,H,I.tok tk,rfl,q⟩
 ·intro G H vs ds z gh r h Q k
  unfold zgC at h
  split at h
  ·obtain ⟨t,ht,h⟩:=oBd h
   obtain ⟨b,hb,rfl⟩:=oMd h
   obtain ⟨v,u,rfl,r1,r2⟩:=r.two
   cases r2
   exact ⟨v,t,_,b,rfl,zot gh r1 ht,hb,k _ G H (.refl gh) (.bl _)⟩
  ·cases h
end
end L2
end
section
namespace L2
open PySem PySem.Spec PyProof.Rows
section
variable {Γ:Cn} {X:Cx} {a b c e:Expr} {es:List Expr} {fa fb fc f:FE} {fr:FA} {pos p2:Pos}
theorem Reps.atI {K:PySem.W.Frag} {G:Hp} {vs:List V} {ds:List D} {i:Int} {d:D} (r:Reps Γ K G vs ds) (h:L2.atI ds i=some d):∃ v,L2.atI vs i=some v/\Rep Γ K G v d:=by
 unfold L2.atI at h ⊢
 rw [r.length]
 cases e:ixN ds.length i with
 | none=>rw [e] at h;cases h
 | some j =>
  rw [e] at h
  obtain ⟨v,h1,h2⟩:=r.get (i:=j) (d:=d) h
  exact ⟨v,h1,h2⟩
theorem zp0 {α β:Type} (g:α->β) (xs:List α) (i:Int):L2.atI (xs.map g) i=(L2.atI xs i).map g:=by
 unfold L2.atI
 rw [qe]
 cases ixN xs.length i with
 | none=>rfl
 | some j=>simp
def ixD:D->D->Option D
 | .lst l,.int i=>atI l i
 | .tup l,.int i=>atI l i
 | .scr l,.int i=>(atI l i).map D.int
 | .str x,.int i=>if x.length<=sizeLine then (atI x.cps.toList i).map fun c=>D.str ⟨#[c]⟩ else none
 | _,_=>none
theorem zpO {K:PySem.W.Frag}:zju Γ K ixD (rIx K):=by
 intro G H v u x y z gh r1 r2 h Q k
 unfold ixD at h
 split at h
 ·obtain ⟨a,vs,rfl,ha,rv⟩:=r1.lst_inv
  cases r2.int_inv
  obtain ⟨w,hw,rw'⟩:=rv.atI h
  exact .inl ⟨a,vs,_,w,rfl,rfl,.inl (.inl (gh _ _ ha)),hw,k w G H (.refl gh) rw'⟩
 ·obtain ⟨a,vs,rfl,ha,rv⟩:=r1.tup_inv
  cases r2.int_inv
  obtain ⟨w,hw,rw'⟩:=rv.atI h
  exact .inr (.inl ⟨a,vs,_,w,rfl,rfl,.inl (.inl (gh _ _ ha)),hw,k w G H (.refl gh) rw'⟩)
 ·obtain ⟨a,rfl,ha⟩:=r1.scr_inv
  cases r2.int_inv
  obtain ⟨n,hn,rfl⟩:=oMd h
  exact .inl ⟨a,_,_,.int n,rfl,rfl,gh.seq ha,by rw [zp0,hn];rfl,k _ G H (.refl gh) (.int _)⟩
 ·split at h
  ·cases r1.str_inv
   cases r2.int_inv
   obtain ⟨n,hn,rfl⟩:=oMd h
   exact .inr (.inr ⟨_,_,n,rfl,rfl,by assumption,hn,k _ G H (.refl gh) (.str _)⟩)
  ·cases h
 ·cases h
theorem zaw (ha:DE Γ X a fa) (hb:DE Γ X b fb) (hs:zmE b:=by intro _ _;rfl):DE Γ X (.Subscript a b pos) (b2 ixD fa fb):=⟨(zsv zrk ha.1 hb.1 hs).imp (TD.two zpO)⟩
def zfG {α:Type} (xs:List α) (lo hi:Option Int):List α:=(xs.drop (HT.sIx xs.length 0 lo)).take (HT.sIx xs.length xs.length hi - HT.sIx xs.length 0 lo)
theorem znI {α β:Type} (g:α->β) (xs:List α) (lo hi:Option Int):zfG (xs.map g) lo hi=(zfG xs lo hi).map g:=by
 unfold zfG
 simp
theorem Reps.cut {K:PySem.W.Frag} {G:Hp} {vs:List V} {ds:List D} (r:Reps Γ K G vs ds) (lo hi:Option Int):Reps Γ K G (zol vs lo hi) (zfG ds lo hi):=by
 unfold zol zfG
 rw [r.length]
 exact (r.drop _).take _
def zqb (x:Str) (lo hi:Option Int):Str:=⟨(zfG x.cps.toList lo hi).toArray⟩
theorem zh5 (lo hi:Option Int) (n:Nat):Builtin.Str.strSliceIndices lo hi 1 n=(List.range (HT.sIx n n hi - HT.sIx n 0 lo)).map (HT.sIx n 0 lo+·):=by
 rw [← sliceRange_one]
 unfold Builtin.Str.strSliceIndices
 have h1:∀ (o:Option Int) (d:Nat),d<=n->(match o with | none=>(d:Int) | some i=>if (1:Int) > 0 then max 0 (min (if i < 0 then i+(n:Int) else i) n) else max (-1) (min (if i < 0 then i+(n:Int) else i) ((n:Int) - 1)))=((HT.sIx n d o:Nat):Int):=fun o d hd=>by
  cases o with
  | none=>simp [HT.sIx]
  | some i =>
   simp only [HT.sIx,show (1:Int) > 0 by decide,if_true]
   by_cases h:i < 0
   ·simp only [h,if_true];omega
   ·simp only [h,if_false];omega
 have e0:=h1 lo 0 (Nat.zero_le _)
 have e1:=h1 hi n (qu _)
 rw [← e0,← e1]
 rfl
theorem zjD (x:Str) (lo hi:Option Int):Txt.slice x lo hi=zqb x lo hi:=by
 have key:(Builtin.Str.strSliceIndices lo hi 1 x.length).filterMap (x.cps[·]?)=zfG x.cps.toList lo hi:=by
  rw [zh5,pick_run]
  unfold zfG
  rw [show x.cps.toList.length=x.length by simp [Str.length]]
 unfold Txt.slice zqb
 split
 ·rename_i h
  rw [← key]
  have hl:(Builtin.Str.strSliceIndices lo hi 1 x.length).length=x.length:=by simpa using h
  rw [zh5] at hl ⊢
  rw [pick_run]
  rw [qe,qS] at hl
  have hb:HT.sIx x.length x.length hi<=x.length:=by
   cases hi with
   | none=>simp [HT.sIx]
   | some i=>simp only [HT.sIx];split <;> omega
  have h0:HT.sIx x.length 0 lo=0\/x.length=0:=by omega
  have hx:x.cps.toList.length=x.length:=by simp [Str.length]
  have e:(x.cps.toList.drop (HT.sIx x.length 0 lo)).take (HT.sIx x.length x.length hi - HT.sIx x.length 0 lo)=x.cps.toList:=by
   rcases h0 with h0 | h0
   ·rw [h0,List.drop_zero]
    rw [h0] at hl
    exact List.take_of_length_le (by omega)
   ·have:x.cps.toList=[]:=List.length_eq_zero_iff.mp (by omega)
    rw [this];simp
  rw [e]
 ·rw [key]
def pN:za5->Option (Option Int):=fun _=>some none
def pS (f:FE):za5->Option (Option Int):=fun ρ=>(f ρ).bind fun d=>match d with
 | .int i=>some (some i)
 | _=>none
def TDp (Γ:Cn) (K:PySem.W.Frag) (f:za5->Option (Option Int)):TO:=fun σ H Q=>∃ G₀ H₀ G ρ o,At Γ K G₀ H₀ G H ρ σ/\f ρ=some o/\∀ G' H',Step G H G' H'->Q o H'
structure DP (Γ:Cn) (X:Cx) (e:Option Expr) (f:za5->Option (Option Int)):Prop where
 out:PO X e (TDp Γ X.K f)
theorem zcE:DP Γ X none pN:=⟨fun pins s σ H Q I ⟨G₀,H₀,G,ρ,o,A,h,k⟩=>by
 cases h
 exact zoU pins s σ H Q I (k G H (.refl A.gh))⟩
theorem zcu (h:DE Γ X e f):DP Γ X (some e) (pS f):=⟨fun pins s σ H Q I ⟨G₀,H₀,G,ρ,o,A,q,k⟩=>by
 unfold pS at q
 obtain ⟨d,hd,q⟩:=oBd q
 split at q <;> cases q
 exact zoT h.1 pins s σ H Q I ⟨G₀,H₀,G,ρ,_,A,hd,fun v G' H' s r=>⟨_,r.int_inv,k G' H' s⟩⟩⟩
theorem zqp:SlR X (fun x lo hi H Q=>∃ z,x=.str z/\z.length<=sizeLine/\Q (.str (zqb z lo hi)) H):=by
 intro pins s σ H x v vl vu lo hi sl Q I rx hs pl pu h
 obtain ⟨z,rfl,hz,q⟩:=h
 obtain ⟨t,rfl⟩:=rx
 refine ⟨"str",_,PySem.F.slot_str_getitem.lookup,typeIs_str _ _ _,?_⟩
 obtain ⟨l,rfl,el⟩:∃ l:Option (Int×Tok),vl=partValue l/\l.map (·.1)=lo:=by
  cases pl with
  | none=>exact ⟨none,rfl,rfl⟩
  | int i t=>exact ⟨some (i,t),rfl,rfl⟩
 obtain ⟨u,rfl,eu⟩:∃ l:Option (Int×Tok),vu=partValue l/\l.map (·.1)=hi:=by
  cases pu with
  | none=>exact ⟨none,rfl,rfl⟩
  | int i t=>exact ⟨some (i,t),rfl,rfl⟩
 refine wpAny_getItem_str_slice (l:=l) (u:=u) (st:=none) hs rfl ?_
 have e:(if ((Option.map (fun x=>x.fst) (none:Option (Int×Tok))).getD 1==1 && (slicePicked z l u none).length==z.length)=true then z else { cps:=(List.filterMap (fun x=>z.cps[x]?) (slicePicked z l u none)).toArray })=zqb z lo hi:=by
  have e0:Txt.slice z (l.map (·.1)) (u.map (·.1))=zqb z lo hi:=by
   rw [el,eu]
   exact zjD z lo hi
  exact e0
 refine post_val_or_str ⟨?_,fun t' k=>?_⟩
 ·rw [e,← zjD]
  exact qK (Txt.slice_le z _ _) hz
 ·rw [e]
  exact ⟨.str _,H,I.tok k,⟨_,rfl⟩,q⟩
def zgS (lo hi:Option Int):D->Option D
 | .lst l=>some (.lst (zfG l lo hi))
 | .scr l=>some (.lst ((zfG l lo hi).map D.int))
 | .tup l=>if HT.sIx l.length 0 lo=0/\HT.sIx l.length l.length hi=l.length then none else some (.tup (zfG l lo hi))
 | .str x=>if x.length<=sizeLine then some (.str (zqb x lo hi)) else none
 | _=>none
def slF (f:FE) (fl fh:za5->Option (Option Int)):FE:=fun ρ=>(f ρ).bind fun d=>(fl ρ).bind fun l=>(fh ρ).bind fun h=>zgS l h d
variable {fl fh:za5->Option (Option Int)} {lo hi:Option Expr}
theorem zb2 (he:DE Γ X e f) (hl:DP Γ X lo fl) (hh:DP Γ X hi fh):DE Γ X (.Subscript e (.Slice lo hi none p2) pos) (slF f fl fh):=⟨(zm5 (zoC.or (zqo.or zqp)) he.1 hl.1 hh.1).imp fun σ H Q=>by
 rintro ⟨G₀,H₀,G,ρ,d,A,h,k⟩
 unfold slF at h
 obtain ⟨x,hx,h⟩:=oBd h
 obtain ⟨l,hl,h⟩:=oBd h
 obtain ⟨u,hu,h⟩:=oBd h
 refine ⟨G₀,H₀,G,ρ,x,A,hx,fun v G1 H1 s1 r1=>⟨G₀,H₀,G1,ρ,l,A.step s1,hl,fun G2 H2 s2=>⟨G₀,H₀,G2,ρ,u,(A.step s1).step s2,hu,fun G3 H3 s3=>?_⟩⟩⟩
 have s:=(s1.trans s2).trans s3
 have r:=r1.mono (s2.gg.trans s3.gg)
 have gh:=s3.gh
 unfold zgS at h
 split at h
 ·cases h
  obtain ⟨a,vs,rfl,ha,rv⟩:=r.lst_inv
  exact .inl ⟨a,vs,rfl,.inl (.inl (gh _ _ ha)),zfY gh (rv.cut l u) fun w G4 H4 s4 r4=>k w G4 H4 (s.trans s4) r4⟩
 ·cases h
  obtain ⟨a,rfl,ha⟩:=r.scr_inv
  refine .inl ⟨a,_,rfl,gh.seq ha,zfY gh ?_ fun w G4 H4 s4 r4=>k w G4 H4 (s.trans s4) r4⟩
  show Reps Γ X.K G3 (zfG _ l u) _
  rw [znI]
  exact Reps.ints _
 ·split at h
  ·cases h
  ·rename_i hw
   cases h
   obtain ⟨a,vs,rfl,ha,rv⟩:=r.tup_inv
   exact .inr (.inl ⟨a,vs,rfl,.inl (.inl (gh _ _ ha)),by rw [rv.length];exact hw,zi6 gh (rv.cut l u) fun w G4 H4 s4 r4=>k w G4 H4 (s.trans s4) r4⟩)
 ·split at h
  ·cases h
   cases r.str_inv
   exact .inr (.inr ⟨_,rfl,by assumption,k _ _ _ s (.str _)⟩)
  ·cases h
 ·cases h⟩
structure MtD (Γ:Cn) (X:Cx) (T id:String) (g:D->List D->Option D):Prop where
 ex:∃ r,MtR X id r/\∀ {G H v x vs ds z},zbT G H->Rep Γ X.K G v x->Reps Γ X.K G vs ds->g x ds=some z->∀ Q:VK,(∀ w G' H',Step G H G' H'->Rep Γ X.K G' w z->Q w H')->r v vs H Q
 ty:∀ {G H v x ds z},zbT G H->Rep Γ X.K G v x->g x ds=some z->tyV X.K T v H
variable {name:Str} {apos cpos:Pos} {o:Expr} {fo:FE}
def zqm:List D->Option (List Str)
 | []=>some []
 | .str x::r=>(zqm r).map (x::·)
 | _::_=>none
def zt3:D->List D->Option D
 | .str sep,[.lst l]=>(zqm l).bind fun ys=>if (ys.map (·.length)).sum+ys.length*sep.length<=16777216 then some (.str (Txt.join sep ys)) else none
 | _,_=>none
def zqc:List D->Option (List Bool)
 | []=>some []
 | .bl x::r=>(zqc r).map (x::·)
 | _::_=>none
theorem zmw {K:PySem.W.Frag} {G:Hp}:∀ {vs:List V} {ds:List D} {ys:List Bool},Reps Γ K G vs ds->zqc ds=some ys->vs=ys.map V.bl
 | _,[],ys,r,h=>by cases r;cases h;rfl
 | _,d::ds,ys,.cons h1 h2,h=>by
  cases d with
  | bl x =>
   obtain ⟨zs,hz,rfl⟩:=oMd (show (zqc ds).map (x::·)=some ys from h)
   rw [h1.bl_inv,zmw h2 hz];rfl
  | _=>cases h
def ziR:List D->Option D
 | [.lst l]=>(zqc l).map fun bs=>D.bl (bs.all id)
 | _=>none
theorem zkU:∀ {bs:List Bool} {us:List Value},zbS (bs.map V.bl) us->us=bs.map Value.bool
 | [],_,r=>by rw [qM] at r;cases r;rfl
 | y::ys,_,r=>by
  rw [ql] at r
  cases r with
  | cons r1 r2=>cases r1;rw [zkU r2];rfl
theorem zmC (bs:List Bool):(List.range bs.length).all (fun i=>bs.getD i false)=bs.all id:=by
 rw [Bool.eq_iff_iff,List.all_eq_true,List.all_eq_true]
 constructor
 ·intro h x hx
  obtain ⟨i,hi,e⟩:=List.mem_iff_getElem.mp hx
  have:=h i (List.mem_range.mpr hi)
  simp [List.getD,hi] at this
  rw [← e];exact this
 ·intro h i hi
  have hi':=List.mem_range.mp hi
  have:=h (bs[i]) (List.getElem_mem hi')
  simp [List.getD,hi']
  exact this
theorem zmL {prog:Program} {w:World} {A:Around} {bs:List Bool}:TruthOf prog w A (fun i v=>(bs.map Value.bool).toArray[i]?=some v) (fun i=>bs.getD i false):=fun i v s Q E hP hQ=>by
 have hP':(bs.map Value.bool)[i]?=some v:=by simpa using hP
 rw [qj] at hP'
 obtain ⟨b,hb,rfl⟩:=oMd hP'
 have:bs.getD i false=b:=by simp [List.getD,hb]
 have hQ':Q (bs.getD i false) s:=hQ
 rw [this] at hQ'
 exact wpAny_truthy_bool hQ'
theorem zdx (hc:X.calm=true):BltD Γ X "all" ziR:=by
 refine ⟨fun vs H Q=>∃ (a:Addr) (bs:List Bool),vs=[.ref a]/\H a=some (.lst (bs.map V.bl))/\Q (.bl (bs.all id)) H,?_,?_⟩
 ·intro pins s σ H xs us Q I r h
  obtain ⟨a,bs,rfl,ha,q⟩:=h
  obtain ⟨u,rfl,ru⟩:=zeT r
  cases ru
  obtain ⟨its,rv,pl,_⟩:=I.list (.inl (.inl ha))
  have e:=zkU rv
  subst e
  refine call_all_walk (wpAny_pyIter_list pl.isList ?_)
  have ne:a≠s.heap.objs.size:=by obtain ⟨o,_,h1,_⟩:=pl;exact qA (qt h1)
  refine ⟨s.heap.objs.size,_,_,_,_,_,fun i=>bs.getD i false,rfl,Walks.list (A:=X.A.in1) (show X.A.in1.handled=none from I.ok.hd hc) s.heap.objs.size a ne (bs.map Value.bool).toArray,⟨⟨_,qE _ rfl,rfl,rfl⟩,pl.isList.at fun o q=>qr _ q⟩,zmL,fun h' tk hk=>?_⟩
  have e2:(bs.map Value.bool).toArray.size=bs.length:=by simp
  rw [e2,zmC]
  refine ⟨.bl _,H,I.kept fun b o z=>hk b o ?_ (qr _ z),rfl,q⟩
  intro z'
  have:b=s.heap.objs.size:=by simpa using z'
  exact absurd (qt z) (by rw [this];exact Nat.lt_irrefl _)
 ·intro G H vs ds z gh r h Q k
  unfold ziR at h
  split at h
  ·obtain ⟨bs,hb,rfl⟩:=oMd h
   obtain ⟨v,rfl,r1⟩:=r.one
   obtain ⟨a,ws,rfl,ha,rw'⟩:=r1.lst_inv
   refine ⟨a,bs,rfl,?_,k _ G H (.refl gh) (.bl _)⟩
   rw [← zmw rw' hb]
   exact gh _ _ ha
  ·cases h
end
end L2
end
section
namespace L2
open PySem PySem.Spec PyProof.Rows
structure Yd (Γ:Cn) (K:PySem.W.Frag) (J:It) (G:Hp) (ds:List D):Prop where
 go:∀ (i:Nat) d G2 H2,ds[i]?=some d->zbT G G2->zbT G2 H2->J.go i H2/\∀ x H3,J.yld i H2 x H3->∃ G3,Step G2 H2 G3 H3/\Rep Γ K G3 x d
 stop:∀ G2 H2,zbT G G2->zbT G2 H2->J.stop ds.length H2
def TDi (Γ:Cn) (K:PySem.W.Frag) (f:FA):TI:=fun σ H R=>∃ G₀ H₀ G ρ ds,At Γ K G₀ H₀ G H ρ σ/\f ρ=some ds/\∀ J G' H',Step G H G' H'->Yd Γ K J G' ds->R J H'
structure DI (Γ:Cn) (X:Cx) (tg e:Expr) (f:FA):Prop where
 out:PI X tg e (TDi Γ X.K f)
theorem PI.imp {X:Cx} {tg e:Expr} {t t':TI} (h:PI X tg e t) (i:∀ σ H R,t' σ H R->t σ H R):PI X tg e t':=fun pins s σ H R I q=>h pins s σ H R I (i _ _ _ q)
section
variable {Γ:Cn} {X:Cx} {a b c e tg iter:Expr} {es:List Expr} {fa fb fc f:FE} {fr fi:FA} {pos p2 p:Pos}
theorem zqd {K:PySem.W.Frag} {G:Hp} {a:Addr} {vs:List V} {ds:List D} (h:G a=some (.tup vs)) (r:Reps Γ K G vs ds):Yd Γ K (Itt K a) G ds:=by
 refine ⟨fun i d G2 H2 hd g1 g2=>?_,fun G2 H2 g1 g2=>⟨vs,.inl (.inl (g2 _ _ (g1 _ _ h))),by rw [r.length];exact qu _⟩⟩
 obtain ⟨v,hv,rv⟩:=r.get hd
 refine ⟨⟨vs,v,.inl (.inl (g2 _ _ (g1 _ _ h))),hv⟩,fun x H3 ⟨e1,e2⟩=>?_⟩
 subst e1
 have:=e2 vs (.inl (.inl (g2 _ _ (g1 _ _ h))))
 rw [hv] at this
 cases this
 exact ⟨G2,.refl g2,rv.mono g1⟩
theorem zkR {K:PySem.W.Frag} {G:Hp} {a:Addr} {vs:List V} {ds:List D} (h:SqL K G a vs) (r:Reps Γ K G vs ds):Yd Γ K (Ite K a) G (ds.mapIdx fun i d=>D.tup [.int i,d]):=by
 refine ⟨fun i d G2 H2 hd g1 g2=>?_,fun G2 H2 g1 g2=>⟨vs,g2.seq (g1.seq h),by rw [List.length_mapIdx,r.length];exact qu _⟩⟩
 rw [List.getElem?_mapIdx] at hd
 obtain ⟨d',hd',rfl⟩:=oMd hd
 obtain ⟨v,hv,rv⟩:=r.get hd'
 refine ⟨⟨vs,v,g2.seq (g1.seq h),hv⟩,fun x H3 ⟨T,y,e0,hT,e1,e2⟩=>?_⟩
 subst e0
 have:=e2 vs (g2.seq (g1.seq h))
 rw [hv] at this
 cases this
 subst e1
 have s:=Step.new (o:=.tup [.int i,v]) g2 hT
 exact ⟨_,s,.tup zav (.cons (.int _) (.cons ((rv.mono g1).mono s.gg) .nil))⟩
def zf5:D->Option (List D)
 | .lst l=>some l
 | .tup l=>some l
 | .scr l=>some (l.map D.int)
 | _=>none
def itF (f:FE):FA:=fun ρ=>(f ρ).bind zf5
theorem zqK {l:Expr} {tl:TE} (hl:PE X l tl):PI X tg l (fun σ H R=>tl σ H fun x H1=>(∃ a,x=.ref a/\(∃ xs,SqL X.K H1 a xs)/\R (Itl X.K a) H1)\/(∃ a,x=.ref a/\(∃ xs,SqT X.K H1 a xs)/\R (Itt X.K a) H1)):=by
 intro pins s σ H R I h
 refine thn (hl pins s σ H _ I h) fun v s1 ⟨x,H1,I1,r1,q1⟩=>?_
 rcases q1 with ⟨a,e,⟨xs,hq⟩,q⟩ | ⟨a,e,⟨xs,hq⟩,q⟩
 ·subst e
  cases r1
  obtain ⟨its,rv,p,hz⟩:=I1.list hq
  refine wpAny_pyIter_list p.isList ?_
  refine ⟨s1.heap.objs.size,[s1.heap.objs.size],_,_,H1,rfl,I1.kept (t':=s1.toks) fun b o e=>qr _ e,zkY a _,⟨_,qE _ rfl,rfl,rfl⟩,fun b hb=>?_,q⟩
  have e:b=s1.heap.objs.size:=by simpa using hb
  subst e
  exact I1.fpOk (qu _) (I1.hok.fresh (qu _))
 ·subst e
  cases r1
  obtain ⟨its,rv,p,hz⟩:=I1.tuple hq
  refine wpAny_pyIter_tuple (show s1.heap.IsTuple a its.toArray from p) ?_
  refine ⟨s1.heap.objs.size,[s1.heap.objs.size],_,_,H1,rfl,I1.kept (t':=s1.toks) fun b o e=>qr _ e,zkf a _,⟨_,qE _ rfl,rfl,rfl⟩,fun b hb=>?_,q⟩
  have e:b=s1.heap.objs.size:=by simpa using hb
  subst e
  exact I1.fpOk (qu _) (I1.hok.fresh (qu _))
theorem zbb (h:DE Γ X iter f):DI Γ X tg iter (itF f):=⟨(zqK h.1).imp fun σ H R=>by
 rintro ⟨G₀,H₀,G,ρ,ds,A,h,k⟩
 unfold itF at h
 obtain ⟨d,hd,h⟩:=oBd h
 refine ⟨G₀,H₀,G,ρ,d,A,hd,fun v G' H' s r=>?_⟩
 unfold zf5 at h
 split at h
 ·cases h
  obtain ⟨a,vs,rfl,ha,rv⟩:=r.lst_inv
  refine .inl ⟨a,rfl,⟨vs,.inl (.inl (s.gh _ _ ha))⟩,k _ G' H' s ?_⟩
  refine ⟨fun i d G2 H2 hd g1 g2=>?_,fun G2 H2 g1 g2=>⟨vs,.inl (.inl (g2 _ _ (g1 _ _ ha))),by rw [rv.length];exact qu _⟩⟩
  obtain ⟨v,hv,rv'⟩:=rv.get hd
  refine ⟨⟨vs,v,.inl (.inl (g2 _ _ (g1 _ _ ha))),hv⟩,fun x H3 ⟨e1,e2⟩=>?_⟩
  subst e1
  have:=e2 vs (.inl (.inl (g2 _ _ (g1 _ _ ha))))
  rw [hv] at this
  cases this
  exact ⟨G2,.refl g2,rv'.mono g1⟩
 ·cases h
  obtain ⟨a,vs,rfl,ha,rv⟩:=r.tup_inv
  exact .inr ⟨a,rfl,⟨vs,.inl (.inl (s.gh _ _ ha))⟩,k _ G' H' s (zqd ha rv)⟩
 ·rename_i l
  cases h
  obtain ⟨a,rfl,ha⟩:=r.scr_inv
  refine .inl ⟨a,rfl,⟨_,s.gh.seq ha⟩,k _ G' H' s ?_⟩
  refine ⟨fun i d G2 H2 hd g1 g2=>?_,fun G2 H2 g1 g2=>⟨_,g2.seq (g1.seq ha),by simp⟩⟩
  rw [qj] at hd
  obtain ⟨n,hn,rfl⟩:=oMd hd
  have hv:(List.map V.int l)[i]?=some (V.int n):=by rw [qj,hn];rfl
  refine ⟨⟨_,_,g2.seq (g1.seq ha),hv⟩,fun x H3 ⟨e1,e2⟩=>?_⟩
  subst e1
  have:=e2 _ (g2.seq (g1.seq ha))
  rw [hv] at this
  cases this
  exact ⟨G2,.refl g2,.int _⟩
 ·cases h⟩
def zk8:D->Option (List D)
 | .str x=>some (x.cps.toList.map fun c=>D.str ⟨#[c]⟩)
 | _=>none
def itS (f:FE):FA:=fun ρ=>(f ρ).bind zk8
theorem zrI {n:Str} {q:Pos} (h:DE Γ X iter f):DI Γ X (.Name n q) iter (itS f):=⟨(zqJ h.1).imp fun σ H R=>by
 rintro ⟨G₀,H₀,G,ρ,ds,A,h,k⟩
 unfold itS at h
 obtain ⟨d,hd,h⟩:=oBd h
 refine ⟨G₀,H₀,G,ρ,d,A,hd,fun v G' H' s r=>?_⟩
 unfold zk8 at h
 split at h <;> cases h
 cases r.str_inv
 rename_i x
 refine ⟨x,rfl,k _ G' H' s ⟨fun i d G2 H2 hd g1 g2=>?_,fun G2 H2 g1 g2=>?_⟩⟩
 ·rw [qj] at hd
  obtain ⟨c,hc,rfl⟩:=oMd hd
  have hc':x.cps[i]?=some c:=by simpa using hc
  refine ⟨(Array.getElem?_eq_some_iff.mp hc').1,fun y H3 ⟨e1,c2,h2,e2⟩=>?_⟩
  subst e1
  subst e2
  rw [hc'] at h2
  cases h2
  exact ⟨G2,.refl g2,.str _⟩
 ·show _=x.cps.size
  simp⟩
def zrA:D->Option (List D)
 | .lst l=>some (l.mapIdx fun i d=>D.tup [.int i,d])
 | .scr l=>some ((l.map D.int).mapIdx fun i d=>D.tup [.int i,d])
 | _=>none
def itE (f:FE):FA:=fun ρ=>(f ρ).bind zrA
theorem zen {elts:List Expr} {k1:Nat} {tpos:Pos} (hg:Gl X "enumerate") (hm:X.mg "enumerate"=none) (h:DE Γ X a f) (hs:starEach [a] X.env=[(false,eval a X.env)]:=by rfl) (hs0:starEach ([a]:List Expr) X.env=(false,eval a X.env)::starEach [] X.env:=by rfl) :
  DI Γ X (.Tuple elts k1 tpos) (.Call (.Name "enumerate" p) [a] [] pos) (itE f):=⟨(zoY hg hm (zbM h.1 zdd hs0) hs).imp fun σ H R=>by
 rintro ⟨G₀,H₀,G,ρ,ds,A,h,k⟩
 unfold itE at h
 obtain ⟨d,hd,h⟩:=oBd h
 refine ⟨G₀,H₀,G,ρ,d,A,hd,fun v G' H' s r=>?_⟩
 unfold zrA at h
 split at h
 ·cases h
  obtain ⟨a,vs,rfl,ha,rv⟩:=r.lst_inv
  exact ⟨a,rfl,⟨vs,.inl (.inl (s.gh _ _ ha))⟩,k _ G' H' s (zkR (.inl (.inl ha)) rv)⟩
 ·cases h
  obtain ⟨a,rfl,ha⟩:=r.scr_inv
  exact ⟨a,rfl,⟨_,s.gh.seq ha⟩,k _ G' H' s (zkR ha (Reps.ints _))⟩
 ·cases h⟩
theorem zjv {K:PySem.W.Frag} {G:Hp} {lo:Int} {n:Nat}:Yd Γ K (Itr lo n) G ((List.range n).map fun i:Nat=>D.int (lo+i)):=by
 refine ⟨fun i d G2 H2 hd g1 g2=>?_,fun G2 H2 g1 g2=>?_⟩
 ·rw [qj] at hd
  obtain ⟨j,hj,rfl⟩:=oMd hd
  have hi:i < n:=by
   have:=(List.getElem?_eq_some_iff.mp hj).1
   simpa using this
  have e:j=i:=by simpa [hi] using hj.symm
  subst e
  refine ⟨hi,fun x H3 ⟨e1,e2⟩=>?_⟩
  subst e1
  subst e2
  exact ⟨G2,.refl g2,.int _⟩
 ·show n<=_
  simp
def zjF:List D->Option (List D)
 | [.int j]=>if -(2 ^ 62)<=j/\j < 2 ^ 62 then some ((List.range j.toNat).map fun i:Nat=>D.int (0+i)) else none
 | _=>none
def zoI:List D->Option (List D)
 | [.int i,.int j]=>if -(2 ^ 62)<=i/\i < 2 ^ 62 /\ -(2 ^ 62)<=j/\j < 2 ^ 62 then some ((List.range (j - i).toNat).map fun k:Nat=>D.int (i+k)) else none
 | _=>none
def itR (g:List D->Option (List D)) (fr:FA):FA:=fun ρ=>(fr ρ).bind g
theorem zdM (hg:Gl X "range") (hm:X.mg "range"=none) (h:DA Γ X [a] fr) (hs:starEach [a] X.env=[(false,eval a X.env)]:=by rfl):DI Γ X tg (.Call (.Name "range" p) [a] [] pos) (itR zjF fr):=⟨(zll hg hm h.1 hs).imp fun σ H R=>by
 rintro ⟨G₀,H₀,G,ρ,ds,A,h,k⟩
 unfold itR at h
 obtain ⟨d,hd,h⟩:=oBd h
 refine ⟨G₀,H₀,G,ρ,d,A,hd,fun v G' H' s r=>?_⟩
 unfold zjF at h
 split at h
 ·split at h
  ·rename_i hz
   cases h
   obtain ⟨v,rfl,r1⟩:=r.one
   cases r1.int_inv
   exact ⟨_,rfl,hz.1,hz.2,k _ G' H' s zjv⟩
  ·cases h
 ·cases h⟩
theorem zmc (hg:Gl X "range") (hm:X.mg "range"=none) (h:DA Γ X [a,b] fr) (hs:starEach [a,b] X.env=[(false,eval a X.env),(false,eval b X.env)]:=by rfl) (hs2:starEach [b] X.env=[(false,eval b X.env)]:=by rfl):DI Γ X tg (.Call (.Name "range" p) [a,b] [] pos) (itR zoI fr):=⟨(zlk hg hm h.1 hs hs2).imp fun σ H R=>by
 rintro ⟨G₀,H₀,G,ρ,ds,A,h,k⟩
 unfold itR at h
 obtain ⟨d,hd,h⟩:=oBd h
 refine ⟨G₀,H₀,G,ρ,d,A,hd,fun v G' H' s r=>?_⟩
 unfold zoI at h
 split at h
 ·split at h
  ·rename_i hz
   cases h
   obtain ⟨v,u,rfl,r1,r2⟩:=r.two
   cases r1.int_inv
   cases r2.int_inv
   exact ⟨_,_,rfl,hz,k _ G' H' s zjv⟩
  ·cases h
 ·cases h⟩
abbrev FG:=D->za5->Option za5
abbrev FGs:=List D->za5->Option za5
def TDg (Γ:Cn) (K:PySem.W.Frag) (g:FG):TG:=fun v σ H Q=>∃ G₀ H₀ G ρ d ρ',At Γ K G₀ H₀ G H ρ σ/\Rep Γ K G v d/\g d ρ=some ρ'/\∀ σ',At Γ K G₀ H₀ G H ρ' σ'->Q σ' H
def zup (Γ:Cn) (K:PySem.W.Frag) (g:FGs):TGs:=fun vs σ H Q=>∃ G₀ H₀ G ρ ds ρ',At Γ K G₀ H₀ G H ρ σ/\Reps Γ K G vs ds/\g ds ρ=some ρ'/\∀ σ',At Γ K G₀ H₀ G H ρ' σ'->Q σ' H
structure DG (Γ:Cn) (X:Cx) (tg:Expr) (g:FG):Prop where
 pg:PG X tg (TDg Γ X.K g)
 no:∀ d ρ ρ',g d ρ=some ρ'->ze9 ρ->ze9 ρ'
structure DGs (Γ:Cn) (X:Cx) (ts:List Expr) (g:FGs):Prop where
 pg:PGs X ts (zup Γ X.K g)
 no:∀ d ρ ρ',g d ρ=some ρ'->ze9 ρ->ze9 ρ'
theorem PG.imp {t t':TG} (h:PG X tg t) (i:∀ v σ H Q,t' v σ H Q->t v σ H Q):PG X tg t':=fun pins s σ H v u Q I r q=>h pins s σ H v u Q I r (i _ _ _ _ q)
theorem PGs.imp {ts:List Expr} {t t':TGs} (h:PGs X ts t) (i:∀ v σ H Q,t' v σ H Q->t v σ H Q):PGs X ts t':=fun pins s σ H v u Q I r q=>h pins s σ H v u Q I r (i _ _ _ _ q)
def za3 (i:Nat):FG:=fun d ρ=>some (ρ.set i (some (.sh d)))
theorem zlu {ρ:za5} {i:Nat} {d:D} (h:ze9 ρ):ze9 (ρ.set i (some (.sh d))):=fun j ds e=>by
 by_cases hj:j=i
 ·subst hj
  rw [List.getElem?_set,qX rfl] at e
  split at e <;> cases e
  exact ⟨_,rfl⟩
 ·rw [qw (Ne.symm hj)] at e
  exact h j ds e
theorem zaC (i:Nat) {x:Str} (hN:X.N.Nodup) (hi:X.N[i]?=some x:=by rfl) (hx:Loc X.env.scope x:=by first | exact Or.inl rfl | exact Or.inr rfl) (hf:X.fn x=true\/X.env.scope.names.lookup x=some .local:=by first | exact .inl rfl | exact .inr rfl | assumption):DG Γ X (.Name x pos) (za3 i):=by
 refine ⟨(zo0 hN hi hx hf).imp fun v σ H Q=>?_,fun d ρ ρ' e h=>?_⟩
 ·rintro ⟨G₀,H₀,G,ρ,d,ρ',A,r,h,k⟩
  cases h
  exact k _ (A.setSh r)
 ·cases e
  exact zlu h
def zcW:FGs:=fun ds ρ=>match ds with
 | []=>some ρ
 | _=>none
def za2 (g:FG) (gs:FGs):FGs:=fun ds ρ=>match ds with
 | d::r=>(g d ρ).bind fun ρ'=>gs r ρ'
 | _=>none
theorem zdN:DGs Γ X [] zcW:=by
 refine ⟨zoZ.imp fun vs σ H Q=>?_,fun d ρ ρ' e h=>?_⟩
 ·rintro ⟨G₀,H₀,G,ρ,ds,ρ',A,r,h,k⟩
  unfold zcW at h
  split at h <;> cases h
  cases r
  exact ⟨rfl,k σ A⟩
 ·unfold zcW at e
  split at e <;> cases e
  exact h
theorem zbB {ts:List Expr} {g:FG} {gs:FGs} (h1:DG Γ X e g) (h2:DGs Γ X ts gs) (hs:(assignEach (e::ts) X.env).map (·.2)=assign e X.env::(assignEach ts X.env).map (·.2):=by rfl):DGs Γ X (e::ts) (za2 g gs):=by
 refine ⟨(zm4 h1.pg h2.pg hs).imp fun vs σ H Q=>?_,fun ds ρ ρ' e h=>?_⟩
 ·rintro ⟨G₀,H₀,G,ρ,ds,ρ',A,r,h,k⟩
  unfold za2 at h
  split at h
  ·obtain ⟨ρ1,h1,h⟩:=oBd h
   cases r with
   | cons r1 r2=>exact ⟨_,_,rfl,G₀,H₀,G,ρ,_,ρ1,A,r1,h1,fun σ1 A1=>⟨G₀,H₀,G,ρ1,_,ρ',A1,r2,h,k⟩⟩
  ·cases h
 ·unfold za2 at e
  split at e
  ·obtain ⟨ρ1,e1,e⟩:=oBd e
   exact h2.no _ _ _ e (h1.no _ _ _ e1 h)
  ·cases e
def zcX (n:Nat) (gs:FGs):FG:=fun d ρ=>match d with
 | .tup ds=>if ds.length=n then gs ds ρ else none
 | _=>none
theorem zfo {ts:List Expr} {k:Nat} {gs:FGs} {n:Nat} (hc:X.calm=true) (h:DGs Γ X ts gs) (hn:(assignEach ts X.env).length=n:=by rfl) (hst:(assignEach ts X.env).findIdx? (·.1)=none:=by rfl):DG Γ X (.Tuple ts k pos) (zcX n gs):=by
 refine ⟨(zqL hc h.pg hn hst).imp fun v σ H Q=>?_,fun ds ρ ρ' e q=>?_⟩
 ·rintro ⟨G₀,H₀,G,ρ,d,ρ',A,r,h,k⟩
  unfold zcX at h
  split at h
  ·split at h
   ·rename_i hl
    obtain ⟨a,vs,rfl,ha,rv⟩:=r.tup_inv
    exact ⟨a,vs,rfl,.inl (.inl (A.gh _ _ ha)),by rw [rv.length];exact hl,G₀,H₀,G,ρ,_,ρ',A,rv,h,k⟩
   ·cases h
  ·cases h
 ·unfold zcX at e
  split at e
  ·split at e
   ·exact h.no _ _ _ e q
   ·cases e
  ·cases e
def zgE (g:FG) (ft:FT) (fe:FE):List D->za5->Option (List D)
 | [],_=>some []
 | x::xs,ρ=>(g x ρ).bind fun ρ1=>(ft ρ1).bind fun b=>if b=true then (fe ρ1).bind fun d=>(zgE g ft fe xs ρ1).map (d::·) else zgE g ft fe xs ρ1
def zeI (fv:List (Option Nat)) (ρ:za5):za5:=fv.map fun o=>o.bind fun j=>match ρ[j]? with
 | some (some (.sh d))=>some (.sh d)
 | _=>none
def za0 (fi:FA) (g:FG) (ft:FT) (fe:FE) (fv:List (Option Nat)):FA:=fun ρ=>(fi ρ).bind fun xs=>if xs.length<=sizeLine then zgE g ft fe xs (zeI fv ρ) else none
structure DTs (Γ:Cn) (X:Cx) (es:List Expr) (f:FT):Prop where
 out:PTs X es (TDt Γ X.K f)
theorem PTs.imp {t t':TT} (h:PTs X es t) (i:∀ σ H Q,t' σ H Q->t σ H Q):PTs X es t':=fun pins s σ H Q I q=>h pins s σ H Q I (i _ _ _ q)
def tT:FT:=fun _=>some true
theorem zaV:DTs Γ X [] tT:=⟨zoN.imp fun σ H Q=>by
 rintro ⟨G₀,H₀,G,ρ,b,A,h,k⟩
 cases h
 exact k G H (.refl A.gh)⟩
theorem zl4 {ft:FT} (h:DT Γ X c ft):DTs Γ X [c] ft:=⟨zoM h.1⟩
variable {scope:Scope} {N':List Str} {fv:List (Option Nat)} {g:FG} {ft:FT} {fe:FE} {ifs:List Expr} {elt:Expr}
structure DB (Γ:Cn) (X:Cx) (N':List Str) (scope:Scope) (tg:Expr) (ifs:List Expr) (elt:Expr) (g:FG) (ft:FT) (fe:FE):Prop where
 out:∀ (cl:List (Str×Addr)) (C:Addr) (s₀:Shared) (H₀:Hp) (fp:List Addr),DG Γ (zc1 X N' scope cl C s₀ H₀ fp) tg g/\DTs Γ (zc1 X N' scope cl C s₀ H₀ fp) ifs ft/\DE Γ (zc1 X N' scope cl C s₀ H₀ fp) elt fe
theorem DB.pb (h:DB Γ X N' scope tg ifs elt g ft fe):PB X N' scope tg ifs elt (TDg Γ X.K g) (TDt Γ X.K ft) (TD Γ X.K fe):=fun cl C s₀ H₀ fp=>⟨(h.1 cl C s₀ H₀ fp).1.pg,(h.1 cl C s₀ H₀ fp).2.1.1,(h.1 cl C s₀ H₀ fp).2.2.1⟩
theorem zru {K:PySem.W.Frag} {G₀ H₀ G H:Hp} {ρ:za5} {σ:St} (A:At Γ K G₀ H₀ G H ρ σ):At Γ K G H G H (zeI fv ρ) (zlW fv σ)/\ze9 (zeI fv ρ):=by
 have no:ze9 (zeI fv ρ):=fun i ds e=>by
  unfold zeI at e
  rw [qj] at e
  obtain ⟨o,ho,e⟩:=oMd e
  cases o with
  | none=>cases e
  | some j =>
   simp only [qa] at e
   split at e <;> cases e
   exact ⟨_,rfl⟩
 refine ⟨⟨.refl A.gh,.ofSh (by simp [zeI,zlW]) no fun i d e=>?_⟩,no⟩
 unfold zeI at e
 unfold zlW
 rw [qj] at e ⊢
 obtain ⟨o,ho,e⟩:=oMd e
 rw [ho]
 cases o with
 | none=>cases e
 | some j =>
  simp only [qa] at e
  split at e
  ·rename_i d' hd'
   cases e
   obtain ⟨v,h1,h2⟩:=A.env.sh j d hd'
   exact ⟨v,by simp [h1],h2⟩
  ·cases e
theorem zj5 (no:∀ d ρ ρ',g d ρ=some ρ'->ze9 ρ->ze9 ρ'):∀ σ H Q,TDo Γ X.K (za0 fi g ft fe fv) σ H Q->tLC (TDi Γ X.K fi) (TDg Γ X.K g) (TDt Γ X.K ft) (TD Γ X.K fe) fv σ H Q:=by
 rintro σ H Q ⟨G₀,H₀,G,ρ,ds,A,h,k⟩
 unfold za0 at h
 obtain ⟨xs,hx,h⟩:=oBd h
 split at h
 case isFalse=>cases h
 rename_i hz
 refine ⟨G₀,H₀,G,ρ,xs,A,hx,fun J G1 H1 s1 Y acc hacc=>?_⟩
 have gacc:G1 acc=none:=s1.gh.free hacc
 obtain ⟨A0,no0⟩:=zru (fv:=fv) (A.step s1)
 refine ⟨fun i m ys σ' H'=>m=xs.length - i/\i<=xs.length/\ys.length<=i/\∃ G' ρ' done zcb,At Γ X.K G1 H1 G' H' ρ' σ'/\ze9 ρ'/\H' acc=some (.lst ys)/\G' acc=none/\Reps Γ X.K G' ys done/\zgE g ft fe (xs.drop i) ρ'=some zcb/\done++zcb=ds,?_,?_⟩
 ·refine ⟨xs.length,rfl,Nat.zero_le _,qu _,G1,zeI fv ρ,[],ds,?_,no0,zav,gacc,.nil,by rw [List.drop_zero];exact h,rfl⟩
  have sn:=Step.newOwn (o:=.lst []) s1.gh hacc
  exact ⟨sn,.ofSh A0.env.len no0 A0.env.sh⟩
 ·rintro i m ys σ' H' ⟨hm,hi,hyi,G',ρ',done,zcb,A',no',hacc',gacc',ry,hr,hd⟩
  subst hm
  refine ⟨hacc',?_⟩
  by_cases hlt:i < xs.length
  ·right
   have hxi:xs[i]?=some xs[i]:=by simp [hlt]
   obtain ⟨go,yl⟩:=Y.go i _ G' H' hxi A'.st.gg A'.gh
   refine ⟨go,fun x H2 hy=>?_⟩
   obtain ⟨G2,s2,r2⟩:=yl x H2 hy
   have A2:=A'.step s2
   have hdr:xs.drop i=xs[i]::xs.drop (i+1):=List.drop_eq_getElem_cons hlt
   rw [hdr] at hr
   unfold zgE at hr
   obtain ⟨ρ1,h1,hr⟩:=oBd hr
   obtain ⟨b,h2,hr⟩:=oBd hr
   refine ⟨G1,H1,G2,ρ',_,ρ1,A2,r2,h1,fun σ2 A3=>⟨G1,H1,G2,ρ1,b,A3,h2,fun G4 H4 s4=>?_⟩⟩
   have no1:=no _ _ _ h1 no'
   have hH4:H4 acc=some (.lst ys):=s4.hh _ _ (s2.hh _ _ hacc')
   have hG4:G4 acc=none:=(s4.out _ _ (s2.hh _ _ hacc')).trans ((s2.out _ _ hacc').trans gacc')
   cases b with
   | false =>
    rw [qY qq] at hr
    refine zoe ⟨xs.length - (i+1),by omega,rfl,hlt,by omega,G4,ρ1,done,zcb,A3.step s4,no1,hH4,hG4,(ry.mono s2.gg).mono s4.gg,hr,hd⟩
   | true =>
    rw [qX rfl] at hr
    obtain ⟨d,h3,hr⟩:=oBd hr
    obtain ⟨zs,h5,rfl⟩:=oMd hr
    refine zod ⟨G1,H1,G4,ρ1,d,A3.step s4,h3,fun v G5 H5 s5 r5=>?_⟩
    have A5:=(A3.step s4).step s5
    have hH5:H5 acc=some (.lst ys):=s5.hh _ _ hH4
    have hG5:G5 acc=none:=(s5.out _ _ hH4).trans hG4
    refine ⟨hH5,by omega,xs.length - (i+1),by omega,rfl,hlt,by rw [qi,qU];omega,G5,ρ1,done++[d],zs,?_,no1,zav,hG5,((((ry.mono s2.gg).mono s4.gg).mono s5.gg).append (.cons r5 .nil)),h5,by rw [List.append_assoc];exact hd⟩
    refine ⟨⟨fun b o e=>?_,A5.st.gg,fun b o e=>?_,A5.st.out⟩,.ofSh A5.env.len no1 A5.env.sh⟩
    ·rw [zaq (zas e hacc)];exact A5.st.hh b o e
    ·rw [zaq (zas e hG5)];exact A5.st.gh b o e
  ·left
   have e:i=xs.length:=by omega
   subst e
   rw [List.drop_length] at hr
   cases hr
   rw [List.append_nil] at hd
   subst hd
   refine ⟨Y.stop G' H' A'.st.gg A'.gh,?_⟩
   have hf:H'=upd (fun b=>if b=acc then none else H' b) acc (.lst ys):=by
    funext b
    by_cases hb:b=acc
    ·subst hb;rw [zav];exact hacc'
    ·rw [zaq hb,qY hb]
   rw [hf]
   refine k acc ys G' (fun b=>if b=acc then none else H' b) (s1.trans ⟨fun b o e=>?_,A'.st.gg,fun b o e=>?_,A'.st.out⟩) (qX rfl) ry
   ·show (if b=acc then none else H' b)=some o
    rw [qY (zas e hacc)];exact A'.st.hh b o e
   ·show (if b=acc then none else H' b)=some o
    rw [qY (zas e gacc')];exact A'.st.gh b o e
theorem zcn (hc:X.calm=true) (S:CompScope X scope) (F:FvOk X N' scope fv) (hi:DI Γ X tg iter fi) (hb:DB Γ X N' scope tg ifs elt g ft fe) (hs:∀ x,foldedSetIterable iter X.env x=pure x:=by intro _;rfl) :
  DO Γ X (.ListComp elt [⟨tg,iter,ifs,0⟩] scope pos) (za0 fi g ft fe fv):=⟨(zsu hc S F hi.1 hb.pb hs).imp (zj5 (hb.1 [] 0 X.s₀ X.H₀ []).1.no)⟩
end
end L2
end
section
namespace L2
open PySem PySem.Spec PyProof.Rows
section
variable {Γ:Cn} {X:Cx} {a b c e tg iter:Expr} {es:List Expr} {fa fb fc f:FE} {fr fi:FA} {pos p2 p:Pos} {g g':FS} {st:Stmt} {sts:List Stmt} {ft:FT}
def zca:FS:=fun ρ=>some (.nx,ρ)
def zaG (g g':FS):FS:=fun ρ=>(g ρ).bind fun r=>match r.1 with
 | .nx=>g' r.2
 | fl=>some (fl,r.2)
theorem zaK:DSs Γ X [] zca:=⟨zfT.imp fun E σ H=>by
 rintro ⟨G₀,H₀,G,ρ,fl,ρ',A,h,k⟩
 cases h
 exact k σ G H (.refl _) A⟩
theorem zam (h:DS Γ X st g):DSs Γ X [st] g:=⟨zds h.1⟩
theorem zaf (h1:DS Γ X st g) (h2:DSs Γ X sts g'):DSs Γ X (st::sts) (zaG g g'):=⟨(zcY h1.1 h2.1).imp fun E σ H=>by
 rintro ⟨G₀,H₀,G,ρ,fl,ρ',A,h,k⟩
 unfold zaG at h
 obtain ⟨⟨fl1,ρ1⟩,h1,h⟩:=oBd h
 refine ⟨G₀,H₀,G,ρ,fl1,ρ1,A,h1,fun σ1 G1 H1 sm A1=>?_⟩
 cases fl1 with
 | nx=>exact ⟨G₀,H₀,G1,ρ1,fl,ρ',A1,h,fun σ' G' H' sm' A'=>k σ' G' H' (sm.trans sm') A'⟩
 | bk=>cases h;exact k σ1 G1 H1 sm A1
 | ct=>cases h;exact k σ1 G1 H1 sm A1
 | rt d=>cases h;exact k σ1 G1 H1 sm A1
 | ow d=>cases h;exact k σ1 G1 H1 sm A1
 | nw d=>cases h;exact k σ1 G1 H1 sm A1
 | od d=>cases h;exact k σ1 G1 H1 sm A1⟩
def zbk (f:FE):FS:=fun ρ=>(f ρ).map fun d=>(.rt d,ρ)
theorem zaE (h:DE Γ X e f):DS Γ X (.Return (some e) pos) (zbk f):=⟨(zgW h.1).imp fun E σ H=>by
 rintro ⟨G₀,H₀,G,ρ,fl,ρ',A,h,k⟩
 unfold zbk at h
 obtain ⟨d,hd,h⟩:=oMd h
 cases h
 exact ⟨G₀,H₀,G,ρ,d,A,hd,fun v G' H' s r=>k σ G' H' s.gg (A.step s) v r⟩⟩
def zbn (i:Nat) (f:FE):FS:=fun ρ=>(f ρ).map fun d=>(.nx,ρ.set i (some (.sh d)))
theorem zaN (i:Nat) {x:Str} {pos':Pos} (hN:X.N.Nodup) (h:DE Γ X e f) (hi:X.N[i]?=some x:=by rfl) (hx:Loc X.env.scope x:=by first | exact Or.inl rfl | exact Or.inr rfl) (hs:swapsWith e (some (.Name x pos')) pos.line X.env=pure false:=by rfl) (hf:X.fn x=true\/X.env.scope.names.lookup x=some .local:=by first | exact .inl rfl | exact .inr rfl | assumption) :
  DS Γ X (.Assign [.Name x pos'] e pos) (zbn i f):=⟨(zjI hN hi hx h.1 hs hf).imp fun E σ H=>by
 rintro ⟨G₀,H₀,G,ρ,fl,ρ',A,h,k⟩
 unfold zbn at h
 obtain ⟨d,hd,h⟩:=oMd h
 cases h
 exact ⟨G₀,H₀,G,ρ,d,A,hd,fun v G' H' s r=>k _ G' H' s.gg ((A.step s).setSh r)⟩⟩
def zeB (i:Nat) (f:FA):FS:=fun ρ=>(f ρ).map fun d=>(.nx,ρ.set i (some (.own d)))
theorem zqV {i:Nat}:∀ E σ H,TDs Γ X.K (zeB i fr) E σ H->zp4 (TDo Γ X.K fr) (zkD i) E σ H:=by
 rintro E σ H ⟨G₀,H₀,G,ρ,fl,ρ',A,h,k⟩
 unfold zeB at h
 obtain ⟨d,hd,h⟩:=oMd h
 cases h
 exact ⟨G₀,H₀,G,ρ,d,A,hd,fun p vs G' H' s hp r=>k _ G' _ s.gg ((A.step s).setOwn hp r)⟩
theorem zcG (i:Nat) {x:Str} {pos':Pos} (hN:X.N.Nodup) (h:DO Γ X e fr) (hi:X.N[i]?=some x:=by rfl) (hx:Loc X.env.scope x:=by first | exact Or.inl rfl | exact Or.inr rfl) (hs:swapsWith e (some (.Name x pos')) pos.line X.env=pure false:=by rfl) (hf:X.fn x=true\/X.env.scope.names.lookup x=some .local:=by first | exact .inl rfl | exact .inr rfl | assumption) :
  DS Γ X (.Assign [.Name x pos'] e pos) (zeB i fr):=⟨(zjI hN hi hx h.1 hs hf).imp zqV⟩
theorem zqs {i:Nat}:∀ E σ H,TDs Γ X.K (zbn i (zax fr)) E σ H->zp4 (TDo Γ X.K fr) (zkD i) E σ H:=by
 rintro E σ H ⟨G₀,H₀,G,ρ,fl,ρ',A,h,k⟩
 unfold zbn zax at h
 obtain ⟨d,hd,h⟩:=oMd h
 obtain ⟨ds,hd',rfl⟩:=oMd hd
 cases h
 refine ⟨G₀,H₀,G,ρ,ds,A,hd',fun p vs G' H' s hp r=>?_⟩
 have s2:=Step.new (o:=.lst vs) s.gh hp
 exact k _ _ _ (s.gg.trans s2.gg) (((A.step s).step s2).setSh (.lst zav (r.mono s2.gg)))
variable {scope:Scope} {N':List Str} {fv:List (Option Nat)} {gg:FG} {fe:FE} {ifs:List Expr} {elt:Expr}
theorem zl6 (i:Nat) {y:Str} {py spos:Pos} (hN:X.N.Nodup) (hc:X.calm=true) (S:CompScope X scope) (F:FvOk X N' scope fv) (hi:DI Γ X tg iter fi) (hb:DB Γ X N' scope tg ifs elt gg ft fe)
  (hy:X.N[i]?=some y:=by rfl) (hyl:X.env.scope.names.lookup y=some .local:=by rfl) (hsw:swapsWith (.ListComp elt [⟨tg,iter,ifs,0⟩] scope pos) (some (.Name y py)) spos.line X.env=pure true:=by rfl) (hs:∀ x,foldedSetIterable iter X.env x=pure x:=by intro _;rfl) :
  DS Γ X (.Assign [.Name y py] (.ListComp elt [⟨tg,iter,ifs,0⟩] scope pos) spos) (zbn i (zax (za0 fi gg ft fe fv))):=⟨(zsr hN hy hyl hc S F hi.1 hb.pb hsw hs).imp fun E σ H q=>zj5 (hb.1 [] 0 X.s₀ X.H₀ []).1.no σ H _ (zqs E σ H q)⟩
def zeD (i:Nat) (f:FE):FS:=fun ρ=>match ρ[i]? with
 | some (some (.own ds))=>(f ρ).bind fun d=>if ds.length < sizeLine then some (.nx,ρ.set i (some (.own (ds++[d])))) else none
 | _=>none
theorem zbQ (i:Nat) {x:Str} {vp apos cpos:Pos} (h:DE Γ X e f) (hN:X.N[i]?=some x:=by rfl) (hv:Vis X.env.scope x:=by first | exact Or.inl rfl | exact Or.inr (Or.inl rfl) | exact Or.inr (Or.inr rfl)) (hd:(x==("__debug__":Str))=false:=by decide)
  (hcd:(x==("__classdict__":Str))=false:=by decide)
  (hbase:attributeBase (.Name x vp) "append" X.env (eval (.Name x vp) X.env)=eval (.Name x vp) X.env:=by rfl)
  (hfew:((backTo cpos (starEach [e] X.env)).all (fun x=>!x.1) && (backToKw cpos (keywordEach [] X.env)).all (fun x=>x.1.isSome)
   && decide ([e].length+([]:List Keyword).length+(if ([]:List Keyword).isEmpty then 0 else 1) < 30))=true:=by rfl)
  (hline:(apos.endLine==cpos.line)=true:=by rfl) (hs:starEach [e] X.env=(false,eval e X.env)::starEach [] X.env:=by rfl) (hplain:(backTo cpos (starEach [] X.env)).any (·.1)=false:=by rfl)
  (hsw:swapsWith (.Call (.Attribute (.Name x vp) "append" apos) [e] [] cpos) none pos.line X.env=pure false:=by rfl) :
  DS Γ X (.Expr (.Call (.Attribute (.Name x vp) "append" apos) [e] [] cpos) pos) (zeD i f):=⟨(zi4 (zqS PySem.F.plainAttrs_list PySem.F.slot_list_append PySem.F.type_list_append ziq (zcp hN hv hd hcd) (zbM h.1 zdd hs) hbase hfew hline hs hplain) hsw).imp fun E σ H=>by
  rintro ⟨G₀,H₀,G,ρ,fl,ρ',A,h,k⟩
  unfold zeD at h
  split at h
  ·rename_i ds hi
   obtain ⟨d,hd,h⟩:=oBd h
   split at h
   ·rename_i hz
    cases h
    obtain ⟨a,vs,h1,h2,h3,h4,h5⟩:=A.env.own i ds hi
    refine ⟨.ref a,h1,.inl ⟨rfl,vs,.inl (.inl h4)⟩,G₀,H₀,G,ρ,d,A,hd,fun v G1 H1 s1 r1=>?_⟩
    have A1:=A.step s1
    refine ⟨a,vs,v,rfl,rfl,s1.hh _ _ h4,by rw [h5.length];exact hz,?_⟩
    exact k σ G1 _ s1.gg (A1.chOwn hi h1 ((h5.mono s1.gg).append (.cons r1 .nil)))
   ·cases h
  ·cases h⟩
def zfR (i:Nat) (g:FS):FS:=fun ρ=>match ρ[i]? with
 | some (some (.own ds))=>g (ρ.set i (some (.sh (.lst ds))))
 | _=>none
theorem TDs.frz (i:Nat):∀ E σ H,TDs Γ X.K (zfR i g) E σ H->TDs Γ X.K g E σ H:=by
 rintro E σ H ⟨G₀,H₀,G,ρ,fl,ρ',A,h,k⟩
 unfold zfR at h
 split at h
 ·rename_i ds hi
  obtain ⟨G',sm,A'⟩:=A.freeze hi
  exact ⟨G₀,H₀,G',_,fl,ρ',A',h,fun σ1 G1 H1 sm1 A1=>k σ1 G1 H1 (sm.trans sm1) A1⟩
 ·cases h
theorem zcm (i:Nat) (h:DSs Γ X sts g):DSs Γ X sts (zfR i g):=⟨h.1.imp (TDs.frz i)⟩
def sIf (ft:FT) (g g':FS):FS:=fun ρ=>(ft ρ).bind fun c=>if c=true then g ρ else g' ρ
theorem zbD {sa sb:List Stmt} (hc:DT Γ X c ft) (ha:DSs Γ X sa g) (hb:DSs Γ X sb g'):DS Γ X (.If c sa sb pos) (sIf ft g g'):=⟨(zli hc.1 ha.1 hb.1).imp fun E σ H=>by
 rintro ⟨G₀,H₀,G,ρ,fl,ρ',A,h,k⟩
 unfold sIf at h
 obtain ⟨x,hx,h⟩:=oBd h
 refine ⟨G₀,H₀,G,ρ,x,A,hx,fun G1 H1 s1=>?_⟩
 cases x with
 | true=>exact zod ⟨G₀,H₀,G1,ρ,fl,ρ',A.step s1,by simpa using h,fun σ2 G2 H2 sm2 A2=>k σ2 G2 H2 (s1.gg.trans sm2) A2⟩
 | false=>exact zoe ⟨G₀,H₀,G1,ρ,fl,ρ',A.step s1,by simpa using h,fun σ2 G2 H2 sm2 A2=>k σ2 G2 H2 (s1.gg.trans sm2) A2⟩⟩
def zjZ (gg:FG) (body:FS):List D->FS
 | [],ρ=>some (.nx,ρ)
 | x::xs,ρ=>(gg x ρ).bind fun ρ1=>(body ρ1).bind fun r=>match r.1 with
  | .nx=>zjZ gg body xs r.2
  | .ct=>zjZ gg body xs r.2
  | .bk=>some (.nx,r.2)
  | .rt d=>some (.rt d,r.2)
  | .ow d=>some (.ow d,r.2)
  | .nw d=>some (.nw d,r.2)
  | .od d=>some (.od d,r.2)
def zeh (fi:FA) (gg:FG) (body:FS):FS:=fun ρ=>(fi ρ).bind fun xs=>zjZ gg body xs ρ
theorem zdh {body:List Stmt} (hp:PassesOwn (model X.prog X.w) X.A X.env X.xe) (hc:X.calm=true) (hi:DI Γ X tg iter fi) (hg:DG Γ X tg gg) (hb:DSs Γ X body g) (hs:∀ x,foldedSetIterable iter X.env x=pure x:=by intro _;rfl) :
  DS Γ X (.For tg iter body [] pos) (zeh fi gg g):=⟨(zqE hp hc hi.1 hg.pg hb.1 hs).imp fun E σ H=>by
 rintro ⟨G₀,H₀,G,ρ,fl,ρ',A,h,k⟩
 unfold zeh at h
 obtain ⟨xs,hx,h⟩:=oBd h
 refine ⟨G₀,H₀,G,ρ,xs,A,hx,fun J G1 H1 s1 Y=>?_⟩
 refine ⟨fun i m σ' H'=>m=xs.length - i/\i<=xs.length/\∃ G' ρ1,zbT G1 G'/\At Γ X.K G₀ H₀ G' H' ρ1 σ'/\zjZ gg g (xs.drop i) ρ1=some (fl,ρ'),⟨xs.length,rfl,Nat.zero_le _,G1,ρ,.refl _,A.step s1,by rw [List.drop_zero];exact h⟩,?_⟩
 rintro i m σ' H' ⟨rfl,hi,G',ρ1,sm,A',hr⟩
 by_cases hlt:i < xs.length
 ·right
  have hxi:xs[i]?=some xs[i]:=by simp [hlt]
  obtain ⟨go,yl⟩:=Y.go i _ G' H' hxi sm A'.gh
  have hdr:xs.drop i=xs[i]::xs.drop (i+1):=List.drop_eq_getElem_cons hlt
  rw [hdr] at hr
  unfold zjZ at hr
  obtain ⟨ρ2,h2,hr⟩:=oBd hr
  obtain ⟨⟨fl3,ρ3⟩,h3,hr⟩:=oBd hr
  refine ⟨go,fun σ3 H3=>(fl3=.nx\/fl3=.ct)/\∃ G3,zbT G1 G3/\At Γ X.K G₀ H₀ G3 H3 ρ3 σ3,fun σ3 H3 ⟨hfl,G3,sm3,A3⟩=>?_,fun x H2 hy=>?_⟩
  ·refine ⟨xs.length - (i+1),by omega,rfl,hlt,G3,ρ3,sm3,A3,?_⟩
   rcases hfl with e | e <;> subst e <;> exact hr
  ·obtain ⟨G2,s2,r2⟩:=yl x H2 hy
   refine ⟨G₀,H₀,G2,ρ1,_,ρ2,A'.step s2,r2,h2,fun σ2 A2=>⟨G₀,H₀,G2,ρ2,fl3,ρ3,A2,h3,fun σ3 G3 H3 sm3 A3=>?_⟩⟩
   have smm:zbT G1 G3:=(sm.trans s2.gg).trans sm3
   cases fl3 with
   | nx=>exact ⟨.inl rfl,G3,smm,A3⟩
   | ct=>exact ⟨.inr rfl,G3,smm,A3⟩
   | bk=>cases hr;exact k σ3 G3 H3 (s1.gg.trans smm) A3
   | rt d=>cases hr;exact k σ3 G3 H3 (s1.gg.trans smm) A3
   | ow d=>cases hr;exact k σ3 G3 H3 (s1.gg.trans smm) A3
   | nw d=>cases hr;exact k σ3 G3 H3 (s1.gg.trans smm) A3
   | od d=>cases hr;exact k σ3 G3 H3 (s1.gg.trans smm) A3
 ·left
  have e:i=xs.length:=by omega
  subst e
  rw [List.drop_length] at hr
  cases hr
  exact ⟨Y.stop G' H' sm A'.gh,k σ' G' H' (s1.gg.trans sm) A'⟩⟩
end
end L2
end
section
namespace L2
open PySem PySem.Spec PyProof.Rows
section
variable {Γ:Cn} {X:Cx} {a b c e tg iter:Expr} {es:List Expr} {fa fb fc f fk fw:FE} {fr fi:FA} {pos p2 p:Pos}
def spF (Γ:Cn) (K:PySem.W.Frag) (n:Nat) (F:List D->Option D):Sp:=fun vs H Q _=>∃ G ds d,zbT G H/\Reps Γ K G vs ds/\ds.length=n/\F ds=some d/\∀ v G' H',Step G H G' H'->Rep Γ K G' v d->Q v H'
def zcj (n:Nat) (g:FS):List D->Option D:=fun ds=>(g (ds.map (fun d=>some (Slot.sh d))++List.replicate n none)).bind fun r=>match r.1 with
 | .rt d=>some d
 | .nx=>some .non
 | _=>none
theorem zk6 {K:PySem.W.Frag} {G H:Hp} {vs:List V} {ds:List D} {N:List Str} {m:Nat} (gh:zbT G H) (r:Reps Γ K G vs ds) (hm:m=N.length - vs.length):At Γ K G H G H (ds.map (fun d=>some (Slot.sh d))++List.replicate m none) (zey N vs):=by
 have no:ze9 (ds.map (fun d=>some (Slot.sh d))++List.replicate m none):=fun i es e=>by
  by_cases hi:i < ds.length
  ·rw [qx (by simpa using hi),qj] at e
   obtain ⟨d,_,e⟩:=oMd e
   cases e
   exact ⟨_,rfl⟩
  ·rw [qI (by simpa using hi),List.getElem?_replicate] at e
   split at e <;> cases e
 refine ⟨.refl gh,.ofSh (by simp [zey,r.length,hm]) no fun i d e=>?_⟩
 by_cases hi:i < ds.length
 ·rw [qx (by simpa using hi),qj] at e
  obtain ⟨d',hd,e⟩:=oMd e
  cases e
  obtain ⟨v,hv,rv⟩:=r.get hd
  refine ⟨v,?_,rv⟩
  unfold zey
  rw [qx (by rw [qe,r.length];exact hi),qj,hv]
  rfl
 ·rw [qI (by simpa using hi),List.getElem?_replicate] at e
  split at e <;> cases e
theorem Fun.okD {P:Program} {w:World} {K:PySem.W.Frag} {mg:Str->Option Value} {base:Heap} {x qual:Str} {st:Stmt} {f:Addr} {fd:FuncData} {N ps:List Str} {k:Nat} {g:FS} (F:Fun K x qual st f fd) (S:FnScope N ps (zao st))
  (hbody:∀ (cdv:Value) (A:Around) (outer:List Env) (s:Shared) (H:Hp) (E:XK),Room k (A.deeper (envOfC qual (zao st) s.heap.objs.size f cdv)) ->
   DSs Γ (zgD CX0 P w K mg base N qual (zao st) f cdv A outer s H E).nox (zbW st) g):FnOk P w K mg base CX0 (k+1) f fd ps (spF Γ K ps.length (zcj (N.length - ps.length) g)):=by
 refine F.ok S (fun vs H Q E h=>?_) (fun cdv A outer s H vs Q E hr h=>?_)
 ·obtain ⟨G,ds,d,_,r,hl,_⟩:=h
  rw [r.length,hl]
 ·obtain ⟨G,ds,d,gh,r,hl,hd,k⟩:=h
  refine ⟨_,(hbody cdv A outer s H E hr).1,?_⟩
  unfold zcj at hd
  obtain ⟨⟨fl,ρ'⟩,hg,hd⟩:=oBd hd
  refine ⟨G,H,G,_,fl,ρ',zk6 gh r (by rw [r.length,hl]),hg,fun σ' G' H' sm A'=>?_⟩
  cases fl with
  | rt d'=>cases hd;exact fun v rv=>k v G' H' A'.st rv
  | nx=>cases hd;exact k .non G' H' A'.st .non
  | bk=>cases hd
  | ct=>cases hd
  | ow d=>cases hd
  | nw d=>cases hd
  | od d=>cases hd
theorem zpR {k:Nat} {fx:Addr} {fd:FuncData} {ps:List Str} {n:Nat} {F:List D->Option D} {x:Str} (Fo:FnOk X.prog X.w X.K X.mg X.base CX0 k fx fd ps (spF Γ X.K n F)) (hr:Room k X.A) (hg:Gl X x) (hm:X.mg x=some (.ref fx)) (hk:PySem.W.keepIn X.K (.ref fx)=true) (hb:zcL X.K fd ps [])
  (ha:DA Γ X (e::es) fr) (hn:∀ ρ ds,fr ρ=some ds->ds.length=n) (hdb:(x==("__debug__":Str))=false:=by decide) (he:starEach (e::es) X.env=(false,eval e X.env)::starEach es X.env:=by rfl) (hpl:(backTo pos (starEach es X.env)).any (·.1)=false:=by rfl) :
  DE Γ X (.Call (.Name x p) (e::es) [] pos) (cF F fr):=⟨(zo3 Fo hr hg hm hk hb .nil zsx ha.1 hdb he hpl).imp fun σ H Q=>by
 rintro ⟨G₀,H₀,G,ρ,d,A,h,k⟩
 unfold cF at h
 obtain ⟨ds,hd,h⟩:=oBd h
 refine ⟨G₀,H₀,G,ρ,ds,A,hd,fun vs G1 H1 s1 r1=>?_⟩
 show spF Γ X.K n F (vs++[]) H1 Q E0
 rw [List.append_nil]
 exact ⟨G1,ds,d,s1.gh,r1,hn ρ ds hd,h,fun v G' H' s r=>k v G' H' (s1.trans s) r⟩⟩
theorem znR {ρ:za5} {ds:List D} (h:zag ρ=some ds):ds.length=0:=by cases h;rfl
theorem zcU {n:Nat} (hn:∀ ρ ds,fr ρ=some ds->ds.length=n):∀ ρ ds,zab fa fr ρ=some ds->ds.length=n+1:=fun ρ ds h=>by
 unfold zab at h
 obtain ⟨x,hx,h⟩:=oBd h
 obtain ⟨xs,hxs,rfl⟩:=oMd h
 rw [qh,hn ρ xs hxs]
end
end L2
end
section
namespace L2
open PySem PySem.Spec PyProof.Rows
structure Cal (Γ:Cn) (P:Program) (w:World) (K:PySem.W.Frag) (mg:Str->Option Value) (base:Heap) (x:Str) (n k:Nat) (F:List D->Option D):Prop where
 ex:∃ f fd ps,FnOk P w K mg base CX0 k f fd ps (spF Γ K n F)/\mg x=some (.ref f)/\PySem.W.keepIn K (.ref f)=true/\zcL K fd ps []
structure Dfn (K:PySem.W.Frag) (mg:Str->Option Value) (x:Str) (st:Stmt):Prop where
 ex:∃ f fd,Fun K x x st f fd/\mg x=some (.ref f)
section
variable {Γ:Cn} {X:Cx} {e:Expr} {es:List Expr} {fr:FA} {pos p:Pos}
theorem zmi {x:Str} {n k:Nat} {F:List D->Option D} (C:Cal Γ X.prog X.w X.K X.mg X.base x n k F) {j:Nat} (hr:Room j X.A) (hk:k<=j) (hg:Gl X x) (ha:DA Γ X (e::es) fr) (hn:∀ ρ ds,fr ρ=some ds->ds.length=n)
  (hdb:(x==("__debug__":Str))=false:=by decide) (he:starEach (e::es) X.env=(false,eval e X.env)::starEach es X.env:=by rfl) (hpl:(backTo pos (starEach es X.env)).any (·.1)=false:=by rfl) :
  DE Γ X (.Call (.Name x p) (e::es) [] pos) (cF F fr):=by
 obtain ⟨f,fd,ps,h1,h2,h3,h4⟩:=C.ex
 exact zpR h1 (hr.mono hk) hg h2 h3 h4 ha hn hdb he hpl
theorem Dfn.cal {P:Program} {w:World} {K:PySem.W.Frag} {mg:Str->Option Value} {base:Heap} {x:Str} {st:Stmt} {N ps:List Str} {k:Nat} {g:FS} (F:Dfn K mg x st) (S:FnScope N ps (zao st))
  (hb:∀ (kV doc pm:Value) (an:Option Addr) (cdv ct:Value) (us:List Value),us.length=ps.length->bindArgs (PySem.W.fnOf x x (zcS st) (zbW st) (zao st) .none kV doc pm an cdv ct) ⟨us,[]⟩=pure (ps.zip us))
  (hbody:∀ (f:Addr) (cdv:Value) (A:Around) (outer:List Env) (s:Shared) (H:Hp) (E:XK),Room k (A.deeper (envOfC x (zao st) s.heap.objs.size f cdv)) ->
   DSs Γ (zgD CX0 P w K mg base N x (zao st) f cdv A outer s H E).nox (zbW st) g):Cal Γ P w K mg base x ps.length (k+1) (zcj (N.length - ps.length) g):=by
 obtain ⟨f,fd,h1,h2⟩:=F.ex
 exact ⟨f,fd,ps,h1.okD S (hbody f),h2,h1.kp,h1.binds hb⟩
theorem Dfn.mk' {K:PySem.W.Frag} {h:Heap} {mg:Str->Option Value} {x:Str} {st:Stmt} {f:Addr} {oc:Value} {od an:Option Addr} {osl:Array (Option Value)} {kV doc pm cdv ct:Value} (X:K.In h) (G:h.Ns mainGlobals mg) (a:PySem.W.nsIn K mainGlobals x=some (some (.ref f)))
  (l:K.lookup f=some ⟨oc,od,.func (PySem.W.fnOf x x (zcS st) (zbW st) (zao st) .none kV doc pm an cdv ct),osl⟩) (c:PySem.W.codeIn K cdv x=true) (k:PySem.W.keepIn K (.ref f)=true):Dfn K mg x st :=
 ⟨f,_,zlX l c k,PySem.W.mg_of X G a⟩
def zrO (names:List (Str×NameKind)) (outer:List (Str×NameKind)):Bool :=
 names.all fun y=>y.2 != .cell && (y.2 != .local || names.lookup y.1==some .local) && (y.2 != .free || outer.lookup y.1==some .cell || outer.lookup y.1==some .free)
theorem CompScope.of {X:Cx} {scope:Scope} (hk:scope.kind=.function) (h:zrO scope.names X.env.scope.names=true):CompScope X scope:=by
 unfold zrO at h
 rw [List.all_eq_true] at h
 refine ⟨hk,fun y hy e=>?_,fun y hy e=>?_,fun y hy e=>?_⟩
 ·have:=h y hy
  rw [e] at this
  simp at this
 ·have:=h y hy
  rw [e] at this
  simpa using this
 ·have:=h y hy
  rw [e] at this
  simpa [Env.kindOf] using this
def zrv (N':List Str) (fv:List (Option Nat)) (N:List Str) (outer names:List (Str×NameKind)):Bool :=
 fv.length==N'.length && (N'.zip fv).all fun y=>match y.2 with
  | none=>true
  | some j=>N[j]?==some y.1 && (outer.lookup y.1==some .cell || outer.lookup y.1==some .free) && names.lookup y.1==some .free
theorem FvOk.of {X:Cx} {N':List Str} {scope:Scope} {fv:List (Option Nat)} (h:zrv N' fv X.N X.env.scope.names scope.names=true):FvOk X N' scope fv:=by
 unfold zrv at h
 rw [Bool.and_eq_true,List.all_eq_true] at h
 obtain ⟨h1,h2⟩:=h
 refine ⟨by simpa using h1,fun i j x e1 e2=>?_⟩
 have hm:(x,some j)∈N'.zip fv:=by
  refine List.mem_iff_getElem?.mpr ⟨i,?_⟩
  rw [List.getElem?_zip_eq_some]
  exact ⟨e1,e2⟩
 have:=h2 _ hm
 simp only [Bool.and_eq_true,Bool.or_eq_true,beq_iff_eq] at this
 exact ⟨this.1.1,this.1.2,this.2⟩
end
end L2
end
section
namespace L2
open PySem PySem.Spec PyProof.Rows
mutual
def pdD:D->Option PyData
 | .non=>some .none
 | .bl b=>some (.bool b)
 | .int i=>some (.int i)
 | .str x=>some (.str x)
 | .tup l=>(zkq l).map PyData.tuple
 | .lst l=>(zkq l).map PyData.list
 | .scr ns=>some (.list (ns.map PyData.int))
 | _=>none
def zkq:List D->Option (List PyData)
 | []=>some []
 | d::r=>(pdD d).bind fun p=>(zkq r).map (p::·)
end
section
variable {Γ:Cn} {X:Cx} {pins:List (Addr×Obj)} {σ:St} {G H:Hp} {s:Shared}
theorem zgU {h:Heap}:∀ {ns:List Int} {us:List Value},zbS (ns.map V.int) us->∃ as,ReadsAll h us (ns.map PyData.int) as
 | [],_,r=>by rw [qM] at r;cases r;exact ⟨_,.nil⟩
 | n::ns,_,r=>by
  rw [ql] at r
  cases r with
  | cons r1 r2 =>
   obtain ⟨t,e⟩:=r1
   subst e
   obtain ⟨as,q⟩:=zgU r2
   exact ⟨_,.cons (.int n t) q⟩
mutual
theorem Rep.reads (I:Inv X pins σ H s) (gh:zbT G H):∀ {v:V} {d:D} {u:Value} {p:PyData},Rep Γ X.K G v d->zb9 v u->pdD d=some p->∃ as,Reads s.heap u p as
 | _,_,u,p,.non,r,h=>by cases r;rw [pdD] at h;cases h;exact ⟨_,.none⟩
 | _,_,u,p,.bl b,r,h=>by cases r;rw [pdD] at h;cases h;exact ⟨_,.bool b⟩
 | _,_,u,p,.int i,r,h=>by obtain ⟨t,rfl⟩:=r;rw [pdD] at h;cases h;exact ⟨_,.int i t⟩
 | _,_,u,p,.str x,r,h=>by obtain ⟨t,rfl⟩:=r;rw [pdD] at h;cases h;exact ⟨_,.str x t⟩
 | _,_,u,p,.ty n,r,h=>by rw [pdD] at h;cases h;all_goals (intros;contradiction)
 | _,_,u,p,.tup ha rs,r,h=>by
  cases r
  rw [pdD] at h
  obtain ⟨ps,hp,rfl⟩:=oMd h
  obtain ⟨its,rv,⟨o,e1,e2,n,e3⟩,_⟩:=I.tuple (.inl (.inl (gh _ _ ha)))
  obtain ⟨as,q⟩:=Reps.reads I gh rs rv hp
  exact ⟨_,.tuple e1 e2 e3 (by simpa using q)⟩
 | _,_,u,p,.lst ha rs,r,h=>by
  cases r
  rw [pdD] at h
  obtain ⟨ps,hp,rfl⟩:=oMd h
  obtain ⟨its,rv,⟨o,n,e1,e2,_,e3⟩,_⟩:=I.list (.inl (.inl (gh _ _ ha)))
  obtain ⟨as,q⟩:=Reps.reads I gh rs rv hp
  exact ⟨_,.list e1 e2 e3 (by simpa using q)⟩
 | _,_,u,p,.scr hs,r,h=>by
  cases r
  rw [pdD] at h
  cases h
  obtain ⟨its,rv,⟨o,n,e1,e2,_,e3⟩,_⟩:=I.list (gh.seq hs)
  obtain ⟨as,q⟩:=zgU (h:=s.heap) rv
  exact ⟨_,.list e1 e2 e3 (by simpa using q)⟩
 | _,_,u,p,.dk ha _ _,r,h=>by rw [pdD] at h;cases h;all_goals (intros;contradiction)
 | _,_,u,p,.dt ha _ _,r,h=>by rw [pdD] at h;cases h;all_goals (intros;contradiction)
 | _,_,u,p,.ins ha _ _ _,r,h=>by rw [pdD] at h;cases h;all_goals (intros;contradiction)
theorem Reps.reads (I:Inv X pins σ H s) (gh:zbT G H):∀ {vs:List V} {ds:List D} {us:List Value} {ps:List PyData},Reps Γ X.K G vs ds->zbS vs us->zkq ds=some ps->∃ as,ReadsAll s.heap us ps as
 | _,_,_,_,.nil,r,h=>by cases r;rw [zkq] at h;cases h;exact ⟨_,.nil⟩
 | _,_,_,_,.cons r1 r2,r,h=>by
  cases r with
  | cons q1 q2 =>
   rw [zkq] at h
   obtain ⟨p,hp,h⟩:=oBd h
   obtain ⟨ps,hps,rfl⟩:=oMd h
   obtain ⟨as,a1⟩:=Rep.reads I gh r1 q1 hp
   obtain ⟨bs,a2⟩:=Reps.reads I gh r2 q2 hps
   exact ⟨_,.cons a1 a2⟩
end
end
section
variable {Γ:Cn} {X:Cx} {a b c e:Expr} {es:List Expr} {fa fb fc f:FE} {fr:FA} {pos:Pos}
def eqX (x y:D):Option Bool:=(pdD x).bind fun p=>(pdD y).bind fun q=>if SeqAt.shaped p=true/\SeqAt.shaped q=true then some (PyData.eqv p q) else none
def zq8 (x y:D):Option D:=(eqX x y).map fun b=>D.bl (!b)
def rX (Γ:Cn) (K:PySem.W.Frag) (neg:Bool):R2:=fun x y H Q=>∃ G d e b,zbT G H/\Rep Γ K G x d/\Rep Γ K G y e/\eqX d e=some b/\Q (.bl (if neg then !b else b)) H
theorem znx {x y:D} {b:Bool} (h:eqX x y=some b):∃ p q,pdD x=some p/\pdD y=some q/\SeqAt.shaped p=true/\SeqAt.shaped q=true/\b=PyData.eqv p q:=by
 unfold eqX at h
 obtain ⟨p,hp,h⟩:=oBd h
 obtain ⟨q,hq,h⟩:=oBd h
 split at h
 ·rename_i hz
  cases h
  exact ⟨p,q,hp,hq,hz.1,hz.2,rfl⟩
 ·cases h
theorem zq0 (hu:X.A.units+64 < cLine):OpR X (compareOp .NotEq) (rX Γ X.K true):=by
 intro pins s σ H x y v u Q I rx ry h
 obtain ⟨G,d,e,b,gh,r1,r2,hb,q⟩:=h
 obtain ⟨p,q',hp,hq,s1,s2,rfl⟩:=znx hb
 obtain ⟨as,a1⟩:=r1.reads I gh rx hp
 obtain ⟨bs,a2⟩:=r2.reads I gh ry hq
 exact ne_dataH a1 a2 s1 s2 hu ⟨.bl _,H,I,rfl,q⟩
theorem zrP (hu:X.A.units+64 < cLine):CmpD Γ X .NotEq zq8:=⟨_,zq0 (Γ:=Γ) hu,fun {G H v u x y z} gh r1 r2 h Q k=>by
 unfold zq8 at h
 obtain ⟨b,hb,rfl⟩:=oMd h
 exact ⟨G,x,y,b,gh,r1,r2,hb,k _ G H (.refl gh) (.bl _)⟩⟩
def inX (x y:D):Option Bool:=(pdD x).bind fun p=>(pdD y).bind fun q=>match q with
 | .list l=>if SeqAt.shaped p=true/\PyData.canLayAll0 l=true then some (l.any fun z=>PyData.eqv z p) else none
 | _=>none
def zrq (x y:D):Option D:=(inX x y).map D.bl
def zgz (x y:D):Option D:=(inX x y).map fun b=>D.bl (!b)
def ztu (Γ:Cn) (K:PySem.W.Frag) (neg:Bool):R2:=fun x y H Q=>∃ G d e b,zbT G H/\Rep Γ K G x d/\Rep Γ K G y e/\inX d e=some b/\Q (.bl (if neg then !b else b)) H
theorem zjY {x y:D} {b:Bool} (h:inX x y=some b):∃ p l,pdD x=some p/\pdD y=some (.list l)/\SeqAt.shaped p=true/\PyData.canLayAll0 l=true/\b=l.any fun z=>PyData.eqv z p:=by
 unfold inX at h
 obtain ⟨p,hp,h⟩:=oBd h
 obtain ⟨q,hq,h⟩:=oBd h
 split at h
 ·split at h
  ·rename_i hz
   cases h
   exact ⟨p,_,hp,hq,hz.1,hz.2,rfl⟩
  ·cases h
 ·cases h
theorem zgT {p:PyData} (h:SeqAt.shaped p=true):p.canLay0=true/\p.depth<=64:=by
 unfold SeqAt.shaped at h
 rw [Bool.and_eq_true] at h
 exact ⟨h.1,of_decide_eq_true h.2⟩
theorem zq3 (hu:X.A.units+66 < cLine):OpR X (compareOp .In) (ztu Γ X.K false):=by
 intro pins s σ H x y v u Q I rx ry h
 obtain ⟨G,d,e,b,gh,r1,r2,hb,q⟩:=h
 obtain ⟨p,l,hp,hq,s1,s2,rfl⟩:=zjY hb
 obtain ⟨as,a1⟩:=r1.reads I gh rx hp
 obtain ⟨bs,a2⟩:=r2.reads I gh ry hq
 obtain ⟨c1,c2⟩:=zgT s1
 have:=Nat.min_le_right (PyData.depthAll l) p.depth
 exact SeqAt.in_list_reads a2 a1 s2 c1 (by omega) ⟨.bl _,H,I,rfl,q⟩
theorem zo9 (hu:X.A.units+66 < cLine):OpR X (compareOp .NotIn) (ztu Γ X.K true):=by
 intro pins s σ H x y v u Q I rx ry h
 obtain ⟨G,d,e,b,gh,r1,r2,hb,q⟩:=h
 obtain ⟨p,l,hp,hq,s1,s2,rfl⟩:=zjY hb
 obtain ⟨as,a1⟩:=r1.reads I gh rx hp
 obtain ⟨bs,a2⟩:=r2.reads I gh ry hq
 obtain ⟨c1,c2⟩:=zgT s1
 have:=Nat.min_le_right (PyData.depthAll l) p.depth
 exact SeqAt.notIn_list_reads a2 a1 s2 c1 (by omega) ⟨.bl _,H,I,rfl,q⟩
theorem zrQ (hu:X.A.units+66 < cLine):CmpD Γ X .In zrq:=⟨_,zq3 (Γ:=Γ) hu,fun {G H v u x y z} gh r1 r2 h Q k=>by
 unfold zrq at h
 obtain ⟨b,hb,rfl⟩:=oMd h
 exact ⟨G,x,y,b,gh,r1,r2,hb,k _ G H (.refl gh) (.bl _)⟩⟩
theorem zmn (hu:X.A.units+66 < cLine):CmpD Γ X .NotIn zgz:=⟨_,zo9 (Γ:=Γ) hu,fun {G H v u x y z} gh r1 r2 h Q k=>by
 unfold zgz at h
 obtain ⟨b,hb,rfl⟩:=oMd h
 exact ⟨G,x,y,b,gh,r1,r2,hb,k _ G H (.refl gh) (.bl _)⟩⟩
theorem zof {k:Nat} (hr:Room k X.A):X.A.units+66 < cLine:=by have:=hr.un;omega
theorem zrr {k:Nat} (hr:Room k X.A):X.A.units+64 < cLine:=by have:=hr.un;omega
def zjg (d:D):Bool:=match d with
 | .non=>true
 | _=>false
def zlS (x y:D):Option D:=match y with
 | .non=>some (.bl (!zjg x))
 | _=>none
theorem zkm {K:PySem.W.Frag} {G:Hp} {v:V} {d:D} (r:Rep Γ K G v d):decide (v=.non)=zjg d:=by
 cases r <;> simp [zjg]
theorem znL:CmpD Γ X .IsNot zlS:=⟨_,zo8,fun {G H v u x y z} gh r1 r2 h Q k=>by
 unfold zlS at h
 split at h <;> cases h
 exact ⟨r2.non_inv,by rw [zkm r1];exact k _ G H (.refl gh) (.bl _)⟩⟩
end
end L2
end
section
namespace L2
open PySem PySem.Spec PyProof.Rows
section
variable {Γ:Cn} {X:Cx} {a b c e o i:Expr} {es:List Expr} {fa fb fc f fo fk fx:FE} {fr fi:FA} {pos p apos cpos:Pos} {ft:FT} {g:FS} {x:Str}
def bwT (i:Nat) (ft:FT):FT:=fun ρ=>match ρ[i]? with
 | some (some (.own ds))=>ft (ρ.set i (some (.sh (.lst ds))))
 | _=>none
theorem Step.back {G G1 G' H H':Hp} (gh:zbT G H) (s1:zbT G G1) (s:Step G1 H G' H'):Step G H G H':=⟨s.hh,.refl _,(s1.trans s.gg).trans s.gh,fun _ _ _=>rfl⟩
theorem zpK (i:Nat) (h:DT Γ X c ft):DT Γ X c (bwT i ft):=⟨h.1.imp fun σ H Q=>by
 rintro ⟨G₀,H₀,G,ρ,b,A,h,k⟩
 unfold bwT at h
 split at h
 ·rename_i ds hi
  obtain ⟨G1,sm,A1⟩:=A.freeze hi
  exact ⟨G₀,H₀,G1,_,b,A1,h,fun G' H' s=>k G H' (s.back A.gh sm)⟩
 ·cases h⟩
def zp7 (i:Nat) (f:FE):FS:=fun ρ=>match ρ[i]? with
 | some (some (.own ds))=>(f ρ).bind fun d=>match d with
  | .lst l=>if ds.length+l.length<=sizeLine then some (.nx,ρ.set i (some (.own (ds++l)))) else none
  | _=>none
 | _=>none
theorem zl7 (i:Nat) {vp:Pos} (h:DE Γ X e f) (hN:X.N[i]?=some x:=by rfl) (hv:Vis X.env.scope x:=by first | exact Or.inl rfl | exact Or.inr (Or.inl rfl) | exact Or.inr (Or.inr rfl)) (hd:(x==("__debug__":Str))=false:=by decide)
  (hcd:(x==("__classdict__":Str))=false:=by decide)
  (hbase:attributeBase (.Name x vp) "extend" X.env (eval (.Name x vp) X.env)=eval (.Name x vp) X.env:=by rfl)
  (hfew:((backTo cpos (starEach [e] X.env)).all (fun x=>!x.1) && (backToKw cpos (keywordEach [] X.env)).all (fun x=>x.1.isSome)
   && decide ([e].length+([]:List Keyword).length+(if ([]:List Keyword).isEmpty then 0 else 1) < 30))=true:=by rfl)
  (hline:(apos.endLine==cpos.line)=true:=by rfl) (hs:starEach [e] X.env=(false,eval e X.env)::starEach [] X.env:=by rfl) (hplain:(backTo cpos (starEach [] X.env)).any (·.1)=false:=by rfl)
  (hsw:swapsWith (.Call (.Attribute (.Name x vp) "extend" apos) [e] [] cpos) none pos.line X.env=pure false:=by rfl) :
  DS Γ X (.Expr (.Call (.Attribute (.Name x vp) "extend" apos) [e] [] cpos) pos) (zp7 i f):=⟨(zi4 (zqS PySem.F.plainAttrs_list PySem.F.slot_list_extend PySem.F.type_list_extend zlx (zcp hN hv hd hcd) (zbM h.1 zdd hs) hbase hfew hline hs hplain) hsw).imp fun E σ H=>by
  rintro ⟨G₀,H₀,G,ρ,fl,ρ',A,h,k⟩
  unfold zp7 at h
  split at h
  ·rename_i ds hi
   obtain ⟨d,hd,h⟩:=oBd h
   split at h
   ·rename_i l
    split at h
    ·rename_i hz
     cases h
     obtain ⟨a,vs,h1,h2,h3,h4,h5⟩:=A.env.own i ds hi
     refine ⟨.ref a,h1,.inl ⟨rfl,vs,.inl (.inl h4)⟩,G₀,H₀,G,ρ,_,A,hd,fun v G1 H1 s1 r1=>?_⟩
     have A1:=A.step s1
     obtain ⟨b,us,rfl,hb,rb⟩:=r1.lst_inv
     refine ⟨a,b,vs,us,rfl,rfl,s1.hh _ _ h4,s1.gh _ _ hb,by rw [h5.length,rb.length];exact hz,?_⟩
     exact k σ G1 _ s1.gg (A1.chOwn hi h1 ((h5.mono s1.gg).append rb))
    ·cases h
   ·cases h
  ·cases h⟩
def znq:List D->Option D
 | [.int i]=>some (.int i)
 | [.bl k]=>some (.int (if k then 1 else 0))
 | _=>none
theorem znT:TyD Γ X "int" znq:=⟨_,zmr,fun {G H vs ds z} gh r h Q k=>by
 unfold znq at h
 split at h <;> cases h
 ·obtain ⟨v,rfl,r1⟩:=r.one
  cases r1.int_inv
  exact .inl ⟨_,rfl,k _ G H (.refl gh) (.int _)⟩
 ·obtain ⟨v,rfl,r1⟩:=r.one
  cases r1.bl_inv
  exact .inr ⟨_,rfl,k _ G H (.refl gh) (.int _)⟩⟩
def zk0:List D->Option D
 | [.lst l]=>some (.tup l)
 | [.tup l]=>some (.tup l)
 | _=>none
theorem zmN:TyD Γ X "tuple" zk0:=⟨_,zhP,fun {G H vs ds z} gh r h Q k=>by
 unfold zk0 at h
 split at h <;> cases h
 ·obtain ⟨v,rfl,r1⟩:=r.one
  obtain ⟨a,us,rfl,ha,ra⟩:=r1.lst_inv
  exact ⟨a,us,rfl,.inl ⟨.inl (.inl (gh _ _ ha)),zi6 gh ra k⟩⟩
 ·obtain ⟨v,rfl,r1⟩:=r.one
  obtain ⟨a,us,rfl,ha,ra⟩:=r1.tup_inv
  exact ⟨a,us,rfl,.inr ⟨.inl (.inl (gh _ _ ha)),k _ G H (.refl gh) (.tup ha ra)⟩⟩⟩
def zr0 {κ α:Type} [DecidableEq κ] (kvs:List (κ×α)) (k:κ):Option α:=(kvs.find? fun kv=>decide (kv.1=k)).map (·.2)
def zko {κ α:Type} [DecidableEq κ] (kvs:List (κ×α)) (k:κ) (v:α):List (κ×α) :=
 if (kvs.any fun kv=>decide (kv.1=k))=true then kvs.map (fun kv=>if kv.1=k then (kv.1,v) else kv) else kvs++[(k,v)]
theorem zrb {κ:Type} [DecidableEq κ] {K:PySem.W.Frag} {G:Hp} {k:κ}:∀ {us:List (κ×V)} {kvs:List (κ×D)},us.map (·.1)=kvs.map (·.1)->Reps Γ K G (us.map (·.2)) (kvs.map (·.2)) ->
  (zr0 kvs k=none/\zmJ us k=none)\/∃ d v,zr0 kvs k=some d/\zmJ us k=some v/\Rep Γ K G v d
 | [],[],_,_=>.inl ⟨rfl,rfl⟩
 | [],_::_,e,_=>by cases e
 | _::_,[],e,_=>by cases e
 | (k1,v)::us,(k2,d)::kvs,e,r=>by
  have e1:k1=k2:=(List.cons.inj e).1
  have e2:us.map (·.1)=kvs.map (·.1):=(List.cons.inj e).2
  subst e1
  have r:Reps Γ K G (v::us.map (·.2)) (d::kvs.map (·.2)):=r
  cases r with
  | cons r1 r2 =>
   by_cases h:k1=k
   ·exact .inr ⟨d,v,by simp [zr0,List.find?_cons,h],zhj h,r1⟩
   ·have:=zrb (k:=k) e2 r2
    rw [zhk (p:=(k1,v)) h]
    simpa [zr0,List.find?_cons,h] using this
theorem zob {κ:Type} [DecidableEq κ] {k:κ} {α β:Type}:∀ {us:List (κ×α)} {kvs:List (κ×β)},us.map (·.1)=kvs.map (·.1)->(us.any fun kv=>decide (kv.1=k))=(kvs.any fun kv=>decide (kv.1=k))
 | [],[],_=>rfl
 | [],_::_,e=>by cases e
 | _::_,[],e=>by cases e
 | (k1,v)::us,(k2,d)::kvs,e=>by
  have e1:k1=k2:=(List.cons.inj e).1
  subst e1
  rw [List.any_cons,List.any_cons,zob (us:=us) (kvs:=kvs) (List.cons.inj e).2]
theorem zoa {κ:Type} [DecidableEq κ] {K:PySem.W.Frag} {G:Hp} {k:κ} {v:V} {d:D} (rv:Rep Γ K G v d):∀ {us:List (κ×V)} {kvs:List (κ×D)},us.map (·.1)=kvs.map (·.1)->Reps Γ K G (us.map (·.2)) (kvs.map (·.2)) ->
  (us.map fun kv=>if kv.1=k then (kv.1,v) else kv).map (·.1)=(kvs.map fun kv=>if kv.1=k then (kv.1,d) else kv).map (·.1)/\Reps Γ K G ((us.map fun kv=>if kv.1=k then (kv.1,v) else kv).map (·.2)) ((kvs.map fun kv=>if kv.1=k then (kv.1,d) else kv).map (·.2))
 | [],[],_,_=>⟨rfl,.nil⟩
 | [],_::_,e,_=>by cases e
 | _::_,[],e,_=>by cases e
 | (k1,u)::us,(k2,x)::kvs,e,r=>by
  have e1:k1=k2:=(List.cons.inj e).1
  have e2:us.map (·.1)=kvs.map (·.1):=(List.cons.inj e).2
  subst e1
  have r:Reps Γ K G (u::us.map (·.2)) (x::kvs.map (·.2)):=r
  cases r with
  | cons r1 r2 =>
   obtain ⟨h1,h2⟩:=zoa (k:=k) rv e2 r2
   by_cases h:k1=k
   ·subst h
    simp only [ql,if_true]
    exact ⟨by rw [h1],.cons rv h2⟩
   ·simp only [ql,qY h]
    exact ⟨by rw [h1],.cons r1 h2⟩
theorem zn9 {κ:Type} [DecidableEq κ] {K:PySem.W.Frag} {G:Hp} {k:κ} {v:V} {d:D} (rv:Rep Γ K G v d) {us:List (κ×V)} {kvs:List (κ×D)} (e:us.map (·.1)=kvs.map (·.1)) (r:Reps Γ K G (us.map (·.2)) (kvs.map (·.2))) :
  (zgV us k v).map (·.1)=(zko kvs k d).map (·.1)/\Reps Γ K G ((zgV us k v).map (·.2)) ((zko kvs k d).map (·.2)):=by
 unfold zgV zko
 rw [zob (k:=k) e]
 split
 ·exact zoa rv e r
 ·simp only [List.map_append,ql,qM]
  exact ⟨by rw [e],r.append (.cons rv .nil)⟩
def znD:D->Option Key
 | .int i=>some (.inl i)
 | .str x=>some (.inr x)
 | _=>none
def zfB:List D->Option (List Key)
 | []=>some []
 | d::r=>(znD d).bind fun k=>(zfB r).map (k::·)
theorem zjj {K:PySem.W.Frag} {G:Hp} {v:V} {d:D} {k:Key} (r:Rep Γ K G v d) (h:znD d=some k):v=kV k:=by
 unfold znD at h
 split at h <;> cases h
 ·exact r.int_inv
 ·exact r.str_inv
theorem zeK {K:PySem.W.Frag} {G:Hp}:∀ {vs:List V} {ds:List D} {ks:List Key},Reps Γ K G vs ds->zfB ds=some ks->vs=ks.map kV
 | _,[],ks,r,h=>by cases r;cases h;rfl
 | _,d::ds,ks,.cons h1 h2,h=>by
  unfold zfB at h
  obtain ⟨k,hk,h⟩:=oBd h
  obtain ⟨zs,hz,rfl⟩:=oMd h
  rw [zjj h1 hk,zeK h2 hz];rfl
end
end L2
end
section
namespace L2
open PySem PySem.Spec PyProof.Rows
section
variable {Γ:Cn} {X:Cx} {a b c e o i:Expr} {es:List Expr} {fa fb fc f fo fk fx:FE} {fr fi:FA} {pos p apos cpos:Pos} {ft:FT} {g:FS} {x:Str}
end
end L2
end
section
namespace L2
open PySem PySem.Spec PyProof.Rows
section
variable {Γ:Cn} {X:Cx} {a b c e o i:Expr} {es:List Expr} {fa fb fc f fo fk fx:FE} {fr fi:FA} {pos p apos cpos:Pos} {ft:FT} {g:FS} {x:Str}
def zqh:D->Option Str
 | .str x=>if x.length<=sizeLine then some x else none
 | .int i=>if i.natAbs.log2 < 1920 then some (toString i) else none
 | _=>none
def zkQ:Str->List D->Option Str
 | acc,[]=>if acc.length<=sizeLine then some acc else none
 | acc,d::r=>(zqh d).bind fun y=>if (acc++y).length<=sizeLine then zkQ (acc++y) r else none
def fsF (fr:FA):FE:=fun ρ=>(fr ρ).bind fun ds=>(zkQ Str.empty ds).map D.str
structure DJ (Γ:Cn) (X:Cx) (es:List Expr) (fr:FA):Prop where
 out:∀ (acc:Str) (pins:List (Addr×Obj)) (s:Shared) (σ:St) (H:Hp) (Q:VK),Inv X pins σ H s->(∃ G₀ H₀ G ρ ds z,At Γ X.K G₀ H₀ G H ρ σ/\fr ρ=some ds/\zkQ acc ds=some z/\∀ G' H',Step G H G' H'->Q (.str z) H') ->
  wpAny (model X.prog X.w) X.A (joinParts acc (evalEach es X.env)) (EP X pins σ Q) X.xe s
theorem zrH:DJ Γ X [] zag:=⟨fun acc pins s σ H Q I ⟨G₀,H₀,G,ρ,ds,z,A,h,hz,k⟩=>by
 cases h
 unfold zkQ at hz
 split at hz
 ·rename_i hl
  cases hz
  exact joinParts_nil ⟨.str _,H,I.tok _,⟨_,rfl⟩,k G H (.refl A.gh)⟩ hl
 ·cases hz⟩
theorem znF {y:Str} {j} (h:DJ Γ X es fr) (hs:evalEach (.Constant (.str y) j p::es) X.env=eval (.Constant (.str y) j p) X.env::evalEach es X.env:=by rfl):DJ Γ X (.Constant (.str y) j p::es) (zab (vC (.str y)) fr):=⟨fun acc pins s σ H Q I ⟨G₀,H₀,G,ρ,ds,z,A,hq,hz,k⟩=>by
 unfold zab vC at hq
 simp only [qa] at hq
 obtain ⟨xs,hxs,rfl⟩:=oMd hq
 unfold zkQ at hz
 obtain ⟨w,hw,hz2⟩:=oBd hz
 clear hz
 have hz:=hz2
 clear hz2
 split at hz
 ·rename_i hl
  have hw':w=y/\y.length<=sizeLine:=by
   simp only [zqh] at hw
   split at hw
   ·exact ⟨(qF hw).symm,by assumption⟩
   ·exact nomatch hw
  obtain ⟨rfl,_⟩:=hw'
  rw [hs]
  refine joinParts_cons (thn (zil (X:=X) pins s σ H (fun v H'=>v=.str w/\H'=H) I ⟨rfl,rfl⟩) fun v s1 ⟨v',H1,I1,r1,e1,e2⟩=>?_)
  subst e1 e2
  obtain ⟨t,rfl⟩:=r1
  exact ⟨hl,h.1 _ pins s1 σ _ Q I1 ⟨G₀,H₀,G,ρ,xs,z,A,hxs,hz,k⟩⟩
 ·cases hz⟩
theorem zrG (hv:DE Γ X e f) (h:DJ Γ X es fr) (hs:evalEach (.FormattedValue e (-1) none p::es) X.env=eval (.FormattedValue e (-1) none p) X.env::evalEach es X.env:=by rfl):DJ Γ X (.FormattedValue e (-1) none p::es) (zab f fr):=⟨fun acc pins s σ H Q I ⟨G₀,H₀,G,ρ,ds,z,A,hq,hz,k⟩=>by
 unfold zab at hq
 obtain ⟨d,hd,hq⟩:=oBd hq
 obtain ⟨xs,hxs,rfl⟩:=oMd hq
 unfold zkQ at hz
 obtain ⟨w,hw,hz2⟩:=oBd hz
 clear hz
 have hz:=hz2
 clear hz2
 split at hz
 ·rename_i hl
  rw [hs]
  refine joinParts_cons (FormattedValue_plain (thn (hv.1 pins s σ H (fun v H'=>∃ G',Step G H G' H'/\Rep Γ X.K G' v d) I ⟨G₀,H₀,G,ρ,d,A,hd,fun v G' H' st r=>⟨G',st,r⟩⟩) fun v s1 ⟨v',H1,I1,r1,G1,st,rp⟩=>?_))
  have fin:∀ (t':Tok) (tk:Nat),(acc++w).length<=sizeLine/\wpAny (model X.prog X.w) X.A (joinParts (acc++w) (evalEach es X.env)) (EP X pins σ Q) X.xe { s1 with toks:=tk }:=fun t' tk =>
   ⟨hl,h.1 _ pins _ σ _ Q (I1.tok tk) ⟨G₀,H₀,G1,ρ,xs,z,A.step st,hxs,hz,fun G' H' s'=>k G' H' (st.trans s')⟩⟩
  unfold zqh at hw
  split at hw
  ·split at hw
   ·cases hw
    cases rp.str_inv
    obtain ⟨t,rfl⟩:=r1
    exact formatField_str (fun t' tk=>fin t' tk) (by assumption)
   ·cases hw
  ·split at hw
   ·cases hw
    cases rp.int_inv
    obtain ⟨t,rfl⟩:=r1
    exact formatField_int_small (by assumption) (fin 0 _)
   ·cases hw
  ·cases hw
 ·cases hz⟩
theorem zs2 {v1 v2:Expr} {zcb:List Expr} (h:DJ Γ X (v1::v2::zcb) fr) (hs:evalEach (v1::v2::zcb) X.env=eval v1 X.env::eval v2 X.env::evalEach zcb X.env:=by rfl):DE Γ X (.JoinedStr (v1::v2::zcb) pos) (fsF fr):=⟨fun pins s σ H Q I=>by
 rintro ⟨G₀,H₀,G,ρ,d,A,hq,k⟩
 unfold fsF at hq
 obtain ⟨ds,hd,hq⟩:=oBd hq
 obtain ⟨z,hz,rfl⟩:=oMd hq
 refine JoinedStr_many ?_
 rw [← hs]
 exact h.1 _ pins s σ H Q I ⟨G₀,H₀,G,ρ,ds,z,A,hd,hz,fun G' H' s'=>k _ G' H' s' (.str _)⟩⟩
end
end L2
end
section
namespace L2
open PySem PySem.Spec PyProof.Rows
section
variable {X:Cx} {pins:List (Addr×Obj)} {σ:St} {H H':Hp} {s:Shared} {h':Heap}
end
section
variable {Γ:Cn} {X:Cx} {a b c e o i:Expr} {es:List Expr} {fa fb fc f fo fk fx:FE} {fr fi:FA} {pos p p2 p3 p4 apos cpos:Pos} {ft:FT} {g:FS} {x:Str}
end
end L2
end
section
namespace L2
open PySem PySem.Spec PyProof.Rows
section
variable {α β:Type} [DecidableEq α]
end
section
variable {Γ:Cn} {X:Cx} {a b c e o i:Expr} {es:List Expr} {fa fb fc f fo fk fx:FE} {fr fi:FA} {pos p p2 p3 p4 apos cpos:Pos} {ft:FT} {g:FS} {x:Str}
def zp8:D->Option D
 | .int i=>some (.int (-i))
 | _=>none
end
end L2
end
section
namespace L2
open PySem PySem.Spec PyProof.Rows
structure CF (Γ:Cn) (K:PySem.W.Frag) (c:Str) (attrs:List Str):Prop where
 ex:∃ C,Γ.cls c=some C/\Cls K C/\∀ f∈attrs,zdR K C f
section
variable {Γ:Cn} {X:Cx} {a b c e o i value:Expr} {es:List Expr} {fa fb fc f fo fk fx fv:FE} {fr fi:FA} {pos pos' p apos cpos:Pos} {ft:FT} {g:FS} {x cl fl n m:Str} {attrs:List Str}
theorem zdf {K:PySem.W.Frag} {G:Hp} {k:Str}:∀ {us:List (Str×V)} {fs:List (Str×D)},us.map (·.1)=fs.map (·.1)->Reps Γ K G (us.map (·.2)) (fs.map (·.2)) ->
  (fs.lookup k=none/\us.lookup k=none)\/∃ d v,fs.lookup k=some d/\us.lookup k=some v/\Rep Γ K G v d
 | [],[],_,_=>.inl ⟨rfl,rfl⟩
 | [],_::_,e,_=>by cases e
 | _::_,[],e,_=>by cases e
 | (k1,v)::us,(k2,d)::fs,e,r=>by
  have e1:k1=k2:=(List.cons.inj e).1
  have e2:us.map (·.1)=fs.map (·.1):=(List.cons.inj e).2
  subst e1
  have r:Reps Γ K G (v::us.map (·.2)) (d::fs.map (·.2)):=r
  cases r with
  | cons r1 r2 =>
   by_cases h:k=k1
   ·subst h
    exact .inr ⟨d,v,by simp [List.lookup],by simp [List.lookup],r1⟩
   ·have hb:(k==k1)=false:=by simpa using h
    have:=zdf (k:=k) e2 r2
    simpa [List.lookup,hb] using this
theorem zhv {f:Str} {v:V}:∀ {fs:List (Str×V)},fs.lookup f=none->zh2 f v fs=fs++[(f,v)]
 | [],_=>rfl
 | (g,x)::r,h=>by
  by_cases e:f=g
  ·subst e;simp [List.lookup] at h
  ·have hb:(f==g)=false:=by simpa using e
   rw [zh2,qY (fun z=>e z.symm),zhv (by simpa [List.lookup,hb] using h)]
   rfl
def zk7 (f:Str):Slot->Option D
 | .obj _ fs=>fs.lookup f
 | .objd _ fs n _=>if f=n then none else fs.lookup f
 | _=>none
def zoB:Slot->Option Str
 | .obj c _=>some c
 | .objd c _ _ _=>some c
 | _=>none
def zgy (c f:Str) (i:Nat):FE:=fun ρ=>match ρ[i]? with
 | some (some s)=>if zoB s=some c then zk7 f s else none
 | _=>none
theorem znh {vs:List (Str×V)} {n f:Str} {v w:V} (h:vs.lookup f=some v):(vs++[(n,w)]).lookup f=some v:=by
 induction vs with
 | nil=>cases h
 | cons p r ih =>
  obtain ⟨g,x⟩:=p
  by_cases e:f=g
  ·subst e;simpa [List.lookup] using h
  ·have hb:(f==g)=false:=by simpa using e
   simp only [qo,List.lookup,hb] at h ⊢
   exact ih h
theorem zhJ (i:Nat) (hc:CF Γ X.K cl attrs) (hf:fl∈attrs) {vp:Pos} (hN:X.N[i]?=some x:=by rfl) (hv:Vis X.env.scope x:=by first | exact Or.inl rfl | exact Or.inr (Or.inl rfl) | exact Or.inr (Or.inr rfl)) (hd:(x==("__debug__":Str))=false:=by decide)
  (hcd:(x==("__classdict__":Str))=false:=by decide) (hb:attributeBase (.Name x vp) fl X.env (eval (.Name x vp) X.env)=eval (.Name x vp) X.env:=by rfl):DE Γ X (.Attribute (.Name x vp) fl pos) (zgy cl fl i):=⟨(zn5 (zcp hN hv hd hcd) hb).imp fun σ H Q=>by
 rintro ⟨G₀,H₀,G,ρ,d,A,h,k⟩
 unfold zgy at h
 split at h
 ·rename_i s hi
  split at h
  ·rename_i hcl
   obtain ⟨C,q1,q2,q3⟩:=hc.ex
   obtain ⟨v,fp,h1,h2⟩:=A.get hi
   cases h2 with
   | sh _=>cases h
   | own _ _ _ _=>cases h
   | odk _ _ _ _ _=>cases h
   | odt _ _ _ _ _=>cases h
   | tlo _ _ _ _ _ _=>cases h
   | pin _=>cases h
   | obj g1 g2 g3 g4 g5 g6 g7 =>
    cases hcl
    rw [q1] at g1
    cases g1
    have h:List.lookup fl _=some d:=h
    rcases zdf (k:=fl) g5 g6 with ⟨z1,_⟩ | ⟨d',v',z1,z2,z3⟩
    ·rw [z1] at h;cases h
    ·rw [z1] at h
     cases h
     exact ⟨_,h1,_,C,_,_,v',rfl,g4,q2,q3 fl hf,z2,k v' G H (.refl A.gh) z3⟩
   | objd g1 g2 g3 g4 g5 g6 _ _ _ _ _ g7 =>
    cases hcl
    rw [q1] at g1
    cases g1
    unfold zk7 at h
    simp only at h
    split at h
    ·cases h
    ·rcases zdf (k:=fl) g5 g6 with ⟨z1,_⟩ | ⟨d',v',z1,z2,z3⟩
     ·rw [z1] at h;cases h
     ·rw [z1] at h
      cases h
      exact ⟨_,h1,_,C,_,_,v',rfl,g4,q2,q3 fl hf,znh z2,k v' G H (.refl A.gh) z3⟩
  ·cases h
 ·cases h⟩
def zeC (c f:Str) (i:Nat) (fv:FE):FS:=fun ρ=>(fv ρ).bind fun d=>match ρ[i]? with
 | some (some (.obj c' fs))=>if c'=c/\fs.lookup f=none/\fs.length < 100 then some (.nx,ρ.set i (some (.obj c (fs++[(f,d)])))) else none
 | _=>none
theorem zc8 (i:Nat) (hc:CF Γ X.K cl attrs) (hf:fl∈attrs) {vp:Pos} (hv':DE Γ X value fv) (hN:X.N[i]?=some x:=by rfl) (hv:Vis X.env.scope x:=by first | exact Or.inl rfl | exact Or.inr (Or.inl rfl) | exact Or.inr (Or.inr rfl)) (hd:(x==("__debug__":Str))=false:=by decide)
  (hcd:(x==("__classdict__":Str))=false:=by decide) (hs:swapsWith value (some (.Attribute (.Name x vp) fl pos')) pos.line X.env=pure false:=by rfl):DS Γ X (.Assign [.Attribute (.Name x vp) fl pos'] value pos) (zeC cl fl i fv):=⟨(zn1 (zcp hN hv hd hcd) hv'.1 hs).imp fun E σ H=>by
 rintro ⟨G₀,H₀,G,ρ,flw,ρ',A,h,k⟩
 unfold zeC at h
 obtain ⟨d,hd,h⟩:=oBd h
 split at h
 ·rename_i c' fs hi
  split at h
  ·rename_i hz
   obtain ⟨rfl,hz2,hz3⟩:=hz
   cases h
   obtain ⟨C,q1,q2,q3⟩:=hc.ex
   refine ⟨G₀,H₀,G,ρ,d,A,hd,fun v G1 H1 s1 r1=>?_⟩
   have A1:=A.step s1
   obtain ⟨w,fp,h1,h2⟩:=A1.get hi
   cases h2 with
   | obj g1 g2 g3 g4 g5 g6 g7 =>
    rename_i a C' dx vs
    have g1':=g1
    rw [q1] at g1
    cases g1
    have hl:vs.lookup fl=none:=by
     rcases zdf (k:=fl) g5 g6 with ⟨_,z2⟩ | ⟨d',v',z1,_,_⟩
     ·exact z2
     ·rw [z1] at hz2;cases hz2
    have hlen:vs.length=fs.length:=by simpa using congrArg List.length g5
    refine ⟨_,h1,a,C,dx,vs,rfl,g4,q2,q3 fl hf,by omega,?_⟩
    rw [zhv hl]
    refine k σ G1 _ s1.gg (A1.ch hi h1 (.obj g1' g2 g3 g4 g5 g6 g7) (fun b o e hb=>?_) (.obj (vs:=vs++[(fl,v)]) g1' g2 g3 zav (by simp [g5]) (by simpa using g6.append (.cons r1 .nil)) g7) (fun b hb=>.inl hb) (.refl _) (fun b o e=>?_) (fun _ _ _ _=>rfl))
    ·rw [zaq (fun z=>hb (List.mem_singleton.mpr z))];exact e
    ·rw [zaq (zas e g3)];exact A1.gh b o e
  ·cases h
 ·cases h⟩
def zp6 (c f:Str) (i:Nat):FS:=fun ρ=>match ρ[i]? with
 | some (some (.obj c' fs))=>if c'=c/\fs.lookup f=none/\fs.length < 100 then some (.nx,ρ.set i (some (.objd c fs f []))) else none
 | _=>none
theorem zrD (i:Nat) (hc:CF Γ X.K cl attrs) (hf:fl∈attrs) {vp dp:Pos} (hN:X.N[i]?=some x:=by rfl) (hv:Vis X.env.scope x:=by first | exact Or.inl rfl | exact Or.inr (Or.inl rfl) | exact Or.inr (Or.inr rfl)) (hd:(x==("__debug__":Str))=false:=by decide)
  (hcd:(x==("__classdict__":Str))=false:=by decide) (hs:swapsWith (.Dict [] [] dp) (some (.Attribute (.Name x vp) fl pos')) pos.line X.env=pure false:=by rfl):DS Γ X (.Assign [.Attribute (.Name x vp) fl pos'] (.Dict [] [] dp) pos) (zp6 cl fl i):=⟨(zn1 (zcp hN hv hd hcd) zm6 hs).imp fun E σ H=>by
 rintro ⟨G₀,H₀,G,ρ,flw,ρ',A,h,k⟩ p hp
 unfold zp6 at h
 split at h
 ·rename_i c' fs hi
  split at h
  ·rename_i hz
   obtain ⟨rfl,hz2,hz3⟩:=hz
   cases h
   obtain ⟨C,q1,q2,q3⟩:=hc.ex
   obtain ⟨w,fp,h1,h2⟩:=A.get hi
   cases h2 with
   | obj g1 g2 g3 g4 g5 g6 g7 =>
    rename_i a C' dx vs
    have g1':=g1
    rw [q1] at g1
    cases g1
    have hl:vs.lookup fl=none:=by
     rcases zdf (k:=fl) g5 g6 with ⟨_,z2⟩ | ⟨d',v',z1,_,_⟩
     ·exact z2
     ·rw [z1] at hz2;cases hz2
    have hlen:vs.length=fs.length:=by simpa using congrArg List.length g5
    have npa:a≠p:=zas g4 hp
    refine ⟨_,h1,a,C,dx,vs,rfl,by rw [zaq npa];exact g4,q2,q3 fl hf,by omega,?_⟩
    rw [zhv hl]
    have hp0:H₀ p=none:=A.st.hh.free hp
    have hpg:G p=none:=A.gh.free hp
    refine k σ G _ (.refl _) (A.ch hi h1 (.obj g1' g2 g3 g4 g5 g6 g7) (fun b o e hb=>?_) (.objd (vs:=vs) (p:=p) (us:=[]) (kvs:=[]) g1' g2 g3 zav g5 g6 hp0 hpg (by rw [zaq npa.symm,zav]) rfl .nil g7) (fun b hb=>?_) (.refl _) (fun b o e=>?_) (fun _ _ _ _=>rfl))
    ·rw [zaq (fun z=>hb (List.mem_singleton.mpr z)),zaq (zas e hp)];exact e
    ·rcases List.mem_cons.mp hb with rfl | hb
     ·exact .inl (List.mem_singleton.mpr rfl)
     ·rw [List.mem_singleton.mp hb];exact .inr hp
    ·rw [zaq (zas e g3),zaq (zas e hpg)];exact A.gh b o e
  ·cases h
 ·cases h⟩
def zc5 (c f:Str) (i:Nat) (fk fv:FE):FS:=fun ρ=>(fv ρ).bind fun d=>(fk ρ).bind fun kd=>(znD kd).bind fun k=>match ρ[i]? with
 | some (some (.objd c' fs n kvs))=>if c'=c/\n=f/\fs.lookup f=none/\kvs.length < 100000 then some (.nx,ρ.set i (some (.objd c fs n (zko kvs k d)))) else none
 | _=>none
theorem zlF {vs:List (Str×V)} {f:Str} {w:V} (h:vs.lookup f=none):(vs++[(f,w)]).lookup f=some w:=by
 induction vs with
 | nil=>simp [List.lookup]
 | cons p r ih =>
  obtain ⟨g,x⟩:=p
  by_cases e:f=g
  ·subst e;simp [List.lookup] at h
  ·have hb:(f==g)=false:=by simpa using e
   simp only [qo,List.lookup,hb] at h ⊢
   exact ih h
theorem zl5 (i:Nat) (hu:X.A.units+66 < cLine) (hc:CF Γ X.K cl attrs) (hf:fl∈attrs) {vp ap:Pos} {ke:Expr} (hk:DE Γ X ke fk) (hv':DE Γ X value fv) (hN:X.N[i]?=some x:=by rfl) (hv:Vis X.env.scope x:=by first | exact Or.inl rfl | exact Or.inr (Or.inl rfl) | exact Or.inr (Or.inr rfl)) (hd:(x==("__debug__":Str))=false:=by decide)
  (hcd:(x==("__classdict__":Str))=false:=by decide) (hb:attributeBase (.Name x vp) fl X.env (eval (.Name x vp) X.env)=eval (.Name x vp) X.env:=by rfl) (hs:swapsWith value (some (.Subscript (.Attribute (.Name x vp) fl ap) ke pos')) pos.line X.env=pure false:=by rfl) :
  DS Γ X (.Assign [.Subscript (.Attribute (.Name x vp) fl ap) ke pos'] value pos) (zc5 cl fl i fk fv):=⟨(zoS (by omega) (zn5 (zcp hN hv hd hcd) hb) hk.1 hv'.1 hs).imp fun E σ H=>by
 rintro ⟨G₀,H₀,G,ρ,flw,ρ',A,h,k⟩
 unfold zc5 at h
 obtain ⟨d,hd,ha⟩:=oBd h
 clear h
 obtain ⟨kd,hkd,hb1⟩:=oBd ha
 clear ha
 obtain ⟨kk,hkk,hq⟩:=oBd hb1
 clear hb1
 split at hq
 ·rename_i c' fs n kvs hi
  split at hq
  ·rename_i hz
   obtain ⟨rfl,rfl,hz2,hz3⟩:=hz
   cases hq
   obtain ⟨C,q1,q2,q3⟩:=hc.ex
   refine ⟨G₀,H₀,G,ρ,d,A,hd,fun v G1 H1 s1 r1=>?_⟩
   have A1:=A.step s1
   obtain ⟨w,fp,h1,h2⟩:=A1.get hi
   cases h2 with
   | objd g1 g2 g3 g4 g5 g6 y1 y2 y3 y4 y5 g7 =>
    rename_i a C' dx p vs us
    have g1':=g1
    rw [q1] at g1
    cases g1
    have hl:vs.lookup n=none:=by
     rcases zdf (k:=n) g5 g6 with ⟨_,z2⟩ | ⟨d',v',z1,_,_⟩
     ·exact z2
     ·rw [z1] at hz2;cases hz2
    refine ⟨_,h1,a,C,dx,_,.ref p,rfl,g4,q2,q3 n hf,zlF hl,G₀,H₀,G1,ρ,kd,A1,hkd,fun u G2 H2 s2 r2=>?_⟩
    have A2:=A1.step s2
    have eu:=zjj r2 hkk
    subst eu
    have hp2:H2 p=some (.dK us):=s2.hh _ _ y3
    have ha2:H2 a=some (.ins C dx (vs++[(n,.ref p)])):=s2.hh _ _ g4
    have ga2:G2 a=none:=(s2.out _ _ g4).trans g3
    have gp2:G2 p=none:=(s2.out _ _ y3).trans y2
    have npa:a≠p:=zgA ha2 hp2 (by intro z;cases z)
    have hlen:us.length=kvs.length:=by simpa using congrArg List.length y4
    obtain ⟨w1,w2⟩:=zn9 (k:=kk) (r1.mono s2.gg) y4 (y5.mono s2.gg)
    refine ⟨p,_,rfl,zrY.k hp2 (by have:=sizeLine_eq;omega),?_⟩
    refine k σ G2 _ (s1.gg.trans s2.gg) (A2.ch hi h1 (.objd g1' g2 ga2 ha2 g5 (g6.mono s2.gg) y1 gp2 hp2 y4 (y5.mono s2.gg) g7) (fun b o e hb=>?_) (.objd (p:=p) g1' g2 ga2 (by rw [zaq npa];exact ha2) g5 (g6.mono s2.gg) y1 gp2 zav w1 w2 g7) (fun b hb=>.inl hb) (.refl _) (fun b o e=>?_) (fun _ _ _ _=>rfl))
    ·rw [zaq (fun z=>hb (by rw [z];exact qg _ qf))];exact e
    ·rw [zaq (zas e gp2)];exact A2.gh b o e
  ·cases hq
 ·cases hq⟩
def zhn:Slot->Option D
 | .obj c fs=>some (.ins c fs)
 | .objd c fs n kvs=>some (.ins c (fs++[(n,.dk kvs)]))
 | _=>none
theorem At.done {K:PySem.W.Frag} {G₀ H₀ G H:Hp} {ρ:za5} {σ:St} (A:At Γ K G₀ H₀ G H ρ σ) {i:Nat} {s:Slot} {d:D} (hi:ρ[i]?=some (some s)) (hd:zhn s=some d):∃ a G',Γ.self=some a/\Step G₀ H₀ G' H/\Rep Γ K G' (.ref a) d:=by
 obtain ⟨v,fp,h1,h2⟩:=A.get hi
 cases h2 with
 | sh _=>cases hd
 | own _ _ _ _=>cases hd
 | odk _ _ _ _ _=>cases hd
 | odt _ _ _ _ _=>cases hd
 | tlo _ _ _ _ _ _=>cases hd
 | pin _=>cases hd
 | obj g1 g2 g3 g4 g5 g6 g7 =>
  cases hd
  rename_i a C dx vs fs
  have sm:zbT G (upd G a (.ins C dx vs)):=fun b o e=>by rw [zaq (zas e g3)];exact e
  refine ⟨a,upd G a (.ins C dx vs),g7,⟨A.st.hh,A.st.gg.trans sm,fun b o e=>?_,fun b o e=>?_⟩,.ins zav g1 g5 (g6.mono sm)⟩
  ·by_cases hb:b=a
   ·subst hb;rw [zav] at e;cases e;exact g4
   ·rw [zaq hb] at e;exact A.gh b o e
  ·rw [zaq (zas e g2)];exact A.st.out b o e
 | objd g1 g2 g3 g4 g5 g6 y1 y2 y3 y4 y5 g7 =>
  cases hd
  rename_i n a C dx p vs fs us kvs
  have npa:a≠p:=zgA g4 y3 (by intro z;cases z)
  have sm:zbT G (upd (upd G p (.dK us)) a (.ins C dx (vs++[(n,.ref p)]))):=fun b o e=>by rw [zaq (zas e g3),zaq (zas e y2)];exact e
  refine ⟨a,_,g7,⟨A.st.hh,A.st.gg.trans sm,fun b o e=>?_,fun b o e=>?_⟩,.ins (us:=vs++[(n,.ref p)]) (fs:=fs++[(n,.dk kvs)]) zav g1 (by simp [g5]) ?_⟩
  ·by_cases hb:b=a
   ·subst hb;rw [zav] at e;cases e;exact g4
   ·rw [zaq hb] at e
    by_cases hb':b=p
    ·subst hb';rw [zav] at e;cases e;exact y3
    ·rw [zaq hb'] at e;exact A.gh b o e
  ·rw [zaq (zas e g2),zaq (zas e y1)];exact A.st.out b o e
  ·have r2:Rep Γ K (upd (upd G p (.dK us)) a (.ins C dx (vs++[(n,.ref p)]))) (.ref p) (.dk kvs):=.dk (us:=us) (by rw [zaq npa.symm,zav]) y4 (y5.mono sm)
   simpa using (g6.mono sm).append (.cons r2 .nil)
end
end L2
end
section
namespace L2
open PySem PySem.Spec PyProof.Rows
def Cn.mk1 (Γ:Cn) (x:Addr):Cn:=⟨Γ.cls,some x⟩
section
variable {Γ:Cn} {P:Program} {w:World} {K:PySem.W.Frag} {mg:Str->Option Value} {base:Heap} {c:Str} {attrs:List Str} {x:Addr}
theorem Rep.to1 {G:Hp} {v:V} {d:D} (x:Addr) (r:Rep Γ K G v d):Rep (Γ.mk1 x) K G v d:=Rep.re (Γ:=Γ) (Γ':=Γ.mk1 x) rfl r
theorem Rep.of1 {G:Hp} {v:V} {d:D} {x:Addr} (r:Rep (Γ.mk1 x) K G v d):Rep Γ K G v d:=Rep.re (Γ:=Γ.mk1 x) (Γ':=Γ) rfl r
theorem Reps.of1 {G:Hp} {v:List V} {d:List D} {x:Addr} (r:Reps (Γ.mk1 x) K G v d):Reps Γ K G v d:=Reps.re (Γ:=Γ.mk1 x) (Γ':=Γ) rfl r
theorem CF.re (h:CF Γ K c attrs) (x:Addr):CF (Γ.mk1 x) K c attrs:=⟨h.ex⟩
theorem zqn {n:Nat} {F:List D->Option D} {vs:List V} {H:Hp} {Q:VK} {E:XK} (x:Addr) (h:spF (Γ.mk1 x) K n F vs H Q E):spF Γ K n F vs H Q E:=by
 obtain ⟨G,ds,d,h1,h2,h3,h4,k⟩:=h
 exact ⟨G,ds,d,h1,h2.of1,h3,h4,fun v G' H' s r=>k v G' H' s (r.to1 x)⟩
theorem Cal.re {y:Str} {n k:Nat} {F:List D->Option D} (C:Cal Γ P w K mg base y n k F) (x:Addr):Cal (Γ.mk1 x) P w K mg base y n k F:=by
 obtain ⟨f,fd,ps,h1,h2,h3,h4⟩:=C.ex
 exact ⟨f,fd,ps,h1.imp fun vs H Q E q=>zqn x q,h2,h3,h4⟩
structure CalM (Γ:Cn) (P:Program) (w:World) (K:PySem.W.Frag) (mg:Str->Option Value) (base:Heap) (c m:Str) (n k:Nat) (F:List D->Option D):Prop where
 ex:∃ C f fd ps,Γ.cls c=some C/\Cls K C/\Meth K C m f/\FnOk P w K mg base CX0 k f fd ps (spF Γ K n F)/\zcL K fd ps []
def spI (Γ:Cn) (K:PySem.W.Frag) (C:Addr) (n:Nat) (F:List D->Option D):Sp:=fun vs H Q _=>∃ x dx H1 G ds d us,vs=.ref x::us/\H=upd (upd H1 dx (.own x)) x (.ins C dx [])/\H1 x=none/\H1 dx=none/\dx≠x/\zbT G H1/\Reps Γ K G us ds/\ds.length=n/\F ds=some d /\
 ∀ G' H',Step G H1 G' H'->Rep Γ K G' (.ref x) d->Q .non H'
structure CalI (Γ:Cn) (P:Program) (w:World) (K:PySem.W.Frag) (mg:Str->Option Value) (base:Heap) (c:Str) (n k:Nat) (F:List D->Option D):Prop where
 ex:∃ C f fd ps,Γ.cls c=some C/\Mk K C f/\mg c=some (.ref C)/\FnOk P w K mg base CX0 k f fd ps (spI Γ K C n F)/\zcL K fd ps []
end
section
variable {Γ:Cn} {X:Cx} {e o:Expr} {es:List Expr} {fo:FE} {fr:FA} {pos p apos:Pos} {c m:Str}
end
section
variable {Γ:Cn} {P:Program} {w:World} {K:PySem.W.Frag} {mg:Str->Option Value} {base:Heap} {c:Str} {attrs:List Str}
structure DfnM (K:PySem.W.Frag) (C:Addr) (c m qual:Str) (st:Stmt):Prop where
 ex:∃ f fd,Fun K m qual st f fd/\PySem.W.findIn K (.ref C) m=some (some (.ref f))/\PySem.W.isFn K (.ref f)=true
structure ClsOk (Γ:Cn) (K:PySem.W.Frag) (mg:Str->Option Value) (c:Str) (C:Addr):Prop where
 cn:Γ.cls c=some C
 cl:Cls K C
 mgC:mg c=some (.ref C)
 makes:PySem.W.makesIn K C=true
 kp:PySem.W.keepIn K (.ref C)=true
theorem ClsOk.cf {C:Addr} (O:ClsOk Γ K mg c C) (h:∀ f∈attrs,zdR K C f):CF Γ K c attrs:=⟨C,O.cn,O.cl,h⟩
end
end L2
end
section
namespace ST
open PySem
structure Pr where
 j:Nat
 more:Nat
 i:Nat
 pt:Nat
def adv (M:Nat) (p:Pr):Pr:=if p.more > 0 then { p with j:=p.j+1,more:=p.more - 1 } else
 { j:=(SetTable.leap M p.i p.pt).1,more:=SetTable.runEnd M (SetTable.leap M p.i p.pt).1 - (SetTable.leap M p.i p.pt).1,i:=(SetTable.leap M p.i p.pt).1,pt:=(SetTable.leap M p.i p.pt).2 }
def st0 (M:Nat) (h:Int):Pr:={ j:=SetTable.bits h % (M+1),more:=SetTable.runEnd M (SetTable.bits h % (M+1)) - SetTable.bits h % (M+1),i:=SetTable.bits h % (M+1),pt:=SetTable.bits h }
def it (M:Nat) (h:Int):Nat->Pr
 | 0=>st0 M h
 | n+1=>adv M (it M h n)
def J (M:Nat) (h:Int) (n:Nat):Nat:=(it M h n).j
def lp (M:Nat) (h:Int):Nat->Nat×Nat
 | 0=>(SetTable.bits h % (M+1),SetTable.bits h)
 | r+1=>SetTable.leap M (lp M h r).1 (lp M h r).2
def zjr (M:Nat) (x:Nat×Nat):Pr:={ j:=x.1,more:=SetTable.runEnd M x.1 - x.1,i:=x.1,pt:=x.2 }
theorem zjW (M:Nat) (h:Int) (n:Nat):∀ k,it M h (n+k)=(Nat.repeat (adv M) k (it M h n))
 | 0=>rfl
 | k+1=>by rw [← Nat.add_assoc,it,zjW M h n k];rfl
theorem zoG (M i:Nat):SetTable.runEnd M i - i<=9:=by
 unfold SetTable.runEnd
 split <;> omega
theorem zmQ (M:Nat):∀ (k:Nat) (p:Pr),k<=p.more->Nat.repeat (adv M) k p={ p with j:=p.j+k,more:=p.more - k }
 | 0,p,_=>rfl
 | k+1,p,h=>by
  rw [Nat.repeat,zmQ M k p (by omega)]
  unfold adv
  rw [qX (by show p.more - k > 0;omega)]
  simp only [Nat.sub_sub,Nat.add_assoc]
theorem znZ (M:Nat) (h:Int):∀ r,∃ n,n<=10*r/\it M h n=zjr M (lp M h r)
 | 0=>⟨0,qu _,rfl⟩
 | r+1=>by
  obtain ⟨n,hn,e⟩:=znZ M h r
  have hl:=zoG M (lp M h r).1
  refine ⟨n+(SetTable.runEnd M (lp M h r).1 - (lp M h r).1)+1,by omega,?_⟩
  have e2:=zmQ M (SetTable.runEnd M (lp M h r).1 - (lp M h r).1) (zjr M (lp M h r)) (qu _)
  rw [it,zjW,e,e2]
  unfold adv
  rw [qY (by show ¬ ((SetTable.runEnd M (lp M h r).1 - (lp M h r).1) - (SetTable.runEnd M (lp M h r).1 - (lp M h r).1) > 0);omega)]
  rfl
theorem zpY (h:Int):SetTable.bits h < 2 ^ 64:=by
 unfold SetTable.bits
 have h1:=qW h (show (2 ^ 64:Int)≠0 by decide)
 have h2:=qT h (show (0:Int) < 2 ^ 64 by decide)
 omega
theorem zqD (M:Nat) (h:Int):∀ r,(lp M h r).2=SetTable.bits h / 32 ^ r
 | 0=>by simp [lp]
 | r+1=>by
  show (lp M h r).2 / 32=_
  rw [zqD M h r,Nat.div_div_eq_div_mul,Nat.pow_succ]
theorem zoO (M:Nat) (h:Int) {r:Nat} (hr:13<=r):(lp M h r).2=0:=by
 rw [zqD]
 refine Nat.div_eq_of_lt (qD (zpY h) ?_)
 exact qK (show 2 ^ 64<=32 ^ 13 by decide) (Nat.pow_le_pow_right (by decide) hr)
def fl (M i:Nat):Nat:=(i*5+1) % (M+1)
def orb (M:Nat):Nat->Nat->Nat
 | 0,i=>i
 | m+1,i=>fl M (orb M m i)
theorem zlD (M:Nat) (h:Int):∀ m,(lp M h (13+m)).1=orb M m (lp M h 13).1
 | 0=>rfl
 | m+1=>by
  show (SetTable.leap M (lp M h (13+m)).1 (lp M h (13+m)).2).1=_
  rw [zoO M h (by omega),zlD M h m]
  simp [SetTable.leap,orb,fl]
theorem zhx (M i:Nat) (a:Nat):∀ b,orb M (a+b) i=orb M b (orb M a i)
 | 0=>rfl
 | b+1=>by rw [← Nat.add_assoc,orb,zhx M i a b];rfl
def zsy (M:Nat):Nat->Nat->List Nat
 | 0,_=>[]
 | n+1,i=>i::zsy M n (fl M i)
theorem zjJ (M:Nat):∀ m i,orb M (m+1) i=orb M m (fl M i)
 | 0,_=>rfl
 | m+1,i=>by rw [orb,zjJ M m i];rfl
theorem zjK (M:Nat):∀ (n i j:Nat),j∈zsy M n i->∃ m,m < n/\orb M m i=j
 | 0,_,_,h=>nomatch h
 | n+1,i,j,h=>by
  rcases List.mem_cons.mp h with e | h
  ·exact ⟨0,Nat.succ_pos _,e.symm⟩
  ·obtain ⟨m,hm,e⟩:=zjK M n (fl M i) j h
   exact ⟨m+1,by omega,by rw [zjJ];exact e⟩
structure Full (M:Nat):Prop where
 all:∀ j,j<=M->∃ m,m < M+1/\orb M m 0=j
 back:orb M (M+1) 0=0
def chk (M:Nat):Bool:=(List.range (M+1)).all (fun j=>(zsy M (M+1) 0).contains j) && orb M (M+1) 0==0
theorem zhF {M:Nat} (h:chk M=true):Full M:=by
 unfold chk at h
 rw [Bool.and_eq_true,List.all_eq_true] at h
 refine ⟨fun j hj=>?_,by simpa using h.2⟩
 have:=h.1 j (List.mem_range.mpr (by omega))
 exact zjK M (M+1) 0 j (by simpa using this)
theorem zrw:Full 7:=zhF (by decide +kernel)
theorem zrx:Full 31:=zhF (by decide +kernel)
theorem zpD:Full 127:=zhF (by decide +kernel)
theorem zpC:Full 511:=zhF (by decide +kernel)
theorem Full.reach {M:Nat} (F:Full M) {i j:Nat} (hi:i<=M) (hj:j<=M):∃ m,m<=M/\orb M m i=j:=by
 obtain ⟨a,ha,ea⟩:=F.all i hi
 obtain ⟨b,hb,eb⟩:=F.all j hj
 by_cases h:a<=b
 ·refine ⟨b - a,by omega,?_⟩
  rw [← ea,← zhx,show a+(b - a)=b by omega,eb]
 ·refine ⟨M+1 - a+b,by omega,?_⟩
  rw [← ea,← zhx,show a+(M+1 - a+b)=(M+1)+b by omega,zhx,F.back,eb]
theorem zpr (M:Nat) (h:Int):∀ r,(lp M h r).1<=M
 | 0=>Nat.lt_succ_iff.mp (Nat.mod_lt _ (Nat.succ_pos _))
 | r+1=>Nat.lt_succ_iff.mp (Nat.mod_lt _ (Nat.succ_pos _))
theorem Full.covers {M:Nat} (F:Full M) (h:Int) {j:Nat} (hj:j<=M):∃ n,n < 10*(M+15)/\J M h n=j:=by
 obtain ⟨m,hm,e⟩:=F.reach (zpr M h 13) hj
 obtain ⟨n,hn,en⟩:=znZ M h (13+m)
 refine ⟨n,by omega,?_⟩
 unfold J
 rw [en]
 show (lp M h (13+m)).1=j
 rw [zlD,e]
theorem zrn (M:Nat) (h:Int):∀ n,(it M h n).j+(it M h n).more<=M
 | 0=>by
  have:=zpr M h 0
  show (lp M h 0).1+(SetTable.runEnd M (lp M h 0).1 - (lp M h 0).1)<=M
  unfold SetTable.runEnd
  split <;> omega
 | n+1=>by
  have ih:=zrn M h n
  rw [it]
  unfold adv
  split
  ·show (it M h n).j+1+((it M h n).more - 1)<=M
   omega
  ·show (SetTable.leap M (it M h n).i (it M h n).pt).1+(SetTable.runEnd M (SetTable.leap M (it M h n).i (it M h n).pt).1 - (SetTable.leap M (it M h n).i (it M h n).pt).1)<=M
   have:(SetTable.leap M (it M h n).i (it M h n).pt).1<=M:=Nat.lt_succ_iff.mp (Nat.mod_lt _ (Nat.succ_pos _))
   unfold SetTable.runEnd
   split <;> omega
theorem zte (M:Nat) (h:Int) (n:Nat):J M h n<=M:=qK (Nat.le_add_right _ _) (zrn M h n)
theorem Full.first {M:Nat} (F:Full M) (h:Int) (occ:Nat->Bool) (hf:∃ j,j<=M/\occ j=false):∃ n,n < 10*(M+15)/\occ (J M h n)=false/\∀ m,m < n->occ (J M h m)=true:=by
 obtain ⟨j,hj,hof⟩:=hf
 obtain ⟨n,hn,e⟩:=F.covers h hj
 have key:∀ n,n < 10*(M+15)->occ (J M h n)=false->∃ n,n < 10*(M+15)/\occ (J M h n)=false/\∀ m,m < n->occ (J M h m)=true:=by
  intro n
  induction n using Nat.strongRecOn with
  | ind n ih =>
   intro hn ho
   by_cases hx:∃ m,m < n/\occ (J M h m)=false
   ·obtain ⟨m,hm,hm2⟩:=hx
    exact ih m hm (by omega) hm2
   ·refine ⟨n,hn,ho,fun m hm=>?_⟩
    cases q:occ (J M h m) with
    | true=>rfl
    | false=>exact absurd ⟨m,hm,q⟩ hx
 exact key n hn (by rw [e];exact hof)
end ST
end
section
namespace ST
open PySem
theorem zh0 (xs:Array Nat) (j:Nat) (hs:xs.toList.Pairwise (· < ·)):∀ (fuel lo hi:Nat),hi - lo<=fuel->lo<=hi->hi<=xs.size->(∀ i,i < lo->∀ v,xs[i]?=some v->v < j)->(∀ i,hi<=i->∀ v,xs[i]?=some v->j<=v) ->
  (SetTable.below.go xs j fuel lo hi<=xs.size)/\(∀ i,i < SetTable.below.go xs j fuel lo hi->∀ v,xs[i]?=some v->v < j)/\∀ i,SetTable.below.go xs j fuel lo hi<=i->∀ v,xs[i]?=some v->j<=v
 | 0,lo,hi,hf,hl,hh,h1,h2=>by
  have e:lo=hi:=by omega
  subst e
  exact ⟨hh,h1,h2⟩
 | fuel+1,lo,hi,hf,hl,hh,h1,h2=>by
  have mono:∀ a b va vb,a < b->xs[a]?=some va->xs[b]?=some vb->va < vb:=fun a b va vb hab ha hb=>by
   have:=List.pairwise_iff_getElem.mp hs a b
   obtain ⟨a1,a2⟩:=Array.getElem?_eq_some_iff.mp ha
   obtain ⟨b1,b2⟩:=Array.getElem?_eq_some_iff.mp hb
   have q:=this (by simpa using a1) (by simpa using b1) hab
   simpa [a2,b2] using q
  unfold SetTable.below.go
  by_cases hlt:lo < hi
  ·rw [qX hlt]
   have hm1:lo<=(lo+hi) / 2:=by omega
   have hm2:(lo+hi) / 2 < hi:=by omega
   have hget:∃ v,xs[(lo+hi) / 2]?=some v:=⟨xs[(lo+hi) / 2]'(by omega),by simp [show (lo+hi) / 2 < xs.size by omega]⟩
   obtain ⟨v,hv⟩:=hget
   have hd:xs.getD ((lo+hi) / 2) j=v:=by simp [Array.getD_eq_getD_getElem?,hv]
   dsimp only
   rw [hd]
   by_cases hvj:v < j
   ·rw [qX hvj]
    refine zh0 xs j hs fuel _ _ (by omega) (by omega) hh (fun i hi' w hw=>?_) h2
    rcases Nat.lt_or_ge i ((lo+hi) / 2) with hi2 | hi2
    ·exact Nat.lt_trans (mono i _ w v hi2 hw hv) hvj
    ·have e:i=(lo+hi) / 2:=by omega
     subst e
     rw [hv] at hw;cases hw;exact hvj
   ·rw [qY hvj]
    refine zh0 xs j hs fuel _ _ (by omega) (by omega) (by omega) h1 fun i hi' w hw=>?_
    rcases Nat.lt_or_ge ((lo+hi) / 2) i with hi2 | hi2
    ·exact qK (by omega) (Nat.le_of_lt (mono _ i v w hi2 hv hw))
    ·have e:i=(lo+hi) / 2:=by omega
     subst e
     rw [hv] at hw;cases hw;omega
  ·rw [qY hlt]
   have e:lo=hi:=by omega
   subst e
   exact ⟨hh,h1,h2⟩
theorem zhZ (xs:Array Nat) (j:Nat) (hs:xs.toList.Pairwise (· < ·)):SetTable.below xs j<=xs.size/\(∀ i,i < SetTable.below xs j->∀ v,xs[i]?=some v->v < j)/\∀ i,SetTable.below xs j<=i->∀ v,xs[i]?=some v->j<=v :=
 zh0 xs j hs xs.size 0 xs.size (qu _) (Nat.zero_le _) (qu _) (fun i h=>absurd h (Nat.not_lt_zero _)) fun i h v hv=>by
  have:=(Array.getElem?_eq_some_iff.mp hv).1
  omega
theorem zgl (xs:Array Nat) (j i:Nat) (hs:xs.toList.Pairwise (· < ·)) (h:xs[i]?=some j):SetTable.below xs j=i:=by
 obtain ⟨h0,h1,h2⟩:=zhZ xs j hs
 rcases Nat.lt_trichotomy (SetTable.below xs j) i with hl | hl | hl
 ·have hi:=(Array.getElem?_eq_some_iff.mp h).1
  have hg:xs[SetTable.below xs j]?=some (xs[SetTable.below xs j]'(by omega)):=by simp [show SetTable.below xs j < xs.size by omega]
  have q1:=h2 _ (qu _) _ hg
  have:=List.pairwise_iff_getElem.mp hs (SetTable.below xs j) i (by simp;omega) (by simpa using hi) hl
  obtain ⟨_,e⟩:=Array.getElem?_eq_some_iff.mp h
  simp only [Array.getElem_toList] at this
  omega
 ·exact hl
 ·have:=h1 i hl j h
  omega
structure Tb (t:SetTable) (es:Array (Int×Value)):Prop where
 full:Full t.mask
 sz:t.place.size=es.size
 dm:t.dummies=#[]
 ri:t.place.toList.Pairwise (· < ·)
 le:∀ j∈t.place.toList,j<=t.mask
 few:es.size*5 < t.mask*3
 rc:∀ (i j:Nat) (h:Int) (x:Value),t.place[i]?=some j->es[i]?=some (h,x)->∃ n,J t.mask h n=j/\∀ m,m < n->J t.mask h m∈t.place.toList
section
variable {t:SetTable} {es:Array (Int×Value)}
theorem Tb.live (T:Tb t es) {j i:Nat} (h:t.place[i]?=some j):t.slot j=.live i:=by
 unfold SetTable.slot
 rw [zgl _ _ _ T.ri h]
 simp [h]
theorem Tb.empty (T:Tb t es) {j:Nat} (h:j∉t.place.toList):t.slot j=.empty:=by
 unfold SetTable.slot
 have h1:t.place[SetTable.below t.place j]?≠some j:=fun e=>h (by
  rw [← qG] at e
  exact qN e)
 have h2:SetTable.has t.dummies j=false:=by rw [T.dm];rfl
 simp [h1,h2]
theorem Tb.occ (T:Tb t es) {j:Nat} (h:j∈t.place.toList):∃ i:Nat,t.place[i]?=some j:=by
 obtain ⟨i,hi⟩:=List.mem_iff_getElem?.mp h
 exact ⟨i,by rw [← qG];exact hi⟩
theorem Tb.fits (T:Tb t es):t.fits es.size=true:=by
 have h1:=T.sz
 have h2:=T.few
 simp only [SetTable.fits,SetTable.fill,T.dm,Array.size_empty,Bool.and_eq_true,beq_iff_eq,decide_eq_true_eq]
 omega
theorem zfK:∀ (a b:List Nat),a.Nodup->(∀ x∈a,x∈b)->a.length<=b.length
 | [],_,_,_=>Nat.zero_le _
 | x::r,b,nd,h=>by
  have hx:=h x qf
  have nd':=List.nodup_cons.mp nd
  have:=zfK r (b.erase x) nd'.2 fun y hy=>(List.mem_erase_of_ne (show y≠x from fun e=>nd'.1 (by rw [← e];exact hy))).mpr (h y (qg _ hy))
  have hl:=List.length_erase_of_mem hx
  have hp:0 < b.length:=List.length_pos_of_mem hx
  rw [qh]
  omega
theorem Tb.free (T:Tb t es):∃ j,j<=t.mask/\decide (j∈t.place.toList)=false:=by
 by_cases hx:∃ j,j<=t.mask/\j∉t.place.toList
 ·obtain ⟨j,h1,h2⟩:=hx
  exact ⟨j,h1,qL h2⟩
 ·exfalso
  have all:∀ j,j<=t.mask->j∈t.place.toList:=fun j hj=>Classical.byContradiction fun hn=>hx ⟨j,hj,hn⟩
  have h1:=zfK (List.range (t.mask+1)) t.place.toList List.nodup_range fun j hj=>all j (by have:=List.mem_range.mp hj;omega)
  have h2:=T.sz
  have h3:=T.few
  simp only [qS,Array.length_toList] at h1
  omega
theorem Tb.first (T:Tb t es) (h:Int):∃ n,n < 10*(t.mask+15)/\J t.mask h n∉t.place.toList/\∀ m,m < n->J t.mask h m∈t.place.toList:=by
 obtain ⟨n,h1,h2,h3⟩:=T.full.first h (fun j=>decide (j∈t.place.toList)) T.free
 exact ⟨n,h1,of_decide_eq_false h2,fun m hm=>of_decide_eq_true (h3 m hm)⟩
def zcz (p:Pr):SetTable.Probe:={ j:=p.j,more:=p.more,i:=p.i,perturb:=p.pt,dummy:=none }
theorem zoo (t:SetTable) (p:Pr):t.advance (zcz p)=zcz (adv t.mask p):=by
 unfold SetTable.advance adv zcz
 by_cases h:p.more > 0
 ·simp only [h,if_true]
 ·simp only [h,if_false]
theorem Tb.probe_go (T:Tb t es) (hashAt:Nat->Int) (h:Int) {n0:Nat} (hf:J t.mask h n0∉t.place.toList) (ho:∀ m,m < n0->J t.mask h m∈t.place.toList):∀ (fuel n:Nat),n<=n0->n0 < n+fuel ->
  (∃ n' i,n<=n'/\n' < n0/\t.place[i]?=some (J t.mask h n')/\hashAt i=h/\(∀ m i,n<=m->m < n'->t.place[i]?=some (J t.mask h m)->hashAt i≠h)/\SetTable.probe.go t hashAt h fuel (zcz (it t.mask h n))=some (.candidate (J t.mask h n') i (zcz (it t.mask h (n'+1))))) \/
  ((∀ m i,n<=m->m < n0->t.place[i]?=some (J t.mask h m)->hashAt i≠h)/\SetTable.probe.go t hashAt h fuel (zcz (it t.mask h n))=some (.empty (J t.mask h n0) none))
 | 0,n,h1,h2=>by omega
 | fuel+1,n,h1,h2=>by
  unfold SetTable.probe.go
  by_cases hn:n=n0
  ·subst hn
   right
   refine ⟨fun m i a b=>by omega,?_⟩
   have hs:t.slot (zcz (it t.mask h n)).j=.empty:=T.empty hf
   rw [hs]
   rfl
  ·obtain ⟨i,hi⟩:=T.occ (ho n (by omega))
   have hs:t.slot (zcz (it t.mask h n)).j=.live i:=T.live hi
   rw [hs]
   dsimp only
   by_cases hh:hashAt i=h
   ·left
    refine ⟨n,i,qu _,by omega,hi,hh,fun m i a b=>by omega,?_⟩
    rw [qX (by simpa using hh),zoo]
    rfl
   ·rw [qY (by simpa using hh),zoo]
    have inj:∀ i',t.place[i']?=some (J t.mask h n)->i'=i:=fun i' h'=>by
     rw [← zgl _ _ _ T.ri h',← zgl _ _ _ T.ri hi]
    have ext:∀ {b:Nat},(∀ m i,n+1<=m->m < b->t.place[i]?=some (J t.mask h m)->hashAt i≠h)->∀ m i,n<=m->m < b->t.place[i]?=some (J t.mask h m)->hashAt i≠h:=fun {b} q m i' a c d=>by
     by_cases e:m=n
     ·subst e
      rw [inj i' d];exact hh
     ·exact q m i' (by omega) c d
    rcases T.probe_go hashAt h hf ho fuel (n+1) (by omega) (by omega) with ⟨n',i',a,b,c,d,e,f⟩ | ⟨e,f⟩
    ·exact .inl ⟨n',i',by omega,b,c,d,ext e,f⟩
    ·exact .inr ⟨ext e,f⟩
theorem zcs {α:Type} (xs:Array α) (p:Nat) (x:α) (hp:p<=xs.size):(SetTable.insertAt xs p x).toList=xs.toList.take p++x::xs.toList.drop p:=by
 unfold SetTable.insertAt
 simp [Array.toList_extract,List.extract_eq_take_drop]
 exact List.take_of_length_le (by simp)
theorem zha {α:Type} (l:List α) (p:Nat) (x:α) (hp:p<=l.length) (i:Nat):(l.take p++x::l.drop p)[i]?=if i < p then l[i]? else if i=p then some x else l[i - 1]?:=by
 by_cases h1:i < p
 ·rw [qX h1,qx (by rw [qC];omega),List.getElem?_take_of_lt h1]
 ·rw [qY h1,qI (by rw [qC];omega),qC,Nat.min_eq_left hp]
  by_cases h2:i=p
  ·rw [qX h2,h2];simp
  ·rw [qY h2]
   obtain ⟨k,hk⟩:∃ k,i - p=k+1:=⟨i - p - 1,by omega⟩
   rw [hk,qc,List.getElem?_drop]
   congr 1
   omega
theorem ze4 {α:Type} (l:List α) (p:Nat) (x y:α):y∈l.take p++x::l.drop p↔y=x\/y∈l:=by
 rw [List.mem_append,qJ]
 constructor
 ·rintro (h | h | h)
  ·exact .inr (List.mem_of_mem_take h)
  ·exact .inl h
  ·exact .inr (List.mem_of_mem_drop h)
 ·rintro (h | h)
  ·exact .inr (.inl h)
  ·have:y∈l.take p++l.drop p:=by rw [List.take_append_drop];exact h
   rcases List.mem_append.mp this with h | h
   ·exact .inl h
   ·exact .inr (.inr h)
theorem Tb.put (T:Tb t es) {h:Int} {x:Value} {n0:Nat} (hf:J t.mask h n0∉t.place.toList) (ho:∀ m,m < n0->J t.mask h m∈t.place.toList) (few:(es.size+1)*5 < t.mask*3) (pl:Bool) :
  Tb { (t.put (J t.mask h n0)).1 with plain:=pl } (SetTable.insertAt es (t.put (J t.mask h n0)).2 (h,x)):=by
 obtain ⟨b0,b1,b2⟩:=zhZ t.place (J t.mask h n0) T.ri
 have bes:SetTable.below t.place (J t.mask h n0)<=es.size:=by rw [← T.sz];exact b0
 have pl1:(SetTable.insertAt t.place (SetTable.below t.place (J t.mask h n0)) (J t.mask h n0)).toList=t.place.toList.take (SetTable.below t.place (J t.mask h n0))++J t.mask h n0::t.place.toList.drop (SetTable.below t.place (J t.mask h n0)):=zcs _ _ _ b0
 have el1:(SetTable.insertAt es (SetTable.below t.place (J t.mask h n0)) (h,x)).toList=es.toList.take (SetTable.below t.place (J t.mask h n0))++(h,x)::es.toList.drop (SetTable.below t.place (J t.mask h n0)):=zcs _ _ _ bes
 have szp:(SetTable.insertAt t.place (SetTable.below t.place (J t.mask h n0)) (J t.mask h n0)).size=t.place.size+1:=by
  rw [← Array.length_toList,pl1];simp;omega
 have sze:(SetTable.insertAt es (SetTable.below t.place (J t.mask h n0)) (h,x)).size=es.size+1:=by
  rw [← Array.length_toList,el1];simp;omega
 refine ⟨T.full,?_,?_,?_,?_,?_,?_⟩
 ·show (SetTable.insertAt t.place _ _).size=_
  rw [szp]
  show _=(SetTable.insertAt es (SetTable.below t.place (J t.mask h n0)) (h,x)).size
  rw [sze,T.sz]
 ·show (if SetTable.has t.dummies (J t.mask h n0)=true then _ else t.dummies)=#[]
  rw [T.dm];rfl
 ·show (SetTable.insertAt t.place (SetTable.below t.place (J t.mask h n0)) (J t.mask h n0)).toList.Pairwise (· < ·)
  rw [pl1,List.pairwise_append,List.pairwise_cons]
  have tk:∀ a∈t.place.toList.take (SetTable.below t.place (J t.mask h n0)),a < J t.mask h n0:=fun a ha=>by
   obtain ⟨i,hi⟩:=List.mem_iff_getElem?.mp ha
   have hi':i < SetTable.below t.place (J t.mask h n0):=by
    have:=(List.getElem?_eq_some_iff.mp hi).1
    rw [qC] at this;omega
   rw [List.getElem?_take_of_lt hi',qG] at hi
   exact b1 i hi' a hi
  have dr:∀ a∈t.place.toList.drop (SetTable.below t.place (J t.mask h n0)),J t.mask h n0 < a:=fun a ha=>by
   obtain ⟨i,hi⟩:=List.mem_iff_getElem?.mp ha
   rw [List.getElem?_drop,qG] at hi
   have h1:=b2 _ (Nat.le_add_right _ i) a hi
   rcases Nat.lt_or_ge (J t.mask h n0) a with q | q
   ·exact q
   ·exact absurd (by rw [← qG] at hi;have e:a=J t.mask h n0:=(by omega);rw [e] at hi;exact qN hi) hf
  refine ⟨T.ri.sublist (List.take_sublist _ _),⟨dr,T.ri.sublist (List.drop_sublist _ _)⟩,fun a ha b hb=>?_⟩
  rcases List.mem_cons.mp hb with e | hb
  ·rw [e];exact tk a ha
  ·exact Nat.lt_trans (tk a ha) (dr b hb)
 ·intro j hj
  have hj':j∈(SetTable.insertAt t.place (SetTable.below t.place (J t.mask h n0)) (J t.mask h n0)).toList:=hj
  rw [pl1,ze4] at hj'
  rcases hj' with e | hj'
  ·rw [e];exact zte _ _ _
  ·exact T.le j hj'
 ·show (SetTable.insertAt es (SetTable.below t.place (J t.mask h n0)) (h,x)).size*5 < t.mask*3
  rw [sze];exact few
 ·intro i j h' x' e1 e2
  have e1':(SetTable.insertAt t.place (SetTable.below t.place (J t.mask h n0)) (J t.mask h n0)).toList[i]?=some j:=by rw [qG];exact e1
  have e2':(SetTable.insertAt es (SetTable.below t.place (J t.mask h n0)) (h,x)).toList[i]?=some (h',x'):=by rw [qG];exact e2
  rw [pl1,zha _ _ _ (by simpa using b0)] at e1'
  rw [el1,zha _ _ _ (by simpa using bes)] at e2'
  have up:∀ {n:Nat},(∀ m,m < n->J t.mask h' m∈t.place.toList)->∀ m,m < n->J t.mask h' m∈(SetTable.insertAt t.place (SetTable.below t.place (J t.mask h n0)) (J t.mask h n0)).toList:=fun q m hm=>by
   rw [pl1,ze4];exact .inr (q m hm)
  by_cases c1:i < SetTable.below t.place (J t.mask h n0)
  ·rw [qX c1] at e1' e2'
   rw [qG] at e1' e2'
   obtain ⟨n,hn,q⟩:=T.rc i j h' x' e1' e2'
   exact ⟨n,hn,up q⟩
  ·rw [qY c1] at e1' e2'
   by_cases c2:i=SetTable.below t.place (J t.mask h n0)
   ·rw [qX c2] at e1' e2'
    cases e1'
    cases e2'
    exact ⟨n0,rfl,up ho⟩
   ·rw [qY c2] at e1' e2'
    rw [qG] at e1' e2'
    obtain ⟨n,hn,q⟩:=T.rc _ j h' x' e1' e2'
    exact ⟨n,hn,up q⟩
end
end ST
end
section
namespace ST
open PySem
def zcr (owner:Array (Option Nat)) (j:Nat):Bool:=(owner.getD j (some 0)).isNone
theorem zlc {M:Nat} {h:Int} {n r:Nat} (e:it M h n=zjr M (lp M h r)) {k:Nat} (hk:k < SetTable.runEnd M (lp M h r).1+1 - (lp M h r).1):J M h (n+k)=(lp M h r).1+k:=by
 unfold J
 rw [zjW,e,zmQ M k _ (by show k<=SetTable.runEnd M (lp M h r).1 - (lp M h r).1;omega)]
 rfl
theorem zmW {M:Nat} {h:Int} {n r:Nat} (e:it M h n=zjr M (lp M h r)):it M h (n+(SetTable.runEnd M (lp M h r).1+1 - (lp M h r).1))=zjr M (lp M h (r+1)):=by
 have hge:(lp M h r).1<=SetTable.runEnd M (lp M h r).1:=by unfold SetTable.runEnd;split <;> omega
 have e2:=zmQ M (SetTable.runEnd M (lp M h r).1 - (lp M h r).1) (zjr M (lp M h r)) (qu _)
 rw [show n+(SetTable.runEnd M (lp M h r).1+1 - (lp M h r).1)=n+(SetTable.runEnd M (lp M h r).1 - (lp M h r).1)+1 by omega,it,zjW,e,e2]
 unfold adv
 rw [qY (by show ¬ ((SetTable.runEnd M (lp M h r).1 - (lp M h r).1) - (SetTable.runEnd M (lp M h r).1 - (lp M h r).1) > 0);omega)]
 rfl
theorem zlZ {M:Nat} {h:Int} (owner:Array (Option Nat)) {rs:Nat} (hfr:zcr owner (lp M h rs).1=true):∀ (fuel r n:Nat),it M h n=zjr M (lp M h r)->r<=rs->rs < r+fuel->(∀ m,m < n->zcr owner (J M h m)=false) ->
  ∃ n',zcr owner (J M h n')=true/\(∀ m,m < n'->zcr owner (J M h m)=false)/\SetTable.layClean.free M owner fuel (lp M h r).1 (lp M h r).2=some (J M h n')
 | 0,r,n,_,h1,h2,_=>by omega
 | fuel+1,r,n,e,h1,h2,h3=>by
  unfold SetTable.layClean.free
  cases hf:(List.range (SetTable.runEnd M (lp M h r).1+1 - (lp M h r).1)).find? (fun k=>(owner.getD ((lp M h r).1+k) (some 0)).isNone) with
  | some k =>
   have hk:=List.mem_range.mp (List.mem_of_find?_eq_some hf)
   have hp:zcr owner ((lp M h r).1+k)=true:=by
    have:=List.find?_some hf
    exact this
   refine ⟨n+k,by rw [zlc e hk];exact hp,fun m hm=>?_,?_⟩
   ·rcases Nat.lt_or_ge m n with c | c
    ·exact h3 m c
    ·obtain ⟨d,rfl⟩:∃ d,m=n+d:=⟨m - n,by omega⟩
     rw [zlc e (by omega)]
     obtain ⟨as,bs,hab,hno⟩:=(List.find?_eq_some_iff_append.mp hf).2
     have hd:d∈as:=by
      have hl:as=List.range k:=by
       have hlen:as.length=k:=by
        have:(List.range (SetTable.runEnd M (lp M h r).1+1 - (lp M h r).1))[as.length]?=some k:=by rw [hab];simp
        rw [List.getElem?_range] at this
        ·exact qF this
        ·have:=congrArg List.length hab
         simp at this
         omega
       have:=congrArg (List.take k) hab
       rw [List.take_range,Nat.min_eq_left (by omega),← hlen,List.take_left'] at this
       ·rw [hlen] at this;exact this.symm
       ·rfl
      rw [hl];exact List.mem_range.mpr (by omega)
     have:=hno d hd
     exact Bool.eq_false_iff.mpr (fun z=>by rw [show (owner.getD ((lp M h r).1+d) (some 0)).isNone=true from z] at this;cases this)
   ·rw [zlc e hk]
  | none =>
   have hn:∀ k,k < SetTable.runEnd M (lp M h r).1+1 - (lp M h r).1->zcr owner (J M h (n+k))=false:=fun k hk=>by
    rw [zlc e hk]
    have:=List.find?_eq_none.mp hf k (List.mem_range.mpr hk)
    exact Bool.eq_false_iff.mpr this
   have hge:(lp M h r).1<=SetTable.runEnd M (lp M h r).1:=by unfold SetTable.runEnd;split <;> omega
   have hr:r≠rs:=fun z=>by
    subst z
    have:=hn 0 (by omega)
    rw [zlc e (by omega),Nat.add_zero,hfr] at this
    cases this
   exact zlZ owner hfr fuel (r+1) _ (zmW e) (by omega) (by omega) fun m hm=>by
    rcases Nat.lt_or_ge m n with c | c
    ·exact h3 m c
    ·obtain ⟨d,rfl⟩:∃ d,m=n+d:=⟨m - n,by omega⟩
     exact hn d (by omega)
theorem Full.free {M:Nat} (F:Full M) (h:Int) (owner:Array (Option Nat)) (hf:∃ j,j<=M/\zcr owner j=true) :
  ∃ n,zcr owner (J M h n)=true/\(∀ m,m < n->zcr owner (J M h m)=false)/\SetTable.layClean.free M owner (SetTable.turns M) (SetTable.bits h % (M+1)) (SetTable.bits h)=some (J M h n):=by
 obtain ⟨j,hj,hjf⟩:=hf
 obtain ⟨m,hm,e⟩:=F.reach (zpr M h 13) hj
 have hl:(lp M h (13+m)).1=j:=by rw [zlD,e]
 exact zlZ owner (rs:=13+m) (by rw [hl];exact hjf) (SetTable.turns M) 0 0 rfl (Nat.zero_le _) (by unfold SetTable.turns;omega) fun m hm=>absurd hm (Nat.not_lt_zero _)
structure Own (M:Nat) (hs:List Int) (owner:Array (Option Nat)):Prop where
 sz:owner.size=M+1
 lt:∀ (j k:Nat),owner[j]?=some (some k)->k < hs.length
 on:∀ k,k < hs.length->∃ j:Nat,owner[j]?=some (some k)
 inj:∀ (j j' k:Nat),owner[j]?=some (some k)->owner[j']?=some (some k)->j=j'
 rc:∀ (j k:Nat) h,owner[j]?=some (some k)->hs[k]?=some h->∃ n,J M h n=j/\∀ m,m < n->zcr owner (J M h m)=false
theorem zdg {owner:Array (Option Nat)} {j:Nat}:zcr owner j=true↔owner[j]?=some none:=by
 unfold zcr
 rw [Array.getD_eq_getD_getElem?]
 cases e:owner[j]? with
 | none=>simp
 | some o=>cases o <;> simp
theorem Own.empty (M:Nat):Own M [] (Array.replicate (M+1) none):=by
 have no:∀ (j k:Nat),(Array.replicate (M+1) (none:Option Nat))[j]?=some (some k)->False:=fun j k h=>by
  rw [Array.getElem?_replicate] at h
  split at h <;> cases h
 exact ⟨by simp,fun j k h=>(no j k h).elim,fun k h=>absurd h (Nat.not_lt_zero _),fun j _ k h _=>(no j k h).elim,fun j k _ h _=>(no j k h).elim⟩
theorem Own.room {M:Nat} {hs:List Int} {owner:Array (Option Nat)} (O:Own M hs owner) (hr:hs.length<=M):∃ j,j<=M/\zcr owner j=true:=by
 by_cases hx:∃ j,j<=M/\zcr owner j=true
 ·exact hx
 ·exfalso
  have all:∀ j,j<=M->∃ k,owner[j]?=some (some k):=fun j hj=>by
   have h1:zcr owner j≠true:=fun z=>hx ⟨j,hj,z⟩
   have h2:j < owner.size:=by rw [O.sz];omega
   cases q:owner[j] with
   | none=>exact absurd (zdg.mpr (by simp [h2,q])) h1
   | some k=>exact ⟨k,by simp [h2,q]⟩
  have pig:=zfK ((List.range (M+1)).map fun j=>((owner[j]?).join).getD 0) (List.range hs.length) ?_ ?_
  ·rw [qe,qS,qS] at pig
   omega
  ·refine List.nodup_iff_pairwise_ne.mpr (List.pairwise_map.mpr (List.Pairwise.imp_of_mem ?_ List.nodup_range))
   intro a b ha hb hab e
   obtain ⟨k,hk⟩:=all a (by have:=List.mem_range.mp ha;omega)
   obtain ⟨k',hk'⟩:=all b (by have:=List.mem_range.mp hb;omega)
   simp only [hk,hk',Option.join_some,Option.getD_some] at e
   subst e
   exact hab (O.inj a b k hk hk')
  ·intro x hx'
   obtain ⟨j,hj,rfl⟩:=List.mem_map.mp hx'
   obtain ⟨k,hk⟩:=all j (by have:=List.mem_range.mp hj;omega)
   simp only [hk,Option.join_some,Option.getD_some]
   exact List.mem_range.mpr (O.lt j k hk)
theorem Own.more {M:Nat} {hs:List Int} {owner:Array (Option Nat)} (O:Own M hs owner) {h:Int} {n:Nat} (hf:zcr owner (J M h n)=true) (ho:∀ m,m < n->zcr owner (J M h m)=false) :
  Own M (hs++[h]) (owner.setIfInBounds (J M h n) (some hs.length)):=by
 have hlt:J M h n < owner.size:=by rw [O.sz];have:=zte M h n;omega
 have hold:=zdg.mp hf
 have get:∀ j:Nat,(owner.setIfInBounds (J M h n) (some hs.length))[j]?=if j=J M h n then some (some hs.length) else owner[j]?:=fun j=>by
  rw [Array.getElem?_setIfInBounds]
  by_cases e:J M h n=j
  ·subst e;simp [hlt]
  ·rw [qY e,qY (Ne.symm e)]
 have stay:∀ {j k:Nat},owner[j]?=some (some k)->(owner.setIfInBounds (J M h n) (some hs.length))[j]?=some (some k):=fun {j k} q=>by
  rw [get,qY]
  ·exact q
  ·intro e;rw [e,hold] at q;cases q
 have notfree:∀ {j:Nat},zcr owner j=false->zcr (owner.setIfInBounds (J M h n) (some hs.length)) j=false:=fun {j} q=>by
  refine Bool.eq_false_iff.mpr fun z=>?_
  have z':=zdg.mp z
  rw [get] at z'
  split at z'
  ·cases z'
  ·rw [zdg.mpr z'] at q;cases q
 refine ⟨by simp [O.sz],fun j k q=>?_,fun k hk=>?_,fun j j' k q q'=>?_,fun j k h' q q'=>?_⟩
 ·rw [get] at q
  rw [qi,qU]
  split at q
  ·cases q;omega
  ·have:=O.lt j k q;omega
 ·rw [qi,qU] at hk
  by_cases e:k=hs.length
  ·exact ⟨J M h n,by rw [get,qX rfl,e]⟩
  ·obtain ⟨j,hj⟩:=O.on k (by omega)
   exact ⟨j,stay hj⟩
 ·rw [get] at q q'
  split at q
  ·rename_i c
   cases q
   split at q'
   ·rename_i c';rw [c,c']
   ·have:=O.lt j' _ q';omega
  ·split at q'
   ·cases q'
    have:=O.lt j _ q;omega
   ·exact O.inj j j' k q q'
 ·rw [get] at q
  split at q
  ·rename_i c
   cases q
   rw [qI (qu _)] at q'
   simp at q'
   subst q'
   exact ⟨n,c.symm,fun m hm=>notfree (ho m hm)⟩
  ·have hk:=O.lt j k q
   rw [qx hk] at q'
   obtain ⟨n',e,r⟩:=O.rc j k h' q q'
   exact ⟨n',e,fun m hm=>notfree (r m hm)⟩
theorem Full.lays {M:Nat} (F:Full M) (hs:Array Int) (hr:hs.size<=M):∃ owner,SetTable.layClean M hs=some owner/\Own M hs.toList owner:=by
 have all:∀ (zcb done:List Int) (owner:Array (Option Nat)),Own M done owner->(done++zcb).length<=M->∃ owner',Own M (done++zcb) owner' /\
   zcb.foldl (fun (acc:Option (Array (Option Nat)×Nat)) h=>do
    let (owner,k) ← acc
    let j ← SetTable.layClean.free M owner (SetTable.turns M) (SetTable.bits h % (M+1)) (SetTable.bits h)
    pure (owner.setIfInBounds j (some k),k+1)) (some (owner,done.length))=some (owner',(done++zcb).length):=by
  intro zcb
  induction zcb with
  | nil=>intro done owner O _;exact ⟨owner,by rw [List.append_nil];exact O,by simp⟩
  | cons h r ih =>
   intro done owner O hl
   obtain ⟨n,h1,h2,h3⟩:=F.free h owner (O.room (by simp at hl;omega))
   have O':=O.more h1 h2
   obtain ⟨owner',O2,e⟩:=ih (done++[h]) _ O' (by simpa using hl)
   refine ⟨owner',by simpa using O2,?_⟩
   rw [List.foldl_cons]
   have e1:(do
    let (owner,k) ← some (owner,done.length)
    let j ← SetTable.layClean.free M owner (SetTable.turns M) (SetTable.bits h % (M+1)) (SetTable.bits h)
    pure (owner.setIfInBounds j (some k),k+1):Option (Array (Option Nat)×Nat))=some (owner.setIfInBounds (J M h n) (some done.length),done.length+1):=by
    show (SetTable.layClean.free M owner (SetTable.turns M) (SetTable.bits h % (M+1)) (SetTable.bits h) >>= fun j=>pure (owner.setIfInBounds j (some done.length),done.length+1))=_
    rw [h3];rfl
   rw [e1]
   rw [qi,qU] at e
   rw [e]
   simp
 obtain ⟨owner',O,e⟩:=all hs.toList [] _ (Own.empty M) (by simpa using hr)
 refine ⟨owner',?_,by simpa using O⟩
 unfold SetTable.layClean
 rw [← Array.foldl_toList]
 have e':=congrArg (Option.map (·.1)) e
 exact e'
end ST
end
section
namespace ST
open PySem
theorem zoi {α β:Type} (f:α->Option β):∀ (l:List α),(∀ k∈l,∃ y,f k=some y)->∀ i:Nat,(l.filterMap f)[i]?=(l[i]?).bind f
 | [],_,i=>by simp
 | k::r,h,i=>by
  obtain ⟨y,hy⟩:=h k qf
  rw [List.filterMap_cons_some hy]
  cases i with
  | zero=>simp [hy]
  | succ i=>simp only [qc];exact zoi f r (fun k hk=>h k (qg _ hk)) i
theorem zoh {α β:Type} (f:α->Option β):∀ (l:List α),(∀ k∈l,∃ y,f k=some y)->(l.filterMap f).length=l.length
 | [],_=>rfl
 | k::r,h=>by
  obtain ⟨y,hy⟩:=h k qf
  rw [List.filterMap_cons_some hy,qh,qh,zoh f r fun k hk=>h k (qg _ hk)]
def zdt (M:Nat) (owner:Array (Option Nat)):List (Nat×Nat):=(List.range (M+1)).filterMap fun j=>(owner.getD j none).map (j,·)
theorem zcI {M:Nat} {owner:Array (Option Nat)} (hsz:owner.size=M+1) {j k:Nat}:(j,k)∈zdt M owner↔owner[j]?=some (some k):=by
 unfold zdt
 rw [List.mem_filterMap]
 constructor
 ·rintro ⟨j',hj',e⟩
  rw [Array.getD_eq_getD_getElem?] at e
  cases q:owner[j']? with
  | none=>rw [q] at e;cases e
  | some o =>
   rw [q] at e
   cases o with
   | none=>cases e
   | some k'=>cases e;exact q
 ·intro q
  have hj:j < owner.size:=(Array.getElem?_eq_some_iff.mp q).1
  exact ⟨j,List.mem_range.mpr (by omega),by rw [Array.getD_eq_getD_getElem?,q];rfl⟩
theorem zf1 (M:Nat) (owner:Array (Option Nat)):((zdt M owner).map (·.1)).Pairwise (· < ·):=by
 unfold zdt
 rw [List.pairwise_map]
 refine List.Pairwise.filterMap _ ?_ (List.pairwise_lt_range (n:=M+1))
 intro a a' haa b hb b' hb'
 obtain ⟨k,_,rfl⟩:=oMd hb
 obtain ⟨k',_,rfl⟩:=oMd hb'
 exact haa
theorem zky {M:Nat} {hs:List Int} {owner:Array (Option Nat)} (O:Own M hs owner):((zdt M owner).map (·.2)).Nodup:=by
 have h1:=List.pairwise_map.mp (zf1 M owner)
 refine List.nodup_iff_pairwise_ne.mpr (List.pairwise_map.mpr (List.Pairwise.imp_of_mem ?_ h1))
 rintro ⟨j,k⟩ ⟨j',k'⟩ ha hb hlt e
 have e':k=k':=e
 subst e'
 have:=O.inj j j' k ((zcI O.sz).mp ha) ((zcI O.sz).mp hb)
 have hlt':j < j':=hlt
 omega
theorem znj {M:Nat} {hs:List Int} {owner:Array (Option Nat)} (O:Own M hs owner):(zdt M owner).length=hs.length:=by
 have h1:=zfK ((zdt M owner).map (·.2)) (List.range hs.length) (zky O) fun k hk=>by
  obtain ⟨⟨j,k'⟩,hm,rfl⟩:=List.mem_map.mp hk
  exact List.mem_range.mpr (O.lt j k' ((zcI O.sz).mp hm))
 have h2:=zfK (List.range hs.length) ((zdt M owner).map (·.2)) List.nodup_range fun k hk=>by
  obtain ⟨j,hj⟩:=O.on k (List.mem_range.mp hk)
  exact List.mem_map.mpr ⟨(j,k),(zcI O.sz).mpr hj,rfl⟩
 rw [qe,qS] at h1 h2
 omega
theorem Full.relaid {t:SetTable} {es:Array (Int×Value)} {wanted:Nat} (F:Full (SetTable.sizeAbove wanted - 1)) (few:es.size*5 < (SetTable.sizeAbove wanted - 1)*3) :
  ∃ t' order,t.relaid (es.map (·.1)) wanted=some (t',order)/\(order.filterMap (es[·]?)).size=es.size/\Tb t' (order.filterMap (es[·]?))/\(∀ e,e∈(order.filterMap (es[·]?)).toList↔e∈es.toList)/\t'.mask=SetTable.sizeAbove wanted - 1/\t'.led=t.led:=by
 generalize hM:SetTable.sizeAbove wanted - 1=M at F few
 obtain ⟨owner,hl,O⟩:=F.lays (es.map (·.1)) (by simp;omega)
 have hlen:(es.map (·.1)).toList.length=es.size:=by simp
 have llen:(zdt M owner).length=es.size:=by rw [znj O,hlen]
 refine ⟨{ mask:=M,place:=((zdt M owner).map (·.1)).toArray,dummies:=#[],finger:=t.finger,led:=t.led,moves:=t.movedTo M,plain:=t.plain },((zdt M owner).map (·.2)).toArray,?_,?_⟩
 ·unfold SetTable.relaid
  rw [hM]
  unfold SetTable.laid
  rw [hl]
  rfl
 ·have hall:∀ k∈(zdt M owner).map (·.2),∃ y,es[k]?=some y:=fun k hk=>by
   obtain ⟨⟨j,k'⟩,hm,rfl⟩:=List.mem_map.mp hk
   have:=O.lt j k' ((zcI O.sz).mp hm)
   rw [hlen] at this
   exact ⟨es[k'],by simp [this]⟩
  have etl:(Array.filterMap (fun x=>es[x]?) ((zdt M owner).map (·.2)).toArray).toList=((zdt M owner).map (·.2)).filterMap (fun x=>es[x]?):=by simp
  have esz:(Array.filterMap (fun x=>es[x]?) ((zdt M owner).map (·.2)).toArray).size=es.size:=by
   rw [← Array.length_toList,etl,zoh _ _ hall,qe,llen]
  refine ⟨esz,⟨F,?_,rfl,?_,?_,?_,?_⟩,fun e=>?_,rfl,rfl⟩
  ·rw [esz];simp [llen]
  ·show ((zdt M owner).map (·.1)).toArray.toList.Pairwise (· < ·)
   exact zf1 M owner
  ·intro j hj
   have hj':j∈(zdt M owner).map (·.1):=hj
   obtain ⟨⟨j',k⟩,hm,rfl⟩:=List.mem_map.mp hj'
   have:=(Array.getElem?_eq_some_iff.mp ((zcI O.sz).mp hm)).1
   rw [O.sz] at this
   show j'<=M
   omega
  ·rw [esz];exact few
  ·intro i j h x e1 e2
   have e1':((zdt M owner).map (·.1))[i]?=some j:=by simpa using e1
   rw [← qG,etl,zoi _ _ hall,qj] at e2
   rw [qj] at e1'
   obtain ⟨⟨j',k⟩,hm,rfl⟩:=oMd e1'
   rw [hm] at e2
   have e2':es[k]?=some (h,x):=e2
   have ho:=(zcI O.sz).mp (qN hm)
   obtain ⟨n,hn,q⟩:=O.rc j' k h ho (by simp [e2'])
   refine ⟨n,hn,fun m hm'=>?_⟩
   have hnf:=q m hm'
   have hle:=zte M h m
   have hlt:J M h m < owner.size:=by rw [O.sz];omega
   cases c:owner[J M h m] with
   | none =>
    rw [zdg.mpr (by simp [hlt,c])] at hnf;cases hnf
   | some k' =>
    show J M h m∈(zdt M owner).map (·.1)
    exact List.mem_map.mpr ⟨(J M h m,k'),(zcI O.sz).mpr (by simp [hlt,c]),rfl⟩
  ·rw [etl,List.mem_filterMap]
   constructor
   ·rintro ⟨k,_,hk⟩
    rw [← qG] at hk
    exact qN hk
   ·intro he
    obtain ⟨k,hk⟩:=List.mem_iff_getElem?.mp he
    rw [qG] at hk
    have hlt:=(Array.getElem?_eq_some_iff.mp hk).1
    obtain ⟨j,hj⟩:=O.on k (by rw [hlen];exact hlt)
    exact ⟨k,List.mem_map.mpr ⟨(j,k),(zcI O.sz).mpr hj,rfl⟩,hk⟩
def Mk (M:Nat):Prop:=M=7\/M=31\/M=127\/M=511
theorem Mk.full {M:Nat} (h:Mk M):Full M:=by
 rcases h with h | h | h | h <;> subst h
 ·exact zrw
 ·exact zrx
 ·exact zpD
 ·exact zpC
theorem Mk.grow {M n:Nat} (h:Mk M) (h1:n*5 < M*3) (h2:¬ (n+1)*5 < M*3) (hn:n<=300):Mk (SetTable.sizeAbove (SetTable.grown (n+1)) - 1)/\(n+1)*5 < (SetTable.sizeAbove (SetTable.grown (n+1)) - 1)*3/\SetTable.sizeAbove (SetTable.grown (n+1))<=512:=by
 rcases h with h | h | h | h <;> subst h
 ·have:n=4:=by omega
  subst this
  exact ⟨.inr (.inl (by decide)),by decide,by decide⟩
 ·have:n=18:=by omega
  subst this
  exact ⟨.inr (.inr (.inl (by decide))),by decide,by decide⟩
 ·have:n=76:=by omega
  subst this
  exact ⟨.inr (.inr (.inr (by decide))),by decide,by decide⟩
 ·omega
end ST
end
section
namespace ST
open PySem PySem.Spec PyProof.Rows
section
variable {prog:Program} {w:World} {A:Around} {R:Result->Shared->Prop} {I:Addr} {fp wr:List Addr} {G:Array GenState->Array GenState->Prop} {n:Nat} {P:Nat->Value->Prop} {St:Nat->Shared->Prop}
def ztG (prog:Program) (w:World) (A:Around) (S:Addr) (Ba:Heap->Prop) (P:Nat->Value->Prop) (n:Nat) (J:Nat->Obj->Prop):Prop :=
 ∀ (i:Nat) (v:Value) (s:Shared) (o:Obj) (Q:Bool->Shared->Prop) (E:Value->Shared->Prop),i < n->P i v->s.heap.get? S=some o->J i o->Ba s.heap ->
  (∀ b h' tk o',s.toks<=tk->Heap.SameBut S s.heap h'->h'.get? S=some o'->J (i+1) o'->Q b { s with heap:=h',toks:=tk })->wpAny (model prog w) A (setAdd S v) Q E s
theorem zmT (W:WalksS prog w A.in1 I fp wr G n P St) (S:Addr) (hSf:S∉fp) (Ba:Heap->Prop) (hBa:∀ h h',Ba h->(∀ b o,b∉S::wr->h.get? b=some o->h'.get? b=some o)->Ba h') (J:Nat->Obj->Prop) (hadd:ztG prog w A.in1 S Ba P n J) :
  ∀ (k i:Nat) (s:Shared) (o:Obj),n - i=k->i<=n->St i s->s.heap.get? S=some o->J i o->Ba s.heap ->
   (∀ s' o',Moved (S::wr) G s s'->s'.heap.get? S=some o'->J n o'->R (.ok (.ret .none)) s') ->
   codeAny (model prog w) A (.builtin "set.update.loop" ⟨[.ref S,.ref I],[]⟩) R s:=by
 have hSw:S∉wr:=fun h=>hSf (W.sub _ h)
 have hsub:∀ b∈wr,b∈S::wr:=fun b hb=>qg _ hb
 intro k
 induction k with
 | zero =>
  intro i s o hk hi hst hS hJ hB hR
  have hin:i=n:=by omega
  subst hin
  refine codeAny_builtin F.entry_set_update_loop ?_
  rw [Around.under_plainId F.plain_set_update_loop _]
  show wpAny _ A.in1 (pyNext (.ref I) >>= _) _ _ s
  refine qv (W.done s _ _ hst fun s' hm=>?_)
  show wpAny _ A.in1 (ret Value.none) _ _ s'
  exact qy (hR s' o (hm.mono hsub) (hm.heap S _ hSw hS) hJ)
 | succ k ih =>
  intro i s o hk hi hst hS hJ hB hR
  have hlt:i < n:=by omega
  refine codeAny_builtin F.entry_set_update_loop ?_
  rw [Around.under_plainId F.plain_set_update_loop _]
  show wpAny _ A.in1 (pyNext (.ref I) >>= _) _ _ s
  refine qv (W.item i s _ _ hlt hst fun v s' hP hst' hm=>?_)
  show wpAny _ A.in1 (holding [v] (setAdd S v) >>= _) _ _ s'
  refine qv (qR ?_)
  refine hadd i v s' o _ _ hlt hP (hm.heap S _ hSw hS) hJ (hBa _ _ hB fun b o hb e=>hm.heap b o (fun z=>hb (hsub b z)) e) fun b h' tk o' htk hsb hS' hJ'=>?_
  refine qy ⟨plainId_quiet F.plain_set_update_loop _,ih (i+1) _ o' (by omega) hlt (W.frame _ s' _ _ hst' htk fun b hb o e=>?_) hS' hJ' ?_ fun s'' o'' hm'' hS'' hJ''=>?_⟩
  ·rw [hsb.2 b (fun h:b=S=>hSf (by rw [← h];exact hb))];exact e
  ·refine hBa _ _ (hBa _ _ hB fun b o hb e=>hm.heap b o (fun z=>hb (hsub b z)) e) fun b o hb e=>?_
   show h'.get? b=some o
   rw [hsb.2 b (fun h:b=S=>hb (by rw [h];exact qf))];exact e
  ·refine hR s'' o'' (Moved.trans W.gtrans ((hm.mono hsub).then_heap htk fun b o hb e=>?_) hm'') hS'' hJ''
   rw [hsb.2 b (fun h:b=S=>hb (by rw [h];exact qf))];exact e
end
section
variable {prog:Program} {w:World} {A:Around} {E:Value->Shared->Prop} {s:Shared}
set_option maxRecDepth 100000 in
set_option maxHeartbeats 3200000 in
theorem zfr {l:Addr} {items:Array Value} {Q:Value->Shared->Prop} (hh:A.handled=none) (hl:s.heap.IsList l items) (J:Nat->Obj->Prop)
  (hJ0:∀ led:Bool,J 0 { cls:=.type "set",dict:=none,data:=.set #[] 0 (.fresh 0 0 led) })
  (hadd:∀ A':Around,A'.units<=A.units+16->ztG prog w A' s.heap.objs.size (fun h=>∀ b o,b < s.heap.objs.size->s.heap.get? b=some o->h.get? b=some o) (fun i v=>items[i]?=some v) items.size J)
  (h:∀ (h':Heap) (tk:Nat) (o:Obj),h'.get? s.heap.objs.size=some o->J items.size o ->
   (∀ b o,b < s.heap.objs.size->s.heap.get? b=some o->h'.get? b=some o)->Q (.ref s.heap.objs.size) { s with heap:=h',toks:=tk }) :
  wpAny (model prog w) A (call (.type "set") [.ref l]) Q E s:=by
 obtain ⟨c,tl,hmro⟩:=F.called_set.mro
 have hmade:=F.called_set.made
 have hsub:=F.called_set.sub
 refine wpAny_call (codeAny_of_tree ?_)
 show wpAny _ _ (callAny (.type "set") _) _ _ _
 refine qy ⟨Code.quiet_builtin _ (by decide +kernel),codeAny_builtin F.entry_type_call ?_⟩
 rw [Around.under_plain (weight_type_call_type "set" [.ref l] []) rfl]
 have h1:=F.called_set.notType
 have h2:=F.called_set.canCreate
 have hct:=F.typeCall_set_1 (.ref l)
 repeat (any_goals (first | assumption | wp_step))
 refine codeAny_mono (code_set_new_1 (.ref l) (E:=E) (Q₁:=fun obj s₁=>∃ led:Bool,obj=.ref s.heap.objs.size/\s₁={ s with heap:=s.heap.push { cls:=.type "set",dict:=none,data:=.set #[] 0 (.fresh 0 0 led) } }) fun led=>⟨led,rfl,rfl⟩) fun r s₁ hr=>?_
 cases r with
 | error e=>exact hr
 | ok fl =>
  cases fl with
  | ret obj =>
   obtain ⟨led,rfl,rfl⟩:=hr
   have hS:(s.heap.push { cls:=.type "set",dict:=none,data:=.set #[] 0 (.fresh 0 0 led) }).get? s.heap.objs.size=some { cls:=.type "set",dict:=none,data:=.set #[] 0 (.fresh 0 0 led) }:=qE _ rfl
   have hT:Shared.TypeIs { s with heap:=s.heap.push { cls:=.type "set",dict:=none,data:=.set #[] 0 (.fresh 0 0 led) } } (.ref s.heap.objs.size) "set":=⟨_,hS,rfl⟩
   have hli:=F.called_set.init.lookup
   have hbi:=F.called_set.init.bind (.ref s.heap.objs.size)
   repeat (any_goals (first | assumption | wp_step))
   refine codeAny_mono (codeAny_call_builtin (R:=wants (fun r s₂=>r=.none/\∃ h' tk o,s₂={ s with heap:=h',toks:=tk }/\h'.get? s.heap.objs.size=some o/\J items.size o /\
     (∀ b o,b < s.heap.objs.size->s.heap.get? b=some o->h'.get? b=some o)) E) F.called_set.init.plain F.entry_set_init (check_set_init_1 hT ?_)) fun r₂ s₂ hr₂=>?_
   ·obtain ⟨ol,hol,hcl,nl,hdl⟩:=hl
    obtain ⟨ocls,odict,odata,oslots⟩:=ol
    simp only at hcl hdl
    subst hcl;subst hdl
    have hol':(s.heap.push { cls:=.type "set",dict:=none,data:=.set #[] 0 (.fresh 0 0 led) }).get? l=some { cls:=.type "list",dict:=odict,data:=.seq items nl,slots:=oslots }:=qr _ hol
    have hsls:=F.sub_list_set
    have hslf:=F.sub_list_frozenset
    have hne:(Value.type "list"==Value.type "dict")=false:=by decide
    have hl1:(s.heap.push { cls:=.type "set",dict:=none,data:=.set #[] 0 (.fresh 0 0 led) }).IsList l items:=⟨_,hol',rfl,nl,rfl⟩
    unfold Builtin.«set.__init__» noKeywords Builtin.Frozenset.updateFrom
    generalize hPI:pyIter=PI
    wp_walk
    subst hPI
    refine wpAny_pyIter_list hl1 ?_
    refine qv (wpAny_runValue ?_)
    have hlS:l < s.heap.objs.size:=qt hol
    have hh3:A.in1.in1.in1.handled=none:=by simp [hh]
    have hneI:l≠(s.heap.push { cls:=.type "set",dict:=none,data:=.set #[] 0 (.fresh 0 0 led) }).objs.size:=by
     rw [Heap.size_push];exact qA (Nat.lt_succ_of_lt hlS)
    have hSf:s.heap.objs.size∉[(s.heap.push { cls:=.type "set",dict:=none,data:=.set #[] 0 (.fresh 0 0 led) }).objs.size,l]:=by
     rw [Heap.size_push];simp only [qJ,List.mem_singleton,qH,or_false,not_or]
     exact ⟨qA (Nat.lt_succ_self _),Nat.ne_of_gt hlS⟩
    have hget:((s.heap.push { cls:=.type "set",dict:=none,data:=.set #[] 0 (.fresh 0 0 led) }).push { cls:=.type "list_iterator",data:=.fields #[.ref l,.int 0 0] }).get? s.heap.objs.size
       = some { cls:=.type "set",dict:=none,data:=.set #[] 0 (.fresh 0 0 led) }:=qr _ hS
    refine zmT ((Walks.list hh3 _ l hneI items).toS) s.heap.objs.size
     hSf (fun h=>∀ b o,b < s.heap.objs.size->s.heap.get? b=some o->h.get? b=some o) (fun h h' hB hk b o hb e=>hk b o ?_ (hB b o hb e)) J (hadd _ (by show A.units+3<=_;omega)) (items.size - 0) 0 _ _ (by omega) (Nat.zero_le _)
     ⟨⟨_,qE _ rfl,rfl,rfl⟩,(hl1.push _)⟩ hget (hJ0 led) (fun b o hb e=>qr _ (qr _ e)) ?hR
    ·have hb1:b≠s.heap.objs.size:=qA hb
     have hb2:b≠(s.heap.push { cls:=.type "set",dict:=none,data:=.set #[] 0 (.fresh 0 0 led) }).objs.size:=by
      rw [Heap.size_push];exact qA (Nat.lt_succ_of_lt hb)
     simp only [qJ,List.mem_singleton,qH,or_false,not_or];exact ⟨hb1,hb2⟩
    case hR =>
     intro s' o' hm hS' hJ'
     obtain ⟨h',g',d',tk',os'⟩:=s'
     have eg:g'=s.gens:=hm.gens
     have ed:d'=s.drawn:=hm.drawn
     have eo:os'=s.os:=hm.os
     subst eg;subst ed;subst eo
     show wpAny _ _ _ _ _ _
     refine qy ?_
     show wpAny _ _ (ret Value.none) _ _ _
     refine qy ⟨rfl,h',tk',o',rfl,hS',hJ',fun b o hb e=>?_⟩
     have hb1:b≠s.heap.objs.size:=qA hb
     have hb2:b≠(s.heap.push { cls:=.type "set",dict:=none,data:=.set #[] 0 (.fresh 0 0 led) }).objs.size:=by
      rw [Heap.size_push];exact qA (Nat.lt_succ_of_lt hb)
     exact hm.heap b o (by simp only [qJ,List.mem_singleton,qH,or_false,not_or];exact ⟨hb1,hb2⟩) (qr _ (qr _ e))
   ·cases r₂ with
    | error e=>exact hr₂
    | ok fl₂ =>
     cases fl₂ with
     | ret r =>
      obtain ⟨rfl,h',tk,o',rfl,hS',hJ',hk'⟩:=hr₂
      repeat (any_goals (first | assumption | wp_step))
      exact h _ _ _ hS' hJ' hk'
     | _=>exact hr₂.elim
  | _=>exact hr.elim
end
end ST
end
section
namespace ST
open PySem PySem.Spec PyProof.Rows
def dd {κ:Type} [DecidableEq κ] (l:List κ):List κ:=l.foldl (fun a k=>if k∈a then a else a++[k]) []
theorem zjl {κ:Type} [DecidableEq κ] (l:List κ) (k:κ):dd (l++[k])=if k∈dd l then dd l else dd l++[k]:=by
 unfold dd;rw [List.foldl_append];rfl
theorem ziB {κ:Type} [DecidableEq κ] (l:List κ):(dd l).length<=l.length:=by
 have key:∀ (l a:List κ),(l.foldl (fun a k=>if k∈a then a else a++[k]) a).length<=a.length+l.length:=by
  intro l
  induction l with
  | nil=>intro a;exact qu _
  | cons k r ih =>
   intro a
   rw [List.foldl_cons]
   refine qK (ih _) ?_
   split
   ·simp only [qh];omega
   ·simp only [qi,qh,qk];omega
 have:=key l []
 simpa [dd] using this
section
variable {prog:Program} {w:World} {κ:Type} [DecidableEq κ] {knd:KeyKind prog w κ} {A:Around} {E:Value->Shared->Prop} {s:Shared}
theorem ze5 {ks:List κ} {a:Addr} {Q:Bool->Shared->Prop} (hk:IsTupleKey knd s.heap ks a) (hsc:∀ v k,knd.is k v=true->v.scannable=true) (h:∀ b,Q b s):wpAny (model prog w) A (hashByValue 8 (.ref a)) Q E s:=by
 have hT:=hk.typeIs
 obtain ⟨o,items,n,ho,_,hd,hi⟩:=hk
 unfold hashByValue
 refine qv (wpAny_specialOf hT F.slot_tuple_hash.lookup ?_)
 refine qv (wpAny_seqItems ho hd ?_)
 refine qv ?_
 show wpAny _ _ (forIn items _ _) _ _ s
 rw [← Array.forIn_toList]
 have hall:∀ v∈items.toList,v.scannable=true:=by
  have:∀ {x:List κ} {vs:List Value},ItemsAre knd x vs->∀ v∈vs,v.scannable=true:=by
   intro x vs q
   induction q with
   | nil=>intro v hv;cases hv
   | cons h1 _ ih =>
    intro v hv
    rcases List.mem_cons.mp hv with rfl | hv
    ·exact hsc _ _ h1
    ·exact ih v hv
  exact this hi
 refine wpAny_forIn_list _ (fun zcb r s'=>s'=s/\∀ v∈zcb,v.scannable=true) _ ?_ ?_ _ _ ⟨rfl,hall⟩
 ·rintro v zcb r s' ⟨rfl,hv⟩
  rw [hashByValue_scannable _ (hv v qf)]
  refine qv (qy ?_)
  cases hp:plainKind v with
  | true =>
   simp only [Bool.not_true,qp,if_false]
   exact qy ⟨rfl,fun u hu'=>hv u (qg _ hu')⟩
  | false =>
   simp only [Bool.not_false,if_true]
   first | exact qy (qy (h _)) | exact qy (h _) | exact qv (qy (qy (qy (h _))))
 ·rintro ⟨r1,r2⟩ s' ⟨rfl,_⟩
  first | exact qy (h _) | (cases r1 <;> exact qy (h _))
theorem zeG {ks:List κ} {a:Addr} {Q:Bool->Shared->Prop} (hk:IsTupleKey knd s.heap ks a) (h:Q false s):wpAny (model prog w) A (ofAClassStatement 8 (.ref a)) Q E s:=by
 have hT:=hk.typeIs
 obtain ⟨o,items,n,ho,_,hd,hi⟩:=hk
 unfold ofAClassStatement
 refine qv (wpAny_typeOf hT ?_)
 dsimp only
 rw [qX (by decide)]
 refine qv (qy ?_)
 simp only [Bool.not_true,qp,if_false]
 refine qv (wpAny_seqItems ho hd ?_)
 refine qv ?_
 show wpAny _ _ (forIn items _ _) _ _ s
 rw [← Array.forIn_toList]
 refine wpAny_forIn_list _ (fun zcb r s'=>r.1=none/\s'=s/\∀ v∈zcb,carriedByValue v=true) _ ?_ ?_ _ _ ⟨rfl,rfl,hi.byValue⟩
 ·rintro v zcb r s' ⟨hr,rfl,hv⟩
  have e:ofAClassStatement 7 v=pure false:=by
   have:=hv v qf
   cases v with
   | ref b=>simp [carriedByValue] at this
   | _=>rfl
  rw [e]
  refine qv (qy ?_)
  simp only [qp,if_false]
  exact qy ⟨rfl,rfl,fun u hu'=>hv u (qg _ hu')⟩
 ·rintro ⟨r1,r2⟩ s' ⟨hr,rfl,_⟩
  simp only at hr
  subst hr
  exact qy h
theorem zqf {ks:List κ} {a:Addr} {Q:Bool->Shared->Prop} (hk:IsTupleKey knd s.heap ks a) (st:List Value) (hst:∀ y∈st,∃ k b,y=.ref b/\IsTupleKey knd s.heap k b) (h:Q false s):wpAny (model prog w) A (searchCouldBeSeen (.ref a) st) Q E s:=by
 unfold searchCouldBeSeen
 refine qv ?_
 refine wpAny_forIn_list _ (fun zcb r s'=>r.1=none/\s'=s/\∀ y∈zcb,∃ k b,y=.ref b/\IsTupleKey knd s.heap k b) _ ?_ ?_ _ _ ⟨rfl,rfl,hst⟩
 ·rintro v zcb r s' ⟨hr,rfl,hv⟩
  obtain ⟨k,b,rfl,hb⟩:=hv v qf
  dsimp only
  split
  ·exact qy ⟨rfl,rfl,fun u hu'=>hv u (qg _ hu')⟩
  ·refine qv (wpAny_eqIsQuiet_tuple hk ?_)
   simp only [Bool.not_true,qp,if_false]
   refine qv (wpAny_eqIsQuiet_tuple hb ?_)
   simp only [Bool.not_true,qp,if_false]
   refine qv (zeG hk ?_)
   simp only [qp,if_false]
   refine qv (zeG hb ?_)
   simp only [qp,if_false]
   exact qy ⟨rfl,rfl,fun u hu'=>hv u (qg _ hu')⟩
 ·rintro ⟨r1,r2⟩ s' ⟨hr,rfl,_⟩
  simp only at hr
  subst hr
  exact qy h
end
end ST
end
section
namespace ST
open PySem PySem.Spec PyProof.Rows
theorem zfU {t:SetTable} {es:Array (Int×Value)} (T:Tb t es) {hashAt:Nat->Int} {h:Int} {p:SetTable.Probe} {r:Option SetTable.Met} {n n0:Nat} (hp:t.probe hashAt h p=r) (hpp:p=zcz (it t.mask h n)) (hn:n<=n0) (hn0:n0 < 10*(t.mask+15))
  (hf:J t.mask h n0∉t.place.toList) (ho:∀ m,m < n0->J t.mask h m∈t.place.toList) :
  (∃ n' i,n<=n'/\n' < n0/\t.place[i]?=some (J t.mask h n')/\hashAt i=h/\(∀ m i,n<=m->m < n'->t.place[i]?=some (J t.mask h m)->hashAt i≠h)/\r=some (.candidate (J t.mask h n') i (zcz (it t.mask h (n'+1))))) \/
  ((∀ m i,n<=m->m < n0->t.place[i]?=some (J t.mask h m)->hashAt i≠h)/\r=some (.empty (J t.mask h n0) none)):=by
 subst hpp
 subst hp
 unfold SetTable.probe
 exact T.probe_go hashAt h hf ho (10*SetTable.turns t.mask) n hn (by unfold SetTable.turns;omega)
theorem zi5 {t:SetTable} {es:Array (Int×Value)} (T:Tb t es) {hashAt:Nat->Int} {h:Int} {p:SetTable.Probe} {n n0:Nat} (hp:∀ met,t.probe hashAt h p=some met->False) (hpp:p=zcz (it t.mask h n)) (hn:n<=n0) (hn0:n0 < 10*(t.mask+15))
  (hf:J t.mask h n0∉t.place.toList) (ho:∀ m,m < n0->J t.mask h m∈t.place.toList):False:=by
 rcases zfU T (r:=t.probe hashAt h p) rfl hpp hn hn0 hf ho with ⟨n',i,_,_,_,_,_,g6⟩ | ⟨_,g2⟩
 ·exact hp _ g6
 ·exact hp _ g2
section
variable {prog:Program} {w:World} {κ:Type} [DecidableEq κ] {knd:KeyKind prog w κ} {A:Around} {E:Value->Shared->Prop} {s:Shared}
def zrX (knd:KeyKind prog w κ) (h:Heap) (es:Array (Int×Value)):Prop:=∀ (i:Nat) e,es[i]?=some e->∃ k b,e=(tupleKeyHash knd k,.ref b)/\IsTupleKey knd h k b
theorem Mk.odd {M:Nat} (h:Mk M):(M % 2==0)=false:=by
 rcases h with rfl | rfl | rfl | rfl <;> rfl
theorem zk9 {S a:Addr} {o:Obj} {es:Array (Int×Value)} {ep:Nat} {t:SetTable} {k:List κ} {n0:Nat} {Q:SetFound->Shared->Prop} (hu:A.units < cLine) (ho:s.heap.get? S=some o) (hd:o.data=.set es ep t) (T:Tb t es) (hM:Mk t.mask)
  (hk:IsTupleKey knd s.heap k a) (he:zrX knd s.heap es) (hf:J t.mask (tupleKeyHash knd k) n0∉t.place.toList) (hocc:∀ m,m < n0->J t.mask (tupleKeyHash knd k) m∈t.place.toList) (hn0:n0 < 10*(t.mask+15))
  (hyes:∀ (i:Nat) (b:Addr),es[i]?=some (tupleKeyHash knd k,.ref b)->IsTupleKey knd s.heap k b->Q (.there none) s)
  (hno:(∀ (i:Nat) (b:Addr),es[i]?=some (tupleKeyHash knd k,.ref b)->¬ IsTupleKey knd s.heap k b)->Q (.free (J t.mask (tupleKeyHash knd k) n0) false) s) :
  ∀ (fuel n:Nat) (stand:Option SetTable.Probe),n0 - n < fuel->n<=n0->(stand.getD (t.probeStart (tupleKeyHash knd k))=zcz (it t.mask (tupleKeyHash knd k) n)) ->
   (∀ (m i:Nat) (b:Addr),m < n->t.place[i]?=some (J t.mask (tupleKeyHash knd k) m)->es[i]?=some (tupleKeyHash knd k,.ref b)->¬ IsTupleKey knd s.heap k b) ->
   wpAny (model prog w) A (setSearchFrom S (.ref a) (tupleKeyHash knd k) true fuel stand) Q E s:=by
 intro fuel
 induction fuel with
 | zero=>intro n stand h1;omega
 | succ fuel ih =>
  intro n stand h1 h2 hs hw
  unfold setSearchFrom
  refine qv (wpAny_setState_of ho hd T.fits ?_)
  dsimp only
  have hg:t.gaveWay=false:=hM.odd
  rw [hg]
  simp only [qp,if_false]
  split
  ·rename_i met hp
   rcases zfU T hp hs h2 hn0 hf hocc with ⟨n',i,g1,g2,g3,g4,g5,g6⟩ | ⟨g1,g2⟩
   ·cases g6
    have hi:i < es.size:=by
     have:=(Array.getElem?_eq_some_iff.mp g3).1
     rw [T.sz] at this
     exact this
    have hei:es[i]?=some es[i]:=by simp [hi]
    obtain ⟨k',b,e1,hb⟩:=he i _ hei
    rw [e1] at hei
    have hh:tupleKeyHash knd k'=tupleKeyHash knd k:=by
     have g4':((es[i]?).map (·.1)).getD 0=tupleKeyHash knd k:=g4
     rw [hei] at g4'
     exact g4'
    rw [hh] at hei
    have zcb:wpAny (model prog w) A (do
      let some (_,y):=es[i]? | unsupported "internal:set-entry"
      let equal ← holding [y] (eqBool y (.ref a))
      let (es',_,t') ← setState S
      if true && equal then return .there none
      let some same:=t'.sameMemory t.moves t.mask | unsupported "set.changed-during-lookup:is-the-new-block-at-the-old-address"
      let still ← match (if same then t'.slot (J t.mask (tupleKeyHash knd k) n') else .empty) with
       | .live i'=>match es'[i']? with
        | some (_,y')=>do pure (if ← isSame y' y then some i' else none)
        | none=>pure none
       | _=>pure none
      match still with
      | none=>rule "set.search.anew";setSearchFrom S (.ref a) (tupleKeyHash knd k) true fuel none
      | some i'=>if equal then return .there (some i') else setSearchFrom S (.ref a) (tupleKeyHash knd k) true fuel (some (zcz (it t.mask (tupleKeyHash knd k) (n'+1))))) Q E s:=by
     rw [hei]
     dsimp only
     refine qv (qR (wpAny_eqBool_tuple hu hb hk ?_))
     refine qv (wpAny_setState_of ho hd T.fits ?_)
     dsimp only
     by_cases hkk:k'=k
     ·subst hkk
      rw [qQ rfl]
      simp only [Bool.true_and,if_true]
      exact qy (hyes i b hei hb)
     ·rw [qL hkk]
      simp only [Bool.true_and,qp,if_false]
      have hsm:t.sameMemory t.moves t.mask=some true:=by unfold SetTable.sameMemory;simp
      rw [hsm]
      dsimp only
      simp only [if_true]
      rw [T.live g3]
      dsimp only
      rw [hei]
      dsimp only
      refine qv (wpAny_isSame_ref_self ?_)
      simp only [if_true]
      refine qv (qy ?_)
      dsimp only
      refine ih (n'+1) _ (by omega) (by omega) rfl ?_
      intro m i2 b2 hm hp2 he2
      by_cases h3:m < n
      ·exact hw m i2 b2 h3 hp2 he2
      ·by_cases h4:m=n'
       ·subst h4
        have ei:i2=i:=by
         have q1:=T.live hp2
         have q2:=T.live g3
         rw [q1] at q2
         injection q2
        subst ei
        rw [hei] at he2
        cases he2
        exact fun z=>hkk (hb.inj z)
       ·exfalso
        refine g5 m i2 (by omega) (by omega) hp2 ?_
        show ((es[i2]?).map (·.1)).getD 0=_
        rw [he2]
        rfl
    cases hled:t.led with
    | true =>
     simp only [Bool.not_true,qp,if_false]
     exact zcb
    | false =>
     simp only [Bool.not_false,if_true]
     refine qv (zqf hk _ (fun y hy=>?_) ?_)
     ·obtain ⟨e,he1,rfl⟩:=List.mem_map.mp hy
      have he2:e∈es.toList:=by
       have:=Array.mem_toList_iff.mp he1
       rw [Array.mem_filter] at this
       exact Array.mem_toList_iff.mpr this.1
      obtain ⟨j,hj,ej⟩:=List.mem_iff_getElem.mp he2
      obtain ⟨k2,b2,q1,q2⟩:=he j e (by rw [← qG,qB hj,ej])
      exact ⟨k2,b2,by rw [q1],q2⟩
     ·simp only [qp,if_false]
      exact zcb
   ·cases g2
    dsimp only
    refine qy (hno fun i b hei hb=>?_)
    have hi:i < es.size:=(Array.getElem?_eq_some_iff.mp hei).1
    have hpi:t.place[i]?=some t.place[i]! := by
     have:i < t.place.size:=by rw [T.sz];exact hi
     simp [this]
    obtain ⟨m,q1,q2⟩:=T.rc i _ _ _ hpi hei
    have hmem:J t.mask (tupleKeyHash knd k) m∈t.place.toList:=by
     rw [q1]
     rw [← qG] at hpi
     exact qN hpi
    have hm:m < n0:=by
     rcases Nat.lt_trichotomy m n0 with z | z | z
     ·exact z
     ·subst z;exact absurd hmem hf
     ·exact absurd (q2 n0 z) hf
    by_cases h3:m < n
    ·exact hw m i b h3 (by rw [q1];exact hpi) hei hb
    ·refine g1 m i (by omega) hm (by rw [q1];exact hpi) ?_
     show ((es[i]?).map (·.1)).getD 0=_
     rw [hei]
     rfl
  ·rename_i hp
   exact (zi5 T hp hs h2 hn0 hf hocc).elim
structure TS (knd:KeyKind prog w κ) (h:Heap) (ks:List (List κ)) (o:Obj):Prop where
 cls:o.ExactSet
 ex:∃ es ep t,o.data=.set es ep t/\Tb t es/\Mk t.mask/\zrX knd h es/\es.size=(dd ks).length/\(∀ k∈dd ks,∃ (i:Nat) (b:Addr),es[i]?=some (tupleKeyHash knd k,.ref b)/\IsTupleKey knd h k b)/\∀ (i:Nat) (k:List κ) (b:Addr),es[i]?=some (tupleKeyHash knd k,.ref b)->IsTupleKey knd h k b->k∈dd ks
theorem IsTupleKey.mono {h h':Heap} {k:List κ} {a:Addr} (x:IsTupleKey knd h k a) (q:∀ o,h.get? a=some o->h'.get? a=some o):IsTupleKey knd h' k a:=by
 obtain ⟨o,items,n,h1,h2⟩:=x
 exact ⟨o,items,n,q o h1,h2⟩
theorem zei {es:Array (Int×Value)} {e:Int×Value}:e∈es.toList↔∃ i:Nat,es[i]?=some e:=by
 constructor
 ·intro h
  obtain ⟨i,hi,q⟩:=List.mem_iff_getElem.mp h
  exact ⟨i,by rw [← qG,qB hi,q]⟩
 ·rintro ⟨i,h⟩
  rw [← qG] at h
  exact qN h
theorem zpm {h0:Heap} {ks:List (List κ)} {k:List κ} {a:Addr} {es es':Array (Int×Value)} (hk:IsTupleKey knd h0 k a) (hE:zrX knd h0 es) (hsz:es.size=(dd ks).length) (hin:∀ k∈dd ks,∃ (i:Nat) (b:Addr),es[i]?=some (tupleKeyHash knd k,.ref b)/\IsTupleKey knd h0 k b)
  (hout:∀ (i:Nat) (k:List κ) (b:Addr),es[i]?=some (tupleKeyHash knd k,.ref b)->IsTupleKey knd h0 k b->k∈dd ks) (hnew:k∉dd ks) (mem:∀ e,e∈es'.toList↔e=(tupleKeyHash knd k,.ref a)\/e∈es.toList) (size:es'.size=es.size+1) :
  zrX knd h0 es'/\es'.size=(dd (ks++[k])).length/\(∀ k'∈dd (ks++[k]),∃ (i:Nat) (b:Addr),es'[i]?=some (tupleKeyHash knd k',.ref b)/\IsTupleKey knd h0 k' b)/\∀ (i:Nat) (k':List κ) (b:Addr),es'[i]?=some (tupleKeyHash knd k',.ref b)->IsTupleKey knd h0 k' b->k'∈dd (ks++[k]):=by
 rw [zjl,qY hnew]
 refine ⟨fun i e he=>?_,by rw [size,hsz,qi,qU],fun k' hk'=>?_,fun i k' b he hb=>?_⟩
 ·rcases (mem e).mp (zei.mpr ⟨i,he⟩) with rfl | q
  ·exact ⟨k,a,rfl,hk⟩
  ·obtain ⟨j,q⟩:=zei.mp q
   exact hE j e q
 ·rcases List.mem_append.mp hk' with q | q
  ·obtain ⟨i,b,q1,q2⟩:=hin k' q
   obtain ⟨j,q3⟩:=zei.mp ((mem _).mpr (.inr (zei.mpr ⟨i,q1⟩)))
   exact ⟨j,b,q3,q2⟩
  ·rw [List.mem_singleton.mp q]
   obtain ⟨j,q3⟩:=zei.mp ((mem _).mpr (.inl rfl))
   exact ⟨j,a,q3,hk⟩
 ·rcases (mem _).mp (zei.mpr ⟨i,he⟩) with q | q
  ·have e:b=a:=by have:=(Prod.mk.inj q).2;injection this
   subst e
   exact List.mem_append.mpr (.inr (List.mem_singleton.mpr (hb.inj hk)))
  ·obtain ⟨j,q⟩:=zei.mp q
   exact List.mem_append.mpr (.inl (hout j k' b q hb))
theorem zgQ {h:Heap} {S:Addr} {o:Obj} {es es':Array (Int×Value)} {ep:Nat} {t t':SetTable} (ho:h.get? S=some o) (hd:o.data=.set es ep t):(h.update S (Obj.putSet es' t')).get? S=some { o with data:=.set es' (ep+1) t' }:=by
 have q:=Heap.get?_update_self (Obj.putSet es' t') ho (by rw [putSet_of es' t' hd];rfl)
 rwa [putSet_of es' t' hd] at q
set_option maxHeartbeats 1000000 in
theorem zmD {S a:Addr} {o:Obj} {h0:Heap} {ks:List (List κ)} {k:List κ} {Q:Bool->Shared->Prop} (hsc:∀ v k,knd.is k v=true->v.scannable=true) (hu:A.units < cLine) (ho:s.heap.get? S=some o) (T:TS knd h0 ks o) (hk:IsTupleKey knd h0 k a)
  (hB:∀ b o,h0.get? b=some o->s.heap.get? b=some o) (hlen:ks.length<=300)
  (h:∀ b h' tk o',s.toks<=tk->Heap.SameBut S s.heap h'->h'.get? S=some o'->TS knd h0 (ks++[k]) o'->Q b { s with heap:=h',toks:=tk }):wpAny (model prog w) A (setAdd S (.ref a)) Q E s:=by
 obtain ⟨hc,es,ep,t,hd,TB,hM,hE,hsz,hin,hout⟩:=T
 have up:∀ {k:List κ} {b:Addr},IsTupleKey knd h0 k b->IsTupleKey knd s.heap k b:=fun q=>IsTupleKey.mono q fun o e=>hB _ _ e
 have down:∀ {k k':List κ} {b:Addr},IsTupleKey knd h0 k' b->IsTupleKey knd s.heap k b->k=k':=fun q1 q2=>q2.inj (up q1)
 have hE':zrX knd s.heap es:=fun i e he=>by
  obtain ⟨k,b,q1,q2⟩:=hE i e he
  exact ⟨k,b,q1,up q2⟩
 have hddl:=ziB ks
 obtain ⟨n0,f1,f2,f3⟩:=TB.first (tupleKeyHash knd k)
 unfold setAdd
 refine qR (qv (wpAny_pyHash_tuple hu (up hk) ?_))
 unfold setAddHashed setAddHashedIn
 refine qR (qv (wpAny_setState_of (s:={ s with toks:=s.toks+(k.length+1) }) ho hd TB.fits ?_))
 dsimp only
 rw [show byScan (.ref a) es=false from rfl]
 simp only [qp,if_false]
 unfold setSearch
 refine qv (zk9 (s:={ s with toks:=s.toks+(k.length+1) }) hu ho hd TB hM (up hk) hE' f2 f3 f1 (fun i b hei hb=>?_) (fun hall=>?_) 100000 0 none ?_ (Nat.zero_le _) rfl (fun m i b hm=>by omega))
 ·
  dsimp only
  obtain ⟨k',b',q1,q2⟩:=hE i _ hei
  have:b'=b:=by
   have:=(Prod.mk.inj q1).2
   injection this with e
   exact e.symm
  subst this
  have ek:=down q2 hb
  subst ek
  have hmem:=hout i k _ hei q2
  refine qy (h false s.heap _ o (by show s.toks<=s.toks+(k.length+1);omega) (Heap.SameBut.refl S s.heap) ho ⟨hc,es,ep,t,hd,TB,hM,hE,?_⟩)
  rw [zjl,qX hmem]
  exact ⟨hsz,hin,hout⟩
 ·
  dsimp only
  have hnew:k∉dd ks:=fun hm=>by
   obtain ⟨i,b,q1,q2⟩:=hin k hm
   exact hall i b q1 (up q2)
  have hpl:SetTable.below t.place (J t.mask (tupleKeyHash knd k) n0)<=es.size:=by
   have:=(zhZ t.place (J t.mask (tupleKeyHash knd k) n0) TB.ri).1
   rw [TB.sz] at this
   exact this
  have hmaskle:t.mask<=511:=by rcases hM with e | e | e | e <;> omega
  have hmem:∀ e,e∈(SetTable.insertAt es (SetTable.below t.place (J t.mask (tupleKeyHash knd k) n0)) (tupleKeyHash knd k,Value.ref a)).toList↔e=(tupleKeyHash knd k,Value.ref a)\/e∈es.toList:=fun e=>by
   rw [zcs _ _ _ hpl]
   exact ze4 _ _ _ _
  have hsize:(SetTable.insertAt es (SetTable.below t.place (J t.mask (tupleKeyHash knd k) n0)) (tupleKeyHash knd k,Value.ref a)).size=es.size+1:=by
   have:=congrArg List.length (zcs es _ (tupleKeyHash knd k,Value.ref a) hpl)
   simp only [Array.length_toList,qi,qh,qC,List.length_drop] at this
   omega
  have hpsz:(SetTable.insertAt t.place (SetTable.below t.place (J t.mask (tupleKeyHash knd k) n0)) (J t.mask (tupleKeyHash knd k) n0)).size=es.size+1:=by
   have:=congrArg List.length (zcs t.place _ (J t.mask (tupleKeyHash knd k) n0) (by rw [TB.sz];exact hpl))
   have h3:=TB.sz
   simp only [Array.length_toList,qi,qh,qC,List.length_drop] at this
   omega
  refine qv (wpAny_setState_of (s:={ s with toks:=s.toks+(k.length+1) }) ho hd TB.fits ?_)
  dsimp only
  have fin:∀ (es':Array (Int×Value)) (t':SetTable) (h':Heap) (o':Obj),Tb t' es'->Mk t'.mask->(∀ e,e∈es'.toList↔e=(tupleKeyHash knd k,Value.ref a)\/e∈es.toList)->es'.size=es.size+1->Heap.SameBut S s.heap h'->h'.get? S=some o'->o'.ExactSet->(∃ ep',o'.data=.set es' ep' t')->Q true { s with heap:=h',toks:=s.toks+(k.length+1) }:=fun es' t' h' o' q1 q2 q3 q4 q5 q6 q7 q8=>by
   obtain ⟨ep',q8⟩:=q8
   obtain ⟨w1,w2,w3,w4⟩:=zpm hk hE hsz hin hout hnew q3 q4
   exact h true h' _ o' (by omega) q5 q6 ⟨q7,es',ep',t',q8,q1,q2,w1,w2,w3,w4⟩
  have zcb:∀ pl:Bool,wpAny (model prog w) A (do
    storeSet S (SetTable.insertAt es (t.put (J t.mask (tupleKeyHash knd k) n0)).2 (tupleKeyHash knd k,Value.ref a)) { (t.put (J t.mask (tupleKeyHash knd k) n0)).1 with plain:=pl }
    if (!false && SetTable.tooFull { (t.put (J t.mask (tupleKeyHash knd k) n0)).1 with plain:=pl })=true then do
     setRelay S (SetTable.grown (es.size+1))
     pure true
    else pure true) Q E { s with toks:=s.toks+(k.length+1) }:=fun pl=>by
   refine qv (wpAny_storeSet_of (s:={ s with toks:=s.toks+(k.length+1) }) ho hd ?_ (by show (SetTable.insertAt es (SetTable.below t.place (J t.mask (tupleKeyHash knd k) n0)) (tupleKeyHash knd k,Value.ref a)).size<=sizeLine;rw [hsize,sizeLine_eq];omega))
   have hg1:=zgQ (es':=SetTable.insertAt es (t.put (J t.mask (tupleKeyHash knd k) n0)).2 (tupleKeyHash knd k,Value.ref a)) (t':={ (t.put (J t.mask (tupleKeyHash knd k) n0)).1 with plain:=pl }) ho hd
   have hsb1:=Heap.SameBut.update s.heap S (Obj.putSet (SetTable.insertAt es (t.put (J t.mask (tupleKeyHash knd k) n0)).2 (tupleKeyHash knd k,Value.ref a)) { (t.put (J t.mask (tupleKeyHash knd k) n0)).1 with plain:=pl })
   have hdum:(t.put (J t.mask (tupleKeyHash knd k) n0)).1.dummies=#[]:=by
    show (if SetTable.has t.dummies _ then _ else t.dummies)=#[]
    rw [TB.dm]
    rfl
   have hfill:SetTable.fill { (t.put (J t.mask (tupleKeyHash knd k) n0)).1 with plain:=pl }=es.size+1:=by
    show (SetTable.insertAt t.place _ _).size+(t.put (J t.mask (tupleKeyHash knd k) n0)).1.dummies.size=_
    rw [hdum]
    exact hpsz
   by_cases few:(es.size+1)*5 < t.mask*3
   ·have hfull:SetTable.tooFull { (t.put (J t.mask (tupleKeyHash knd k) n0)).1 with plain:=pl }=false:=by
     unfold SetTable.tooFull
     rw [hfill]
     exact qL (by show ¬ ((es.size+1)*5 ≥ t.mask*3);omega)
    rw [hfull]
    simp only [Bool.not_false,Bool.and_false,qp,if_false]
    refine qy (fin _ _ _ _ (TB.put (x:=.ref a) f2 f3 few pl) hM hmem hsize hsb1 hg1 hc ⟨_,rfl⟩)
   ·have hfull:SetTable.tooFull { (t.put (J t.mask (tupleKeyHash knd k) n0)).1 with plain:=pl }=true:=by
     unfold SetTable.tooFull
     rw [hfill]
     exact qQ (by show ((es.size+1)*5 ≥ t.mask*3);omega)
    rw [hfull]
    simp only [Bool.not_false,Bool.and_true,if_true]
    obtain ⟨m1,m2,m3⟩:=hM.grow TB.few few (by omega)
    have hes1:(SetTable.insertAt es (t.put (J t.mask (tupleKeyHash knd k) n0)).2 (tupleKeyHash knd k,Value.ref a)).size=es.size+1:=hsize
    obtain ⟨t',order,r1,r2,r3,r4,r5,r6⟩:=Full.relaid (t:={ (t.put (J t.mask (tupleKeyHash knd k) n0)).1 with plain:=pl }) (es:=SetTable.insertAt es (t.put (J t.mask (tupleKeyHash knd k) n0)).2 (tupleKeyHash knd k,Value.ref a)) m1.full (by rw [hes1];exact m2)
    unfold setRelay
    have hfits:SetTable.fits { (t.put (J t.mask (tupleKeyHash knd k) n0)).1 with plain:=pl } (SetTable.insertAt es (t.put (J t.mask (tupleKeyHash knd k) n0)).2 (tupleKeyHash knd k,Value.ref a)).size=true:=by
     unfold SetTable.fits
     rw [hfill,hes1,Bool.and_eq_true]
     have:=TB.few
     exact ⟨by rw [beq_iff_eq];exact hpsz,qQ (by show es.size+1<=t.mask;omega)⟩
    refine qv ?_
    refine qv (wpAny_setState_of (s:={ s with heap:=_,toks:=s.toks+(k.length+1) }) hg1 rfl hfits ?_)
    dsimp only
    rw [qY (by rw [sizeLine_eq];omega),r1]
    refine qv ?_
    show wpAny _ _ (if ((order.filterMap ((SetTable.insertAt es (t.put (J t.mask (tupleKeyHash knd k) n0)).2 (tupleKeyHash knd k,Value.ref a))[·]?)).size != (SetTable.insertAt es (t.put (J t.mask (tupleKeyHash knd k) n0)).2 (tupleKeyHash knd k,Value.ref a)).size)=true then _ else _) _ _ _
    rw [qY (by rw [r2];simp)]
    refine qy ?_
    dsimp only
    refine wpAny_storeSet_of (s:={ s with heap:=_,toks:=s.toks+(k.length+1) }) hg1 rfl ?_ (by rw [r2,hes1,sizeLine_eq];omega)
    refine qy (fin _ t' _ _ r3 (by rw [r5];exact m1) (fun e=>(r4 e).trans (hmem e)) (by rw [r2,hes1]) (hsb1.trans (Heap.SameBut.update _ S _)) (zgQ hg1 rfl) hc ⟨_,rfl⟩)
  split
  ·refine qv (ze5 (s:={ s with toks:=s.toks+(k.length+1) }) (up hk) hsc fun bv=>?_)
   cases bv
   ·exact zcb false
   ·exact zcb _
  ·refine qv (qy ?_)
   exact zcb _
 ·show n0 - 0 < 100000
  have:t.mask<=511:=by rcases hM with e | e | e | e <;> omega
  omega
end
end ST
end
section
namespace L2
open PySem PySem.Spec PyProof.Rows ST
instance (priority:=high) keyBEq:BEq Key:=instBEqOfDecidableEq
instance (priority:=high) keyLaw:LawfulBEq Key:=inferInstanceAs (@LawfulBEq Key instBEqOfDecidableEq)
def ztE (n:Nat) (o:Obj):Prop:=o.ExactSet/\∃ es ep t,o.data=.set es ep t/\t.fits es.size=true/\es.size=n
def zop (p:Addr) (n:Nat):HO:=.ext fun h=>∃ o,h.get? p=some o/\ztE n o
section
variable {X:Cx}
theorem zjQ {P:Program} {w:World} (v:Value) (k:Key) (h:(zba P w).is k v=true):v.scannable=true:=by
 rcases zbx h with ⟨i,t,rfl,rfl⟩ | ⟨x,t,rfl,rfl⟩ <;> rfl
def zt0:List V->Hp->VK->Prop:=fun xs H Q=>∃ a vs,xs=[.ref a]/\H a=some (.lst vs)/\vs.length<=300 /\
 ((∃ ks:List Key,vs=ks.map kV/\∀ p,H p=none->Q (.ref p) (upd H p (zop p (dd ks).length))) \/
 (∃ ts:List (List Key),vs.length=ts.length/\(∀ (i:Nat) t,ts[i]?=some t->∃ b,vs[i]?=some (.ref b)/\H b=some (.tup (t.map kV)))/\∀ p,H p=none->Q (.ref p) (upd H p (zop p (dd ts).length))))
theorem znM (hc:X.calm=true) (hu:X.A.units+66 < cLine):zdT X (.type "set") zt0:=by
 intro pins s σ H xs us Q I r h
 obtain ⟨a,vs,rfl,ha,hl,h⟩:=h
 obtain ⟨u,rfl,ru⟩:=zeT r
 cases ru
 obtain ⟨its,rv,pl,hz⟩:=I.list (.inl (.inl ha))
 have hlen:=rv.length
 have hsz:its.toArray.size=vs.length:=by rw [qz,hlen]
 have fin:∀ (n:Nat) (h':Heap) (tk:Nat) (o:Obj),h'.get? s.heap.objs.size=some o->ztE n o->(∀ b o,b < s.heap.objs.size->s.heap.get? b=some o->h'.get? b=some o) ->
   (∀ p,H p=none->Q (.ref p) (upd H p (zop p n)))->EP X pins σ Q (.ref s.heap.objs.size) { s with heap:=h',toks:=tk }:=fun n h' tk o ho hn hk q=>by
  refine ⟨.ref s.heap.objs.size,_,I.laid (a:=s.heap.objs.size) (o:=zop s.heap.objs.size n) (fun b u e=>hk b u (qt e) e) (qu _) ?_,rfl,q _ I.fresh⟩
  refine ⟨⟨o,ho,hn⟩,⟨o,ho⟩,fun h1 h2 hp hk2=>?_⟩
  obtain ⟨o1,q1,q2⟩:=hp
  exact ⟨o1,hk2 o1 q1,q2⟩
 rcases h with ⟨ks,rfl,q⟩ | ⟨ts,ht,hts,q⟩
 ·
  have hkl:ks.length=its.length:=by rw [← hlen,qe]
  refine zfr (I.ok.hd hc) pl.isList (fun i o=>o.SetObjOf (zba X.prog X.w) (fun k=>decide (k∈dd (ks.take i))) (dd (ks.take i)).length) (fun led=>?_) (fun A' hA' i v sh o Q' E' hi hv ho hJ hB hQ=>?_) fun h' tk o ho hJ hk=>?_
  ·have:=setObjOf_fresh (knd:=zba X.prog X.w) led
   simpa [dd] using this
  ·have hi':i < ks.length:=by rw [qz] at hi;omega
   obtain ⟨u2,hu2,ru2⟩:=rv.get (i:=i) (x:=kV ks[i]) (by simp [hi'])
   have ev:v=u2:=by
    have hv':its[i]?=some v:=by simpa using hv
    rw [hu2] at hv'
    exact (qF hv').symm
   subst ev
   have hkey:=zno (P:=X.prog) (w:=X.w) ru2
   have hle:(dd (ks.take i)).length<=300:=by
    have h1:=ziB (ks.take i)
    rw [qC] at h1
    rw [qe] at hl
    omega
   unfold setAdd
   refine qR (qv ((zba X.prog X.w).pyHash hkey ?_))
   refine wpAny_setAddHashed_of (knd:=zba X.prog X.w) (s:={ sh with toks:=sh.toks+1 }) hkey (zjQ _ _ hkey) (hJ.setOf ho (by unfold scanBound;omega)) (by unfold scanBound;omega) fun h' hsb hS2=>?_
   obtain ⟨o',ho',hso⟩:=hS2.objOf
   refine hQ _ h' _ o' (Nat.le_succ _) hsb ho' ?_
   have htk:ks.take (i+1)=ks.take i++[ks[i]]:=by rw [List.take_succ,qB hi'];rfl
   show Obj.SetObjOf (zba X.prog X.w) o' (fun k=>decide (k∈dd (List.take (i+1) ks))) (dd (List.take (i+1) ks)).length
   rw [htk,zjl]
   by_cases hm:ks[i]∈dd (ks.take i)
   ·rw [qX hm]
    rw [qX (by simpa using hm)] at hso
    have e:(fun k'=>decide (k'∈dd (ks.take i)) || decide (k'=ks[i]))=fun k'=>decide (k'∈dd (ks.take i)):=by
     funext k'
     by_cases hk':k'=ks[i]
     ·subst hk';simp [hm]
     ·simp [hk']
    rw [e] at hso
    exact hso
   ·rw [qY hm]
    rw [qY (by simpa using hm)] at hso
    have e:(fun k'=>decide (k'∈dd (ks.take i)) || decide (k'=ks[i]))=fun k'=>decide (k'∈dd (ks.take i)++[ks[i]]):=by
     funext k'
     rw [Bool.eq_iff_iff]
     simp
    rw [e] at hso
    simpa using hso
  ·have e:ks.take its.toArray.size=ks:=by rw [qz,← hkl];exact List.take_length
   rw [e] at hJ
   have hS:=hJ.setOf ho (by have:=ziB ks;rw [qe] at hl;unfold scanBound;omega)
   obtain ⟨o1,es,ep,t,v0,v1,v2,_,_,_,v3,v4⟩:=hS
   rw [ho] at v0
   cases v0
   exact fin _ h' tk o ho ⟨v1,es,ep,t,v2,v3,v4⟩ hk q
 ·
  have hkl:ts.length=its.length:=by rw [← hlen,ht]
  refine zfr (I.ok.hd hc) pl.isList (fun i o=>ST.TS (zba X.prog X.w) s.heap (ts.take i) o) (fun led=>?_) (fun A' hA' i v sh o Q' E' hi hv ho hJ hB hQ=>?_) fun h' tk o ho hJ hk=>?_
  ·refine ⟨⟨rfl,rfl,rfl⟩,#[],0,SetTable.fresh 0 0 led,rfl,?_,.inl rfl,fun i e he=>by simp at he,rfl,fun k hk=>by simp [dd] at hk,fun i k b he=>by simp at he⟩
   exact ⟨zrw,rfl,rfl,by simp [SetTable.fresh],by simp [SetTable.fresh],by simp [SetTable.fresh],fun i j h x hp=>by simp [SetTable.fresh] at hp⟩
  ·have hi':i < ts.length:=by rw [qz] at hi;omega
   obtain ⟨b,hb1,hb2⟩:=hts i ts[i] (by simp [hi'])
   obtain ⟨u2,hu2,ru2⟩:=rv.get hb1
   have ev:v=u2:=by
    have hv':its[i]?=some v:=by simpa using hv
    rw [hu2] at hv'
    exact (qF hv').symm
   subst ev
   cases ru2
   have hkey:=zjU I.hok hb2
   have htk:ts.take (i+1)=ts.take i++[ts[i]]:=by rw [List.take_succ,qB hi'];rfl
   refine zmD (fun v k=>zjQ v k) (by omega) ho hJ hkey (fun b' o' e=>hB b' o' (qt e) e) (by rw [qC];have:=hl;omega) fun bb h' tk o' h1 h2 h3 h4=>hQ bb h' tk o' h1 h2 h3 (by show ST.TS _ _ (List.take (i+1) ts) o';rw [htk];exact h4)
  ·have e:ts.take its.toArray.size=ts:=by rw [qz,← hkl];exact List.take_length
   rw [e] at hJ
   obtain ⟨hc',es,ep,t,w1,w2,w3,w4,w5,w6,w7⟩:=hJ
   exact fin _ h' tk o ho ⟨hc',es,ep,t,w1,w2.fits,w5⟩ hk q
theorem zjm:zdT X (.builtin "len") (fun xs H Q=>∃ p n,xs=[.ref p]/\H p=some (zop p n)/\n<=300/\Q (.int n) H):=by
 intro pins s σ H xs us Q I r h
 obtain ⟨p,n,rfl,hp,hn,q⟩:=h
 obtain ⟨u,rfl,ru⟩:=zeT r
 cases ru
 obtain ⟨⟨o,ho,hex,es,ep,t,w1,w2,w3⟩,_,_⟩:=I.hok p _ hp
 exact call_len_set ho hex w1 w2 (by omega) ⟨.int n,H,I.tok _,⟨_,by rw [w3]⟩,q⟩
end
end L2
end
section
namespace L2
open PySem PySem.Spec PyProof.Rows ST
def zd5:List D->Option (List (List Key))
 | []=>some []
 | .tup t::r=>(zfB t).bind fun k=>(zd5 r).map (k::·)
 | _::_=>none
theorem zgP {Γ:Cn} {K:PySem.W.Frag} {G H:Hp} (gh:zbT G H):∀ {vs:List V} {ds:List D} {ts:List (List Key)},Reps Γ K G vs ds->zd5 ds=some ts->vs.length=ts.length/\∀ (i:Nat) t,ts[i]?=some t->∃ b,vs[i]?=some (.ref b)/\H b=some (.tup (t.map kV))
 | _,[],ts,r,h=>by cases r;cases h;exact ⟨rfl,fun i t e=>by simp at e⟩
 | _,d::ds,ts,.cons h1 h2,h=>by
  cases d with
  | tup t =>
   unfold zd5 at h
   obtain ⟨k,hk,h⟩:=oBd h
   obtain ⟨zs,hz,rfl⟩:=oMd h
   obtain ⟨a,us,rfl,ha,ra⟩:=h1.tup_inv
   have e:=zeK ra hk
   subst e
   obtain ⟨q1,q2⟩:=zgP gh h2 hz
   refine ⟨by rw [qh,qh,q1],fun i t' e=>?_⟩
   cases i with
   | zero=>cases e;exact ⟨a,rfl,gh _ _ ha⟩
   | succ i=>exact q2 i t' e
  | _=>cases h
def ze3:D->Option D
 | .lst l=>if l.length<=300 then match zfB l with
  | some ks=>some (.int (dd ks).length)
  | none=>(zd5 l).map fun ts=>.int (dd ts).length
  else none
 | _=>none
section
variable {Γ:Cn} {X:Cx} {e:Expr} {f:FE} {pos p p2 pos2:Pos}
theorem zmh (hc:X.calm=true) (hu:X.A.units+66 < cLine) (hgl:Gl X "len") (hml:X.mg "len"=none) (hgs:Gl X "set") (hms:X.mg "set"=none) (h:DE Γ X e f)
  (h1:starEach ([.Call (.Name "set" p2) [e] [] pos2]:List Expr) X.env=(false,eval (.Call (.Name "set" p2) [e] [] pos2) X.env)::starEach [] X.env:=by rfl) (h2:(backTo pos (starEach [] X.env)).any (·.1)=false:=by rfl)
  (h3:starEach ([e]:List Expr) X.env=(false,eval e X.env)::starEach [] X.env:=by rfl) (h4:(backTo pos2 (starEach [] X.env)).any (·.1)=false:=by rfl) :
  DE Γ X (.Call (.Name "len" p) [.Call (.Name "set" p2) [e] [] pos2] [] pos) (b1 ze3 f):=⟨by
 refine (zeF zjm hgl hml (by rfl) (zbM (zfW (znM hc hu) hgs hms (by rfl) (zbM h.1 zdd h3) (by decide) (by decide) h3 h4) zdd h1) (by decide) (by decide) h1 h2).imp fun σ H Q=>?_
 rintro ⟨G₀,H₀,G,ρ,d,A,hq,k⟩
 unfold b1 at hq
 obtain ⟨x,hx,hl⟩:=oBd hq
 clear hq
 refine ⟨G₀,H₀,G,ρ,x,A,hx,fun v G1 H1 s1 r1=>?_⟩
 unfold ze3 at hl
 split at hl
 ·rename_i l
  split at hl
  ·rename_i hz
   obtain ⟨a,vs,rfl,ha,ra⟩:=r1.lst_inv
   have go:∀ (n:Nat),n<=300->d=.int n->∀ p,H1 p=none->∃ p' n',[V.ref p]=[V.ref p']/\(upd H1 p (zop p n)) p'=some (zop p' n')/\n'<=300/\Q (.int n') (upd H1 p (zop p n)):=fun n hn ed p hp=>by
    subst ed
    refine ⟨p,n,rfl,zav,hn,k _ G1 _ (s1.trans (Step.newOwn s1.gh hp)) (.int _)⟩
   refine ⟨a,vs,rfl,s1.gh _ _ ha,by rw [ra.length];exact hz,?_⟩
   split at hl
   ·rename_i ks hk
    refine .inl ⟨ks,zeK ra hk,go _ ?_ (qF hl).symm⟩
    have h5:=ziB ks
    have h6:ks.length=l.length:=by
     have:=zeK ra hk
     rw [← ra.length,this,qe]
    omega
   ·obtain ⟨ts,ht,e1⟩:=oMd hl
    obtain ⟨q1,q2⟩:=zgP s1.gh ra ht
    refine .inr ⟨ts,q1,q2,go _ ?_ e1.symm⟩
    have h5:=ziB ts
    have h6:=ra.length
    omega
  ·cases hl
 ·cases hl⟩
end
end L2
end
section
namespace DT
open PySem PySem.Spec PyProof.Rows
theorem zpe:typeLookup (.type "list") "keys"=pure none:=by rw [typeLookup_type,builtinLookup_eq_fast];kernel_rfl
theorem zpf:typeLookup (.type "list") "__getattr__"=pure none:=by rw [typeLookup_type,builtinLookup_eq_fast];kernel_rfl
theorem zly {l:Addr} {u:Tok} {R:Result->Shared->Prop} {prog:Program} {w:World} {A:Around} {s:Shared} {xs:Array Value} {n:Nat} (hx:s.heap.get? l=some { cls:=.type "list",data:=.seq xs n }) (hA:A.handled=none)
  (h:∀ h' tk e,Heap.NewAttrErr s.heap h' e (.ref l) "keys"->R (.error (.ref e)) { s with heap:=h',toks:=tk }) :
  codeAny (model prog w) A (.call (.builtin "list.__getattribute__") ⟨[.ref l,.str "keys" u],[]⟩) R s:=by
 obtain ⟨hp,g,d,tk,os⟩:=s
 have hT:(⟨hp,g,d,tk,os⟩:Shared).TypeIs (.ref l) "list":=⟨_,hx,rfl⟩
 have f1:=zpe
 refine codeAny_call_builtin F.slot_list_getattribute.plain F.entry_list_ga (F.slot_list_getattribute.check _ _ _ _ _ _ _ _ hT (F.args_list_getattribute_2 _ _) ?_)
 unfold Builtin.«object.__getattribute__»
 repeat (any_goals (first | assumption | wp_step))
 have hsz:(Str.ofString "keys").length+100<=sizeLine:=by rw [PySem.ofString_length];decide
 refine wpAny_raiseAttrError (A:=A.in1) hA h ?_
 exact attrMsg_fits (by decide +kernel) hsz
set_option maxHeartbeats 4000000 in
theorem zlL {l:Addr} {Q:Option Value->Shared->Prop} {prog:Program} {w:World} {A:Around} {E:Value->Shared->Prop} {s:Shared} {xs:Array Value} {n:Nat} (hx:s.heap.get? l=some { cls:=.type "list",data:=.seq xs n }) (hA:A.handled=none)
  (h:∀ h' tk,(∀ b ob,s.heap.get? b=some ob->h'.get? b=some ob)->Q none { s with heap:=h',toks:=tk }) :
  wpAny (model prog w) A (getAttr? (.ref l) "keys") Q E s:=by
 obtain ⟨hp,g,d,tk,os⟩:=s
 have hT:∀ tk',(⟨hp,g,d,tk',os⟩:Shared).TypeIs (.ref l) "list":=fun _=>⟨_,hx,rfl⟩
 have f1:=sub_AttributeError
 have f2:=F.slot_list_getattribute.lookup
 have f3:=F.slot_list_getattribute.bind (.ref l)
 have f5:=zpf
 unfold getAttr? getAttrBy?
 refine qv (wpAny_mkText ?_)
 refine qv (wpAny_attempt ?_)
 unfold getAttrBy
 refine qR (qv (wpAny_typeOf (hT _) (qv (wpAny_of_eq f2 ?_))))
 show wpAny _ _ (getAttrByItsOwn _ _ _ _ _ _) _ _ _
 unfold getAttrByItsOwn
 refine qv (m:=hookBefore (Value.type "list")) (qy ?_)
 refine qv (wpAny_attempt (qR ?_))
 show wpAny _ _ (boundAndCalled _ _ _) _ _ _
 unfold boundAndCalled
 refine qv (wpAny_of_eq f3 ?_)
 refine wpAny_call (zly (s:=⟨hp,g,d,tk+1,os⟩) hx hA fun h' tk' e hn=>?_)
 obtain ⟨t',u',he⟩:=hn.there
 have hE:Shared.TypeIs ⟨h',g,d,tk',os⟩ (.ref e) "AttributeError":=⟨_,he,rfl⟩
 show wpAny _ _ (getattributeRaised _ _ _ _ _ _ _) _ _ _
 unfold getattributeRaised
 refine qv (wpAny_isInstance hE f1 ?_)
 simp only [if_true]
 refine qv (m:=hookBehind (Value.type "list") none) (wpAny_of_eq f5 ?_)
 unfold hookOrError attributeErrorLeaves
 simp only [Bool.not_false,if_true]
 refine qv (wpAny_throw ?_)
 refine qv (wpAny_isInstance hE f1 ?_)
 simp only [if_true]
 exact qy (h h' tk' hn.keeps)
end DT
end
section
namespace DT
open PySem PySem.Spec PyProof.Rows
theorem zhc:entryFor table "dict.update.loop"=some Builtin.«dict.update.loop»:=entryFor_of_tree (by kernel_rfl)
theorem zdU:plainId "dict.update.loop"=true:=by decide +kernel
section
variable {prog:Program} {w:World} {A:Around} {R:Result->Shared->Prop} {I:Addr} {fp wr:List Addr} {G:Array GenState->Array GenState->Prop} {n:Nat} {P:Nat->Value->Prop} {St:Nat->Shared->Prop}
def zrZ (prog:Program) (w:World) (A:Around) (S:Addr) (h0:Heap) (P:Nat->Value->Prop) (n:Nat) (J:Nat->Obj->Prop):Prop :=
 ∀ (i:Nat) (b:Addr) (kv vv:Value) (s:Shared) (o:Obj) (Q:Unit->Shared->Prop) (E:Value->Shared->Prop),i < n->P i (.ref b)->h0.IsTuple b #[kv,vv]->s.heap.get? S=some o->J i o->(∀ b o,b < h0.objs.size->h0.get? b=some o->s.heap.get? b=some o) ->
  (∀ h' tk o',s.toks<=tk->Heap.SameBut S s.heap h'->h'.get? S=some o'->J (i+1) o'->Q () { s with heap:=h',toks:=tk })->wpAny (model prog w) A (dictSet S kv vv) Q E s
theorem zmb (W:WalksS prog w A.in1 I fp wr G n P St) (S:Addr) (hSf:S∉fp) (h0:Heap) (hS0:h0.objs.size<=S) (hw0:∀ b∈wr,h0.objs.size<=b) (J:Nat->Obj->Prop) (hadd:zrZ prog w A.in1 S h0 P n J) (hP:∀ i v,P i v->∃ b kv vv,v=.ref b/\h0.IsTuple b #[kv,vv]) :
  ∀ (k i:Nat) (c:Int) (s:Shared) (o:Obj),n - i=k->i<=n->St i s->s.heap.get? S=some o->J i o->(∀ b o,b < h0.objs.size->h0.get? b=some o->s.heap.get? b=some o) ->
   (∀ s' o',Moved (S::wr) G s s'->s'.heap.get? S=some o'->J n o'->R (.ok (.ret .none)) s') ->
   codeAny (model prog w) A (.builtin "dict.update.loop" ⟨[.ref S,.ref I,rawInt c,.none],[]⟩) R s:=by
 have hSw:S∉wr:=fun h=>hSf (W.sub _ h)
 have hsub:∀ b∈wr,b∈S::wr:=fun b hb=>qg _ hb
 have keep:∀ {h h':Heap},(∀ b o,b < h0.objs.size->h0.get? b=some o->h.get? b=some o)->(∀ b o,b∉S::wr->h.get? b=some o->h'.get? b=some o)->∀ b o,b < h0.objs.size->h0.get? b=some o->h'.get? b=some o:=fun q1 q2 b o hb e=>q2 b o (fun z=>by
  rcases List.mem_cons.mp z with z | z
  ·rw [z] at hb;exact absurd hb (Nat.not_lt.mpr hS0)
  ·exact absurd hb (Nat.not_lt.mpr (hw0 b z))) (q1 b o hb e)
 intro k
 induction k with
 | zero =>
  intro i c s o hk hi hst hS hJ hB hR
  have hin:i=n:=by omega
  subst hin
  refine codeAny_builtin zhc ?_
  rw [Around.under_plainId zdU _]
  show wpAny _ A.in1 (pyNext (.ref I) >>= _) _ _ s
  refine qv (W.done s _ _ hst fun s' hm=>?_)
  show wpAny _ A.in1 (Builtin.Dict.addKeywords S [] >>= _) _ _ s'
  exact qv (qy (qy (hR s' o (hm.mono hsub) (hm.heap S _ hSw hS) hJ)))
 | succ k ih =>
  intro i c s o hk hi hst hS hJ hB hR
  have hlt:i < n:=by omega
  refine codeAny_builtin zhc ?_
  rw [Around.under_plainId zdU _]
  show wpAny _ A.in1 (pyNext (.ref I) >>= _) _ _ s
  refine qv (W.item i s _ _ hlt hst fun v s' hPv hst' hm=>?_)
  obtain ⟨b,kv,vv,rfl,hb⟩:=hP i v hPv
  have hB':=keep hB fun b o hb e=>hm.heap b o (fun z=>hb (hsub b z)) e
  obtain ⟨ob,hob,hoc,nn,hod⟩:=hb
  have hob':s'.heap.get? b=some ob:=hB' b ob (qt hob) hob
  have hTb:s'.TypeIs (.ref b) "tuple":=⟨_,hob',hoc⟩
  show wpAny _ A.in1 (holding [Value.ref b] _ >>= _) _ _ s'
  refine qv (qR ?_)
  refine qv ?_
  refine wpAny_tryCatch ?_
  unfold Builtin.Dict.pairItems
  refine qv (wpAny_typeOf hTb ?_)
  rw [qX (by decide)]
  refine qv (wpAny_seqItems hob' hod (qy ?_))
  show wpAny _ A.in1 (holding [kv,vv] (dictSet S kv vv)) _ _ s'
  refine qR (hadd i b kv vv s' o _ _ hlt hPv ⟨ob,hob,hoc,nn,hod⟩ (hm.heap S _ hSw hS) hJ hB' fun h' tk o' htk hsb hS' hJ'=>?_)
  refine qy ⟨plainId_quiet zdU _,ih (i+1) (c+1) _ o' (by omega) hlt (W.frame _ s' _ _ hst' htk fun b hb o e=>?_) hS' hJ' ?_ fun s'' o'' hm'' hS'' hJ''=>?_⟩
  ·rw [hsb.2 b (fun h:b=S=>hSf (by rw [← h];exact hb))];exact e
  ·refine keep hB' fun b o hb e=>?_
   show h'.get? b=some o
   rw [hsb.2 b (fun h:b=S=>hb (by rw [h];exact qf))];exact e
  ·refine hR s'' o'' (Moved.trans W.gtrans ((hm.mono hsub).then_heap htk fun b o hb e=>?_) hm'') hS'' hJ''
   rw [hsb.2 b (fun h:b=S=>hb (by rw [h];exact qf))];exact e
end
section
variable {prog:Program} {w:World} {A:Around} {E:Value->Shared->Prop} {s:Shared}
theorem call_dict_gen {l:Addr} {items:Array Value} {c:Nat} {Q:Value->Shared->Prop} (hh:A.handled=none) (hl:s.heap.get? l=some { cls:=.type "list",data:=.seq items c }) (J:Nat->Obj->Prop)
  (hJ0:J 0 { cls:=.type "dict",data:=.dict #[] })
  (hadd:∀ A':Around,A'.units<=A.units+16->zrZ prog w A' s.heap.objs.size s.heap (fun i v=>items[i]?=some v) items.size J)
  (hP:∀ (i:Nat) (v:Value),items[i]?=some v->∃ b kv vv,v=.ref b/\s.heap.IsTuple b #[kv,vv])
  (h:∀ (h':Heap) (tk:Nat) (o:Obj),h'.get? s.heap.objs.size=some o->J items.size o ->
   (∀ b o,b < s.heap.objs.size->s.heap.get? b=some o->h'.get? b=some o)->Q (.ref s.heap.objs.size) { s with heap:=h',toks:=tk }) :
  wpAny (model prog w) A (call (.type "dict") [.ref l]) Q E s:=by
 refine callType_codes (Q₁:=fun obj s₁=>obj=.ref s.heap.objs.size/\s₁={ s with heap:=s.heap.push { cls:=.type "dict",data:=.dict #[] } }) F.kt_called_dict (F.kt_typeCall_dict_1 _) F.entry_dict_init (kt_code_dict_new _ ⟨rfl,rfl⟩) ?_
 rintro obj s₁ ⟨rfl,rfl⟩
 have hnew:(s.heap.push { cls:=.type "dict",data:=.dict #[] }).get? s.heap.objs.size=some { cls:=.type "dict",data:=.dict #[] }:=qE _ rfl
 have hl1:(s.heap.push { cls:=.type "dict",data:=.dict #[] }).get? l=some { cls:=.type "list",data:=.seq items c }:=qr _ hl
 have hT:Shared.TypeIs { s with heap:=s.heap.push { cls:=.type "dict",data:=.dict #[] } } (.ref s.heap.objs.size) "dict":=⟨_,hnew,rfl⟩
 have hTl:Shared.TypeIs { s with heap:=s.heap.push { cls:=.type "dict",data:=.dict #[] } } (.ref l) "list":=⟨_,hl1,rfl⟩
 refine ⟨hT,F.args_dict_init_2 _ _,?_⟩
 unfold Builtin.«dict.__init__»
 refine qv ?_
 unfold Builtin.Dict.selfAndRest
 refine qv (wpAny_notOrdered_dict hT ?_)
 show wpAny _ _ (pure (s.heap.objs.size,[Value.ref l])) _ _ _
 refine qy ?_
 show wpAny _ _ (Builtin.Dict.updateFrom "dict.__init__" s.heap.objs.size (.ref l) [] .none) _ _ _
 unfold Builtin.Dict.updateFrom
 refine qv (wpAny_typeOf hTl ?_)
 rw [qX (by decide)]
 refine qv (zlL (s:={ s with heap:=s.heap.push { cls:=.type "dict",data:=.dict #[] } }) (A:=A.in1.in1) hl1 hh fun h1 tk1 hk1=>?_)
 simp only [Option.isNone_none,if_true]
 refine qv (wpAny_rule ?_)
 have hl2:h1.IsList l items:=⟨_,hk1 _ _ hl1,rfl,_,rfl⟩
 refine qv (wpAny_pyIter_list (s:={ s with heap:=h1,toks:=tk1 }) hl2 ?_)
 refine qy ⟨plainId_quiet zdU _,?_⟩
 have hlS:l < s.heap.objs.size:=qt hl
 have hsz1:s.heap.objs.size < h1.objs.size:=qt (hk1 _ _ hnew)
 have hneI:l≠h1.objs.size:=qA (Nat.lt_trans hlS hsz1)
 have hSf:s.heap.objs.size∉[h1.objs.size,l]:=by
  simp only [qJ,List.mem_singleton,qH,or_false,not_or]
  exact ⟨qA hsz1,Nat.ne_of_gt hlS⟩
 have old:∀ b o,b < s.heap.objs.size->s.heap.get? b=some o->h1.get? b=some o:=fun b o _ e=>hk1 _ _ (qr _ e)
 refine zmb ((Walks.list (A:=A.in1.in1) (by simpa using hh) _ l hneI items).toS) s.heap.objs.size hSf s.heap (qu _) (fun b hb=>?_) J (hadd _ (by show A.units+2<=_;omega)) hP (items.size - 0) 0 0 _ _ (by omega) (Nat.zero_le _)
  ⟨⟨_,qE _ rfl,rfl,rfl⟩,hl2.push _⟩ (qr _ (hk1 _ _ hnew)) hJ0 (fun b o hb e=>qr _ (old b o hb e)) fun s' o' hm hS' hJ'=>?_
 ·have:b=h1.objs.size:=by simpa using hb
  rw [this];exact Nat.le_of_lt hsz1
 ·obtain ⟨h',g',d',tk',os'⟩:=s'
  have eg:g'=s.gens:=hm.gens
  have ed:d'=s.drawn:=hm.drawn
  have eo:os'=s.os:=hm.os
  subst eg;subst ed;subst eo
  refine ⟨rfl,h h' tk' o' hS' hJ' fun b o hb e=>hm.heap b o ?_ (qr _ (old b o hb e))⟩
  simp only [qJ,List.mem_singleton,qH,or_false,not_or]
  exact ⟨qA hb,qA (Nat.lt_trans hb hsz1)⟩
end
end DT
end
section
namespace L2
open PySem PySem.Spec PyProof.Rows
section
variable {κ:Type} [DecidableEq κ]
def mrg (kvs ps:List (κ×V)):List (κ×V):=ps.foldl (fun acc kv=>zgV acc kv.1 kv.2) kvs
theorem zjP (kvs ps:List (κ×V)) (p:κ×V):mrg kvs (ps++[p])=zgV (mrg kvs ps) p.1 p.2:=by unfold mrg;rw [List.foldl_append];rfl
theorem zmY (kvs:List (κ×V)) (k:κ) (v:V):(zgV kvs k v).length<=kvs.length+1:=by
 unfold zgV
 split
 ·rw [qe];omega
 ·rw [qi,qU];omega
theorem zfZ:∀ (ps kvs:List (κ×V)),(mrg kvs ps).length<=kvs.length+ps.length
 | [],kvs=>qu _
 | p::ps,kvs=>by
  have h1:=zfZ ps (zgV kvs p.1 p.2)
  have h2:=zmY kvs p.1 p.2
  show (mrg (zgV kvs p.1 p.2) ps).length<=_
  rw [qh]
  omega
end
section
variable {X:Cx}
def zqy:List V->Hp->VK->Prop:=fun xs H Q=>∃ (a:Addr) (vs:List V) (ps:List (Key×V)),xs=[.ref a]/\H a=some (.lst vs)/\vs.length=ps.length/\ps.length<=1000/\(∀ (i:Nat) p,ps[i]?=some p->∃ b,vs[i]?=some (.ref b)/\H b=some (.tup [kV p.1,p.2])) /\
 ∀ q,H q=none->Q (.ref q) (upd H q (.dK (mrg [] ps)))
theorem zlp {pins:List (Addr×Obj)} {σ:St} {H:Hp} {s:Shared} {b:Addr} {x y:V} (I:Inv X pins σ H s) (hb:H b=some (.tup [x,y])):∃ u v,zb9 x u/\zb9 y v/\s.heap.IsTuple b #[u,v]:=by
 obtain ⟨its,r,p,_⟩:=I.tuple (.inl (.inl hb))
 cases r with
 | cons r1 r2 =>
  cases r2 with
  | cons r2 r3 =>
   cases r3
   exact ⟨_,_,r1,r2,p⟩
theorem tuple_inj {h:Heap} {b:Addr} {x y:Array Value} (p:h.IsTuple b x) (q:h.IsTuple b y):x=y:=by
 obtain ⟨o,h1,_,n,h2⟩:=p
 obtain ⟨o',g1,_,m,g2⟩:=q
 rw [h1] at g1
 cases g1
 rw [h2] at g2
 cases g2
 rfl
theorem zkJ (hc:X.calm=true) (hu:X.A.units+66 < cLine):zdT X (.type "dict") zqy:=by
 intro pins s σ H xs us Q I r h
 obtain ⟨a,vs,ps,rfl,ha,hl,hz,hp,q⟩:=h
 obtain ⟨u,rfl,ru⟩:=zeT r
 cases ru
 obtain ⟨z,its,n,rv,hlen,e⟩:=I.lstM ha
 have hsz:its.toArray.size=ps.length:=by rw [qz,← hlen,hl]
 have hit:∀ (i:Nat) (v:Value),its.toArray[i]?=some v->∃ p b u w,ps[i]?=some p/\v=.ref b/\zb9 (kV p.1) u/\zb9 p.2 w/\s.heap.IsTuple b #[u,w]:=fun i v hv=>by
  have hi:i < ps.length:=by rw [← hsz];exact (Array.getElem?_eq_some_iff.mp hv).1
  obtain ⟨b,hb1,hb2⟩:=hp i ps[i] (by simp [hi])
  obtain ⟨u2,hu2,ru2⟩:=rv.get hb1
  have hv':its[i]?=some v:=by simpa using hv
  rw [hu2] at hv'
  cases hv'
  cases ru2
  obtain ⟨u,w,r1,r2,r3⟩:=zlp I hb2
  exact ⟨ps[i],b,u,w,by simp [hi],rfl,r1,r2,r3⟩
 refine DT.call_dict_gen (I.ok.hd hc) e (fun i o=>∃ vs',KV (mrg [] (ps.take i)) vs'/\o.IsDictOf (zba X.prog X.w) vs') ?_ (fun A' hA' i b kv vv sh o Q' E' hi hv hb ho hJ hB hQ=>?_) (fun i v hv=>?_) fun h' tk o ho hJ hk=>?_
 ·obtain ⟨o,ho,hd⟩:=Heap.dictOf_iff.mp (Heap.DictOf.new (knd:=zba X.prog X.w) s.heap)
  have:o={ cls:=.type "dict",data:=.dict #[] }:=by
   have:=qE s.heap (o:={ cls:=.type "dict",data:=.dict #[] }) rfl
   rw [this] at ho
   exact (qF ho).symm
  subst this
  exact ⟨[],.nil,hd⟩
 ·obtain ⟨p,b',u,w,h1,h2,h3,h4,h5⟩:=hit i _ hv
  cases h2
  have e2:=tuple_inj hb h5
  have e3:kv=u/\vv=w:=by simpa using e2
  obtain ⟨rfl,rfl⟩:=e3
  obtain ⟨vs',k1,k2⟩:=hJ
  have hle:vs'.length<=1000:=by
   have q1:=k1.length
   have q2:=zfZ (ps.take i) ([]:List (Key×V))
   rw [qC,qk] at q2
   omega
  refine wpAny_dictSet_pairs (zno h3) (Heap.dictOf_iff.mpr ⟨o,ho,k2⟩) (fun h' hd' hsb=>?_) (by rw [sizeLine_eq];omega)
  obtain ⟨o',ho',hd''⟩:=Heap.dictOf_iff.mp hd'
  refine hQ h' _ o' (Nat.le_succ _) hsb ho' ⟨_,?_,hd''⟩
  have htk:ps.take (i+1)=ps.take i++[p]:=by rw [List.take_succ,h1];rfl
  rw [htk,zjP]
  exact k1.put p.1 h4
 ·obtain ⟨p,b,u,w,h1,h2,h3,h4,h5⟩:=hit i v hv
  exact ⟨b,u,w,h2,h5⟩
 ·obtain ⟨vs',k1,k2⟩:=hJ
  rw [hsz,List.take_length] at k1
  refine ⟨.ref s.heap.objs.size,_,I.laid (a:=s.heap.objs.size) (o:=.dK (mrg [] ps)) (fun b u e=>hk b u (qt e) e) (qu _) ⟨?_,?_,vs',k1,Heap.dictOf_iff.mpr ⟨o,ho,k2⟩⟩,rfl,q _ I.fresh⟩
  ·have:=zfZ ps ([]:List (Key×V))
   rw [qk] at this
   rw [sizeLine_eq]
   omega
  ·exact beq_eq_false_iff_ne.mpr (Ne.symm (qA I.big))
def zqx:List V->Hp->VK->Prop:=fun xs H Q=>∃ (a:Addr) (vs:List V) (ps:List (List Key×V)),xs=[.ref a]/\H a=some (.lst vs)/\vs.length=ps.length/\ps.length<=1000/\(∀ (i:Nat) p,ps[i]?=some p->∃ b kb,vs[i]?=some (.ref b)/\H b=some (.tup [.ref kb,p.2])/\H kb=some (.tup (p.1.map kV))) /\
 ∀ q,H q=none->Q (.ref q) (upd H q (.dT (mrg [] ps)))
theorem zra {H:Hp} {P:List Key->Addr->Prop} (hP:∀ k b,H b=some (.tup (k.map kV))->P k b):∀ {kvs:List (List Key×V)} {xs:List (List Key×Addr×Value)},KT H kvs xs->∀ x∈xs,P x.1 x.2.1:=by
 intro kvs xs q
 induction q with
 | nil=>intro x hx;cases hx
 | @cons p y ps ys hq t ih =>
  intro x hx
  rcases List.mem_cons.mp hx with rfl | hx
  ·exact hP _ _ (by rw [← hq.1];exact hq.2.1)
  ·exact ih x hx
theorem zkI (hc:X.calm=true) (hu:X.A.units+66 < cLine):zdT X (.type "dict") zqx:=by
 intro pins s σ H xs us Q I r h
 obtain ⟨a,vs,ps,rfl,ha,hl,hz,hp,q⟩:=h
 obtain ⟨u,rfl,ru⟩:=zeT r
 cases ru
 obtain ⟨z,its,n,rv,hlen,e⟩:=I.lstM ha
 have hsz:its.toArray.size=ps.length:=by rw [qz,← hlen,hl]
 have hit:∀ (i:Nat) (v:Value),its.toArray[i]?=some v->∃ p b kb w,ps[i]?=some p/\v=.ref b/\H kb=some (.tup (p.1.map kV))/\zb9 p.2 w/\s.heap.IsTuple b #[.ref kb,w]:=fun i v hv=>by
  have hi:i < ps.length:=by rw [← hsz];exact (Array.getElem?_eq_some_iff.mp hv).1
  obtain ⟨b,kb,hb1,hb2,hb3⟩:=hp i ps[i] (by simp [hi])
  obtain ⟨u2,hu2,ru2⟩:=rv.get hb1
  have hv':its[i]?=some v:=by simpa using hv
  rw [hu2] at hv'
  cases hv'
  cases ru2
  obtain ⟨u,w,r1,r2,r3⟩:=zlp I hb2
  cases r1
  exact ⟨ps[i],b,kb,w,by simp [hi],rfl,hb3,r2,r3⟩
 have isk:∀ {h':Heap},(∀ b o,b < s.heap.objs.size->s.heap.get? b=some o->h'.get? b=some o)->∀ k b,H b=some (.tup (k.map kV))->(tupleKind (zba X.prog X.w)).is h' k b:=fun hB k b hb=>ST.IsTupleKey.mono (zjU I.hok hb) fun o e=>hB _ _ (qt e) e
 refine DT.call_dict_gen (I.ok.hd hc) e (fun i o=>∃ xs',KT H (mrg [] (ps.take i)) xs'/\∃ es ep,o.ExactDict/\o.data=.dict es ep/\es.toList=xs'.map (entryOfKey (tupleKind (zba X.prog X.w)))/\(xs'.map (·.1)).Nodup) ?_ (fun A' hA' i b kv vv sh o Q' E' hi hv hb ho hJ hB hQ=>?_) (fun i v hv=>?_) fun h' tk o ho hJ hk=>?_
 ·exact ⟨[],.nil,#[],0,⟨rfl,rfl,rfl⟩,rfl,rfl,List.nodup_nil⟩
 ·obtain ⟨p,b',kb,w,h1,h2,h3,h4,h5⟩:=hit i _ hv
  cases h2
  have e2:=tuple_inj hb h5
  have e3:kv=.ref kb/\vv=w:=by simpa using e2
  obtain ⟨rfl,rfl⟩:=e3
  obtain ⟨xs',k1,es,ep,k2,k3,k4,k5⟩:=hJ
  have hle:xs'.length<=1000:=by
   have q1:=Paired.length k1
   have q2:=zfZ (ps.take i) ([]:List (List Key×V))
   rw [qC,qk] at q2
   omega
  refine wpAny_dictSet_heap (knd:=tupleKind (zba X.prog X.w)) (show A'.units < cLine by omega) (isk hB _ _ h3) ⟨o,es,ep,ho,k2,k3,k4,zra (isk hB) k1,k5⟩ (fun h' hd' hsb=>?_) (by rw [sizeLine_eq];omega)
  obtain ⟨o',es',ep',ho',w2,w3,w4,_,w5⟩:=hd'
  refine hQ h' _ o' (Nat.le_add_right _ _) hsb ho' ⟨_,?_,es',ep',w2,w3,w4,w5⟩
  have htk:ps.take (i+1)=ps.take i++[p]:=by rw [List.take_succ,h1];rfl
  rw [htk,zjP]
  exact k1.put p.1 h3 h4
 ·obtain ⟨p,b,kb,w,h1,h2,h3,h4,h5⟩:=hit i v hv
  exact ⟨b,_,w,h2,h5⟩
 ·obtain ⟨xs',k1,es,ep,k2,k3,k4,k5⟩:=hJ
  rw [hsz,List.take_length] at k1
  refine ⟨.ref s.heap.objs.size,_,I.laid (a:=s.heap.objs.size) (o:=.dT (mrg [] ps)) (fun b u e=>hk b u (qt e) e) (qu _) ⟨?_,?_,xs',k1.keeps fun b ys e=>?_,o,es,ep,ho,k2,k3,k4,k5⟩,rfl,q _ I.fresh⟩
  ·have:=zfZ ps ([]:List (List Key×V))
   rw [qk] at this
   rw [sizeLine_eq]
   omega
  ·exact beq_eq_false_iff_ne.mpr (Ne.symm (qA I.big))
  ·rw [zaq (zas e I.fresh)];exact e
end
section
variable {Γ:Cn} {X:Cx}
def zg0:List D->Option (List (Key×D))
 | []=>some []
 | .tup [k,v]::r=>(znD k).bind fun kk=>(zg0 r).map ((kk,v)::·)
 | _::_=>none
def zfX:List D->Option (List (List Key×D))
 | []=>some []
 | .tup [.tup t,v]::r=>(zfB t).bind fun kk=>(zfX r).map ((kk,v)::·)
 | _::_=>none
def zr7 {κ:Type} [DecidableEq κ] (ps:List (κ×D)):List (κ×D):=ps.foldl (fun acc kv=>zko acc kv.1 kv.2) []
def ziy:List D->Option D
 | [.lst l]=>if l.length<=1000 then (zg0 l).map fun ps=>.dk (zr7 ps) else none
 | _=>none
def zj3:List D->Option D
 | [.lst l]=>if l.length<=1000 then (zfX l).map fun ps=>.dt (zr7 ps) else none
 | _=>none
theorem zlK {κ:Type} [DecidableEq κ] {K:PySem.W.Frag} {G:Hp}:∀ {us:List (κ×V)} {kvs:List (κ×D)} {acc:List (κ×V)} {acd:List (κ×D)},us.map (·.1)=kvs.map (·.1)->Reps Γ K G (us.map (·.2)) (kvs.map (·.2))->acc.map (·.1)=acd.map (·.1)->Reps Γ K G (acc.map (·.2)) (acd.map (·.2)) ->
  (mrg acc us).map (·.1)=(kvs.foldl (fun acc kv=>zko acc kv.1 kv.2) acd).map (·.1)/\Reps Γ K G ((mrg acc us).map (·.2)) ((kvs.foldl (fun acc kv=>zko acc kv.1 kv.2) acd).map (·.2))
 | [],[],_,_,_,_,e,r=>⟨e,r⟩
 | [],_::_,_,_,e,_,_,_=>by cases e
 | _::_,[],_,_,e,_,_,_=>by cases e
 | (k1,v)::us,(k2,d)::kvs,acc,acd,e,r,e0,r0=>by
  have e1:k1=k2:=(List.cons.inj e).1
  subst e1
  have r:Reps Γ K G (v::us.map (·.2)) (d::kvs.map (·.2)):=r
  cases r with
  | cons r1 r2 =>
   obtain ⟨w1,w2⟩:=zn9 (k:=k1) r1 e0 r0
   exact zlK (us:=us) (kvs:=kvs) (List.cons.inj e).2 r2 w1 w2
theorem zin {K:PySem.W.Frag} {G H:Hp} (gh:zbT G H):∀ {vs:List V} {ds:List D} {ps:List (Key×D)},Reps Γ K G vs ds->zg0 ds=some ps ->
  ∃ us:List (Key×V),vs.length=us.length/\us.map (·.1)=ps.map (·.1)/\Reps Γ K G (us.map (·.2)) (ps.map (·.2))/\∀ (i:Nat) p,us[i]?=some p->∃ b,vs[i]?=some (.ref b)/\H b=some (.tup [kV p.1,p.2])
 | _,[],ps,r,h=>by cases r;cases h;exact ⟨[],rfl,rfl,.nil,fun i p e=>by simp at e⟩
 | _,d::ds,ps,.cons h1 h2,h=>by
  unfold zg0 at h
  split at h
  ·rename_i heq;cases heq
  ·rename_i heq
   cases heq
   obtain ⟨kk,hk,h⟩:=oBd h
   obtain ⟨zs,hz,rfl⟩:=oMd h
   obtain ⟨us,q1,q2,q3,q4⟩:=zin gh h2 hz
   obtain ⟨a,ws,rfl,ha,ra⟩:=h1.tup_inv
   obtain ⟨x,y,rfl,rx,ry⟩:=ra.two
   have ex:=zjj rx hk
   subst ex
   refine ⟨(kk,y)::us,by rw [qh,qh,q1],by simp [q2],.cons ry q3,fun i p e=>?_⟩
   cases i with
   | zero=>cases e;exact ⟨a,rfl,gh _ _ ha⟩
   | succ i=>exact q4 i p e
  ·cases h
theorem zim {K:PySem.W.Frag} {G H:Hp} (gh:zbT G H):∀ {vs:List V} {ds:List D} {ps:List (List Key×D)},Reps Γ K G vs ds->zfX ds=some ps ->
  ∃ us:List (List Key×V),vs.length=us.length/\us.map (·.1)=ps.map (·.1)/\Reps Γ K G (us.map (·.2)) (ps.map (·.2))/\∀ (i:Nat) p,us[i]?=some p->∃ b kb,vs[i]?=some (.ref b)/\H b=some (.tup [.ref kb,p.2])/\H kb=some (.tup (p.1.map kV))
 | _,[],ps,r,h=>by cases r;cases h;exact ⟨[],rfl,rfl,.nil,fun i p e=>by simp at e⟩
 | _,d::ds,ps,.cons h1 h2,h=>by
  unfold zfX at h
  split at h
  ·rename_i heq;cases heq
  ·rename_i heq
   cases heq
   obtain ⟨kk,hk,h⟩:=oBd h
   obtain ⟨zs,hz,rfl⟩:=oMd h
   obtain ⟨us,q1,q2,q3,q4⟩:=zim gh h2 hz
   obtain ⟨a,ws,rfl,ha,ra⟩:=h1.tup_inv
   obtain ⟨x,y,rfl,rx,ry⟩:=ra.two
   obtain ⟨kb,ks,rfl,hkb,rk⟩:=rx.tup_inv
   have ex:=zeK rk hk
   subst ex
   refine ⟨(kk,y)::us,by rw [qh,qh,q1],by simp [q2],.cons ry q3,fun i p e=>?_⟩
   cases i with
   | zero=>cases e;exact ⟨a,kb,rfl,gh _ _ ha,gh _ _ hkb⟩
   | succ i=>exact q4 i p e
  ·cases h
theorem zjz (hc:X.calm=true) (hu:X.A.units+66 < cLine):TyD Γ X "dict" ziy:=⟨_,zkJ hc hu,fun {G H vs ds z} gh r h Q k=>by
 unfold ziy at h
 split at h
 ·split at h
  ·rename_i hz
   obtain ⟨ps,hp,rfl⟩:=oMd h
   obtain ⟨v,rfl,r1⟩:=r.one
   obtain ⟨a,ws,rfl,ha,ra⟩:=r1.lst_inv
   obtain ⟨us,q1,q2,q3,q4⟩:=zin gh ra hp
   refine ⟨a,ws,us,rfl,gh _ _ ha,q1,by rw [← q1,ra.length];exact hz,q4,fun p hp=>?_⟩
   have s:=Step.new (o:=.dK (mrg [] us)) gh hp
   obtain ⟨w1,w2⟩:=zlK (acc:=[]) (acd:=[]) q2 q3 rfl .nil
   exact k _ _ _ s (.dk zav w1 (w2.mono s.gg))
  ·cases h
 ·cases h⟩
theorem zmO (hc:X.calm=true) (hu:X.A.units+66 < cLine):TyD Γ X "dict" zj3:=⟨_,zkI hc hu,fun {G H vs ds z} gh r h Q k=>by
 unfold zj3 at h
 split at h
 ·split at h
  ·rename_i hz
   obtain ⟨ps,hp,rfl⟩:=oMd h
   obtain ⟨v,rfl,r1⟩:=r.one
   obtain ⟨a,ws,rfl,ha,ra⟩:=r1.lst_inv
   obtain ⟨us,q1,q2,q3,q4⟩:=zim gh ra hp
   refine ⟨a,ws,us,rfl,gh _ _ ha,q1,by rw [← q1,ra.length];exact hz,q4,fun p hp=>?_⟩
   have s:=Step.new (o:=.dT (mrg [] us)) gh hp
   obtain ⟨w1,w2⟩:=zlK (acc:=[]) (acd:=[]) q2 q3 rfl .nil
   exact k _ _ _ s (.dt zav w1 (w2.mono s.gg))
  ·cases h
 ·cases h⟩
end
end L2
end
section
namespace L2
open PySem PySem.Spec PyProof.Rows
section
variable {Γ:Cn} {X:Cx} {e:Expr} {es:List Expr} {fr:FA} {pos p2:Pos} {x:Str}
def spO (Γ:Cn) (K:PySem.W.Frag) (n:Nat) (F:List D->Option (List D)):Sp:=fun vs H Q _=>∃ G ds rs,zbT G H/\Reps Γ K G vs ds/\ds.length=n/\F ds=some rs/\∀ p us G' H',Step G H G' H'->H' p=none->Reps Γ K G' us rs->Q (.ref p) (upd H' p (.lst us))
end
structure CalO (Γ:Cn) (P:Program) (w:World) (K:PySem.W.Frag) (mg:Str->Option Value) (base:Heap) (x:Str) (n k:Nat) (F:List D->Option (List D)):Prop where
 ex:∃ f fd ps,FnOk P w K mg base CX0 k f fd ps (spO Γ K n F)/\mg x=some (.ref f)/\PySem.W.keepIn K (.ref f)=true/\zcL K fd ps []
section
variable {Γ:Cn} {X:Cx} {e:Expr} {es:List Expr} {fr:FA} {pos p:Pos}
theorem Dfn.none {P:Program} {w:World} {K:PySem.W.Frag} {mg:Str->Option Value} {base:Heap} {x:Str} {st:Stmt} {ps:List Str} {k:Nat} (F:Dfn K mg x st)
  (hb:∀ (kV doc pm:Value) (an:Option Addr) (cdv ct:Value) (us:List Value),us.length=ps.length->bindArgs (PySem.W.fnOf x x (zcS st) (zbW st) (zao st) .none kV doc pm an cdv ct) ⟨us,[]⟩=pure (ps.zip us))
  : Cal Γ P w K mg base x ps.length k (fun _=>Option.none):=by
 obtain ⟨f,fd,h1,h2⟩:=F.ex
 refine ⟨f,fd,ps,⟨fun vs H Q E h=>?_,fun A outer s H args us vs Q E hr I b v h=>?_⟩,h2,h1.kp,h1.binds hb⟩
 ·obtain ⟨_,_,_,_,_,_,z,_⟩:=h
  cases z
 ·obtain ⟨_,_,_,_,_,_,z,_⟩:=h
  cases z
end
end L2
end
section
namespace L2
open PySem PySem.Spec PyProof.Rows
def orG (g g':D->D->Option D) (x y:D):Option D:=match g x y with
 | some z=>some z
 | none=>g' x y
section
variable {Γ:Cn} {X:Cx} {a b c e:Expr} {fa fb:FE} {op:CmpOp} {g g':D->D->Option D}
theorem zqW {x y z:D} (h:orG g g' x y=some z):g x y=some z\/g' x y=some z:=by
 unfold orG at h
 split at h
 ·rename_i q;cases h;exact .inl q
 ·exact .inr h
theorem CmpD.or (h:CmpD Γ X op g) (h':CmpD Γ X op g'):CmpD Γ X op (orG g g'):=by
 obtain ⟨r,o,d⟩:=h.ex
 obtain ⟨r',o',d'⟩:=h'.ex
 refine ⟨_,o.or o',fun {G H v u x y z} gh r1 r2 q Q k=>?_⟩
 rcases zqW q with q | q
 ·exact .inl (d gh r1 r2 q Q k)
 ·exact .inr (d' gh r1 r2 q Q k)
def neA:=orG neD zq8
theorem ziC (hu:X.A.units+64 < cLine):CmpD Γ X .NotEq neA:=zs4.or (zrP hu)
theorem DfnM.mk' {K:PySem.W.Frag} {C f:Addr} {c m qual:Str} {st:Stmt} {oc:Value} {od an:Option Addr} {osl:Array (Option Value)} {kV doc pm cdv ct:Value} (a:PySem.W.findIn K (.ref C) m=some (some (.ref f))) (i:PySem.W.isFn K (.ref f)=true)
  (l:K.lookup f=some ⟨oc,od,.func (PySem.W.fnOf m qual (zcS st) (zbW st) (zao st) .none kV doc pm an cdv ct),osl⟩) (cd:PySem.W.codeIn K cdv qual=true) (k:PySem.W.keepIn K (.ref f)=true):DfnM K C c m qual st:=⟨f,_,zlX l cd k,a,i⟩
end
section
variable {ρ:za5} {f1 f2 f3 f4 f5 f6 f7:FE}
theorem ln1:∀ ρ ds,zab f1 zag ρ=some ds->ds.length=1:=zcU fun _ _ h=>znR h
theorem ln2:∀ ρ ds,zab f1 (zab f2 zag) ρ=some ds->ds.length=2:=zcU ln1
theorem ln3:∀ ρ ds,zab f1 (zab f2 (zab f3 zag)) ρ=some ds->ds.length=3:=zcU ln2
theorem ln4:∀ ρ ds,zab f1 (zab f2 (zab f3 (zab f4 zag))) ρ=some ds->ds.length=4:=zcU ln3
theorem ln5:∀ ρ ds,zab f1 (zab f2 (zab f3 (zab f4 (zab f5 zag)))) ρ=some ds->ds.length=5:=zcU ln4
theorem ln6:∀ ρ ds,zab f1 (zab f2 (zab f3 (zab f4 (zab f5 (zab f6 zag))))) ρ=some ds->ds.length=6:=zcU ln5
theorem ln7:∀ ρ ds,zab f1 (zab f2 (zab f3 (zab f4 (zab f5 (zab f6 (zab f7 zag)))))) ρ=some ds->ds.length=7:=zcU ln6
end
end L2
end
section
namespace L2
open PySem PySem.Spec PyProof.Rows
section
variable {Γ:Cn} {K:PySem.W.Frag} {G₀ H₀ G H:Hp} {ρ:za5} {σ:St}
end
section
variable {Γ:Cn} {X:Cx} {a b c e value:Expr} {es:List Expr} {f fk fv:FE} {fr:FA} {pos pos' p dp:Pos} {g:FS} {x:Str} {sts:List Stmt}
def zlH (f:FE):FA:=fun ρ=>(f ρ).bind zf5
theorem zpQ (hg:Gl X "list") (hm:X.mg "list"=none) (h:DE Γ X e f) (he:starEach [e] X.env=(false,eval e X.env)::starEach [] X.env:=by rfl) (hpl:(backTo pos (starEach [] X.env)).any (·.1)=false:=by rfl) :
  DO Γ X (.Call (.Name "list" p) [e] [] pos) (zlH f):=⟨(zfW ziD hg hm (by rfl) (zbM h.1 zdd he) (by decide) (by decide) he hpl).imp fun σ H Q=>by
 rintro ⟨G₀,H₀,G,ρ,ds,A,hq,k⟩
 unfold zlH at hq
 obtain ⟨d,hd,hi⟩:=oBd hq
 clear hq
 refine ⟨G₀,H₀,G,ρ,d,A,hd,fun v G1 H1 s1 r1=>?_⟩
 unfold zf5 at hi
 split at hi
 ·cases hi
  obtain ⟨a,us,rfl,ha,ra⟩:=r1.lst_inv
  exact ⟨a,us,rfl,.inl (.inl (.inl (s1.gh _ _ ha))),fun p hp=>k p us G1 H1 s1 hp ra⟩
 ·cases hi
  obtain ⟨a,us,rfl,ha,ra⟩:=r1.tup_inv
  exact ⟨a,us,rfl,.inr (.inl (.inl (s1.gh _ _ ha))),fun p hp=>k p us G1 H1 s1 hp ra⟩
 ·cases hi
  obtain ⟨a,rfl,ha⟩:=r1.scr_inv
  exact ⟨a,_,rfl,.inl (s1.gh.seq ha),fun p hp=>k p _ G1 H1 s1 hp (Reps.ints _)⟩
 ·cases hi⟩
end
end L2
end
section
namespace L2
open PySem PySem.Spec PyProof.Rows
section
variable {Γ:Cn} {X:Cx} {e c:Expr} {es:List Expr} {fr:FA} {pos p2 p pos':Pos} {x:Str} {ft:FT}
def ztW (Γ:Cn) (K:PySem.W.Frag) (n:Nat) (F:List D->Option (List (Key×D))):Sp:=fun vs H Q _=>∃ G ds rs,zbT G H/\Reps Γ K G vs ds/\ds.length=n/\F ds=some rs/\∀ p us G' H',Step G H G' H'->H' p=none->us.map (·.1)=rs.map (·.1)->Reps Γ K G' (us.map (·.2)) (rs.map (·.2))->Q (.ref p) (upd H' p (.dK us))
structure CalD (Γ:Cn) (P:Program) (w:World) (K:PySem.W.Frag) (mg:Str->Option Value) (base:Heap) (x:Str) (n k:Nat) (F:List D->Option (List (Key×D))):Prop where
 ex:∃ f fd ps,FnOk P w K mg base CX0 k f fd ps (ztW Γ K n F)/\mg x=some (.ref f)/\PySem.W.keepIn K (.ref f)=true/\zcL K fd ps []
end
end L2
end
section
namespace L2
open PySem PySem.Spec PyProof.Rows
section
variable {X:Cx} {pins:List (Addr×Obj)} {σ:St} {H H':Hp} {s:Shared} {h':Heap}
end
section
variable {Γ:Cn} {X:Cx} {e c o tg:Expr} {es:List Expr} {fr:FA} {pos p2 p pos' apos cpos:Pos} {x:Str} {ft:FT}
mutual
theorem Rep.drop {K:PySem.W.Frag} {G G':Hp} {a:Addr} {ob:Obj} {u:List (Key×V)} (ha:G a=some (.frz ob (.dK u))) (hG:∀ b,b≠a->G' b=G b):∀ {v:V} {d:D},Rep Γ K G v d->Rep Γ K G' v d
 | _,_,.non=>.non
 | _,_,.bl b=>.bl b
 | _,_,.int i=>.int i
 | _,_,.str x=>.str x
 | _,_,.ty x=>.ty x
 | _,_,.tup h r=>.tup ((hG _ (zgA h ha (by intro z;cases z))).trans h) (Reps.drop' ha hG r)
 | _,_,.lst h r=>.lst ((hG _ (zgA h ha (by intro z;cases z))).trans h) (Reps.drop' ha hG r)
 | _,_,.scr h=>.scr (by
   rcases h with (h | ⟨ob',h⟩) | h
   ·exact .inl (.inl ((hG _ (zgA h ha (by intro z;cases z))).trans h))
   ·exact .inl (.inr ⟨ob',(hG _ (zgA h ha (by intro z;cases z))).trans h⟩)
   ·exact .inr h)
 | _,_,.dk h e r=>.dk ((hG _ (zgA h ha (by intro z;cases z))).trans h) e (Reps.drop' ha hG r)
 | _,_,.dt h e r=>.dt ((hG _ (zgA h ha (by intro z;cases z))).trans h) e (Reps.drop' ha hG r)
 | _,_,.ins h c e r=>.ins ((hG _ (zgA h ha (by intro z;cases z))).trans h) c e (Reps.drop' ha hG r)
theorem Reps.drop' {K:PySem.W.Frag} {G G':Hp} {a:Addr} {ob:Obj} {u:List (Key×V)} (ha:G a=some (.frz ob (.dK u))) (hG:∀ b,b≠a->G' b=G b):∀ {vs:List V} {ds:List D},Reps Γ K G vs ds->Reps Γ K G' vs ds
 | _,_,.nil=>.nil
 | _,_,.cons h r=>.cons (Rep.drop ha hG h) (Reps.drop' ha hG r)
end
open Classical in
end
end L2
end
section
namespace L2
open PySem PySem.Spec PyProof.Rows PyProof
section
variable {prog:Program} {w:World} {A:Around} {R:Result->Shared->Prop} {I:Addr} {fp wr:List Addr} {n:Nat} {P:Nat->Value->Prop} {St:Nat->Heap->Prop}
end
section
variable {prog:Program} {w:World} {A:Around} {E:Value->Shared->Prop} {s:Shared}
end
section
variable {Γ:Cn} {X:Cx} {e:Expr} {f:FE} {pos p:Pos}
def znp:List D->Option (List Int)
 | []=>some []
 | .int x::r=>(znp r).map (x::·)
 | _::_=>none
theorem zjX {K:PySem.W.Frag} {G:Hp}:∀ {vs:List V} {ds:List D} {ys:List Int},Reps Γ K G vs ds->znp ds=some ys->vs=ys.map V.int
 | _,[],ys,r,h=>by cases r;cases h;rfl
 | _,d::ds,ys,.cons h1 h2,h=>by
  cases d with
  | int x =>
   obtain ⟨zs,hz,rfl⟩:=oMd (show (znp ds).map (x::·)=some ys from h)
   rw [h1.int_inv,zjX h2 hz];rfl
  | _=>cases h
theorem zgO:∀ {ns:List Int} {us:List Value},zbS (ns.map V.int) us->us.length=ns.length/\∀ (i:Nat) v,us[i]?=some v->∃ t,v=.int (ns.getD i 0) t
 | [],_,r=>by rw [qM] at r;cases r;exact ⟨rfl,fun i v h=>by simp at h⟩
 | n::ns,_,r=>by
  rw [ql] at r
  cases r with
  | cons r1 r2 =>
   obtain ⟨h1,h2⟩:=zgO r2
   refine ⟨by simp [h1],fun i v h=>?_⟩
   cases i with
   | zero =>
    obtain ⟨t,rfl⟩:=r1
    cases h
    exact ⟨t,rfl⟩
   | succ i=>exact h2 i v h
end
end L2
end
section
namespace L2
open PySem PySem.Spec PyProof.Rows
def TDn (Γ:Cn) (K:PySem.W.Frag) (f:FE):TE:=fun σ H Q=>∃ G₀ H₀ G ρ d,At Γ K G₀ H₀ G H ρ σ/\f ρ=some d/\∀ v G' H',Step G H G' H'->Rep Γ K G' v d->NewL H G' v d->Q v H'
structure DN (Γ:Cn) (X:Cx) (e:Expr) (f:FE):Prop where
 out:PE X e (TDn Γ X.K f)
section
variable {Γ:Cn} {X:Cx} {a b c e tg iter:Expr} {es:List Expr} {fa fb fc f fe:FE} {fr fi:FA} {pos p p2 pos':Pos} {ft:FT} {g:FG} {x:Str}
variable {scope:Scope} {N':List Str} {fv:List (Option Nat)} {ifs:List Expr} {elt:Expr}
structure DBn (Γ:Cn) (X:Cx) (N':List Str) (scope:Scope) (tg:Expr) (ifs:List Expr) (elt:Expr) (g:FG) (ft:FT) (fe:FE):Prop where
 out:∀ (cl:List (Str×Addr)) (C:Addr) (s₀:Shared) (H₀:Hp) (fp:List Addr),DG Γ (zc1 X N' scope cl C s₀ H₀ fp) tg g/\DTs Γ (zc1 X N' scope cl C s₀ H₀ fp) ifs ft/\DN Γ (zc1 X N' scope cl C s₀ H₀ fp) elt fe
end
def spN (Γ:Cn) (K:PySem.W.Frag) (n:Nat) (F:List D->Option D):Sp:=fun vs H Q _=>∃ G ds d,zbT G H/\Reps Γ K G vs ds/\ds.length=n/\F ds=some d/\∀ v G' H',Step G H G' H'->Rep Γ K G' v d->NewL H G' v d->Q v H'
section
variable {Γ:Cn} {P:Program} {w:World} {K:PySem.W.Frag} {mg:Str->Option Value} {base:Heap}
structure CalN (Γ:Cn) (P:Program) (w:World) (K:PySem.W.Frag) (mg:Str->Option Value) (base:Heap) (x:Str) (n k:Nat) (F:List D->Option D):Prop where
 ex:∃ f fd ps,FnOk P w K mg base CX0 k f fd ps (spN Γ K n F)/\mg x=some (.ref f)/\PySem.W.keepIn K (.ref f)=true/\zcL K fd ps []
structure CalMN (Γ:Cn) (P:Program) (w:World) (K:PySem.W.Frag) (mg:Str->Option Value) (base:Heap) (c m:Str) (n k:Nat) (F:List D->Option D):Prop where
 ex:∃ C f fd ps,Γ.cls c=some C/\Cls K C/\Meth K C m f/\FnOk P w K mg base CX0 k f fd ps (spN Γ K n F)/\zcL K fd ps []
structure CalMO (Γ:Cn) (P:Program) (w:World) (K:PySem.W.Frag) (mg:Str->Option Value) (base:Heap) (c m:Str) (n k:Nat) (F:List D->Option (List D)):Prop where
 ex:∃ C f fd ps,Γ.cls c=some C/\Cls K C/\Meth K C m f/\FnOk P w K mg base CX0 k f fd ps (spO Γ K n F)/\zcL K fd ps []
end
section
variable {Γ:Cn} {X:Cx} {e o:Expr} {es:List Expr} {fo f:FE} {fr:FA} {pos p apos pos':Pos} {c m x:Str}
end
end L2
end
section
namespace Law
open PySem L2
abbrev oS (d:D):Option Slot:=some (.sh d)
end Law
namespace L2
open PySem
abbrev FQ:=List D->Option D
end L2
namespace Law
open PySem L2
theorem dC {Γ:Cn} {X:Cx} {e:Expr} {es:List Expr} {fr:FA} {p pos:Pos} {x:Str} {n k:Nat} {F:FQ} (C:Cal Γ X.prog X.w X.K X.mg X.base x n k F) {j:Nat} (hr:Room j X.A) (ha:DA Γ X (e::es) fr) (hn:∀ ρ ds,fr ρ=some ds->ds.length=n) (hk:k<=j:=by decide) (hg:Gl X x:=by exact rfl) (hdb:(x==("__debug__":Str))=false:=by decide) (he:starEach (e::es) X.env=(false,eval e X.env)::starEach es X.env:=by rfl) (hpl:(backTo pos (starEach es X.env)).any (·.1)=false:=by rfl):DE Γ X (.Call (.Name x p) (e::es) [] pos) (cF F fr):=zmi C hr hk hg ha hn hdb he hpl
end Law
end
section
namespace L2
open PySem PySem.Spec PyProof.Rows
structure Fly (P:Program) (w:World) (base:Heap) (outer:List Env) (H H':Hp) (s:Shared) (B:Heap) (e:Addr) (cls a0:Value) (h:Heap):Prop where
 bst:base.StaysIn B
 keep:∀ b o,s.heap.get? b=some o->H b=none->b∉frs outer->B.get? b=some o
 slot:∀ b o,s.heap.get? b=some o->H b=none->b∈frs outer->∃ sl,h.get? b=some { o with slots:=sl }
 nofl:∀ b o,s.heap.get? b=some o->b∈frs outer->∀ vs,o.data≠.fields vs
 free:∀ b o,s.heap.get? b=some o->H b=none->H' b=none
 there:∀ b o,s.heap.get? b=some o->b∉frs outer->∃ o',B.get? b=some o'
 frf:∀ b∈frs outer,H b=none
 tups:∀ b xs,H b=some (.tup xs)->H' b=some (.tup xs)
 frzs:∀ b o u,H b=some (.frz o u)->H' b=some (.frz o u)
 tbls:∀ b ps,H b=some (.tbl ps)->∃ more,H' b=some (.tbl (ps++more))
 hok:HOk P w H' B
 fly:Heap.FlyingW B outer e cls a0 h
 new:H' e=none
section
variable {P:Program} {w:World} {base B:Heap} {outer:List Env} {H H':Hp} {s:Shared} {e:Addr} {cls a0:Value} {h h':Heap}
theorem Fly.on (F:Fly P w base outer H H' s B e cls a0 h) (k:h.UpToSlots h') (f:Heap.FlyingW B outer e cls a0 h'):Fly P w base outer H H' s B e cls a0 h' :=
 ⟨F.bst,F.keep,fun b o q n hb=>by
  obtain ⟨sl,e1⟩:=F.slot b o q n hb
  obtain ⟨sl',e2⟩:=k b _ e1 (F.nofl b o q hb)
  exact ⟨sl',e2⟩,F.nofl,F.free,F.there,F.frf,F.tups,F.frzs,F.tbls,F.hok,f,F.new⟩
theorem Fly.un (F:Fly P w base outer H H' s B e cls a0 h):Un (frs outer) [] H H' s.heap h where
 keep:=fun b o q n hb _=>F.fly.1 b o (F.keep b o q n hb)
 slot:=fun b o q n hb _=>F.slot b o q n hb
 free:=fun b o q n _=>F.free b o q n
 there:=fun b o q _=>by
  by_cases hb:b∈frs outer
  ·obtain ⟨sl,e1⟩:=F.slot b o q (F.frf b hb) hb
   exact ⟨_,e1⟩
  ·obtain ⟨o',e1⟩:=F.there b o q hb
   exact ⟨o',F.fly.1 b o' e1⟩
 tups:=F.tups
 frzs:=F.frzs
 tbls:=F.tbls
theorem Fly.hk (F:Fly P w base outer H H' s B e cls a0 h):HOk P w H' h:=F.hok.kept F.fly.1
end
def CXO (P:Program) (w:World) (base:Heap):CXT:=fun outer H s E e s' =>
 ∃ a cls a0 B H',e=.ref a/\s'.os=s.os/\AllBare s'.gens/\Fly P w base outer H H' s B a cls a0 s'.heap/\E cls none H'
section
variable {P:Program} {w:World} {K:PySem.W.Frag} {mg:Str->Option Value} {base:Heap} {N:List Str} {qual:Str} {scope:Scope} {f:Addr} {cd:Value} {A:Around} {outer:List Env} {s₀:Shared} {H₀:Hp} {E:XK}
 {pins:List (Addr×Obj)} {σ:St} {H:Hp} {s:Shared} {h1:Heap} {e:Addr} {cls:Value} {vs:List Value}
end
end L2
end
section
namespace L2
open PySem PySem.Spec PyProof.Rows
def ztg (Γ:Cn) (K:PySem.W.Frag) (n:String) (R:Hp->Prop) (E:Ends) (H₀ G' H':Hp) (σ':St) (fl:Fl):Prop:=(fl=.rt (.ty n)->R H')/\(fl≠.rt (.ty n)->zth Γ K E H₀ G' H' σ' fl)
def TDx (Γ:Cn) (K:PySem.W.Frag) (n:String) (R:Hp->Prop) (g:FS):TS:=fun E σ H=>∃ G₀ H₀ G ρ fl ρ',At Γ K G₀ H₀ G H ρ σ/\g ρ=some (fl,ρ')/\∀ σ' G' H',zbT G G'->At Γ K G₀ H₀ G' H' ρ' σ'->ztg Γ K n R E H₀ G' H' σ' fl
structure DX (Γ:Cn) (X:Cx) (n:String) (R:Hp->Prop) (st:Stmt) (g:FS):Prop where
 out:PS X st (TDx Γ X.K n R g)
structure DXs (Γ:Cn) (X:Cx) (n:String) (R:Hp->Prop) (st:List Stmt) (g:FS):Prop where
 out:PSs X st (TDx Γ X.K n R g)
section
variable {Γ:Cn} {X:Cx} {n:String} {R:Hp->Prop} {c tg iter:Expr} {fi:FA} {pos:Pos} {g g':FS} {st:Stmt} {sts:List Stmt} {ft:FT} {gg:FG}
end
section
variable {Γ:Cn} {P:Program} {w:World} {K:PySem.W.Frag} {mg:Str->Option Value} {base:Heap} {N:List Str} {qual:Str} {scope:Scope} {f C:Addr} {cd:Value} {A:Around} {outer:List Env} {s₀:Shared} {H₀:Hp} {E:XK}
 {R:Hp->Prop} {n:String} {x:Str} {np cpos pos:Pos} {e₀:Expr} {zcb:List Expr} {fr:FA} {Bn newId initId:String} {bmB:List Value}
end
def spX (Γ:Cn) (K:PySem.W.Frag) (m:Nat) (F:FQ) (n:String) (C:Addr):Sp:=fun vs H Q E=>∃ G ds d,zbT G H/\Reps Γ K G vs ds/\ds.length=m/\F ds=some d /\
 (d=.ty n->∀ G' H',Step G H G' H'->E (.ref C) none H')/\(d≠.ty n->∀ v G' H',Step G H G' H'->Rep Γ K G' v d->Q v H')
section
variable {Γ:Cn} {P:Program} {w:World} {K:PySem.W.Frag} {mg:Str->Option Value} {base:Heap}
structure CalX (Γ:Cn) (P:Program) (w:World) (K:PySem.W.Frag) (mg:Str->Option Value) (base:Heap) (x:Str) (m k:Nat) (F:FQ) (n:String) (C:Addr):Prop where
 ex:∃ f fd ps,FnOk P w K mg base (CXO P w base) k f fd ps (spX Γ K m F n C)/\mg x=some (.ref f)/\PySem.W.keepIn K (.ref f)=true/\zcL K fd ps []
end
end L2
end
section
namespace L2
open PySem PySem.Spec PyProof.Rows
def zgu (a:Addr) (cls:Value) (h:Heap):Prop:=∃ o vs,h.get? a=some o/\o.cls=cls/\o.data=.fields vs
section
variable {P:Program} {w:World} {base B:Heap} {outer:List Env} {H H':Hp} {s:Shared} {e:Addr} {cls a0:Value} {h h':Heap}
theorem Fly.exc (F:Fly P w base outer H H' s B e cls a0 h):zgu e cls h:=by
 obtain ⟨oe,vs,h1,h2,h3,h4⟩:=F.fly.first
 exact ⟨oe,vs,h1,h2,h3⟩
theorem Fly.fresh (F:Fly P w base outer H H' s B e cls a0 h):s.heap.get? e=none:=by
 cases q:s.heap.get? e with
 | none=>rfl
 | some o =>
  exfalso
  have nf:e∉frs outer:=fun hb=>by
   obtain ⟨_,o',h1,h2⟩:=F.fly.2.2.1.mem hb
   obtain ⟨oe,vs,k1,k2,k3⟩:=F.exc
   rw [h1] at k1
   cases k1
   exact h2 vs k3
  obtain ⟨o',z⟩:=F.there e o q nf
  rw [F.fly.2.1] at z
  cases z
end
abbrev Cx.marked (X:Cx) (v:Value):Cx:={ X with A:=X.A.mark (some v),calm:=false,xe:=fun _ _=>False }
section
variable {X:Cx} {pins:List (Addr×Obj)} {σ:St} {H:Hp} {s:Shared} {v:Value}
theorem Inv.marked (I:Inv X pins σ H s) (v:Value):Inv (X.marked v) pins σ H s :=
 ⟨⟨I.ok.mod,I.ok.kind,I.ok.glob,I.ok.blt,I.ok.above,I.ok.inj,I.ok.has,I.ok.cab,(fun z=>nomatch z),I.ok.frames,I.ok.stk,I.ok.exf,I.ok.bs,I.ok.bsz,I.ok.noex,I.ok.exfs,I.ok.funs,I.ok.frf⟩,I.os,I.bare,I.base,I.loc,I.cell,I.free,I.freeC,I.pin,I.hok,I.len⟩
theorem Inv.unmarked (ok:X.Ok) (I:Inv (X.marked v) pins σ H s):Inv X pins σ H s:=⟨ok,I.os,I.bare,I.base,I.loc,I.cell,I.free,I.freeC,I.pin,I.hok,I.len⟩
theorem zkW {M:Model} {A:Around} {E:Value->Shared->Prop} {j:Nat} {n:Str} {pos:Pos} {Q:Unit->Shared->Prop} (I:Inv X pins σ H s) (hN:X.N.Nodup) (hj:X.N[j]?=some n) (hk:X.env.kindOf n=some .local)
  (h:∀ s',Inv X pins (σ.set j none) H s'->Q () s'):wpAny M A (do bindName X.env n .none;unbindBehindTheSuite X.env n pos) Q E s:=by
 obtain ⟨m,hn,hl⟩:=id I.loc
 have hcls:(X.env.scope.kind==.class || (X.env.scope.kind==.module && X.env.locals != X.env.globals))=false:=by rw [I.ok.kind];rfl
 have hjσ:j < σ.length:=by rw [I.len];exact (List.getElem?_eq_some_iff.mp hj).1
 have cne:=I.cne
 refine wpAny_nameGoes_keeps hk hn hcls fun h' v hn' hs=>?_
 obtain ⟨oL,_,_,hoL,_⟩:=id hn
 have tracked:HOk X.prog X.w H h':=fun b ob e=>by
  refine (I.hok b ob e).stay (fun c w' hc q=>(hs.2 c ?_).trans q) (fun _ q=>q) fun _ _ q=>q
  rintro rfl
  rcases hc with rfl | hc
  ·rw [I.free] at e;cases e
  ·rw [I.free] at hc;cases hc
 refine h _ ⟨I.ok,I.os,I.bare,⟨fun b o e n hb hx=>?_,fun b o e n hb hx=>?_,I.base.free,fun b o e hx=>?_,I.base.tups,I.base.frzs,I.base.tbls⟩,⟨_,hn',fun i y v' e1 e2 e3=>?_⟩,fun y c e=>?_,I.free,I.freeC,fun p hp=>?_,tracked,by simpa using I.len⟩
 ·exact (hs.2 b (qA (qD (qt e) I.ok.above))).trans (I.base.keep b o e n hb hx)
 ·obtain ⟨sl,e1⟩:=I.base.slot b o e n hb hx
  exact ⟨sl,(hs.2 b (qA (qD (qt e) I.ok.above))).trans e1⟩
 ·obtain ⟨o',e1⟩:=I.base.there b o e hx
  exact ⟨o',(hs.2 b (qA (qD (qt e) I.ok.above))).trans e1⟩
 ·by_cases hi:i=j
  ·subst hi
   rw [List.getElem?_set_self hjσ] at e2
   cases e2
  ·rw [qw (Ne.symm hi)] at e2
   obtain ⟨u',r',q⟩:=hl i y v' e1 e2 e3
   refine ⟨u',r',?_⟩
   rcases q with ⟨k,e⟩ | ⟨k,c,e,z⟩
   ·refine .inl ⟨k,?_⟩
    have:y≠n:=fun e=>hi (zhz hN e1 (e▸hj))
    simp [this,e]
   ·exact .inr ⟨k,c,e,z.sameBut hs (cne y c e)⟩
 ·obtain ⟨w',z⟩:=I.cell y c e
  exact ⟨w',z.sameBut hs (cne y c e)⟩
 ·obtain ⟨e,n,ne,nf,d⟩:=I.pin p hp
  exact ⟨(hs.2 p.1 ne).trans e,n,ne,nf,d⟩
end
section
variable {X:Cx} {k:Nat} {f:Addr} {fd:FuncData} {ps:List Str} {sp:Sp} {fx cx n y:Str} {p p2 p3 cp py np ap hp pos:Pos} {e:Expr} {es:List Expr} {t:TA} {cv:Value} {i j:Nat}
end
end L2
end
section
namespace L2
open PySem PySem.Spec PyProof.Rows PySem.W Builtin Builtin.ObjectAttr Builtin.Getset_descriptor
structure ExcK (K:PySem.W.Frag) (C:Addr):Prop where
 cls:∃ cd,clsIn K C=some cd
 ga:findIn K (.ref C) "__getattribute__"=some (some (.builtin "BaseException.__getattribute__"))
 noga:findIn K (.ref C) "__getattr__"=some none
 lk:findIn K (.ref C) "__class__"=some (some (.builtin "object.__class__"))
 gs:specialIn K (.builtin "object.__class__") "__get__"=some (some (.builtin "getset_descriptor.__get__"))
 takes:takesIn K (.builtin "object.__class__")=some true
 mro:mroIn K C (.type "object")=some true
 base:subIn K (.ref C) (.type "BaseException")=some true
section
variable {prog:Program} {w:World} {A:Around} {E:Value->Shared->Prop} {s:Shared} {K:PySem.W.Frag} {x C:Addr} {M:Model} {h:Heap}
theorem zdW (p:zgu x (.ref C) h):Looks M h (typeOf (.ref x)) (.ref C):=by
 obtain ⟨o,vs,h1,h2,_⟩:=p
 exact h2▸(Looks.ld h1).andThen .now
theorem znu (Z:ExcK K C) (X:K.In h):Looks M h (Builtin.ObjectAttr.find (.ref x) (.ref C) "__class__") (.bind (.builtin "getset_descriptor.__get__") (.builtin "object.__class__")):=by
 have L1:=looks_findIn (M:=M) X Z.lk
 have L2:Looks M h (Builtin.ObjectAttr.getOf (some (.builtin "object.__class__"))) (some (.builtin "getset_descriptor.__get__")):=looks_specialIn X Z.gs
 have L3:=looks_takesIn (M:=M) X Z.takes
 exact L1.andThen (L2.andThen ((show Looks M h (Builtin.ObjectAttr.dataDescriptor? (some (.builtin "object.__class__")) (some (.builtin "getset_descriptor.__get__"))) (some (.builtin "getset_descriptor.__get__",.builtin "object.__class__")) from L3.andThen .now).andThen (Looks.tag .now)))
theorem zpH {tp:Value} {R:Result->Shared->Prop} (Z:ExcK K C) (X:K.In s.heap) (p:zgu x (.ref C) s.heap)
  (h:R (.ok (.ret (.ref C))) s):codeAny (model prog w) A (.call (.builtin "getset_descriptor.__get__") ⟨[.builtin "object.__class__",.ref x,tp],[]⟩) R s:=by
 obtain ⟨hh,g,dr,t,os⟩:=s
 have L0:=zdW (M:=model prog w) p
 have L1:=looks_mroIn (M:=model prog w) X Z.mro
 refine codeAny_call_builtin KF.slot_gs.plain KF.entry_gs (KF.slot_gs.check _ _ _ _ _ _ _ _ KF.type_class (KF.args_gs _ _ _) ?_)
 unfold Builtin.«getset_descriptor.__get__» descrGet
 rw [dga_obj]
 refine qv (qy ?_)
 unfold descrGetter descrCheckInstance descrNameAndClass isInstance
 simp only [KF.owner_class]
 repeat lk
 refine ⟨Code.quiet_builtin _ (by decide +kernel),codeAny_builtin KF.entry_class ?_⟩
 unfold Builtin.«object.__class__» shownTypeOf
 repeat lk
 exact h
theorem zl1 {tk:Tok} {Q:Fin->Shared->Prop} (Z:ExcK K C) (X:K.In s.heap) (p:zgu x (.ref C) s.heap) (h:Q (.done (.ret (.ref C))) s) :
  wpAny (model prog w) A (Builtin.«object.__getattribute__» ⟨[.ref x,.str "__class__" tk],[]⟩) Q E s:=by
 obtain ⟨hh,g,dr,t,os⟩:=s
 have L0:=zdW (M:=model prog w) p
 have L1:=znu (M:=model prog w) (x:=x) Z X
 unfold Builtin.«object.__getattribute__»
 refine qv (qy ?_)
 refine qv (qy ?_)
 refine qv (L0.at (qv (L1.at ?_)))
 show wpAny _ _ (bindTo (.builtin "getset_descriptor.__get__") (.builtin "object.__class__") (.ref x) (.ref C)) _ _ _
 unfold bindTo
 exact qv (qR (wpAny_call (zpH Z X p (qy h))))
theorem zix {nameV:Value} {Q:Unit->Shared->Prop} (Z:ExcK K C) (X:K.In s.heap) (p:zgu x (.ref C) s.heap) (hq:Q () s):wpAny M A (checkBuiltinCall "BaseException.__getattribute__" ⟨[.ref x,nameV],[]⟩) Q E s:=by
 obtain ⟨hh,g,dr,t,os⟩:=s
 have hk:builtinKind "BaseException.__getattribute__"=some .slot:=by decide +kernel
 have hsplit:splitId "BaseException.__getattribute__"=some ("BaseException","__getattribute__"):=by decide +kernel
 have L0:=zdW (M:=M) p
 have L1:Looks M hh (isSubtype (.ref C) (.type "BaseException")) true:=looks_subIn X Z.base
 have L2:Looks M hh (isInstance (.ref x) (.type "BaseException")) true:=L0.andThen L1
 have ha:=F.args_bexc_ga (.ref x) nameV
 simp only [checkBuiltinCall,hk,hsplit]
 refine qv (L2.at ?_)
 repeat (first | exact hq | wp_step)
theorem znv {tk:Tok} {R:Result->Shared->Prop} (Z:ExcK K C) (X:K.In s.heap) (p:zgu x (.ref C) s.heap) (h:R (.ok (.ret (.ref C))) s) :
  codeAny (model prog w) A (.call (.builtin "BaseException.__getattribute__") ⟨[.ref x,.str "__class__" tk],[]⟩) R s :=
 codeAny_call_builtin F.attr_ValueError.ga.plain F.entry_bexc_ga (zix Z X p (zl1 Z X p h))
theorem zl2 {Q:Option Value->Shared->Prop} (Z:ExcK K C) (X:K.In s.heap) (p:zgu x (.ref C) s.heap) (h:Q (some (.ref C)) { s with toks:=s.toks+1 }):wpAny (model prog w) A (getAttr? (.ref x) "__class__") Q E s:=by
 obtain ⟨hh,g,d,t,os⟩:=s
 have L0:=zdW (M:=model prog w) p
 have L1:=looks_findIn (M:=model prog w) X Z.ga
 have L2:=looks_findIn (M:=model prog w) X Z.noga
 have hb:=F.attr_ValueError.ga.bind (.ref x)
 unfold getAttr? getAttrBy? getAttrBy
 refine qv (wpAny_mkText (qv (wpAny_attempt (qR (qv (L0.at (qv (L1.at ?_))))))))
 show wpAny _ _ (getAttrByItsOwn _ _ _ _ _ _) _ _ _
 unfold getAttrByItsOwn hookBefore
 refine qv (L2.at ?_)
 refine qv (wpAny_attempt (qR ?_))
 show wpAny _ _ (boundAndCalled _ _ _) _ _ _
 unfold boundAndCalled
 rw [hb]
 refine qv (qy ?_)
 refine wpAny_call (znv Z X p ?_)
 exact handed_on rfl (qy h)
theorem zjT (Z:ExcK K C):KitX K (.ref x) (.ref C) (zgu x (.ref C)) where
 ty:=fun _ _ _ p=>zdW p
 it:=fun _ _ X _=>by
  obtain ⟨cdD,hcD⟩:=Z.cls
  unfold clsIn at hcD
  split at hcD
  ·rename_i c' d' cd' sl' ho
   intro A' Q' E' s' k q
   unfold isType loadHead
   exact qv (wpAny_loadPart (k _ _ (X _ _ ho)) (qy q))
  ·cases hcD
 ne:=fun h tp dd its n sl X htp=>by
  obtain ⟨cdD,hcD⟩:=Z.cls
  refine Bool.eq_false_iff.mpr fun q=>?_
  have e:C=tp:=Value.ref.inj (beq_iff_eq.mp q)
  subst e
  unfold clsIn at hcD
  split at hcD
  ·rename_i c' d' cd' sl' ho
   have z:=(X _ _ ho).symm.trans htp
   cases z
  ·cases hcD
 ca:=fun X p k=>zl2 Z X p k
end
end L2
end
section
namespace L2
open PySem PySem.Spec PyProof.Rows
section
variable {Γ:Cn} {X:Cx} {a b c e o i:Expr} {es:List Expr} {fa fb fc f fo fk fx:FE} {fr fi:FA} {pos p apos cpos:Pos}
end
end L2
end
section
namespace L2
open PySem PySem.Spec PyProof.Rows
section
variable {Γ:Cn} {X:Cx} {a:Expr} {fa:FE} {pos:Pos}
theorem zhK (h:DE Γ X a fa):DE Γ X (.UnaryOp .USub a pos) (b1 zp8 fa):=⟨fun pins s σ H Q I=>by
 rintro ⟨G₀,H₀,G,ρ,d,A,hq,k⟩
 unfold b1 at hq
 obtain ⟨x,hx,hq⟩:=oBd hq
 refine UnaryOp_ (thn (h.1 pins s σ H (fun v H'=>∃ G',Step G H G' H'/\Rep Γ X.K G' v x) I ⟨G₀,H₀,G,ρ,x,A,hx,fun v G' H' st r=>⟨G',st,r⟩⟩) fun v s1 ⟨v',H1,I1,r1,G1,st,rp⟩=>?_)
 unfold zp8 at hq
 split at hq
 ·cases hq
  cases rp.int_inv
  obtain ⟨t,rfl⟩:=r1
  exact PyProof.Rows.neg_int ⟨.int _,H1,I1.tok _,⟨_,rfl⟩,k _ G1 H1 st (.int _)⟩
 ·cases hq⟩
end
def zr1:V->Option Value
 | .ref a=>some (.ref a)
 | .ty n=>some (.type n)
 | _=>none
theorem zjx {c:V} {u cv:Value} (r:zb9 c u) (h:zr1 c=some cv):u=cv:=by
 cases c <;> cases h
 ·exact r
 ·exact r
theorem zh4:∀ {xs:List V} {us its:List Value},zbS xs us->xs.mapM zr1=some its->us=its
 | [],_,_,.nil,h=>by cases h;rfl
 | x::xs,u::us,its,.cons r t,h=>by
  rw [List.mapM_cons] at h
  obtain ⟨a,ha,h⟩:=oBd h
  obtain ⟨b,hb,h⟩:=oBd h
  cases h
  rw [zjx r ha,zh4 t hb]
inductive TyX (K:PySem.W.Frag) (H:Hp):V->Value->Prop where
 | non:TyX K H .non (.type "NoneType")
 | exc {a C:Addr}:H a=some (.ext (zgu a (.ref C)))->ExcK K C->TyX K H (.ref a) (.ref C)
inductive IsiC (K:PySem.W.Frag) (H:Hp) (t:Value):V->Bool->Prop where
 | one {c:V} {cv:Value} {b:Bool}:zr1 c=some cv->PySem.W.kitOne K t cv=some b->IsiC K H t c b
 | tup {tp:Addr} {xs:List V} {its:List Value} {b:Bool}:H tp=some (.tup xs)->xs.mapM zr1=some its->PySem.W.kitAny K t its=some b->IsiC K H t (.ref tp) b
section
variable {X:Cx}
end
structure RefK (K:PySem.W.Frag) (mg:Str->Option Value) (CP CS CR CY CH CT:Addr):Prop where
 mP:mg "NoPlan"=some (.ref CP)
 mS:mg "ShopError"=some (.ref CS)
 mR:mg "NoRow"=some (.ref CR)
 mY:mg "NoSay"=some (.ref CY)
 mH:mg "NoShop"=some (.ref CH)
 mT:mg "NoTree"=some (.ref CT)
 exm:PySem.W.exmOne K (.ref CP) (.ref CS)=some true
 k0:PySem.W.kitOne K (.type "NoneType") (.ref CP)=some false
 k2:PySem.W.kitOne K (.ref CP) (.type "ValueError")=some true
 k3:PySem.W.kitAny K (.ref CP) [.ref CR,.ref CY,.ref CH,.ref CT]=some false
 exk:ExcK K CP
end L2
end
section
namespace L2
open PySem PySem.Spec PyProof.Rows
end L2
end
section
namespace L2
open PySem PySem.Spec PyProof.Rows
def Dk (h h':Heap):Prop:=∀ (b:Nat) (o:Obj),h.objs[b]?=some o->∃ o',h'.objs[b]?=some o'/\o'.dict=o.dict
theorem Dk.refl (h:Heap):Dk h h:=fun _ o e=>⟨o,e,rfl⟩
theorem Dk.trans {a b c:Heap} (x:Dk a b) (y:Dk b c):Dk a c:=fun i o e=>by
 obtain ⟨o1,e1,d1⟩:=x i o e
 obtain ⟨o2,e2,d2⟩:=y i o1 e1
 exact ⟨o2,e2,d2.trans d1⟩
theorem Dk.at {h h':Heap} (x:Dk h h') {b:Addr} {o o':Obj} (e:h.get? b=some o) (e':h'.get? b=some o'):o'.dict=o.dict:=by
 obtain ⟨o1,e1,d1⟩:=x b o (Heap.get?_some_iff.mp e).1
 have:=(Heap.get?_some_iff.mp e').1
 rw [e1] at this
 cases this
 exact d1
theorem Dk.push (h:Heap) (o:Obj):Dk h (h.push o):=fun b u e=>⟨u,by
 have hb:=(Array.getElem?_eq_some_iff.mp e).1
 show (h.objs.push o)[b]?=some u
 rw [Array.getElem?_push_lt hb,← e,Array.getElem?_eq_getElem hb],rfl⟩
theorem Dk.upd (h:Heap) (a:Addr) {f:Obj->Obj} (hf:∀ o,(f o).dict=o.dict):Dk h (h.update a f):=fun b u e=>by
 show ∃ o',(h.objs.modify a f)[b]?=some o'/\o'.dict=u.dict
 rw [Array.getElem?_modify,e]
 by_cases q:a=b
 ·rw [qX q];exact ⟨f u,rfl,hf u⟩
 ·rw [qY q];exact ⟨u,rfl,rfl⟩
def KD {α:Type} (t:Sem α):Prop:=∀ (M:Model) (Γ:PySem.Ctx) (Q:α->Pos->Shared->Prop) (E:Value->Pos->Shared->Prop) (p:Pos) (s:Shared),Sem.wp M Γ t Q E p s->Sem.wp M Γ t (fun a p' s'=>Q a p' s'/\Dk s.heap s'.heap) E p s
section
variable {α β:Type} {t:Sem α} {f:α->Sem β}
theorem zbN (a:α):KD (pure a:Sem α):=fun _ _ _ _ _ s h=>by rw [Sem.wp_pure'] at h ⊢;exact ⟨h,.refl _⟩
theorem zgB (x:String):KD (unsupported x:Sem α):=fun M Γ Q E p s h=>by
 have z:Sem.wp M Γ (Sem.unsupported x:Sem α) Q E p s:=h
 rw [Sem.wp_unsupported] at z
 exact z.elim
theorem zbf (h1:KD t) (h2:∀ a,KD (f a)):KD (t >>= f):=fun M Γ Q E p s h=>by
 rw [Sem.wp_bind'] at h ⊢
 refine Sem.wp_mono M Γ t (fun a p1 s1 ⟨k,d⟩=>?_) (fun _ _ _ z=>z) p s (h1 M Γ _ _ p s h)
 exact Sem.wp_mono M Γ (f a) (fun b p2 s2 ⟨q,d2⟩=>⟨q,d.trans d2⟩) (fun _ _ _ z=>z) p1 s1 (h2 a M Γ _ _ p1 s1 k)
theorem zrg {c:Prop} [Decidable c] {u v:Sem α} (h1:KD u) (h2:KD v):KD (if c then u else v):=by split <;> assumption
theorem zjd (a:Addr):KD (load a):=fun M Γ Q E p s h=>by
 obtain ⟨o,ho,q⟩:=h
 exact ⟨o,ho,q,.refl _⟩
theorem zis (a:Addr) (g:Obj->Obj) (hg:∀ o,(g o).dict=o.dict):KD (update a g):=fun M Γ Q E p s h=>by
 obtain ⟨o,q⟩:=h
 exact ⟨o,q,.upd _ a hg⟩
theorem znn (o:Obj):KD (alloc o):=fun M Γ Q E p s h=>⟨h,.push _ o⟩
theorem zhD:KD stack:=fun M Γ Q E p s h=>⟨h,.refl _⟩
theorem znf (g:Array Value->Array Value) (o:Obj):(Obj.mapFields g o).dict=o.dict:=by
 unfold Obj.mapFields;split <;> rfl
theorem zfF (v:Value) (i:Nat):KD (field v i):=by
 unfold field fieldsOf
 refine zbf ?_ fun a=>?_
 ·split
  ·exact zbf (zjd _) fun o=>by split <;> first | exact zbN _ | exact zgB _
  ·exact zgB _
 ·split <;> first | exact zbN _ | exact zgB _
theorem zek (v:Value) (i:Nat) (x:Value):KD (setField v i x):=by
 unfold setField updateField
 split
 ·refine zbf (zjd _) fun o=>?_
  split
  ·split
   ·exact zis _ _ (znf _)
   ·exact zgB _
  ·exact zgB _
 ·exact zgB _
theorem zdK (e:Value) (f:Option Addr):KD (setFlight e f):=by
 unfold setFlight
 refine zbf (zfF _ _) fun a=>?_
 split
 ·exact zek _ _ _
 ·exact zbN _
theorem zjV:∀ (l:List Env),KD (readyFrames l)
 | []=>zbN _
 | env::outer=>by
  unfold readyFrames
  split
  ·refine zbf (zjd _) fun o=>?_
   split
   ·exact zbN _
   ·refine zbf ?_ fun b=>zbf ?_ fun v=>zbf (zis _ _ fun _=>rfl) fun _=>zjV outer
    ·unfold behindIsImport
     split
     ·exact zbN _
     ·split
      ·exact zbN _
      ·exact zbf (zfF _ _) fun _=>zbN _
    ·unfold keptBack
     split
     ·split
      ·exact zbN _
      ·unfold underTheClaimsCaller
       exact zbf (zbf zhD fun _=>zbN _) fun _=>zbN _
     ·exact zbN _
  ·exact zgB _
theorem zkA (env:Env):KD (PySem.frameOf env):=by
 unfold PySem.frameOf frameEnvs
 refine zbf (zbf zhD fun _=>zbN _) fun l=>zbf ?_ fun r=>?_
 ·unfold frameObject
  split
  ·exact zbN _
  ·exact zbf (zjV _) fun _=>zbN _
 ·split <;> first | exact zbN _ | exact zgB _
theorem zfm (e:Value) (env:Env):KD (noteFrame e env):=by
 unfold noteFrame
 split
 ·refine zbf (zfF _ _) fun head=>?_
  have fin:∀ (f:Addr),KD (do setField e 1 (← EntryCells.newEntry head (← PySem.frameOf env) .none (rawInt f) .none (← entryPlaceOf f (head != .none)))):=fun f=>by
   refine zbf (zkA _) fun a=>zbf ?_ fun pl=>zbf ?_ fun b=>zek _ _ _
   ·unfold entryPlaceOf
    exact zbf zhD fun _=>by split <;> exact zbN _
   ·unfold EntryCells.newEntry newFields newObj
    have z:∀ d,KD (newObjAsIs (.type "traceback") d):=fun d=>by
     unfold newObjAsIs
     exact zbf (znn _) fun _=>zbN _
    exact zrg (zbf (zgB _) fun _=>z _) (z _)
  split
  ·refine zbf (zfF _ _) fun x=>?_
   split
   ·exact zbN _
   ·exact zbf (zek _ _ _) fun _=>fin _
  ·exact fin _
 ·exact zgB _
theorem zg7 (env:Env) (e:Value):KD (leaving env e):=zbf (zfm _ _) fun _=>zdK _ _
theorem KD.any {M:Model} {A:Around} {Q:α->Shared->Prop} {E:Value->Shared->Prop} {s:Shared} (k:KD t) (h:wpAny M A t Q E s):wpAny M A t (fun a s'=>Q a s'/\Dk s.heap s'.heap) E s :=
 fun Γ p hΓ=>k M Γ _ _ p s (h Γ p hΓ)
end
end L2
end
section
namespace L2
open PySem PySem.Spec PyProof.Rows PySem.W Builtin Builtin.ObjectAttr
def zmF:List Value:=[.type "ValueError",.type "Exception",.type "BaseException",.type "object"]
structure ExC (h:Heap) (C:Addr):Prop where
 ex:∃ nm q N bs bm sn sub ab col dd k0 k1 k2 k3 k5,h.get? C=some (excClassObj nm q C N bs bm true sn sub ab col dd k0 k1 k2 k3 k5 "ValueError.__new__")/\OwnTail h zmF bm
theorem ExC.keeps {h h':Heap} {C:Addr} (x:ExC h C) (k:∀ b o,h.get? b=some o->h'.get? b=some o):ExC h' C:=by
 obtain ⟨nm,q,N,bs,bm,sn,sub,ab,col,dd,k0,k1,k2,k3,k5,e,T⟩:=x.ex
 exact ⟨nm,q,N,bs,bm,sn,sub,ab,col,dd,k0,k1,k2,k3,k5,k _ _ e,T.keeps k⟩
def zgv (C t:Addr) (od:Option Addr):Obj:={ cls:=.ref C,dict:=od,data:=.fields #[.ref t,.none,.none,.none,.bool false,.none] }
section
variable {prog:Program} {w:World} {A:Around} {E:Value->Shared->Prop} {s:Shared} {K:PySem.W.Frag} {C fI e t:Addr}
theorem zm9 {zcb:List Value} {Q:Fin->Shared->Prop} (X:K.In s.heap) (c:ExC s.heap C) (hi:findIn K (.ref C) "__init__"=some (some (.ref fI))) (hf:typeIn K (.ref fI)=some (.type "function"))
  (hq:∀ h' e,Heap.MadeExcOf s.heap h' e (.ref C) zcb->codeAny (model prog w) A (.call (.ref fI) ⟨.ref e::zcb,[]⟩) (fun r s'=>r=.ok (.ret .none)/\Q (.done (.ret (.ref e))) s') { s with heap:=h' }) (hrest:zcb.length<=sizeLine) :
  wpAny (model prog w) A (Builtin.«type.__call__» ⟨.ref C::zcb,[]⟩) Q E s:=by
 have FB:=PySem.F.excBase_ValueError
 obtain ⟨nm,q,N,bs,bm,sn,sub,ab,col,dd,k0,k1,k2,k3,k5,hC,T⟩:=c.ex
 obtain ⟨h,g,d,tk,os⟩:=s
 dsimp only at hC T X hq
 repeat (first | with_reducible refine wpAny_loadPart_at hC ?_ | with_reducible refine wpAny_madeBy_exc hC ?_ | wp_step)
 refine codeAny_call_builtin_code (Code.quiet_builtin _ FB.quiet) (wpAny_check_new_subT FB T hC ?_)
 refine codeAny_exc_new_subT FB T hC ?_ hrest
 show wpAny _ _ _ _ _ _
 have up:∀ b o,h.get? b=some o->((h.push { cls:=.type "tuple",data:=.seq zcb.toArray }).push (zgv C h.objs.size none)).get? b=some o:=fun b o z=>qr _ (qr _ z)
 have hC1:=up _ _ hC
 have X1:K.In ((h.push { cls:=.type "tuple",data:=.seq zcb.toArray }).push (zgv C h.objs.size none)):=X.keeps up
 have hE:((h.push { cls:=.type "tuple",data:=.seq zcb.toArray }).push (zgv C h.objs.size none)).get? (h.objs.size+1)=some (zgv C h.objs.size none):=Heap.get?_push_at (by simp only [Heap.size_push]) rfl
 have hcC:(Value.ref C::bm).contains (.ref C)=true:=by simp
 unfold isInstance
 unfold zgv at hE hC1 X1 up
 repeat (first | with_reducible refine wpAny_loadPart_at hE ?_ | (with_reducible refine wpAny_isSubtype_exc hC1 ?_;rw [hcC]) | wp_step)
 show wpAny _ _ (typeLookup (.ref C) _) _ _ _
 refine (looks_findIn (M:=model prog w) X1 hi).at ?_
 refine qR (qv ((bind_fn (M:=model prog w) X1 (.ref (h.objs.size+1)) hf).at ?_))
 refine qv (wpAny_call (codeAny_mono (hq _ (h.objs.size+1) ⟨up,Heap.get?_none_of_le (Nat.le_succ _),h.objs.size,hE,Heap.get?_none_of_le (qu _),?_⟩) fun r s' z=>?_))
 ·exact qr _ (Heap.get?_push_at rfl rfl)
 ·obtain ⟨rfl,z⟩:=z
  show wpAny _ _ _ _ _ _
  wp_walk
  exact z
theorem zna {zcb:List Value} {Q:Value->Shared->Prop} (X:K.In s.heap) (c:ExC s.heap C) (hi:findIn K (.ref C) "__init__"=some (some (.ref fI))) (hf:typeIn K (.ref fI)=some (.type "function"))
  (hq:∀ h' e,Heap.MadeExcOf s.heap h' e (.ref C) zcb->codeAny (model prog w) (A.under (.builtin "type.__call__" ⟨.ref C::zcb,[]⟩)) (.call (.ref fI) ⟨.ref e::zcb,[]⟩) (fun r s'=>r=.ok (.ret .none)/\Q (.ref e) s') { s with heap:=h' }) (hrest:zcb.length<=sizeLine) :
  wpAny (model prog w) A (call (.ref C) zcb) Q E s:=by
 obtain ⟨nm,q,N,bs,bm,sn,sub,ab,col,dd,k0,k1,k2,k3,k5,hC,T⟩:=id c.ex
 obtain ⟨h,g,d,tk,os⟩:=s
 have f1:=tc_lookup
 have f2:=tc_bind (.ref C)
 have hT:(⟨h,g,d,tk,os⟩:Shared).TypeIs (.ref C) "type":=⟨_,hC,rfl⟩
 refine wpAny_call (codeAny_of_tree ?_)
 show wpAny _ _ (callAny (.ref C) _) _ _ _
 repeat (any_goals (first | assumption | with_reducible refine wpAny_loadPart_at hC ?_ | wp_step))
 refine ⟨rfl,codeAny_call_builtin_at (Code.quiet_builtin _ (by decide +kernel)) entry_typeCall (wpAny_check_type_call_sub hC (zm9 X c hi hf (fun h' e hm=>?_) hrest))⟩
 exact hq h' e hm
end
end L2
end
section
namespace L2
open PySem PySem.Spec PyProof.Rows PySem.W Builtin Builtin.ObjectAttr
section
variable {prog:Program} {w:World} {A:Around} {E:Value->Shared->Prop} {s:Shared} {K:PySem.W.Frag} {C fI e t:Addr} {name:Str} {v:Value}
theorem zmy {Q:Value->Shared->Prop} (c:ExC s.heap C) (he:s.heap.get? e=some (zgv C t none))
  (hq:∀ h' t',(∀ b o,b≠e->s.heap.get? b=some o->h'.get? b=some o)->h'.get? e=some (zgv C t' none)->Q .none { s with heap:=h' }) :
  wpAny (model prog w) A (call (.builtin "ValueError.__init__") [.ref e,v]) Q E s:=by
 have FB:=PySem.F.excBase_ValueError
 obtain ⟨nm,q,N,bs,bm,sn,sub,ab,col,dd,k0,k1,k2,k3,k5,hC,T⟩:=c.ex
 obtain ⟨h,g,d,tk,os⟩:=s
 dsimp only at hC T he hq
 have hE:=he
 unfold zgv at hE
 refine wpAny_call (codeAny_call_builtin FB.init.plain FB.initEntry (wpAny_check_init_subT FB T hC hE rfl ?_))
 wp_walk
 refine hq _ h.objs.size (fun b o hb z=>?_) ?_
 ·rw [Heap.get?_update_other _ _ (Ne.symm hb)]
  exact qr _ z
 ·rw [Heap.get?_update_self _ (qr _ hE) rfl]
  rfl
theorem zpG {Q:Unit->Shared->Prop} {cd:ClassData} {bm:List Value} (X:K.In s.heap) (he:s.heap.get? e=some (zgv C t none)) (hs:findIn K (.ref C) "__setattr__"=some (some (.builtin "object.__setattr__")))
  (hc:clsIn K C=some cd) (hm:cd.mro=.ref C::bm) (hb:∀ self,refuseLoop self "__setattr__" bm=pure ()) (ho:mroIn K C (.type "object")=some true) (hdct:cd.hasDict=true) (hn:findIn K (.ref C) name=some none)
  (hq:∀ h' dx tk,s.heap.objs.size<=dx->(∀ b o,b≠e->s.heap.get? b=some o->h'.get? b=some o)->h'.get? e=some (zgv C t (some dx))->h'.Ns1 dx (fun y=>if y=name then some v else none)->Q () { s with heap:=h',toks:=tk }) :
  wpAny (model prog w) A (setAttr (.ref e) name v) Q E s:=by
 have SF:=PySem.F.store_ValueError
 have I:InstAt s.heap e (zgv C t none) C none:=⟨he,rfl,rfl,True.intro⟩
 refine set_plain X I hs ?_
 have he':({ s with toks:=s.toks+1 }:Shared).heap.get? e=some (zgv C t none):=he
 generalize hs':({ s with toks:=s.toks+1 }:Shared)=s1
 have e1:s1.heap=s.heap:=by rw [← hs']
 have X1:K.In s1.heap:=by rw [e1];exact X
 have I1:InstAt s1.heap e (zgv C t none) C none:=by rw [e1];exact I
 have hq1:∀ h' dx tk,s1.heap.objs.size<=dx->(∀ b o,b≠e->s1.heap.get? b=some o->h'.get? b=some o)->h'.get? e=some (zgv C t (some dx))->h'.Ns1 dx (fun y=>if y=name then some v else none)->Q () { s1 with heap:=h',toks:=tk }:=by
  subst hs';exact hq
 clear hq he' hs' e1 X I he
 have sub:Looks (model prog w) s1.heap (isInstance (.ref e) (.type "object")) true:=I1.type.andThen (looks_mroIn X1 ho)
 refine codeAny_call_builtin SF.slot.plain SF.entry (@check_slot (model prog w) _ _ s1 "object.__setattr__" "object" "__setattr__" (.ref e) [.str name s.toks,v] [] _ SF.kind SF.split sub (SF.args (.ref e) (.str name s.toks) v) ?_)
 have L:Looks (model prog w) s1.heap (mroOf (.ref C)) cd.mro:=(looks_clsIn X1 hc).andThen .now
 rw [osa_eq,refuse_eq]
 refine qv (qv (I1.type.here (qv (L.here ?_))))
 rw [hm,refuseLoop_ref,hb]
 refine qy (qv (I1.type.here (qv ((looks_findIn X1 hn).here (qv (qy ?_))))))
 have hx:=I1.at_
 unfold zgv at hx
 obtain ⟨h,g,d,tk,os⟩:=s1
 dsimp only at hx hq1 X1
 show wpAny _ _ (storeInOwnDict (.ref e) (.ref C) _ name v _) _ _ _
 unfold storeInOwnDict ownStreamTells ownDictForStores instanceDict
 refine qv (qy (qv (qv (wpAny_loadPart hx (qv (Looks.here (s:=⟨h,g,d,tk,os⟩) (looks_clsIn X1 hc) ?_))))))
 rw [hdct]
 have hx1:(h.push { cls:=.type "dict",data:=.dict #[] }).get? e=some _:=qr _ hx
 have hxs:e≠h.objs.size:=qA (qt hx)
 rw [qY (by simp)]
 refine qv (wpAny_alloc' ?_)
 refine qv (wpAny_update' hx1 ?_)
 refine qy ?_
 have hgd:((h.push { cls:=.type "dict",data:=.dict #[] }).update e fun o=>{ o with dict:=some h.objs.size }).get? h.objs.size=some { cls:=.type "dict",data:=.dict #[] } :=
  (Heap.get?_update_ne _ _ _ _ hxs.symm).trans (Heap.get?_push_at rfl rfl)
 have hnd:((h.push { cls:=.type "dict",data:=.dict #[] }).update e fun o=>{ o with dict:=some h.objs.size }).Ns h.objs.size (fun _=>none):=⟨_,#[],_,hgd,rfl,fun e he=>absurd he (by simp),fun _=>rfl⟩
 show wpAny _ _ (storeInDict h.objs.size _ name v) _ _ _
 unfold storeInDict newKeyGuard
 refine qv (qy (qv (wpAny_nsSet1 (Heap.Ns1.of_empty hnd) fun h' hn' hs=>?_)))
 obtain ⟨oD,esD,epD,hoD,hdD,hcD⟩:=hn'.count (Within.cons name v Within.nil)
 refine qv (wpAny_lookBehind hoD (by rw [hdD];exact pastItsLine_dict (qK hcD (by rw [qh,qk,sizeLine_eq];omega))) ?_)
 refine qy (hq1 h' h.objs.size _ (qu _) (fun b ob hbx z=>?_) ?_ hn')
 ·exact (hs.2 b (qA (qt z))).trans ((Heap.get?_update_ne _ _ _ _ hbx).trans (qr _ z))
 ·exact (hs.2 e hxs).trans (Heap.get?_update_self _ hx1 rfl)
end
end L2
end
section
namespace L2
open PySem PySem.Spec PyProof.Rows PySem.W Builtin Builtin.ObjectAttr Builtin.Getset_descriptor
def zeS (a C dx:Addr) (h:Heap):Prop:=∃ o vs,h.get? a=some o/\o.cls=.ref C/\o.data=.fields vs/\o.dict=some dx
theorem zeS.exc {a C dx:Addr} {h:Heap} (x:zeS a C dx h):zgu a (.ref C) h:=by
 obtain ⟨o,vs,e,c,d,_⟩:=x
 exact ⟨o,vs,e,c,d⟩
theorem zeS.stay {a C dx:Addr} {h1 h2:Heap} (x:zeS a C dx h1) (k:∀ o,h1.get? a=some o->h2.get? a=some o):zeS a C dx h2:=by
 obtain ⟨o,vs,e,c⟩:=x
 exact ⟨o,vs,k _ e,c⟩
section
variable {prog:Program} {w:World} {A:Around} {E:Value->Shared->Prop} {s:Shared} {K:PySem.W.Frag} {x C dx:Addr} {name:Str} {v:Value} {mA:Str->Option Value}
theorem znw {expr:Bool} {Q:Value->Shared->Prop} (Z:ExcK K C) (X:K.In s.heap) (p:zeS x C dx s.heap) (hn:s.heap.Ns1 dx mA) (hv:mA name=some v) (hh:hasDictIn K C=true) (hf:findIn K (.ref C) name=some none) (hv':handedIn v=true)
  (h:Q v { s with toks:=s.toks+1 }):wpAny (model prog w) A (getAttr (.ref x) name expr) Q E s:=by
 obtain ⟨od,hod,hlk⟩:=zir hn
 have p1:=p.exc
 obtain ⟨ox,vs,ho,hc,hdt,hdx⟩:=p
 have I:InstAt s.heap x ox C (some od):=⟨ho,hc,by unfold notCls;rw [hdt],by rw [hdx];exact hod⟩
 have L2:=looks_findIn (M:=model prog w) X Z.noga
 have hb:=F.attr_ValueError.ga.bind (.ref x)
 have hfo:findObj K C (some od) name=some (.value v):=findObj_own hh hf rfl (by rw [hlk,hv])
 obtain ⟨hp,g,d,t,os⟩:=s
 dsimp only at X I p1 h hn
 have L0:=zdW (M:=model prog w) p1
 have L1:=looks_findIn (M:=model prog w) X Z.ga
 have LF:=looks_find (M:=model prog w) X I hfo
 unfold getAttr getAttrBy
 refine qv (wpAny_mkText (qR (qv (L0.at (qv (L1.at ?_))))))
 show wpAny _ _ (getAttrByItsOwn _ _ _ _ _ _) _ _ _
 unfold getAttrByItsOwn hookBefore
 refine qv (L2.at ?_)
 refine qv (wpAny_attempt (qR ?_))
 unfold callGetattribute
 rw [show (expr && onTheHeap (Value.builtin "BaseException.__getattribute__"))=false from Bool.and_false _,qY (by decide)]
 unfold boundAndCalled
 rw [hb]
 refine qv (qy ?_)
 refine wpAny_call (codeAny_call_builtin F.attr_ValueError.ga.plain F.entry_bexc_ga (zix Z X p1 ?_))
 unfold Builtin.«object.__getattribute__»
 refine qv (qy ?_)
 refine qv (qy ?_)
 refine qv (L0.at (qv (LF.at ?_)))
 exact qy (handed_on hv' h)
end
end L2
end
section
namespace L2
open PySem PySem.Spec PyProof.Rows
def ExN (a C:Addr) (h:Heap):Prop:=∃ t,h.get? a=some (zgv C t none)
def ExM (a C dx:Addr) (h:Heap):Prop:=∃ t,h.get? a=some (zgv C t (some dx))
theorem ExN.stay {a C:Addr} {h1 h2:Heap} (x:ExN a C h1) (k:∀ o,h1.get? a=some o->h2.get? a=some o):ExN a C h2:=let ⟨t,e⟩:=x;⟨t,k _ e⟩
theorem ExM.stay {a C dx:Addr} {h1 h2:Heap} (x:ExM a C dx h1) (k:∀ o,h1.get? a=some o->h2.get? a=some o):ExM a C dx h2:=let ⟨t,e⟩:=x;⟨t,k _ e⟩
structure XCls (K:PySem.W.Frag) (base:Heap) (C CS fI:Addr) (f:Str):Prop where
 cls:ExC base C
 sa:PySem.W.findIn K (.ref C) "__setattr__"=some (some (.builtin "object.__setattr__"))
 cd:∃ cd,PySem.W.clsIn K C=some cd/\cd.mro=.ref C::.ref CS::zmF/\cd.hasDict=true
 ob:PySem.W.mroIn K C (.type "object")=some true
 no:PySem.W.findIn K (.ref C) f=some none
 init:PySem.W.findIn K (.ref C) "__init__"=some (some (.ref fI))
 fn:PySem.W.isFn K (.ref fI)=true
 kp:PySem.W.keepIn K (.ref C)=true
section
variable {X:Cx} {pins:List (Addr×Obj)} {σ:St} {H:Hp} {s:Shared} {a C CS fI dx:Addr} {f:Str} {h':Heap}
theorem Inv.untracked (I:Inv X pins σ H s) (hn:s.heap.get? a=none):H a=none:=by
 cases q:H a with
 | none=>rfl
 | some u =>
  exfalso
  obtain ⟨ob,hob⟩:∃ ob,s.heap.get? a=some ob:=by
   have z:=I.hok a u q
   cases u with
   | lst xs=>obtain ⟨_,_,_,_,e⟩:=z;exact ⟨_,e⟩
   | tup xs=>obtain ⟨_,_,_,⟨o,e,_⟩⟩:=z;exact ⟨_,e⟩
   | dK kvs=>obtain ⟨_,_,_,_,o,_,_,e,_⟩:=z;exact ⟨_,e⟩
   | dT kvs=>obtain ⟨_,_,_,_,o,_,_,e,_⟩:=z;exact ⟨_,e⟩
   | set S n=>obtain ⟨o,_,_,_,e,_⟩:=z;exact ⟨_,e⟩
   | ins C dx fs=>obtain ⟨_,_,_,e,_⟩:=z;exact ⟨_,e⟩
   | own y=>obtain ⟨_,e⟩:=z;exact ⟨_,e⟩
   | xd fs=>obtain ⟨_,⟨_,_,_,e,_⟩,_⟩:=z;exact ⟨_,e⟩
   | rng lo hi=>obtain ⟨_,_,_,e⟩:=z;exact ⟨_,e⟩
   | frz ob u=>obtain ⟨e,_⟩:=z;exact ⟨_,e⟩
   | tbl ps=>exact ⟨_,z⟩
   | met f y=>exact ⟨_,z⟩
   | ext φ=>obtain ⟨_,⟨_,e⟩,_⟩:=z;exact ⟨_,e⟩
  rw [hn] at hob
  cases hob
theorem Inv.new1 {o:HO} {t':Nat} (I:Inv X pins σ H s) (k:∀ b u,s.heap.get? b=some u->h'.get? b=some u) (hn:s.heap.get? a=none) (new:zbX X.prog X.w (upd H a o) h' a o):Inv X pins σ (upd H a o) { s with heap:=h',toks:=t' }:=by
 have ha:=I.untracked hn
 have ne:∀ b u,H b=some u->b≠a:=fun b u q=>zas q ha
 refine I.un ⟨fun b u q _ _ _=>k b u q,fun b u q _ _ _=>⟨u.slots,k b u q⟩,fun b u q n _=>?_,fun b u q _=>⟨u,k b u q⟩,fun b xs q=>?_,fun b u v q=>?_,fun b ps q=>?_⟩ fun b u q=>?_
 ·rw [zaq (fun z=>by subst z;rw [hn] at q;cases q)];exact n
 ·rw [zaq (ne b _ q)];exact q
 ·rw [zaq (ne b _ q)];exact q
 ·exact ⟨#[],by rw [zaq (ne b _ q),Array.append_empty];exact q⟩
 ·by_cases e:b=a
  ·subst e;rw [zav] at q;cases q;exact new
  ·rw [zaq e] at q
   exact (I.hok b u q).stay (fun c v _ r=>k c v r) (fun c z=>by rw [zaq (ne c _ z)];exact z) fun c xs z=>by rw [zaq (ne c _ z)];exact z
theorem Inv.forget {φ:Heap->Prop} (I:Inv X pins σ (upd H a (.ext φ)) s) (hn:H a=none):Inv X pins σ H s:=by
 have sub:∀ b,upd H a (.ext φ) b=none->H b=none:=fun b q=>by
  by_cases e:b=a
  ·subst e;exact hn
  ·rw [zaq e] at q;exact q
 have bk:∀ b u,(∀ ψ,u≠.ext ψ)->upd H a (.ext φ) b=some u->H b=some u:=fun b u nu q=>by
  by_cases e:b=a
  ·subst e;rw [zav] at q;cases q;exact absurd rfl (nu φ)
  ·rw [zaq e] at q;exact q
 have up:∀ b u,H b=some u->upd H a (.ext φ) b=some u:=fun b u q=>by rw [zaq (zas q hn)];exact q
 refine ⟨I.ok,I.os,I.bare,⟨I.base.keep,I.base.slot,fun b o q n x=>sub b (I.base.free b o q n x),I.base.there,fun b xs q=>bk b _ (fun _ z=>nomatch z) (I.base.tups b xs q),fun b o u q=>bk b _ (fun _ z=>nomatch z) (I.base.frzs b o u q),fun b ps q=>?_⟩,I.loc,I.cell,sub _ I.free,fun x c q=>sub _ (I.freeC x c q),fun p hp=>?_,fun b u q=>?_,I.len⟩
 ·obtain ⟨m,z⟩:=I.base.tbls b ps q
  exact ⟨m,bk b _ (fun _ z=>nomatch z) z⟩
 ·obtain ⟨h1,h2,h3⟩:=I.pin p hp
  exact ⟨h1,sub _ h2,h3⟩
 ·exact (I.hok b u (up b u q)).stay (fun c v _ r=>r) (fun c z=>bk c _ (fun _ z=>nomatch z) z) fun c xs z=>bk c _ (fun _ z=>nomatch z) z
variable {o e ea value:Expr} {es:List Expr} {ta tv:TE} {t:TA} {pos pos' p apos np cpos:Pos} {cx x:Str}
def zsk (base:Heap) (t:TA):TE:=fun σ H Q=>t σ H fun vs H1=>∃ a y C,vs=[.ref a,y]/\H1 a=some (.ext (ExN a C))/\ExC base C/\Q .non (upd H1 a (.ext (ExN a C)))
theorem zo4 {pl:Sem Bool} (hg:Gl X cx) (hm:X.mg cx=some (.ref CS)) (hsp:PySem.W.specialIn X.K (.ref CS) "__getattribute__"=some (some (.builtin "type.__getattribute__"))) (hr:PySem.W.readsIn X.K CS (.type "type")=true)
  (hfc:PySem.W.findCls X.K (.ref CS) (.type "type") "__init__"=some (.val (.builtin "ValueError.__init__"))) (ha:PA X (e::es) t)
  (hdb:(cx==("__debug__":Str))=false:=by decide) (he:starEach (e::es) X.env=(false,eval e X.env)::starEach es X.env:=by rfl) (hpl:(backTo pos (starEach (e::es) X.env)).any (·.1)=false:=by rfl)
  (ht:eval (.Call (.Attribute (.Name cx p) "__init__" apos) (e::es) [] pos) X.env=(do
   let ov ← eval (.Name cx p) X.env
   standAt apos.atName
   let (f,first) ← holding [ov] (getMethod ov "__init__" pl)
   callWith pos f first (backTo pos (starEach (e::es) X.env)) (backToKw pos (keywordEach [] X.env))):=by rfl) :
  PE X (.Call (.Attribute (.Name cx p) "__init__" apos) (e::es) [] pos) (zsk X.base t):=by
 intro pins s σ H Q I h
 refine PySem.W.methodCall_KW (pl:=pl) (zej I hg hm ?_ hdb) ht
 refine PySem.W.method_cls I.kIn hsp (PySem.W.cls_value I.kIn hr hfc rfl ?_)
 refine Calls.callWith_builtin hpl ?_
 rw [he]
 refine Calls.evalArgs_plain ?_
 have key:=ha pos pins { s with toks:=s.toks+1 } σ H _ (I.tok _) h
 rw [he] at key
 refine thn key fun us s1 ⟨vs,H1,I1,r,a,y,C,ev,hH,c,q⟩=>?_
 subst ev
 obtain ⟨u,w',rfl,r1,r2⟩:=zkV r
 obtain rfl:u=Value.ref a:=r1
 obtain ⟨⟨t0,he0⟩,_⟩:=(show zbX X.prog X.w H1 s1.heap a (.ext (ExN a C)) from I1.hok a _ hH)
 refine zmy (c.keeps I1.bk) he0 fun h' t' kp he'=>⟨.non,_,?_,rfl,q⟩
 exact I1.write (x:=a) (e:=a) (t':=s1.toks) (by rw [hH];exact True.intro) (.inl rfl) kp ⟨_,he'⟩ ⟨⟨t',he'⟩,⟨_,he'⟩,fun h1 h2 z k=>z.stay k⟩
def sXs (K:PySem.W.Frag) (base:Heap) (CS fI:Addr) (ta tv:TE) (f:Str):TS:=fun D σ H=>tv σ H fun y H1=>ta σ H1 fun x H2=>∃ a C,x=.ref a/\H2 a=some (.ext (ExN a C))/\XCls K base C CS fI f /\
 ∀ dx,H2 dx=none->dx≠a->D.nx σ (upd (upd H2 dx (.xd [(f,y)])) a (.ext (ExM a C dx)))
theorem zkn (self:Value):refuseLoop self "__setattr__" (.ref CS::zmF)=pure ():=by rw [refuseLoop_ref];exact PySem.F.store_ValueError.passes self
theorem zoQ (ha:PE X o ta) (hv:PE X value tv) (hs:swapsWith value (some (.Attribute o f pos')) pos.line X.env=pure false:=by rfl):PS X (.Assign [.Attribute o f pos'] value pos) (sXs X.K X.base CS fI ta tv f):=by
 intro pins s σ H D I h
 refine plainObj_wpAny_Assign_Attribute (thn (hv pins s σ H _ I h) fun u s1 ⟨y,H1,I1,ry,q⟩=>thn (ha pins s1 σ H1 _ I1 q) fun ov s2 ⟨x,H2,I2,rx,a,C,ex,hH,Z,q2⟩=>?_) hs
 subst ex
 obtain rfl:ov=Value.ref a:=rx
 obtain ⟨⟨t0,he0⟩,_⟩:=(show zbX X.prog X.w H2 s2.heap a (.ext (ExN a C)) from I2.hok a _ hH)
 obtain ⟨cd,c1,c2,c3⟩:=Z.cd
 refine zpG I2.kIn he0 Z.sa c1 c2 (fun self=>zkn self) Z.ob c3 Z.no fun h' dx tk hsz kp he' hns=>?_
 have hdn:H2 dx=none:=I2.hok.fresh hsz
 have hda:dx≠a:=fun z=>by rw [← z,hdn] at hH;cases hH
 refine ⟨σ,_,?_,q2 dx hdn hda⟩
 have nea:∀ b,H2 b=none->b≠a:=fun b q z=>by rw [z,hH] at q;cases q
 have bk:∀ b u,(∀ φ,u≠.ext φ)->H2 b=some u->upd (upd H2 dx (.xd [(f,y)])) a (.ext (ExM a C dx)) b=some u:=fun b u nu q=>by
  have h1:b≠a:=fun z=>by rw [z,hH] at q;cases q;exact nu _ rfl
  rw [zaq h1,zaq (zas q hdn)];exact q
 refine I2.un (t':=tk) ⟨fun b u q n _ _=>kp b u (nea b n) q,fun b u q n _ _=>⟨u.slots,kp b u (nea b n) q⟩,fun b u q n _=>?_,fun b u q _=>?_,fun b xs q=>bk b _ (fun _ z=>nomatch z) q,fun b u v q=>bk b _ (fun _ z=>nomatch z) q,fun b ps q=>⟨#[],by rw [Array.append_empty];exact bk b _ (fun _ z=>nomatch z) q⟩⟩ fun b u q=>?_
 ·rw [zaq (nea b n),zaq (fun z=>absurd (qt q) (by rw [z];exact Nat.not_lt.mpr hsz))];exact n
 ·by_cases z:b=a
  ·subst z;exact ⟨_,he'⟩
  ·exact ⟨u,kp b u z q⟩
 ·by_cases e1:b=a
  ·subst e1;rw [zav] at q;cases q
   exact ⟨⟨t0,he'⟩,⟨_,he'⟩,fun h1 h2 z k=>z.stay k⟩
  ·rw [zaq e1] at q
   by_cases e2:b=dx
   ·subst e2;rw [zav] at q;cases q
    refine ⟨_,hns,fun g=>?_⟩
    by_cases hgf:g=f
    ·subst hgf;simpa [List.lookup,zkO] using ry
    ·have hb:(g==f)=false:=by simpa using hgf
     simp [List.lookup,hb,hgf,zkO]
   ·rw [zaq e2] at q
    refine (I2.hok b u q).stay (fun c v hc r=>kp c v ?_ r) (fun c z=>bk c _ (fun _ z=>nomatch z) z) fun c xs z=>bk c _ (fun _ z=>nomatch z) z
    rcases hc with rfl | hc
    ·exact e1
    ·exact fun z=>by rw [z,hH] at hc;cases hc
end
end L2
end
section
namespace L2
open PySem PySem.Spec PyProof.Rows
def zp5 (C:Addr) (f:Str):Sp:=fun vs H Q _=>∃ a p,vs=[.ref a,.str p]/\p.length<=1000/\H a=some (.ext (ExN a C))/\∀ H' dx,zbT H H'->H' dx=none->dx≠a->Q .non (upd (upd H' dx (.xd [(f,.str p)])) a (.ext (ExM a C dx)))
def del (G:Hp) (a:Addr):Hp:=fun b=>if b=a then none else G b
theorem zfp {G:Hp} {a b:Addr} (h:b≠a):del G a b=G b:=by unfold del;rw [qY h]
theorem zhI {G:Hp} {a:Addr}:del G a a=none:=by unfold del;rw [qX rfl]
theorem zos {H:Hp} {a b:Addr} {u v:HO}:upd (upd H b u) a v=upd (upd (del H a) b u) a v:=by
 funext c
 by_cases h:c=a
 ·rw [h,zav,zav]
 ·rw [zaq h,zaq h]
  by_cases h2:c=b
  ·rw [h2,zav,zav]
  ·rw [zaq h2,zaq h2,zfp h]
theorem ztH {H:Hp} {a b:Addr} {o u v:HO}:upd (upd (upd H a o) b u) a v=upd (upd H b u) a v:=by
 funext c
 by_cases h:c=a
 ·rw [h,zav,zav]
 ·rw [zaq h,zaq h]
  by_cases h2:c=b
  ·rw [h2,zav,zav]
  ·rw [zaq h2,zaq h2,zaq h]
section
variable {X:Cx} {k:Nat} {C CS fI:Addr} {fd:FuncData} {ps:List Str} {f x:Str} {p pos:Pos} {e:Expr} {es:List Expr} {t:TA}
theorem znd {pins:List (Addr×Obj)} {σ:St} {H:Hp} {s:Shared} {Q:Str->Hp->Prop} (F:FnOk X.prog X.w X.K X.mg X.base CX0 k fI fd ps (zp5 C f)) (Z:XCls X.K X.base C CS fI f) (hr:Room (k+1) X.A) (hg:Gl X x) (hm:X.mg x=some (.ref C)) (hb:zcL X.K fd ps [])
  (ha:PA X (e::es) t) (I:Inv X pins σ H s) (h:t σ H fun vs H1=>∃ y,vs=[.str y]/\y.length<=1000/\∀ H2,zbT H1 H2->Q y H2)
  (hex:X.ex=[]) (hdb:(x==("__debug__":Str))=false:=by decide) (he:starEach (e::es) X.env=(false,eval e X.env)::starEach es X.env:=by rfl) (hpl:(backTo pos (starEach es X.env)).any (·.1)=false:=by rfl) :
  wpAny (model X.prog X.w) X.A (eval (.Call (.Name x p) (e::es) [] pos) X.env) (fun u s'=>∃ a dx H1 y,u=.ref a/\X.s₀.heap.get? a=none/\H1 a=none/\H1 dx=none/\dx≠a/\Inv X pins σ (upd (upd H1 dx (.xd [(f,.str y)])) a (.ext (ExM a C dx))) s'/\Q y H1) X.xe s:=by
 refine wpAny_Call_Name_kw (zej I hg hm ?_ hdb)
 refine PySem.W.callWith_K (h₀:=X.base) I.ok.mod.kin Z.kp (thn (ha pos pins s σ H _ I h) fun us s1 ⟨vs,H1,I1,r,y,ev,hy,q⟩=>⟨I1.kIn,?_⟩) he hpl
 subst ev
 obtain ⟨u,rfl,ru⟩:∃ u,us=[u]/\zb9 (.str y) u:=by
  cases r with
  | cons r1 r2=>cases r2;exact ⟨_,rfl,r1⟩
 refine zna (K:=X.K) I1.kIn (Z.cls.keeps I1.bk) Z.init (beq_iff_eq.mp Z.fn) (fun h' a hmd=>?_) (by show 1<=sizeLine;decide)
 obtain ⟨t0,he0,htn,_⟩:=hmd.there
 have I2:Inv X pins σ (upd H1 a (.ext (ExN a C))) { s1 with heap:=h' }:=I1.new1 (t':=s1.toks) hmd.keeps hmd.new ⟨⟨t0,he0⟩,⟨_,he0⟩,fun h1 h2 z k=>z.stay k⟩
 have hna:H1 a=none:=I1.untracked hmd.new
 have hs0:X.s₀.heap.get? a=none:=by
  cases z:X.s₀.heap.get? a with
  | none=>rfl
  | some o =>
   obtain ⟨o',z'⟩:=I1.base.there a o z (by rw [hex];simp)
   rw [hmd.new] at z'
   cases z'
 have r2:zbS [V.ref a,V.str y] [Value.ref a,u]:=.cons rfl (.cons ru .nil)
 have hsp:zp5 C f [.ref a,.str y] (upd H1 a (.ext (ExN a C))) (fun v H2=>v=.non/\∃ H3 dx,zbT H1 H3/\H3 a=none/\H3 dx=none/\dx≠a/\H2=upd (upd H3 dx (.xd [(f,.str y)])) a (.ext (ExM a C dx))) E0:=⟨a,y,rfl,hy,zav,fun H' dx sm hdx hne=>⟨rfl,del H' a,dx,fun b o q=>by
  have nb:b≠a:=zas q hna
  rw [zfp nb]
  exact sm b o (by rw [zaq nb];exact q),zhI,by rw [zfp hne];exact hdx,hne,zos⟩⟩
 have hl:([Value.ref a,u]++[]).length=ps.length:=by
  have:=F.len _ _ _ _ hsp
  exact this
 refine codeAny_mono (F.run _ X.stack { s1 with heap:=h' } _ ⟨[.ref a,u],[]⟩ [.ref a,u] _ _ E0 (hr.make C [u] []) (I2.env0.make C [u] []) (by have:=hb { s1 with heap:=h' } [.ref a,u] I2.kIn hl;rwa [List.append_nil] at this) r2 hsp) fun r s' hq=>?_
 cases r with
 | error z=>exact False.elim hq
 | ok fl =>
  cases fl with
  | ret u' =>
   obtain ⟨v,H',I3,rv,ev,H3,dx,sm,q0,q1,q2,q3⟩:=I2.after hq
   subst ev q3
   obtain rfl:u'=Value.none:=rv
   exact ⟨rfl,a,dx,H3,y,rfl,hs0,q0,q1,q2,I3,q H3 sm⟩
  | next=>exact False.elim hq
  | brk=>exact False.elim hq
  | cont=>exact False.elim hq
end
section
variable {M:Model} {A:Around} {E:Value->Shared->Prop} {s:Shared} {env:Env}
theorem zlf {x:Sem Value} {Q:Flow->Shared->Prop} (hh:A.handled=none)
  (h:wpAny M A x (fun v s₁=>∃ e t od C,v=.ref e/\ExC s₁.heap C/\s₁.heap.get? e=some (zgv C t od)/\E (.ref e) s₁) E s):wpAny M A (raiseStmt env (some x) none) Q E s:=by
 unfold raiseStmt
 refine qv (wpAny_mono h (fun v s₁ h₁=>?_) fun _ _ x=>x)
 obtain ⟨e,t,od,C,rfl,c,he,hE⟩:=h₁
 obtain ⟨nm,q,N,bs,bm,sn,sub,ab,col,dd,k0,k1,k2,k3,k5,hC,T⟩:=c.ex
 have hcB:(Value.ref C::bm).contains (.type "BaseException")=true:=by
  rw [List.contains_cons,T.hasType PySem.F.excBase_ValueError.hasBase,Bool.or_true]
 obtain ⟨hp,g,d,tk,os⟩:=s₁
 dsimp only at hC he
 unfold zgv at he
 repeat (first | with_reducible refine wpAny_loadPart_at he ?_ | with_reducible refine wpAny_loadPart_at hC ?_ | (with_reducible refine wpAny_isSubtype_exc hC ?_;rw [hcB]) | wp_step)
 exact wpAny_raiseNew_none hh hE
end
section
variable {prog:Program} {w:World} {A:Around} {E:Value->Shared->Prop} {s:Shared} {env:Env}
theorem zkF {e:Expr} {pos:Pos} {Q:Flow->Shared->Prop} (hh:A.handled=none)
  (h:wpAny (model prog w) A (eval e env) (fun v s₁=>∃ a t od C,v=.ref a/\ExC s₁.heap C/\s₁.heap.get? a=some (zgv C t od)/\E (.ref a) s₁) E s) :
  wpAny (model prog w) A (exec (.Raise (some e) none pos) env) Q E s:=by
 rw [arm_exec_Raise]
 refine qv (wpAny_standAt (zlf hh (qv (wpAny_mono h (fun v s₃ h₃=>qv (wpAny_standAt (qy h₃))) fun _ _ x=>x))))
end
end L2
end
section
namespace L2
open PySem PySem.Spec PyProof.Rows
def CXD (P:Program) (w:World) (base:Heap):CXT:=fun outer H s E e s' =>
 ∃ a C a0 B H' dx,e=.ref a/\s'.os=s.os/\AllBare s'.gens/\Fly P w base outer H H' s B a (.ref C) a0 s'.heap/\zeS a C dx s'.heap/\E (.ref C) (some dx) H'
section
variable {P:Program} {w:World} {K:PySem.W.Frag} {mg:Str->Option Value} {base:Heap} {N:List Str} {qual:Str} {scope:Scope} {f:Addr} {cd:Value} {A:Around} {outer:List Env} {s₀:Shared} {H₀:Hp} {E:XK}
 {pins:List (Addr×Obj)} {σ:St} {H:Hp} {s:Shared} {e C t dx:Addr}
theorem zkE (I:Inv (zgD (CXD P w base) P w K mg base N qual scope f cd A outer s₀ H₀ E) pins σ H s) (he:s.heap.get? e=some (zgv C t (some dx))) (h0:s₀.heap.get? e=none) (hn:H e=none) (hE:E (.ref C) (some dx) H) :
  (zgD (CXD P w base) P w K mg base N qual scope f cd A outer s₀ H₀ E).xe (.ref e) s:=by
 have hst:=I.stack
 have hin:∀ env∈(envOfC qual scope s₀.heap.objs.size f cd::outer),∀ b,env.frame=some b->b∈e::(envOfC qual scope s₀.heap.objs.size f cd::outer).filterMap (·.frame):=fun env he b hb=>qg _ (List.mem_filterMap.mpr ⟨env,he,hb⟩)
 have hfs:∀ b,b∈frs outer->b∈frs (envOfC qual scope s₀.heap.objs.size f cd::outer):=fun b hb=>by
  obtain ⟨env,he,hf⟩:=List.mem_filterMap.mp hb
  exact List.mem_filterMap.mpr ⟨env,qg _ he,hf⟩
 have hmem:∀ b,b∈frs (envOfC qual scope s₀.heap.objs.size f cd::outer)->b=s₀.heap.objs.size\/b∈frs outer:=fun b hb=>List.mem_cons.mp (I.stkSub b hb)
 have old:∀ b o,s₀.heap.get? b=some o->b∉frs outer->b∉e::frs (envOfC qual scope s₀.heap.objs.size f cd::outer):=fun b o q nb hb=>by
  rcases List.mem_cons.mp hb with z | hb
  ·rw [z,h0] at q;cases q
  ·rcases hmem b hb with z | z
   ·exact absurd (qt q) (by rw [z];exact Nat.lt_irrefl _)
   ·exact nb z
 have trk:∀ b u,H b=some u->b∉e::frs (envOfC qual scope s₀.heap.objs.size f cd::outer):=fun b u q hb=>by
  rcases List.mem_cons.mp hb with z | hb
  ·rw [z,hn] at q;cases q
  ·rw [I.stkFree b hb] at q;cases q
 have noex:∀ b:Addr,b∉(zgD (CXD P w base) P w K mg base N qual scope f cd A outer s₀ H₀ E).ex:=fun b z=>absurd (show b∈([]:List Addr) from z) (by simp)
 have hen:=PySem.W.hideAll_none (h:=s.heap) (b:=e) (e::frs (envOfC qual scope s₀.heap.objs.size f cd::outer)) qf
 have bmm:∀ b o,base.get? b=some o->b∉e::frs (envOfC qual scope s₀.heap.objs.size f cd::outer):=fun b o q hm=>by
  rcases List.mem_cons.mp hm with z | hm
  ·have z2:s₀.heap.get? b=some o:=(I.ok.bs b o q).1
   rw [z,h0] at z2;cases z2
  ·have z:base.get? b=none:=(hst.mem hm).1
   rw [z] at q;cases q
 have he':=he
 unfold zgv at he'
 have go:=wpAny_leaving_firstW (M:=model P w) (A:=A.deeper (envOfC qual scope s₀.heap.objs.size f cd)) (E:=fun e' s''=>CXD P w base outer H₀ s₀ E e' s'') (base:=PySem.W.hideAll s.heap (e::frs (envOfC qual scope s₀.heap.objs.size f cd::outer))) (a0:=.ref t) (outer:=outer) (e:=e)
  I.ok.frames (PySem.W.funFrames_hide hst hin) rfl he' (fun b o q=>PySem.W.of_hideAll _ q) hen rfl rfl rfl
  (Q:=fun _ s''=>Heap.LeftW (PySem.W.hideAll s.heap (e::frs (envOfC qual scope s₀.heap.objs.size f cd::outer))) (envOfC qual scope s₀.heap.objs.size f cd::outer) e (.ref C) (.ref t) s.heap s''.heap/\s''.os=s.os/\s''.gens=s.gens) fun h' hL=>⟨hL,rfl,rfl⟩
 refine wpAny_mono ((zg7 _ _).any go) (fun _ s2 z=>?_) fun _ _ z=>z
 obtain ⟨⟨⟨k1,⟨_,_,k2⟩,k3,k4⟩,zo,zg⟩,dk⟩:=z
 have fly:Heap.FlyingW (PySem.W.hideAll s.heap (e::frs (envOfC qual scope s₀.heap.objs.size f cd::outer))) outer e (.ref C) (.ref t) s2.heap:=⟨k1,hen,k2,k3⟩
 obtain ⟨oe,vs,g1,g2,g3,g4⟩:=fly.first
 refine ⟨e,C,.ref t,_,H,dx,rfl,zo.trans I.os,by rw [zg];exact I.bare,⟨fun b o q=>?_,fun b o q n hb=>?_,fun b o q n hb=>?_,fun b o q hb=>?_,fun b o q n=>I.base.free b o q n (noex b),fun b o q hb=>?_,fun b hb=>I.ok.frf b hb,I.base.tups,I.base.frzs,I.base.tbls,?_,fly,hn⟩,⟨oe,vs,g1,g2,g3,(dk.at he g1).trans rfl⟩,hE⟩
 ·exact PySem.W.hideAll_get _ (I.bk b o q) (bmm b o q)
 ·exact PySem.W.hideAll_get _ (I.base.keep b o q n hb (noex b)) (old b o q hb)
 ·obtain ⟨sl,e1⟩:=I.base.slot b o q n hb (noex b)
  obtain ⟨_,o2,e2,hnf⟩:=hst.mem (hfs b hb)
  rw [e1] at e2
  cases e2
  obtain ⟨sl',e3⟩:=k4 b _ e1 hnf
  exact ⟨sl',e3⟩
 ·obtain ⟨_,o2,e2,hnf⟩:=I.ok.funs.mem hb
  have z:s₀.heap.get? b=some o2:=e2
  rw [q] at z
  cases z
  exact hnf
 ·obtain ⟨o',e1⟩:=I.base.there b o q (noex b)
  exact ⟨o',PySem.W.hideAll_get _ e1 (old b o q hb)⟩
 ·intro b u q
  refine (I.hok b u q).stay (fun c v hc r=>PySem.W.hideAll_get _ r ?_) (fun _ z=>z) fun _ _ z=>z
  rcases hc with rfl | hc
  ·exact trk c u q
  ·exact trk c _ hc
end
end L2
end
section
namespace L2
open PySem PySem.Spec PyProof.Rows
def xm (p:Str):D:=.tup [.ty "raise",.str p]
def zro:D->Bool
 | .tup [.ty _,.str _]=>true
 | _=>false
def ztf (Γ:Cn) (K:PySem.W.Frag) (R:Str->Hp->Prop) (E:Ends) (H₀ G' H':Hp) (σ':St) (fl:Fl):Prop:=(∀ p,fl=.rt (xm p)->R p H')/\((∀ p,fl≠.rt (xm p))->zth Γ K E H₀ G' H' σ' fl)
def TDy (Γ:Cn) (K:PySem.W.Frag) (R:Str->Hp->Prop) (g:FS):TS:=fun E σ H=>∃ G₀ H₀ G ρ fl ρ',At Γ K G₀ H₀ G H ρ σ/\g ρ=some (fl,ρ')/\∀ σ' G' H',zbT G G'->At Γ K G₀ H₀ G' H' ρ' σ'->ztf Γ K R E H₀ G' H' σ' fl
structure DY (Γ:Cn) (X:Cx) (R:Str->Hp->Prop) (st:Stmt) (g:FS):Prop where
 out:PS X st (TDy Γ X.K R g)
structure DYs (Γ:Cn) (X:Cx) (R:Str->Hp->Prop) (st:List Stmt) (g:FS):Prop where
 out:PSs X st (TDy Γ X.K R g)
def noXm (g:FS):FS:=fun ρ=>match g ρ with
 | some (.rt d,ρ')=>if zro d=true then none else some (.rt d,ρ')
 | r=>r
section
variable {Γ:Cn} {X:Cx} {R:Str->Hp->Prop} {c:Expr} {pos:Pos} {g g':FS} {st:Stmt} {sts:List Stmt} {ft:FT}
theorem TDy.noXm:∀ E σ H,TDy Γ X.K R (noXm g) E σ H->TDs Γ X.K g E σ H:=by
 rintro E σ H ⟨G₀,H₀,G,ρ,fl,ρ',A,h,k⟩
 unfold L2.noXm at h
 split at h
 ·rename_i d ρ1 hg
  split at h
  ·cases h
  ·rename_i hx
   cases h
   refine ⟨G₀,H₀,G,ρ,_,_,A,hg,fun σ' G' H' sm A'=>(k σ' G' H' sm A').2 fun p z=>?_⟩
   cases z
   exact hx rfl
 ·rename_i hne
  refine ⟨G₀,H₀,G,ρ,fl,ρ',A,h,fun σ' G' H' sm A'=>(k σ' G' H' sm A').2 fun p z=>?_⟩
  subst z
  exact hne _ _ h
theorem zrB (h:DSs Γ X.nox sts g):DYs Γ X R sts (noXm g):=⟨h.1.nox.imp TDy.noXm⟩
theorem zsW (h:DS Γ X st g):DY Γ X R st (noXm g):=⟨h.1.imp TDy.noXm⟩
theorem zpJ:DYs Γ X R [] zca:=⟨zfT.imp fun E σ H=>by
 rintro ⟨G₀,H₀,G,ρ,fl,ρ',A,h,k⟩
 cases h
 exact (k σ G H (.refl _) A).2 (fun _ z=>nomatch z)⟩
theorem zpI (h:DY Γ X R st g):DYs Γ X R [st] g:=⟨zds h.1⟩
theorem zj2 (h1:DY Γ X R st g) (h2:DYs Γ X R sts g'):DYs Γ X R (st::sts) (zaG g g'):=⟨(zcY h1.1 h2.1).imp fun E σ H=>by
 rintro ⟨G₀,H₀,G,ρ,fl,ρ',A,h,k⟩
 unfold zaG at h
 obtain ⟨⟨fl1,ρ1⟩,h1,h⟩:=oBd h
 refine ⟨G₀,H₀,G,ρ,fl1,ρ1,A,h1,fun σ1 G1 H1 sm A1=>?_⟩
 cases fl1 with
 | nx=>exact ⟨(fun _ z=>nomatch z),fun _=>⟨G₀,H₀,G1,ρ1,fl,ρ',A1,h,fun σ' G' H' sm' A'=>k σ' G' H' (sm.trans sm') A'⟩⟩
 | bk=>cases h;exact k σ1 G1 H1 sm A1
 | ct=>cases h;exact k σ1 G1 H1 sm A1
 | rt d=>cases h;exact k σ1 G1 H1 sm A1
 | ow d=>cases h;exact k σ1 G1 H1 sm A1
 | nw d=>cases h;exact k σ1 G1 H1 sm A1
 | od d=>cases h;exact k σ1 G1 H1 sm A1⟩
theorem zsX {sa sb:List Stmt} (hc:DT Γ X c ft) (ha:DYs Γ X R sa g) (hb:DYs Γ X R sb g'):DY Γ X R (.If c sa sb pos) (sIf ft g g'):=⟨(zli hc.1 ha.1 hb.1).imp fun E σ H=>by
 rintro ⟨G₀,H₀,G,ρ,fl,ρ',A,h,k⟩
 unfold sIf at h
 obtain ⟨x,hx,h⟩:=oBd h
 refine ⟨G₀,H₀,G,ρ,x,A,hx,fun G1 H1 s1=>?_⟩
 cases x with
 | true=>exact zod ⟨G₀,H₀,G1,ρ,fl,ρ',A.step s1,by simpa using h,fun σ2 G2 H2 sm2 A2=>k σ2 G2 H2 (s1.gg.trans sm2) A2⟩
 | false=>exact zoe ⟨G₀,H₀,G1,ρ,fl,ρ',A.step s1,by simpa using h,fun σ2 G2 H2 sm2 A2=>k σ2 G2 H2 (s1.gg.trans sm2) A2⟩⟩
end
def zeg (fr:FA):FS:=fun ρ=>(fr ρ).bind fun ds=>match ds with
 | [.str p]=>if p.length<=1000 then some (.rt (xm p),ρ) else none
 | _=>none
section
variable {Γ:Cn} {P:Program} {w:World} {K:PySem.W.Frag} {mg:Str->Option Value} {base:Heap} {N ps:List Str} {qual:Str} {scope:Scope} {f C CS fI:Addr} {fd:FuncData} {cd:Value} {A:Around} {outer:List Env} {s₀:Shared} {H₀:Hp} {E:XK}
 {R:Str->Hp->Prop} {x fl:Str} {np cpos pos:Pos} {e₀:Expr} {fr:FA} {k j:Nat}
theorem zny (hE:∀ p H',R p H'->∀ dx,H' dx=none->E (.ref C) (some dx) (upd H' dx (.xd [(fl,.str p)]))) (FN:FnOk P w K mg base CX0 k fI fd ps (zp5 C fl)) (Z:XCls K base C CS fI fl) (hb:zcL K fd ps [])
  (hr:Room j (zgD (CXD P w base) P w K mg base N qual scope f cd A outer s₀ H₀ E).A) (hk:k+1<=j) (hg:Gl (zgD (CXD P w base) P w K mg base N qual scope f cd A outer s₀ H₀ E) x) (hm:mg x=some (.ref C))
  (ha:DA Γ (zgD (CXD P w base) P w K mg base N qual scope f cd A outer s₀ H₀ E) [e₀] fr)
  (he:starEach [e₀] (envOfC qual scope s₀.heap.objs.size f cd)=(false,eval e₀ (envOfC qual scope s₀.heap.objs.size f cd))::starEach [] (envOfC qual scope s₀.heap.objs.size f cd):=by rfl)
  (hdb:(x==("__debug__":Str))=false:=by decide) :
  DY Γ (zgD (CXD P w base) P w K mg base N qual scope f cd A outer s₀ H₀ E) R (.Raise (some (.Call (.Name x np) [e₀] [] cpos)) none pos) (zeg fr):=⟨by
 intro pins s σ H D I hq
 obtain ⟨G₀,H₀',G,ρ,flw,ρ',At0,h,k⟩:=hq
 unfold zeg at h
 obtain ⟨ds,hd,h⟩:=oBd h
 split at h
 ·rename_i y
  split at h
  ·rename_i hy
   cases h
   refine zkF (I.ok.hd rfl) ?_
   refine wpAny_mono (znd (X:=zgD (CXD P w base) P w K mg base N qual scope f cd A outer s₀ H₀ E) (Q:=R) FN Z (hr.mono hk) hg hm hb ha.out I ⟨G₀,H₀',G,ρ,_,At0,hd,fun vs G' H' st r=>?_⟩ rfl hdb he) (fun u s1 z=>?_) fun _ _ z=>z
   ·have hv:vs=[.str y]:=by
     cases r with
     | cons r1 r2=>cases r2;rw [r1.str_inv]
    subst hv
    exact ⟨y,rfl,hy,fun H2 sm2=>(k σ G' H2 st.gg ((At0.step st).step ⟨sm2,.refl _,st.gh.trans sm2,fun _ _ _=>rfl⟩)).1 y rfl⟩
   ·obtain ⟨a,dx,H1,y',rfl,g1,g2,g3,g4,I2,q⟩:=z
    have hH:(upd (upd H1 dx (.xd [(fl,.str y')])) a (.ext (ExM a C dx))) a=some (.ext (ExM a C dx)):=zav
    obtain ⟨⟨t0,he0⟩,_⟩:=(show zbX P w (upd (upd H1 dx (.xd [(fl,.str y')])) a (.ext (ExM a C dx))) s1.heap a (.ext (ExM a C dx)) from I2.hok a _ hH)
    have hna:(upd H1 dx (.xd [(fl,.str y')])) a=none:=by rw [zaq (Ne.symm g4)];exact g2
    exact ⟨a,t0,some dx,C,rfl,Z.cls.keeps I2.bk,he0,zkE (I2.forget hna) he0 g1 hna (hE y' H1 q dx g3)⟩
  ·cases h
 ·cases h⟩
end
end L2
end
section
namespace L2
open PySem PySem.Spec PyProof.Rows
def zto (Γ:Cn) (K:PySem.W.Frag) (C CN:Addr) (f:Str) (n:Nat) (F:FQ):Sp:=fun vs H Q E=>∃ x dx H1 G ds d us,vs=.ref x::us/\H=upd (upd H1 dx (.own x)) x (.ins C dx [])/\H1 x=none/\H1 dx=none/\dx≠x/\zbT G H1/\Reps Γ K G us ds/\ds.length=n/\F ds=some d /\
 (∀ p,d=xm p->∀ G' H' dz,Step G H1 G' H'->H' dz=none->E (.ref CN) (some dz) (upd H' dz (.xd [(f,.str p)])))/\((∀ p,d≠xm p)->∀ G' H',Step G H1 G' H'->Rep Γ K G' (.ref x) d->Q .non H')
def zii (n:Nat) (c:Str) (g:FS):FQ:=fun ds=>(g (some (.obj c [])::ds.map (fun d=>some (Slot.sh d))++List.replicate n none)).bind fun r=>match r.1 with
 | .nx=>match r.2[0]? with
  | some (some s)=>zhn s
  | _=>none
 | .rt d=>if zro d=true then some d else none
 | _=>none
theorem zke {s:Slot} {p:Str}:zhn s≠some (xm p):=by
 intro z
 unfold zhn at z
 split at z <;> first | cases z | skip
section
variable {Γ:Cn} {P:Program} {w:World} {K:PySem.W.Frag} {mg:Str->Option Value} {base:Heap} {c:Str} {attrs:List Str}
theorem Fun.okIY {x qual fl:Str} {st:Stmt} {f C CN:Addr} {fd:FuncData} {N ps:List Str} {s0:Str} {k:Nat} {g:FS} (F:Fun K x qual st f fd) (S:FnScope N (s0::ps) (zao st)) (hC:Γ.cls c=some C)
  (hr0:∀ ρ d ρ',g ρ=some (.rt d,ρ')->zro d=true->∃ p,d=xm p)
  (hbody:∀ (y:Addr) (cdv:Value) (A:Around) (outer:List Env) (s:Shared) (H:Hp) (E:XK),Room k (A.deeper (envOfC qual (zao st) s.heap.objs.size f cdv)) ->
   DYs (Γ.mk1 y) (zgD (CXD P w base) P w K mg base N qual (zao st) f cdv A outer s H E) (fun p H'=>∀ dz,H' dz=none->E (.ref CN) (some dz) (upd H' dz (.xd [(fl,.str p)]))) (zbW st) g) :
  FnOk P w K mg base (CXD P w base) (k+1) f fd (s0::ps) (zto Γ K C CN fl ps.length (zii (N.length - (ps.length+1)) c g)):=by
 obtain ⟨oc,od,kV,doc,pm,an,cdv,ct,osl,rfl,lk,hcd⟩:=F.ex
 refine zpF lk hcd S (fun vs H Q E h=>?_) fun A outer s H vs Q E hr h=>?_
 ·obtain ⟨y,dx,H1,G,ds,d,us,rfl,_,_,_,_,_,r,hl,_⟩:=h
  rw [qh,r.length,hl,qh]
 ·obtain ⟨y,dx,H1,G,ds,d,us,rfl,rfl,hx,hdx,hne,gh,r,hl,hd,kx,kn⟩:=h
  refine ⟨_,(hbody y cdv A outer s _ E hr).1,?_⟩
  unfold zii at hd
  obtain ⟨⟨flw,ρ'⟩,hg,hd⟩:=oBd hd
  have s1:=Step.newOwn (o:=.own y) gh hdx
  have hx1:(upd H1 dx (.own y)) y=none:=by rw [zaq (Ne.symm hne)];exact hx
  have s2:=s1.trans (Step.newOwn (o:=.ins C dx []) s1.gh hx1)
  have hlen:us.length=ds.length:=r.length
  have A0:At (Γ.mk1 y) K G H1 G (upd (upd H1 dx (.own y)) y (.ins C dx [])) (some (.obj c [])::ds.map (fun d=>some (Slot.sh d))++List.replicate (N.length - (ps.length+1)) none) (zey N (.ref y::us)):=by
   refine ⟨s2,by simp [zey,hlen,hl],fun i=>if i=0 then [y] else [],fun i t e=>?_,fun i j t u hij e1 e2 b hb=>?_⟩
   ·cases i with
    | zero =>
     cases e
     exact ⟨.ref y,rfl,.obj (vs:=[]) (fs:=[]) hC hx (gh.free hx) zav rfl .nil rfl⟩
    | succ i =>
     have e:(ds.map (fun d=>some (Slot.sh d))++List.replicate (N.length - (ps.length+1)) none)[i]?=some (some t):=e
     by_cases hi:i < ds.length
     ·rw [qx (by simpa using hi),qj] at e
      obtain ⟨d',hd',e⟩:=oMd e
      cases e
      obtain ⟨v,hv,rv⟩:=r.get hd'
      refine ⟨v,?_,.sh (rv.to1 y)⟩
      unfold zey
      show ((us.map some)++_)[i]?=some (some v)
      rw [qx (by rw [qe,hlen];exact hi),qj,hv]
      rfl
     ·rw [qI (by simpa using hi),List.getElem?_replicate] at e
      split at e <;> cases e
   ·have hb:b∈(if i=0 then [y] else []):=hb
    show b∉(if j=0 then [y] else [])
    by_cases hi:i=0
    ·subst hi
     rw [qY (Ne.symm hij)]
     exact fun z=>by cases z
    ·rw [qY hi] at hb;cases hb
  refine ⟨G,H1,G,_,flw,ρ',A0,hg,fun σ' G' H' sm A'=>?_⟩
  cases flw with
  | nx =>
   refine ⟨fun _ z=>(nomatch z),fun _=>?_⟩
   simp only at hd
   split at hd
   ·rename_i sl hs
    obtain ⟨a,G2,e1,st2,rp⟩:=A'.done hs hd
    cases e1
    exact kn (fun p z=>zke (by rw [← z];exact hd)) G2 H' st2 rp.of1
   ·cases hd
  | rt d' =>
   simp only at hd
   split at hd
   ·rename_i hx
    cases hd
    obtain ⟨p,rfl⟩:=hr0 _ _ _ hg hx
    exact ⟨fun p' z=>by cases z;exact fun dz hdz=>kx _ rfl G' H' dz A'.st hdz,fun z=>absurd rfl (z p)⟩
   ·cases hd
  | ow d'=>cases hd
  | nw d'=>cases hd
  | od d'=>cases hd
  | bk=>cases hd
  | ct=>cases hd
structure CalIY (Γ:Cn) (P:Program) (w:World) (K:PySem.W.Frag) (mg:Str->Option Value) (base:Heap) (c:Str) (CN:Addr) (fl:Str) (n k:Nat) (F:FQ):Prop where
 ex:∃ C f fd ps,Γ.cls c=some C/\Mk K C f/\mg c=some (.ref C)/\FnOk P w K mg base (CXD P w base) k f fd ps (zto Γ K C CN fl n F)/\zcL K fd ps []
theorem DfnM.calIY {qual fl:Str} {C CN:Addr} {st:Stmt} {N ps:List Str} {s0:Str} {k:Nat} {g:FS} (O:ClsOk Γ K mg c C) (F:DfnM K C c "__init__" qual st) (S:FnScope N (s0::ps) (zao st))
  (hb:∀ (kV doc pm:Value) (an:Option Addr) (cdv ct:Value) (us:List Value),us.length=(s0::ps).length->bindArgs (PySem.W.fnOf "__init__" qual (zcS st) (zbW st) (zao st) .none kV doc pm an cdv ct) ⟨us,[]⟩=pure ((s0::ps).zip us))
  (hr0:∀ ρ d ρ',g ρ=some (.rt d,ρ')->zro d=true->∃ p,d=xm p)
  (hbody:∀ (f y:Addr) (cdv:Value) (A:Around) (outer:List Env) (s:Shared) (H:Hp) (E:XK),Room k (A.deeper (envOfC qual (zao st) s.heap.objs.size f cdv)) ->
   DYs (Γ.mk1 y) (zgD (CXD P w base) P w K mg base N qual (zao st) f cdv A outer s H E) (fun p H'=>∀ dz,H' dz=none->E (.ref CN) (some dz) (upd H' dz (.xd [(fl,.str p)]))) (zbW st) g) :
  CalIY Γ P w K mg base c CN fl ps.length (k+1) (zii (N.length - (ps.length+1)) c g):=by
 obtain ⟨f,fd,h1,h2,h3⟩:=F.ex
 exact ⟨C,f,fd,s0::ps,O.cn,⟨O.makes,h2,h3,O.kp⟩,O.mgC,h1.okIY S O.cn hr0 (hbody f),h1.binds hb⟩
end
section
variable {P:Program} {w:World} {base B:Heap} {outer:List Env} {H H':Hp} {s:Shared} {e C dx:Addr} {cls a0:Value} {h:Heap}
theorem Fly.unD (F:Fly P w base outer H H' s B e cls a0 h):Un (frs outer) [] H (upd H' e (.ext (zeS e C dx))) s.heap h:=by
 have u:=F.un
 have ne:∀ b u,H' b=some u->b≠e:=fun b u q z=>by subst z;rw [F.new] at q;cases q
 refine ⟨u.keep,u.slot,fun b o q n hx=>?_,u.there,fun b xs q=>?_,fun b o xs q=>?_,fun b ps q=>?_⟩
 ·rw [zaq (fun z=>by subst z;rw [F.fresh] at q;cases q)];exact u.free b o q n hx
 ·have z:=u.tups b xs q;rw [zaq (ne b _ z)];exact z
 ·have z:=u.frzs b o xs q;rw [zaq (ne b _ z)];exact z
 ·obtain ⟨m,z⟩:=u.tbls b ps q;exact ⟨m,by rw [zaq (ne b _ z)];exact z⟩
theorem Fly.hkD (F:Fly P w base outer H H' s B e cls a0 h) (x:zeS e C dx h):HOk P w (upd H' e (.ext (zeS e C dx))) h:=by
 have ne:∀ b u,H' b=some u->b≠e:=fun b u q z=>by subst z;rw [F.new] at q;cases q
 intro b u q
 by_cases hb:b=e
 ·subst hb
  rw [zav] at q
  cases q
  obtain ⟨o,vs,k1,_⟩:=id x
  exact ⟨x,⟨o,k1⟩,fun h1 h2 p k=>p.stay k⟩
 ·rw [zaq hb] at q
  exact (F.hk b u q).stay (fun c v _ r=>r) (fun c z=>by rw [zaq (ne c _ z)];exact z) fun c xs z=>by rw [zaq (ne c _ z)];exact z
theorem zeS.dk {a:Addr} {h h':Heap} (x:zeS a C dx h) (y:zgu a (.ref C) h') (k:Dk h h'):zeS a C dx h':=by
 obtain ⟨o,vs,e1,e2,e3,e4⟩:=x
 obtain ⟨o',vs',g1,g2,g3⟩:=y
 exact ⟨o',vs',g1,g2,g3,(k.at e1 g1).trans e4⟩
end
section
variable {X:Cx} {k:Nat} {f C:Addr} {fd:FuncData} {ps:List Str} {sp:Sp} {fx cx n y:Str} {p p2 p3 cp py np ap hp pos:Pos} {e:Expr} {es:List Expr} {t:TA} {cv:Value} {i j:Nat}
def tXf (K:PySem.W.Frag) (ta:TE) (g:Str):TE:=fun σ H Q=>ta σ H fun x H1=>∃ a C dz fs v,x=.ref a/\H1 a=some (.ext (zeS a C dz))/\H1 dz=some (.xd fs)/\ExcK K C/\PySem.W.hasDictIn K C=true/\zdR K C g/\fs.lookup g=some v/\Q v H1
theorem zst {ta:TE} {g:Str} (ho:PE X e ta) (hbs:attributeBase e g X.env (eval e X.env)=eval e X.env:=by rfl):PE X (.Attribute e g pos) (tXf X.K ta g):=by
 intro pins s σ H Q I h
 refine zmz hbs (thn (ho pins s σ H _ I h) fun u s1 ⟨x,H1,I1,rx,a,C,dz,fs,v,ex,ha,hz,Z,hd,na,l,q⟩=>?_)
 subst ex
 obtain rfl:u=Value.ref a:=rx
 obtain ⟨p,_⟩:=(show zbX X.prog X.w H1 s1.heap a (.ext (zeS a C dz)) from I1.hok a _ ha)
 obtain ⟨mA,hns,hm⟩:=(show zbX X.prog X.w H1 s1.heap dz (.xd fs) from I1.hok dz _ hz)
 obtain ⟨u,hu,ru⟩:=zkO.some_of (v:=v) (o:=mA g) (by rw [← l];exact hm g)
 exact znw Z I1.kIn p hns hu hd na (ziu ru) ⟨v,H1,I1.tok _,ru,q⟩
end
end L2
end
section
namespace L2
open PySem PySem.Spec PyProof.Rows
def zt4 (K:PySem.W.Frag):List V->Hp->VK->Prop:=fun vs H Q=>∃ a C dz c b,vs=[.ref a,c]/\H a=some (.ext (zeS a C dz))/\ExcK K C/\IsiC K H (.ref C) c b/\Q (.bl b) H
section
variable {X:Cx}
theorem zgf:zdT X (.builtin "isinstance") (zt4 X.K):=by
 intro pins s σ H xs us Q I r h
 obtain ⟨a,C,dz,c,b,rfl,ha,Z,ic,q⟩:=h
 obtain ⟨u,w',rfl,r1,r2⟩:=zkV r
 have fin:∀ tk,EP X pins σ Q (.bool b) { s with toks:=tk }:=fun tk=>⟨.bl b,H,I.tok tk,rfl,q⟩
 obtain ⟨p,_⟩:=(show zbX X.prog X.w H s.heap a (.ext (zeS a C dz)) from I.hok a _ ha)
 obtain rfl:u=Value.ref a:=r1
 cases ic with
 | one hv hk =>
  have e:=zjx r2 hv
  subst e
  exact PySem.W.kia_one (zjT Z) I.kIn p.exc hk (fun z=>nomatch z) fin
 | @tup tp ys its _ htp hm hk =>
  cases (show w'=Value.ref tp from r2)
  obtain ⟨hz,its',rv,o,ho,hoc,n,hod⟩:=(show zbX X.prog X.w H s.heap tp (.tup ys) from I.hok tp _ htp)
  have e:=zh4 rv hm
  subst e
  obtain ⟨oc,odi,oda,osl⟩:=o
  simp only at hoc hod
  subst hoc hod
  exact PySem.W.kia_tup (zjT Z) I.kIn p.exc ho hk (fun z=>nomatch z) fin
end
mutual
def zcV (n:Nat):D->Bool
 | .lst l=>(l.length != n) && zfl n l
 | .tup l=>zfl n l
 | .non=>true
 | .bl _=>true
 | .int _=>true
 | .str _=>true
 | _=>false
def zfl (n:Nat):List D->Bool
 | []=>true
 | d::r=>zcV n d && zfl n r
end
section
variable {Γ:Cn} {K:PySem.W.Frag} {G:Hp} {a:Addr} {ws:List V}
mutual
theorem Rep.del (ha:G a=some (.lst ws)):∀ {v:V} {d:D},Rep Γ K G v d->zcV ws.length d=true->Rep Γ K (del G a) v d
 | _,_,.non,_=>.non
 | _,_,.bl b,_=>.bl b
 | _,_,.int i,_=>.int i
 | _,_,.str x,_=>.str x
 | _,_,.ty x,h=>by simp [zcV] at h
 | _,_,.tup g r,h=>.tup (by rw [zfp (fun z=>by rw [z,ha] at g;cases g)];exact g) (Reps.del ha r (by unfold zcV at h;exact h))
 | _,_,.lst g r,h=>by
  unfold zcV at h
  rw [Bool.and_eq_true] at h
  exact .lst (by
   rw [zfp (fun z=>by
    rw [z,ha] at g
    cases g
    rw [r.length] at h
    simp at h)]
   exact g) (Reps.del ha r h.2)
 | _,_,.scr g,h=>by simp [zcV] at h
 | _,_,.dk g e r,h=>by simp [zcV] at h
 | _,_,.dt g e r,h=>by simp [zcV] at h
 | _,_,.ins g c e r,h=>by simp [zcV] at h
theorem Reps.del (ha:G a=some (.lst ws)):∀ {vs:List V} {ds:List D},Reps Γ K G vs ds->zfl ws.length ds=true->Reps Γ K (del G a) vs ds
 | _,_,.nil,_=>.nil
 | _,_,.cons g r,h=>by
  unfold zfl at h
  rw [Bool.and_eq_true] at h
  exact .cons (Rep.del ha g h.1) (Reps.del ha r h.2)
end
theorem Reps.set {vs:List V} {ds:List D} (r:Reps Γ K G vs ds) {v:V} {d:D} (h:Rep Γ K G v d):∀ j:Nat,Reps Γ K G (vs.set j v) (ds.set j d):=by
 induction vs generalizing ds with
 | nil=>cases r;intro j;exact .nil
 | cons x xs ih =>
  cases r with
  | cons r1 r2 =>
   intro j
   cases j with
   | zero=>exact .cons h r2
   | succ j=>exact .cons r1 (ih r2 j)
theorem At.freezeE {H₀ G₀ H:Hp} {ρ:za5} {σ:St} (A:At Γ K G₀ H₀ G H ρ σ) {i:Nat} {ds:List D} (hi:ρ[i]?=some (some (.own ds))) (h1:σ[i]?=some (some (.ref a))) (q1:H₀ a=none) (q2:G a=none) (q3:H a=some (.lst ws)) (q4:Reps Γ K G ws ds) :
  At Γ K G₀ H₀ (upd G a (.lst ws)) H (ρ.set i (some (.sh (.lst ds)))) σ:=by
 have sm:zbT G (upd G a (.lst ws)):=fun b o e=>by rw [zaq (zas e q2)];exact e
 refine A.ch hi h1 (.own q1 q2 q3 q4) (fun b o e hb=>e) (.sh (.lst zav (q4.mono sm))) (fun b hb=>by cases hb) sm (fun b o e=>?_) (fun b o e hb=>?_)
 ·by_cases hb:b=a
  ·subst hb;rw [zav] at e;cases e;exact q3
  ·rw [zaq hb] at e;exact A.gh b o e
 ·rw [zaq (fun z=>hb (List.mem_singleton.mpr z))]
end
section
variable {Γ:Cn} {X:Cx} {e:Expr} {f:FE} {pos p2 pc:Pos}
end
end L2
end
section
namespace L2
open PySem PySem.Spec PyProof.Rows
def zgN (g:FS):Prop:=∀ ρ d ρ',g ρ=some (.rt d,ρ')->zro d=true->∃ p,d=xm p
section
variable {g g':FS} {ft:FT} {fr:FA}
theorem zgN.nil:zgN zca:=fun _ _ _ h=>by cases h
theorem zgN.none:zgN (noXm g):=fun ρ d ρ' h hx=>by
 unfold noXm at h
 split at h
 ·split at h
  ·cases h
  ·rename_i hn;cases h;exact absurd hx hn
 ·rename_i hne
  exact absurd h (hne d ρ')
theorem zgN.seq (a:zgN g) (b:zgN g'):zgN (zaG g g'):=fun ρ d ρ' h hx=>by
 unfold zaG at h
 obtain ⟨⟨fl,ρ1⟩,h1,h2⟩:=oBd h
 cases fl with
 | nx=>exact b _ _ _ h2 hx
 | rt d'=>cases h2;exact a _ _ _ h1 hx
 | bk=>cases h2
 | ct=>cases h2
 | ow d'=>cases h2
 | nw d'=>cases h2
 | od d'=>cases h2
theorem zgN.iff (a:zgN g) (b:zgN g'):zgN (sIf ft g g'):=fun ρ d ρ' h hx=>by
 unfold sIf at h
 obtain ⟨x,h1,h2⟩:=oBd h
 cases x with
 | true=>exact a _ _ _ (by simpa using h2) hx
 | false=>exact b _ _ _ (by simpa using h2) hx
theorem zgN.raise:zgN (zeg fr):=fun ρ d ρ' h hx=>by
 unfold zeg at h
 obtain ⟨ds,_,h⟩:=oBd h
 split at h
 ·split at h
  ·cases h;exact ⟨_,rfl⟩
  ·cases h
 ·cases h
end
def zr4:D->Option D
 | .tup [.ty n,.str p]=>if n="raise" then some (.str p) else none
 | .ins _ _=>some (.str "none")
 | _=>none
structure RefYK (K:PySem.W.Frag) (mg:Str->Option Value) (CN CS CG CM CP CR CY CT:Addr):Prop where
 mN:mg "NoShop"=some (.ref CN)
 mS:mg "ShopError"=some (.ref CS)
 mG:mg "Gone"=some (.ref CG)
 mM:mg "NoName"=some (.ref CM)
 mP:mg "NoPlan"=some (.ref CP)
 mR:mg "NoRow"=some (.ref CR)
 mY:mg "NoSay"=some (.ref CY)
 mT:mg "NoTree"=some (.ref CT)
 exm:PySem.W.exmOne K (.ref CN) (.ref CS)=some true
 k2:PySem.W.kitOne K (.ref CN) (.type "ValueError")=some true
 k3:PySem.W.kitAny K (.ref CN) [.ref CG,.ref CM,.ref CP,.ref CR,.ref CY,.ref CT]=some false
 exk:ExcK K CN
 hd:PySem.W.hasDictIn K CN=true
 no:zdR K CN "part"
end L2
end
section
namespace L2
open PySem PySem.Spec PyProof.Rows
theorem zry {K:PySem.W.Frag} {base:Heap} {C CS:Addr} {dd:Option Addr} {cd:ClassData} {k0 k1 k2 k3 k5:Option Value} (X:K.In base) (lk:K.lookup C=some ⟨.type "type",dd,.cls cd,#[k0,k1,k2,k3,some (.builtin "ValueError.__new__"),k5]⟩)
  (hm:cd.mro=.ref C::.ref CS::zmF) (hd:cd.hasDel=false) (hh:cd.hasDict=true) (q:PySem.W.excIn K CS zmF "ValueError.__new__"=true):ExC base C:=by
 have T:OwnTail base zmF (.ref CS::zmF):=by
  unfold PySem.W.excIn at q
  split at q
  ·rename_i dd0 cd0 sl0 look
   split at q
   ·simp only [Bool.not_eq_true',Bool.and_eq_true,beq_iff_eq] at q
    obtain ⟨⟨⟨⟨⟨rfl,rfl⟩,nodel⟩,tl⟩,nsok⟩,noin⟩:=q
    exact .own (X _ _ look) (.of_isNs (PySem.W.isNs_of_in X nsok)) (PySem.W.nsMap_none_of_in X nsok noin) .base
   ·cases q
  ·cases q
 obtain ⟨y1,y2,y3,y4,y5,y6,y7,y8,y9,y10,y11⟩:=cd
 dsimp only at hm hd hh
 subst hm hd hh
 exact ⟨_,_,_,_,_,_,_,_,_,_,_,_,_,_,_,X _ _ lk,T⟩
theorem zoq {K:PySem.W.Frag} {base:Heap} {C CS fI:Addr} {f:Str} {dd:Option Addr} {cd:ClassData} {k0 k1 k2 k3 k5:Option Value} (X:K.In base) (lk:K.lookup C=some ⟨.type "type",dd,.cls cd,#[k0,k1,k2,k3,some (.builtin "ValueError.__new__"),k5]⟩)
  (hm:cd.mro=.ref C::.ref CS::zmF) (hd:cd.hasDel=false) (hh:cd.hasDict=true) (q:PySem.W.excIn K CS zmF "ValueError.__new__"=true)
  (sa:PySem.W.findIn K (.ref C) "__setattr__"=some (some (.builtin "object.__setattr__"))) (ob:PySem.W.mroIn K C (.type "object")=some true) (no:PySem.W.findIn K (.ref C) f=some none)
  (init:PySem.W.findIn K (.ref C) "__init__"=some (some (.ref fI))) (fn:PySem.W.isFn K (.ref fI)=true) (kp:PySem.W.keepIn K (.ref C)=true):XCls K base C CS fI f :=
 ⟨zry X lk hm hd hh q,sa,⟨cd,by unfold PySem.W.clsIn;rw [lk],hm,hh⟩,ob,no,init,fn,kp⟩
end L2
end
section
namespace L2
open PySem PySem.Spec PyProof.Rows
section
variable {P:Program} {w:World} {K:PySem.W.Frag} {mg:Str->Option Value} {base:Heap} {N:List Str} {qual:Str} {scope:Scope} {f:Addr} {cd:Value} {A:Around} {outer:List Env} {s₀:Shared} {H₀:Hp} {E:XK}
theorem zo5:zhg (CXD P w base) (zgD (CXD P w base) P w K mg base N qual scope f cd A outer s₀ H₀ E) E:=by
 rintro pins σ H s e s' I ⟨a,C,a0,B,H',dx,rfl,hos,hg,F,xD,hE⟩
 have noex:∀ b:Addr,b∉(zgD (CXD P w base) P w K mg base N qual scope f cd A outer s₀ H₀ E).ex:=fun b z=>absurd (show b∈([]:List Addr) from z) (by simp)
 have hfs:∀ b,b∈frs outer->b∈frs (envOfC qual scope s₀.heap.objs.size f cd::outer):=fun b hb=>by
  obtain ⟨env,he,hf⟩:=List.mem_filterMap.mp hb
  exact List.mem_filterMap.mpr ⟨env,qg _ he,hf⟩
 have old:∀ b o,s₀.heap.get? b=some o->b∉frs outer->b∉frs (envOfC qual scope s₀.heap.objs.size f cd::outer):=fun b o q nb hb=>by
  rcases List.mem_cons.mp (I.stkSub b hb) with z | z
  ·exact absurd (qt q) (by rw [z];exact Nat.lt_irrefl _)
  ·exact nb z
 have go:=wpAny_leaves_onW (M:=model P w) (A:=A.deeper (envOfC qual scope s₀.heap.objs.size f cd)) (E:=fun e' s''=>CXD P w base outer H₀ s₀ E e' s'') (env:=envOfC qual scope s₀.heap.objs.size f cd) (outer:=outer)
  (Q:=fun _ s2=>∃ h',Heap.FlyingW B outer a (.ref C) a0 h'/\s'.heap.UpToSlots h'/\s2={ s' with heap:=h' }) I.ok.frames rfl F.fly fun h' x y=>⟨h',x,y,rfl⟩
 refine wpAny_mono ((zg7 _ _).any go) (fun _ s2 z=>?_) fun _ _ z=>z
 obtain ⟨⟨h',fl,sm,rfl⟩,dk⟩:=z
 have F2:Fly P w base outer H₀ H' s₀ B a (.ref C) a0 h':={
  bst:=F.bst
  keep:=fun b o q n hb=>F.keep b o (I.base.keep b o q n hb (noex b)) (I.base.free b o q n (noex b)) (old b o q hb)
  slot:=fun b o q n hb=>by
   obtain ⟨sl,e1⟩:=I.base.slot b o q n hb (noex b)
   obtain ⟨sl2,e2⟩:=F.slot b _ e1 (I.base.free b o q n (noex b)) (hfs b hb)
   have nf:=F.nofl b _ e1 (hfs b hb)
   obtain ⟨sl3,e3⟩:=sm b _ e2 nf
   exact ⟨sl3,e3⟩
  nofl:=fun b o q hb=>by
   obtain ⟨_,o2,e2,hnf⟩:=I.ok.funs.mem hb
   have z:s₀.heap.get? b=some o2:=e2
   rw [q] at z
   cases z
   exact hnf
  free:=fun b o q n=>by
   obtain ⟨o',e1⟩:=I.base.there b o q (noex b)
   exact F.free b o' e1 (I.base.free b o q n (noex b))
  there:=fun b o q hb=>by
   obtain ⟨o',e1⟩:=I.base.there b o q (noex b)
   exact F.there b o' e1 (old b o q hb)
  frf:=fun b hb=>I.ok.frf b hb
  tups:=fun b xs q=>F.tups b xs (I.base.tups b xs q)
  frzs:=fun b o u q=>F.frzs b o u (I.base.frzs b o u q)
  tbls:=fun b ps q=>by
   obtain ⟨m,e1⟩:=I.base.tbls b ps q
   obtain ⟨m2,e2⟩:=F.tbls b _ e1
   exact ⟨m++m2,by rw [← Array.append_assoc];exact e2⟩
  hok:=F.hok
  fly:=fl
  new:=F.new }
 exact ⟨a,C,a0,B,H',dx,rfl,hos.trans I.os,hg,F2,xD.dk F2.exc dk,hE⟩
end
def zqi (K:PySem.W.Frag) (sp:Sp) (cv:Value) (i j:Nat) (t:TA):TS:=fun D σ H=>t σ H fun vs H1=>∃ (Q:VK) (E:XK),sp vs H1 Q E/\(∀ v H2,Q v H2->D.nx σ H2) /\
 ∀ CN dz H2,E (.ref CN) (some dz) H2->PySem.W.exmOne K (.ref CN) cv=some true/\∀ a,H2 a=none->D.nx (((σ.set j (some (.ref a))).set i (some (.ref a))).set j none) (upd H2 a (.ext (zeS a CN dz)))
section
variable {X:Cx} {k:Nat} {f:Addr} {fd:FuncData} {ps:List Str} {sp:Sp} {fx cx n y:Str} {p p2 p3 cp py np ap hp pos:Pos} {e:Expr} {es:List Expr} {t:TA} {cv:Value} {i j:Nat}
theorem zoR (F:FnOk X.prog X.w X.K X.mg X.base (CXD X.prog X.w X.base) k f fd ps sp) (hr:Room k X.A) (hx0:∀ e s,¬ X.xe e s) (hst:X.stack=X.env::X.outer) (hfr:X.env.frame=some X.env.locals)
  (hg:Gl X fx) (hm:X.mg fx=some (.ref f)) (hk:PySem.W.keepIn X.K (.ref f)=true) (hb:zcL X.K fd ps []) (ha:PA X (e::es) t) (hgc:Gl X cx) (hmc:X.mg cx=some cv)
  (hN:X.N.Nodup) (hi:X.N[i]?=some y) (hy:X.env.kindOf y=some .local) (hj:X.N[j]?=some n) (hn:X.env.kindOf n=some .local) (hij:i≠j)
  (hdb:(fx==("__debug__":Str))=false:=by decide) (hdc:(cx==("__debug__":Str))=false:=by decide) (hdn:(n==("__debug__":Str))=false:=by decide) (hdd:(n==("__classdict__":Str))=false:=by decide)
  (he:starEach (e::es) X.env=(false,eval e X.env)::starEach es X.env:=by rfl) (hpl:(backTo p2 (starEach es X.env)).any (·.1)=false:=by rfl)
  (hs1:swapsWith (.Call (.Name fx p) (e::es) [] p2) none p3.line X.env=pure false:=by rfl) (hs2:swapsWith (.Name n np) (some (.Name y py)) ap.line X.env=pure false:=by rfl) :
  PS X (.Try [.Expr (.Call (.Name fx p) (e::es) [] p2) p3] [.ExceptHandler (some (.Name cx cp)) (some n) [.Assign [.Name y py] (.Name n np) ap] hp] [] [] pos) (zqi X.K sp cv i j t):=by
 intro pins s σ H D I h
 refine wpAny_Try_except ?_
 refine wpAny_execs_cons (wpAny_Expr_any ?_ I.quiet hs1)
 refine wpAny_Call_Name_kw (zej I hg hm ?_ hdb)
 refine PySem.W.callWith_K (h₀:=X.base) I.ok.mod.kin hk (wpAny_mono (ha p2 pins s σ H _ I h) (fun us s1 q=>?_) fun x s1 z=>(hx0 x s1 z).elim) he hpl
 obtain ⟨vs,H1,I1,r1,Q,E,hsp,hnx,hex⟩:=q
 refine ⟨I1.kIn,?_⟩
 have hl:(us++[]).length=ps.length:=by rw [List.append_nil,← r1.length];exact F.len _ _ _ _ hsp
 refine wpAny_call (codeAny_mono (F.run X.A X.stack s1 H1 ⟨us,[]⟩ us vs Q E hr I1.env0 (by have:=hb s1 us I1.kIn hl;rwa [List.append_nil] at this) r1 hsp) fun r s' hq=>?_)
 cases r with
 | ok fl =>
  cases fl with
  | ret u =>
   obtain ⟨v,H',I',rv,q⟩:=I1.after hq
   exact wpAny_execs_nil (wpAny_execs_nil ⟨σ,H',I',hnx v H' q⟩)
  | next=>exact False.elim hq
  | brk=>exact False.elim hq
  | cont=>exact False.elim hq
 | error x =>
  obtain ⟨a,CN,a0,B,H2,dz,rfl,hos,hgens,F1,xD,hE⟩:=hq
  obtain ⟨hxm,hnx2⟩:=hex CN dz H2 hE
  have invOf:∀ {h':Heap} {tk:Nat},Fly X.prog X.w X.base X.stack _ H2 _ B a (.ref CN) a0 h'->Inv X pins σ H2 { s' with heap:=h',toks:=tk }:=fun {h' tk} F'=>I1.call' hos F'.un F'.hk hgens (fun b z=>absurd z (by simp))
  have invE:∀ {h':Heap} {tk:Nat},Fly X.prog X.w X.base X.stack _ H2 _ B a (.ref CN) a0 h'->zeS a CN dz h'->Inv X pins σ (upd H2 a (.ext (zeS a CN dz))) { s' with heap:=h',toks:=tk }:=fun {h' tk} F' x'=>I1.call' hos F'.unD (F'.hkD x') hgens (fun b z=>absurd z (by simp))
  have F1s:=F1.fly
  rw [hst] at F1s
  refine wpAny_mono ((zfm _ _).any (wpAny_looks_onW (Q:=fun _ s2=>∃ h4,Heap.HeldW B (X.env::X.outer) a (.ref CN) a0 X.env.locals h4/\s'.heap.UpToSlots h4/\s2={ s' with heap:=h4 }) (by rw [I.ok.frames,hst]) hfr F1s fun h4 a1 a2=>⟨h4,a1,a2,rfl⟩)) (fun _ s2 z=>?_) fun _ _ z=>z
  obtain ⟨⟨h₄,hheld₄,hsm₄,rfl⟩,dk4⟩:=z
  refine wpAny_mono ((zdK _ _).any (wpAny_landsW (Q:=fun _ s2=>∃ h5,Heap.FlyingW B (X.env::X.outer) a (.ref CN) a0 h5/\h₄.UpToSlots h5/\s2={ s' with heap:=h5 }) hheld₄ fun h5 a1 a2=>⟨h5,a1,a2,rfl⟩)) (fun _ s2 z=>?_) fun _ _ z=>z
  obtain ⟨⟨h₅,hfl₅,hsm₅',rfl⟩,dk5⟩:=z
  have F5:Fly X.prog X.w X.base X.stack _ H2 _ B a (.ref CN) a0 h₅:=F1.on (hsm₄.trans hsm₅') (by rw [hst];exact hfl₅)
  have x5:zeS a CN dz h₅:=xD.dk F5.exc (dk4.trans dk5)
  have I5:=(invOf (tk:=s'.toks) F5).marked (.ref a)
  refine wpAny_handleBy_cons (codeAny_handlers_test (zej I5 hgc hmc ?_ hdc)) (by intro q;cases q)
  obtain ⟨oe,ws,hoe,hoec,hoed⟩:=F5.exc
  have LT:PySem.W.Looks (model X.prog X.w) h₅ (typeOf (.ref a)) (.ref CN):=hoec▸(PySem.W.Looks.ld hoe).andThen .now
  refine (PySem.W.exm_one (M:=model X.prog X.w) I5.kIn LT hxm).here ?_
  refine codeAny_handlers_suite_as ?_
  refine wpAny_mono ((zdK _ _).any (lands_againW (Q:=fun _ s2=>∃ h6,Heap.FlyingW B (X.env::X.outer) a (.ref CN) a0 h6/\h₅.UpToSlots h6/\s2={ s' with heap:=h6 }) hfl₅ fun h6 a1 a2=>⟨h6,a1,a2,rfl⟩)) (fun _ s2 z=>?_) fun _ _ z=>z
  obtain ⟨⟨h₆,hfl₆,hsm₆,rfl⟩,dk6⟩:=z
  have F6:Fly X.prog X.w X.base X.stack _ H2 _ B a (.ref CN) a0 h₆:=F5.on hsm₆ (by rw [hst];exact hfl₆)
  have I6:=invE (tk:=s'.toks) F6 (x5.dk F6.exc dk6)
  refine zhm I6 hN hj (.inl hn) (show zb9 (.ref a) (.ref a) from rfl) (fun s7 I7=>?_) (.inr hn)
  have I7m:=I7.marked (.ref a)
  have asg:PSs (X.marked (.ref a)) [.Assign [.Name y py] (.Name n np) ap] (zp4 (zr3 j) (zkD i)):=zds (zjI (X:=X.marked (.ref a)) hN hi (.inl hy) (zcp (X:=X.marked (.ref a)) hj (.inl hn) hdn hdd) hs2 (.inr hy))
  have jl:j < σ.length:=by rw [I1.len];exact (List.getElem?_eq_some_iff.mp hj).1
  refine wpAny_mono (asg pins s7 _ _ { nx:=fun σ' H'=>σ'=(σ.set j (some (.ref a))).set i (some (.ref a))/\H'=upd H2 a (.ext (zeS a CN dz)),rt:=fun _ _=>False } I7m ⟨.ref a,by rw [List.getElem?_set_self jl],rfl,rfl⟩) (fun fl s8 q=>?_) fun _ _ z=>z.elim
  cases fl with
  | next =>
   obtain ⟨σ',H',I8,rfl,rfl⟩:=q
   refine zkW (I8.unmarked I.ok) hN hj hn fun s9 I9=>?_
   exact ⟨_,_,I9,hnx2 a F1.new⟩
  | brk=>obtain ⟨_,_,_,z⟩:=q;exact z.elim
  | cont=>obtain ⟨_,_,_,z⟩:=q;exact z.elim
  | ret u=>obtain ⟨_,_,_,_,_,z⟩:=q;exact z.elim
end
def ztn (Γ:Cn) (K:PySem.W.Frag) (CN:Addr) (fl:Str) (n:Nat) (F:FQ):Sp:=fun vs H Q E=>∃ G ds d,zbT G H/\Reps Γ K G vs ds/\ds.length=n/\F ds=some d /\
 (∀ p,d=xm p->∀ G' H' dz,Step G H G' H'->H' dz=none->E (.ref CN) (some dz) (upd H' dz (.xd [(fl,.str p)])))/\((∀ p,d≠xm p)->∀ v G' H',Step G H G' H'->Rep Γ K G' v d->Q v H')
structure CalSY (Γ:Cn) (P:Program) (w:World) (K:PySem.W.Frag) (mg:Str->Option Value) (base:Heap) (x:Str) (CN:Addr) (fl:Str) (n k:Nat) (F:FQ):Prop where
 ex:∃ f fd ps,FnOk P w K mg base (CXD P w base) k f fd ps (ztn Γ K CN fl n F)/\mg x=some (.ref f)/\PySem.W.keepIn K (.ref f)=true/\zcL K fd ps []
end L2
end
section
namespace L2
open PySem PySem.Spec PyProof.Rows
def zsO (m:Nat):D->Option (Nat×Int)
 | .int n=>(ixN m n).map fun j=>(j,n)
 | _=>none
def zfQ (i:Nat) (fk f:FE):FS:=fun ρ=>match ρ[i]? with
 | some (some (.own ds))=>(f (ρ.set i (some (.sh (.lst ds))))).bind fun d=>(fk ρ).bind fun k=>(zsO ds.length k).bind fun j=>if zcV ds.length d=true then some (.nx,ρ.set i (some (.own (ds.set j.1 d)))) else none
 | _=>none
section
variable {Γ:Cn} {X:Cx} {e:Expr} {f:FE} {pos p2 pc:Pos}
theorem znA (i:Nat) {x:Str} {vp:Pos} {ek:Expr} {fk:FE} (h:DE Γ X e f) (hk:DE Γ X ek fk) (hN:X.N[i]?=some x:=by rfl) (hv:Vis X.env.scope x:=by first | exact Or.inl rfl | exact Or.inr (Or.inl rfl) | exact Or.inr (Or.inr rfl)) (hd:(x==("__debug__":Str))=false:=by decide)
  (hcd:(x==("__classdict__":Str))=false:=by decide)
  (hs:swapsWithSole [.Subscript (.Name x vp) ek p2] e pos.line X.env=pure false:=by rfl) (has:∀ v,assign (.Subscript (.Name x vp) ek p2) X.env v=(do
   let ov ← holding [v] (eval (.Name x vp) X.env)
   let iv ← holding [v,ov] (eval ek X.env)
   standAt p2
   holding [v,ov,iv] (setItem ov iv v)
   release [v,ov,iv] []):=by intro _;rfl) (hw:swappedStores [.Subscript (.Name x vp) ek p2] e X.env=pure none:=by rfl) :
  DS Γ X (.Assign [.Subscript (.Name x vp) ek p2] e pos) (zfQ i fk f):=⟨(zqF h.1 (zqM (zcp hN hv hd hcd) hk.1 zmU has) hs hw).imp fun E σ H=>by
  rintro ⟨G₀,H₀,G,ρ,fl,ρ',A,h,k⟩
  unfold zfQ at h
  split at h
  ·rename_i ds hi
   obtain ⟨d,hd,h⟩:=oBd h
   obtain ⟨dk,hdk,h⟩:=oBd h
   obtain ⟨⟨j,n⟩,hj,h⟩:=oBd h
   split at h
   ·rename_i hz
    cases h
    obtain ⟨v,fp,h1,h2⟩:=A.get hi
    cases h2 with
    | own q1 q2 q3 q4 =>
     rename_i a vs
     have A1:=A.freezeE hi h1 q1 q2 q3 q4
     have sm:zbT G (upd G a (.lst vs)):=fun b o e=>by rw [zaq (zas e q2)];exact e
     refine ⟨G₀,H₀,_,_,d,A1,hd,fun u G2 H2 s2 r2=>?_⟩
     have hG2:G2 a=some (.lst vs):=s2.gg _ _ zav
     have hlen:vs.length=ds.length:=q4.length
     have r3:Rep Γ X.K (del G2 a) u d:=Rep.del hG2 r2 (by rw [hlen];exact hz)
     have gg:zbT G (del G2 a):=fun b o q=>by
      have:b≠a:=fun z=>by rw [z,q2] at q;cases q
      rw [zfp this]
      exact s2.gg _ _ (sm _ _ q)
     have st:Step G H (del G2 a) H2:=⟨s2.hh,gg,fun b o q=>by
      by_cases z:b=a
      ·rw [z,zhI] at q;cases q
      ·rw [zfp z] at q;exact s2.gh _ _ q,fun b o q=>by
      by_cases z:b=a
      ·rw [z,zhI,q2]
      ·rw [zfp z,s2.out b o q,zaq z]⟩
     have A2:=A.step st
     have hn:dk=.int n/\ixN ds.length n=some j:=by
      unfold zsO at hj
      split at hj
      ·obtain ⟨j',hj',e⟩:=oMd hj
       cases e
       exact ⟨rfl,hj'⟩
      ·cases hj
     obtain ⟨rfl,hn⟩:=hn
     refine ⟨.ref a,h1,G₀,H₀,_,ρ,_,A2,hdk,fun w G3 H3 s3 r4=>?_⟩
     cases r4.int_inv
     refine ⟨a,vs,n,j,rfl,rfl,s3.hh _ _ (s2.hh _ _ q3),by rw [hlen];exact hn,?_⟩
     exact k σ _ _ (gg.trans s3.gg) ((A2.step s3).chOwn hi h1 (((q4.mono gg).mono s3.gg).set (r3.mono s3.gg) j))
   ·cases h
  ·cases h⟩
end
end L2
end
section
namespace L2
open PySem PySem.Spec PyProof.Rows
def zqr (F:FQ) (fa:FA):FQ:=fun ds=>match ds with
 | [a]=>(fa [some (.sh a)]).bind F
 | _=>none
def ztp (F:FQ):FQ:=fun ds=>match ds with
 | [a]=>(F [a]).bind zr4
 | _=>none
structure RefZK (K:PySem.W.Frag) (mg:Str->Option Value) (CN CS CP CR CY:Addr):Prop where
 mN:mg "NoShop"=some (.ref CN)
 mS:mg "ShopError"=some (.ref CS)
 mP:mg "NoPlan"=some (.ref CP)
 mR:mg "NoRow"=some (.ref CR)
 mY:mg "NoSay"=some (.ref CY)
 exm:PySem.W.exmOne K (.ref CN) (.ref CS)=some true
 k2:PySem.W.kitOne K (.ref CN) (.type "ValueError")=some true
 k3:PySem.W.kitAny K (.ref CN) [.ref CP,.ref CR,.ref CY]=some false
 exk:ExcK K CN
 hd:PySem.W.hasDictIn K CN=true
 no:zdR K CN "part"
end L2
end
section
namespace L2
open PySem PySem.Spec PyProof.Rows PyProof
def btL (ns:List Int) (i j:Nat):Bool:=decide (ns.getD i 0 < ns.getD j 0)
def mnI (ns:List Int):Int:=ns.getD (argBest (btL ns) (ns.length - 1)) 0
def zq9:FQ
 | [.lst l]=>(znp l).bind fun ns=>if ns=[] then none else some (.int (mnI ns))
 | _=>none
section
variable {Γ:Cn} {X:Cx}
theorem zmo (hc:X.calm=true):zdT X (.builtin "min") (fun xs H Q=>∃ (a:Addr) (ns:List Int),xs=[.ref a]/\H a=some (.lst (ns.map V.int))/\ns≠[]/\Q (.int (mnI ns)) H):=by
 intro pins s σ H xs us Q I r h
 obtain ⟨a,ns,rfl,ha,e0,q2⟩:=h
 obtain ⟨u,rfl,ru⟩:=zeT r
 cases ru
 obtain ⟨its,rv,pl,_⟩:=I.list (.inl (.inl ha))
 obtain ⟨vl,vi⟩:=zgO rv
 refine call_min_walk (wpAny_pyIter_list pl.isList ?_)
 have ne:a≠s.heap.objs.size:=by obtain ⟨o,_,h1,_⟩:=pl;exact qA (qt h1)
 have hP:∀ (i:Nat) v,its.toArray[i]?=some v->∃ t,v=.int (ns.getD i 0) t:=fun i v hv=>vi i v (by simpa using hv)
 have la:a < s.heap.objs.size:=by obtain ⟨o,_,h1,_⟩:=pl;exact qt h1
 have sz:its.toArray.size=ns.length:=by simp [vl]
 refine ⟨s.heap.objs.size,_,_,_,_,_,btL ns,rfl,Walks.list (A:=X.A.in1) (show X.A.in1.handled=none from I.ok.hd hc) s.heap.objs.size a ne its.toArray,⟨⟨_,qE _ rfl,rfl,rfl⟩,pl.isList.at fun o q=>qr _ q⟩,fun b hb=>?_,?_,CmpOf.ints_lt (fun i=>ns.getD i 0) hP,fun v h' tk pv hk=>?_⟩
 ·rw [Heap.size_push]
  simp only [qJ,qH,or_false] at hb
  rcases hb with z | z
  ·rw [z];exact Nat.lt_succ_self _
  ·rw [z];exact Nat.lt_succ_of_lt la
 ·rw [sz];exact List.length_pos_iff.mpr e0
 ·obtain ⟨t,rfl⟩:=hP _ _ pv
  refine ⟨.int (mnI ns),H,I.kept fun b o z=>hk b o ?_ (qr _ z),?_,q2⟩
  ·intro z'
   have:b=s.heap.objs.size:=by simpa using z'
   exact absurd (qt z) (by rw [this];exact Nat.lt_irrefl _)
  ·unfold mnI
   rw [sz]
   exact ⟨t,rfl⟩
theorem zpZ (hc:X.calm=true):BltD Γ X "min" zq9:=⟨_,zmo hc,fun {G H vs ds z} gh r h Q k=>by
 unfold zq9 at h
 split at h
 ·obtain ⟨ns,hn,h⟩:=oBd h
  split at h
  ·cases h
  ·rename_i hne
   cases h
   obtain ⟨v,rfl,r1⟩:=r.one
   obtain ⟨a,us,rfl,ha,ra⟩:=r1.lst_inv
   exact ⟨a,ns,rfl,by rw [← zjX ra hn];exact gh _ _ ha,hne,k _ G H (.refl gh) (.int _)⟩
 ·cases h⟩
end
end L2
end
section
namespace L2
open PySem PySem.Spec PyProof.Rows
def ztB:D->D->Option (List D)
 | .lst x,.lst y=>if x.length+y.length<=sizeLine then some (x++y) else none
 | _,_=>none
def zta (fa fb:FE):FA:=fun ρ=>(fa ρ).bind fun x=>(fb ρ).bind fun y=>ztB x y
section
variable {Γ:Cn} {X:Cx} {a b:Expr} {fa fb:FE} {pos:Pos}
theorem zrE (ha:DE Γ X a fa) (hb:DE Γ X b fb):DO Γ X (.BinOp a .Add b pos) (zta fa fb):=⟨(zqN zn7 ha.1 hb.1).imp fun σ H Q=>by
 rintro ⟨G₀,H₀,G,ρ,ds,A,h,k⟩
 unfold zta at h
 obtain ⟨x,hx,h⟩:=oBd h
 obtain ⟨y,hy,h⟩:=oBd h
 refine ⟨G₀,H₀,G,ρ,x,A,hx,fun v G1 H1 s1 r1=>⟨G₀,H₀,G1,ρ,y,A.step s1,hy,fun u G2 H2 s2 r2=>?_⟩⟩
 unfold ztB at h
 split at h
 ·split at h
  ·rename_i hz
   cases h
   obtain ⟨a,vs,rfl,ha,ra⟩:=(r1.mono s2.gg).lst_inv
   obtain ⟨b,us,rfl,hb,rb⟩:=r2.lst_inv
   exact ⟨a,b,vs,us,rfl,rfl,s2.gh _ _ ha,s2.gh _ _ hb,by rw [ra.length,rb.length];exact hz,fun p hp=>k p _ G2 H2 (s1.trans s2) hp (ra.append rb)⟩
  ·cases h
 ·cases h⟩
end
end L2
end
section
namespace Law
open PySem L2 PySem.Spec PyProof.Rows
def top (i:Nat):Stmt:=PySem.Challenge.pw_shopbound_k03_no_shop.main.body.getD i (.Pass ⟨0,0,0,0⟩)
abbrev zcy:Stmt:=zlU (top 3) 0
abbrev zef:Stmt:=top 51
abbrev zdr:Stmt:=top 52
abbrev zdF:Stmt:=top 54
abbrev zed:Stmt:=top 53
abbrev zc4:Stmt:=top 55
abbrev zdE:Stmt:=top 56
abbrev zee:Stmt:=top 57
abbrev zdq:Stmt:=top 58
abbrev zdH:Stmt:=top 59
abbrev zdp:Stmt:=top 60
abbrev zdG:Stmt:=top 61
abbrev zcO:Stmt:=top 64
abbrev ze2:Stmt:=top 63
abbrev zeU:Stmt:=top 9
abbrev zd7:Stmt:=top 12
abbrev zeV:Stmt:=top 14
abbrev zeY:Stmt:=top 28
abbrev zfO:Stmt:=top 13
abbrev zdD:Stmt:=top 29
abbrev zfN:Stmt:=top 10
abbrev zeZ:Stmt:=top 30
abbrev zdA:Stmt:=top 16
abbrev zdn:Stmt:=top 31
abbrev zd8:Stmt:=top 15
abbrev zht:Stmt:=top 32
abbrev ze0:Stmt:=top 33
abbrev zfM:Stmt:=top 34
abbrev zea:Stmt:=top 35
abbrev zhu:Stmt:=top 36
abbrev ze1:Stmt:=top 37
abbrev zeX:Stmt:=top 38
abbrev zdC:Stmt:=top 39
abbrev zfP:Stmt:=top 40
abbrev zeb:Stmt:=top 41
abbrev zd9:Stmt:=top 42
abbrev zdo:Stmt:=top 43
abbrev zeW:Stmt:=top 44
abbrev zdB:Stmt:=top 45
abbrev zcD:Stmt:=top 46
abbrev zi3:Stmt:=top 48
abbrev zcP:Stmt:=zlU (top 49) 0
abbrev zec:Stmt:=top 62
abbrev zc3:Stmt:=top 65
abbrev zfL:Stmt:=top 66
def zd1 (mg:Str->Option Value):Tok:=match mg "LONGEST_NAME" with | some (.int _ t)=>t | _=>0
def zex (mg:Str->Option Value):Tok:=match mg "MOST_AMOUNT" with | some (.int _ t)=>t | _=>0
def zd0 (mg:Str->Option Value):Tok:=match mg "MOST_BENCHES" with | some (.int _ t)=>t | _=>0
def zew (mg:Str->Option Value):Tok:=match mg "MOST_BREAKS" with | some (.int _ t)=>t | _=>0
def zdZ (mg:Str->Option Value):Tok:=match mg "MOST_HORIZON" with | some (.int _ t)=>t | _=>0
def zfJ (mg:Str->Option Value):Tok:=match mg "MOST_JOBS" with | some (.int _ t)=>t | _=>0
def zfi (mg:Str->Option Value):Tok:=match mg "MOST_LINKS" with | some (.int _ t)=>t | _=>0
def zev (mg:Str->Option Value):Tok:=match mg "MOST_SETUPS" with | some (.int _ t)=>t | _=>0
def zfh (mg:Str->Option Value):Tok:=match mg "MOST_STEPS" with | some (.int _ t)=>t | _=>0
def zeu (mg:Str->Option Value):Tok:=match mg "MOST_STOCKS" with | some (.int _ t)=>t | _=>0
def zfI (mg:Str->Option Value):Tok:=match mg "MOST_WAYS" with | some (.int _ t)=>t | _=>0
structure Bn (mg:Str->Option Value):Prop where
 z_ValueError:mg "ValueError"=none
 z_abs:mg "abs"=none
 z_all:mg "all"=none
 z_bool:mg "bool"=none
 z_dict:mg "dict"=none
 z_enumerate:mg "enumerate"=none
 z_int:mg "int"=none
 z_isinstance:mg "isinstance"=none
 z_len:mg "len"=none
 z_list:mg "list"=none
 z_max:mg "max"=none
 z_min:mg "min"=none
 z_range:mg "range"=none
 z_set:mg "set"=none
 z_str:mg "str"=none
 z_tuple:mg "tuple"=none
 c_LONGEST_NAME:mg "LONGEST_NAME"=some (.int 8 (zd1 mg))
 c_MOST_AMOUNT:mg "MOST_AMOUNT"=some (.int 1000000 (zex mg))
 c_MOST_BENCHES:mg "MOST_BENCHES"=some (.int 8 (zd0 mg))
 c_MOST_BREAKS:mg "MOST_BREAKS"=some (.int 10 (zew mg))
 c_MOST_HORIZON:mg "MOST_HORIZON"=some (.int 1000000 (zdZ mg))
 c_MOST_JOBS:mg "MOST_JOBS"=some (.int 40 (zfJ mg))
 c_MOST_LINKS:mg "MOST_LINKS"=some (.int 100 (zfi mg))
 c_MOST_SETUPS:mg "MOST_SETUPS"=some (.int 100 (zev mg))
 c_MOST_STEPS:mg "MOST_STEPS"=some (.int 40 (zfh mg))
 c_MOST_STOCKS:mg "MOST_STOCKS"=some (.int 6 (zeu mg))
 c_MOST_WAYS:mg "MOST_WAYS"=some (.int 4 (zfI mg))
def zmA:List Str:=["benches","steps","jobs","setups","links","stocks","horizon","bench_by_name","step_by_name","setup_by_names","job_by_step"]
end Law
end
section
set_option maxHeartbeats 4000000
namespace Law
open PySem L2 PySem.Spec PyProof.Rows
variable {Γ:Cn} {P:Program} {w:World} {K:PySem.W.Frag} {mg:Str->Option Value} {base:Heap}
local macro_rules | `(tactic| trivial)=>`(tactic| exact ⟨rfl,rfl,rfl,by decide +kernel,rfl,by decide +kernel,by decide +kernel⟩)
theorem zkX {x:Str} (h:x.length<=sizeLine):zqh (.str x)=some x:=qX h
theorem zeA:FnScope ["self","part"] ["self","part"] (zao zcy):=by trivial
theorem zeo {fI CN CS:Addr} {fd:FuncData} (F:Fun K "__init__" "NoShop.__init__" zcy fI fd) (Z:XCls K base CN CS fI "part") (mS:mg "ShopError"=some (.ref CS))
  (hsp:PySem.W.specialIn K (.ref CS) "__getattribute__"=some (some (.builtin "type.__getattribute__"))) (hrd:PySem.W.readsIn K CS (.type "type")=true) (hfc:PySem.W.findCls K (.ref CS) (.type "type") "__init__"=some (.val (.builtin "ValueError.__init__"))) :
  FnOk P w K mg base CX0 1 fI fd ["self","part"] (zp5 CN "part"):=by
 refine Fun.ok (k:=0) F zeA (fun vs H Q E h=>?_) fun cdv A outer s H vs Q E hr h=>?_
 ·obtain ⟨a,p,rfl,_⟩:=h;rfl
 ·obtain ⟨a,p,rfl,hp,hH,k⟩:=h
  refine ⟨_,zcY (zi4 (zo4 rfl mS hsp hrd hfc (zbM (zcp (i:=0) rfl (.inl rfl)) (zbM (DE.out (Γ:=⟨fun _=>none,none⟩) (zs2 (znF (zrG (zac 1) zrH)))) zdd))))
   (zds (zoQ (CS:=CS) (fI:=fI) (zcp (i:=0) rfl (.inl rfl)) (zcp (i:=1) rfl (.inl rfl)))),?_⟩
  have A0:At ⟨fun _=>none,none⟩ K (fun _=>none) H (fun _=>none) H [none,some (.sh (.str p))] [some (.ref a),some (.str p)]:=⟨.refl (fun _ _ z=>nomatch z),.ofSh rfl (fun i s e=>by
   match i,e with
   | 1,e=>cases e;exact ⟨_,rfl⟩) (fun i d e=>by
   match i,e with
   | 1,e=>cases e;exact ⟨_,rfl,.str p⟩)⟩
  have hl:∃ z,fsF (zab (vC (.str "no shop, for its ")) (zab (vSh 1) zag)) [none,some (.sh (.str p))]=some (.str z):=by
   have e1:("no shop, for its ":Str).length=17:=by decide +kernel
   have hs:=sizeLine_eq
   refine ⟨(Str.empty++"no shop, for its ")++p,?_⟩
   show (zkQ Str.empty [.str "no shop, for its ",.str p]).map D.str=_
   have q0:(Str.empty:Str).length=0:=rfl
   have q1:(Str.empty++("no shop, for its ":Str)).length<=sizeLine:=by rw [Str.length_append,e1,q0];omega
   have q2:((Str.empty++("no shop, for its ":Str))++p).length<=sizeLine:=by rw [Str.length_append,Str.length_append,e1,q0];omega
   have c1:zkQ Str.empty [.str "no shop, for its ",.str p]=zkQ (Str.empty++"no shop, for its ") [.str p]:=by
    show (zqh (.str "no shop, for its ")).bind (fun y=>if (Str.empty++y).length<=sizeLine then zkQ (Str.empty++y) [.str p] else none)=_
    rw [zkX (x:="no shop, for its ") (by rw [e1];omega),qa,qX q1]
   rw [c1,zkQ,zkX (x:=p) (by omega),qa,qX q2,zkQ,qX q2]
   rfl
  obtain ⟨z,hz⟩:=hl
  refine ⟨.ref a,rfl,_,H,_,_,_,A0,hz,fun v G' H' st r=>?_⟩
  refine ⟨a,v,CN,rfl,st.hh _ _ hH,Z.cls,.str p,rfl,.ref a,rfl,a,CN,rfl,zav,Z,fun dx hdx hne=>?_⟩
  show Q .non _
  rw [ztH]
  exact k H' dx st.hh (by rw [zaq hne] at hdx;exact hdx) hne
def zgt:FQ:=zcj 0
  (zaG (sIf (toB (b2 ltD (vSh 1) (cF zdu (zab (vSh 0) zag)))) (zbk (b2 ixD (vSh 0) (vSh 1))) zca) (zbk (vC (.int 0))))
theorem zih:FnScope ["_law_script","_law_k"] ["_law_script","_law_k"] (zao zef):=by trivial
theorem zhY (F:Dfn K mg "_law_cell" zef) (B:Bn mg)  : Cal Γ P w K mg base "_law_cell" 2 1 (zgt) :=
 F.cal (k:=0) zih (fun _ _ _ _ _ _ us hl=>match us,hl with | [_,_],_=>rfl) fun f cdv A outer s H E hr =>
  (zaf (zbD (zce zpU (zac 1) (zaI zdl rfl B.z_len (by rfl) (zaa (zac 0) zad)) (zby _)) (zam (zaE (zaw (zac 0) (zac 1)))) zaK) (zam (zaE zae)))
def zeR:FQ:=zcj 4
  (zaG (zbn 3 (b2 zcJ (cF zsa (zab (vSh 0) zag)) (vC (.int 2)))) (zaG (zeB 4 (szF zag)) (zaG (zeh (itE (vSh 2)) (zcX 2 (za2 (za3 5) (za2 (za3 6) zcW))) (sIf (orT (toB (b2 eqD (b2 zbF (vSh 0) (vC (.int 2))) (vC (.int 1)))) (toB (b2 eqD (vSh 3) (vC (.int 0))))) (zaG (zbn 3 (b2 zbe (b2 zbF (b2 zbe (vSh 3) (vSh 0)) (vC (.int 2147483629))) (vC (.int 48271)))) (zaG (zbn 3 (b2 zbe (vSh 3) (b2 zdw (b2 zdw (vC (.int 7919)) (b2 zbe (vSh 1) (vSh 5))) (b2 zbe (vSh 1) (vSh 5))))) (zaG (zbn 3 (b2 zbF (b2 zdw (vSh 3) (vSh 3)) (vC (.int 2147483587)))) (zeD 4 (b2 zbF (b2 zcJ (vSh 3) (vC (.int 16))) (vSh 6)))))) (zaG (zeD 4 (b2 zbF (vSh 3) (vSh 6))) (zbn 3 (b2 zcJ (vSh 3) (vSh 6)))))) (zfR 4 (zbk (vSh 4))))))
theorem za7:FnScope ["_law_cell_here","_law_k","_law_sizes","_law_number","_law_found","_law_turn","_law_size"] ["_law_cell_here","_law_k","_law_sizes"] (zao zdr):=by trivial
theorem zgk (F:Dfn K mg "_law_digits" zdr) (B:Bn mg)  : Cal Γ P w K mg base "_law_digits" 3 1 (zeR) :=
 F.cal (k:=0) za7 (fun _ _ _ _ _ _ us hl=>match us,hl with | [_,_,_],_=>rfl) fun f cdv A outer s H E hr =>
  (zaf (zaN 3 za7.nd (zdv (zaI zrU rfl B.z_abs (by rfl) (zaa (zac 0) zad)) zae)) (zaf (zcG 4 za7.nd (zai zad)) (zaf (zdh PassesOwn.never rfl (zen rfl B.z_enumerate (zac 2)) (zfo (n:=2) rfl (zbB (zaC 5 za7.nd) (zbB (zaC 6 za7.nd) zdN))) (zam (zbD (DW.dt (zcR (zce zdP (zbc (zac 0) zae) zae (zby _)) (zct (zce zdP (zac 3) zae (zby _))))) (zaf (zaN 3 za7.nd (zaL (zbc (zaL (zac 3) (zac 0)) zae) zae)) (zaf (zaN 3 za7.nd (zaL (zac 3) (zcH (zcH zae (zaL (zac 1) (zac 5))) (zaL (zac 1) (zac 5))))) (zaf (zaN 3 za7.nd (zbc (zcH (zac 3) (zac 3)) zae)) (zam (zbQ 4 (zbc (zdv (zac 3) zae) (zac 6))))))) (zaf (zbQ 4 (zbc (zac 3) (zac 6))) (zam (zaN 3 za7.nd (zdv (zac 3) (zac 6)))))))) (zcm 4 (zam (zaE (zac 4)))))))
def zfx:FQ:=zcj 6
  (zaG (zeB 2 (szF zag)) (zaG (zbn 3 (vC (.int 0))) (zaG (zeh (itF (vSh 0)) (zcX 2 (za2 (za3 4) (za2 (za3 5) zcW))) (zaG (zbn 6 (b2 zbe (vSh 3) (vSh 4))) (zaG (zbn 7 (b2 zbe (b2 zbe (vSh 6) (vC (.int 1))) (vSh 5))) (sIf (toB (b2 leD (vSh 7) (vSh 1))) (zaG (zeD 2 (zaQ (szF (zab (vSh 6) (zab (vSh 7) zag))))) (zbn 3 (b2 zbe (vSh 7) (vC (.int 1))))) zca)))) (zfR 2 (zbk (vSh 2))))))
theorem zbs:FnScope ["_law_row","_law_horizon","_law_found","_law_free","_law_begin","_law_size","_law_low","_law_high"] ["_law_row","_law_horizon"] (zao zdF):=by trivial
theorem zgK (F:Dfn K mg "_law_spans" zdF) (B:Bn mg)  : Cal Γ P w K mg base "_law_spans" 2 1 (zfx) :=
 F.cal (k:=0) zbs (fun _ _ _ _ _ _ us hl=>match us,hl with | [_,_],_=>rfl) fun f cdv A outer s H E hr =>
  (zaf (zcG 2 zbs.nd (zai zad)) (zaf (zaN 3 zbs.nd zae) (zaf (zdh PassesOwn.never rfl (zbb (zac 0)) (zfo (n:=2) rfl (zbB (zaC 4 zbs.nd) (zbB (zaC 5 zbs.nd) zdN))) (zaf (zaN 6 zbs.nd (zaL (zac 3) (zac 4))) (zaf (zaN 7 zbs.nd (zaL (zaL (zac 6) zae) (zac 5))) (zam (zbD (zce zhO (zac 7) (zac 1) (zby _)) (zaf (zbQ 2 (zar (zaa (zac 6) (zaa (zac 7) zad)))) (zam (zaN 3 zbs.nd (zaL (zac 7) zae)))) zaK))))) (zcm 2 (zam (zaE (zac 2)))))))
def zgr:FQ:=zcj 1
  (zaG (zbn 1 (b2 ixD (vC (.str "abcdefghijklmnopqrstuvwxyz")) (b2 zbF (vSh 0) (vC (.int 26))))) (zbk (b2 zbe (vSh 1) (b2 zdw (b2 ixD (vC (.str "qrstuvw")) (b2 zcJ (vSh 0) (vC (.int 26)))) (b2 zbF (vSh 0) (vC (.int 4)))))))
theorem zfj:FnScope ["_law_k","_law_letter"] ["_law_k"] (zao zed):=by trivial
theorem zhW (F:Dfn K mg "_law_name" zed) (B:Bn mg)  : Cal Γ P w K mg base "_law_name" 1 1 (zgr) :=
 F.cal (k:=0) zfj (fun _ _ _ _ _ _ us hl=>match us,hl with | [_],_=>rfl) fun f cdv A outer s H E hr =>
  (zaf (zaN 1 zfj.nd (zaw zay (zbc (zac 0) zae))) (zam (zaE (zaL (zac 1) (zcH (zaw zay (zdv (zac 0) zae)) (zbc (zac 0) zae))))))
def zd4 (zaj:FQ) (zbu:FQ) (zat:FQ):FQ:=zcj 5
  (zaG (zeB 2 (szF zag)) (zaG (zeh (itE (vSh 0)) (zcX 2 (za2 (za3 3) (za2 (za3 4) zcW))) (zaG (zbn 5 (cF zaj (zab (vSh 4) (zab (vSh 3) (zab (zax (szF (zab (vC (.int 4)) (zab (vC (.int 5)) (zab (vC (.int 3)) (zab (vC (.int 7)) (zab (vC (.int 4)) (zab (vC (.int 9)) (zab (vC (.int 5)) zag))))))))) zag))))) (zaG (zbn 6 (slF (zax (szF (zab (zaQ (szF (zab (b2 ixD (vSh 5) (vC (.int 1))) (zab (b2 ixD (vSh 5) (vC (.int 2))) zag)))) (zab (zaQ (szF (zab (b2 ixD (vSh 5) (vC (.int 3))) (zab (b2 ixD (vSh 5) (vC (.int 4))) zag)))) (zab (zaQ (szF (zab (b2 ixD (vSh 5) (vC (.int 5))) (zab (b2 ixD (vSh 5) (vC (.int 6))) zag)))) zag))))) pN (pS (b2 ixD (vSh 5) (vC (.int 0)))))) (zeD 2 (zaQ (szF (zab (cF zat (zab (b2 zbe (vC (.int 60)) (vSh 3)) zag)) (zab (cF zbu (zab (vSh 6) (zab (vSh 1) zag))) zag)))))))) (zfR 2 (zbk (vSh 2)))))
theorem zbC:FnScope ["_law_cells","_law_horizon","_law_found","_law_k","_law_cell_here","_law_row","_law_spans_here"] ["_law_cells","_law_horizon"] (zao zc4):=by trivial
theorem zfD {zaj:FQ} {zbu:FQ} {zat:FQ} (F:Dfn K mg "_law_benches" zc4) (B:Bn mg) (c__law_digits:Cal Γ P w K mg base "_law_digits" 3 1 zaj) (c__law_spans:Cal Γ P w K mg base "_law_spans" 2 1 zbu) (c__law_name:Cal Γ P w K mg base "_law_name" 1 1 zat):Cal Γ P w K mg base "_law_benches" 2 2 (zd4 zaj zbu zat) :=
 F.cal (k:=1) zbC (fun _ _ _ _ _ _ us hl=>match us,hl with | [_,_],_=>rfl) fun f cdv A outer s H E hr =>
  (zaf (zcG 2 zbC.nd (zai zad)) (zaf (zdh PassesOwn.never rfl (zen rfl B.z_enumerate (zac 0)) (zfo (n:=2) rfl (zbB (zaC 3 zbC.nd) (zbB (zaC 4 zbC.nd) zdN))) (zaf (zaN 5 zbC.nd (dC c__law_digits hr (zaa (zac 4) (zaa (zac 3) (zaa (DO.de (zai (zaa zae (zaa zae (zaa zae (zaa zae (zaa zae (zaa zae (zaa zae zad))))))))) zad))) ln3)) (zaf (zaN 6 zbC.nd (zb2 (DO.de (zai (zaa (zar (zaa (zaw (zac 5) zae) (zaa (zaw (zac 5) zae) zad))) (zaa (zar (zaa (zaw (zac 5) zae) (zaa (zaw (zac 5) zae) zad))) (zaa (zar (zaa (zaw (zac 5) zae) (zaa (zaw (zac 5) zae) zad))) zad))))) zcE (zcu (zaw (zac 5) zae)))) (zam (zbQ 2 (zar (zaa (dC c__law_name hr (zaa (zaL zae (zac 3)) zad) ln1) (zaa (dC c__law_spans hr (zaa (zac 6) (zaa (zac 1) zad)) ln2) zad)))))))) (zcm 2 (zam (zaE (zac 2))))))
def zfw (zaj:FQ) (zat:FQ):FQ:=zcj 5
  (zaG (zeB 4 (szF zag)) (zaG (zeh (itE (vSh 0)) (zcX 2 (za2 (za3 5) (za2 (za3 6) zcW))) (zaG (zbn 7 (cF zaj (zab (vSh 6) (zab (b2 zbe (vSh 5) (vC (.int 7))) (zab (zax (szF (zab (vC (.int 3)) (zab (cF zdu (zab (vSh 1) zag)) (zab (vSh 3) (zab (cF zdu (zab (vSh 1) zag)) (zab (vSh 3) (zab (vC (.int 3)) zag)))))))) zag))))) (zaG (zeB 8 (szF (zab (zaQ (szF (zab (b2 ixD (b2 ixD (vSh 1) (b2 ixD (vSh 7) (vC (.int 1)))) (vC (.int 0))) (zab (b2 zbe (vC (.int 1)) (b2 zbF (b2 ixD (vSh 7) (vC (.int 2))) (vSh 2))) zag)))) zag))) (zaG (sIf (zkM (toB (b2 eqD (b2 ixD (vSh 7) (vC (.int 0))) (vC (.int 0)))) (toB (b2 neA (b2 ixD (vSh 7) (vC (.int 3))) (b2 ixD (vSh 7) (vC (.int 1)))))) (zeD 8 (zaQ (szF (zab (b2 ixD (b2 ixD (vSh 1) (b2 ixD (vSh 7) (vC (.int 3)))) (vC (.int 0))) (zab (b2 zbe (vC (.int 1)) (b2 zbF (b2 ixD (vSh 7) (vC (.int 4))) (vSh 2))) zag))))) zca) (zfR 8 (zeD 4 (zaQ (szF (zab (cF zat (zab (vSh 5) zag)) (zab (b2 ixD (vC (.str "pqr")) (b2 ixD (vSh 7) (vC (.int 5)))) (zab (vSh 8) zag))))))))))) (zfR 4 (zbk (vSh 4)))))
theorem zb0:FnScope ["_law_cells","_law_benches_here","_law_horizon","_law_longest","_law_found","_law_k","_law_cell_here","_law_row","_law_ways"] ["_law_cells","_law_benches_here","_law_horizon","_law_longest"] (zao zdE):=by trivial
theorem zgJ {zaj:FQ} {zat:FQ} (F:Dfn K mg "_law_steps" zdE) (B:Bn mg) (c__law_digits:Cal Γ P w K mg base "_law_digits" 3 1 zaj) (c__law_name:Cal Γ P w K mg base "_law_name" 1 1 zat):Cal Γ P w K mg base "_law_steps" 4 2 (zfw zaj zat) :=
 F.cal (k:=1) zb0 (fun _ _ _ _ _ _ us hl=>match us,hl with | [_,_,_,_],_=>rfl) fun f cdv A outer s H E hr =>
  (zaf (zcG 4 zb0.nd (zai zad)) (zaf (zdh PassesOwn.never rfl (zen rfl B.z_enumerate (zac 0)) (zfo (n:=2) rfl (zbB (zaC 5 zb0.nd) (zbB (zaC 6 zb0.nd) zdN))) (zaf (zaN 7 zb0.nd (dC c__law_digits hr (zaa (zac 6) (zaa (zaL (zac 5) zae) (zaa (DO.de (zai (zaa zae (zaa (zaI zdl rfl B.z_len (by rfl) (zaa (zac 1) zad)) (zaa (zac 3) (zaa (zaI zdl rfl B.z_len (by rfl) (zaa (zac 1) zad)) (zaa (zac 3) (zaa zae zad)))))))) zad))) ln3)) (zaf (zcG 8 zb0.nd (zai (zaa (zar (zaa (zaw (zaw (zac 1) (zaw (zac 7) zae)) zae) (zaa (zaL zae (zbc (zaw (zac 7) zae) (zac 2))) zad))) zad))) (zaf (zbD (DW.dt (zl3 (zce zdP (zaw (zac 7) zae) zae (zby _)) (zji (zce (ziC (zrr hr)) (zaw (zac 7) zae) (zaw (zac 7) zae) (zby _))))) (zam (zbQ 8 (zar (zaa (zaw (zaw (zac 1) (zaw (zac 7) zae)) zae) (zaa (zaL zae (zbc (zaw (zac 7) zae) (zac 2))) zad))))) zaK) (zcm 8 (zam (zbQ 4 (zar (zaa (dC c__law_name hr (zaa (zac 5) zad) ln1) (zaa (zaw zay (zaw (zac 7) zae)) (zaa (zac 8) zad))))))))))) (zcm 4 (zam (zaE (zac 4))))))
def zgs (zaj:FQ) (zat:FQ):FQ:=zcj 8
  (zaG (zeB 3 (szF zag)) (zaG (zbn 4 (zax (za0 (itF (vSh 1)) (za3 0) tT (b2 ixD (vSh 0) (vC (.int 0))) [none]))) (zaG (zeh (itE (vSh 0)) (zcX 2 (za2 (za3 5) (za2 (za3 6) zcW))) (zaG (zbn 7 (cF zaj (zab (vSh 6) (zab (b2 zbe (vSh 5) (vC (.int 17))) (zab (zax (szF (zab (vC (.int 4)) (zab (vC (.int 3)) (zab (vC (.int 3)) (zab (vC (.int 2)) (zab (vC (.int 5)) (zab (vC (.int 7)) zag)))))))) zag))))) (zaG (zbn 8 (slF (vSh 4) pN (pS (b2 ixD (vSh 7) (vC (.int 0)))))) (zaG (zbn 4 (slF (vSh 4) (pS (b2 ixD (vSh 7) (vC (.int 0)))) pN)) (sIf (toB (b2 neA (vSh 8) (zax (szF zag)))) (zaG (zbn 9 (cF zlz (zab (vSh 2) (zab (b2 zdw (b2 ixD (vSh 7) (vC (.int 1))) (cF znq (zab (b2 eqD (b2 ixD (vSh 7) (vC (.int 2))) (vC (.int 0))) zag))) zag)))) (zaG (zbn 10 (cF zp9 (zab (vC (.int 0)) (zab (b2 zk4 (vSh 2) (b2 zdw (b2 ixD (vSh 7) (vC (.int 4))) (cF znq (zab (b2 eqD (b2 ixD (vSh 7) (vC (.int 2))) (vC (.int 1))) zag)))) zag)))) (zaG (zbn 8 (b2 zbe (slF (vSh 8) (pS (b2 zbF (b2 ixD (vSh 7) (vC (.int 5))) (vC (.int 2)))) pN) (slF (vSh 8) pN (pS (b2 zbF (b2 ixD (vSh 7) (vC (.int 5))) (vC (.int 2))))))) (zeD 3 (zaQ (szF (zab (cF zat (zab (b2 zbe (vC (.int 70)) (vSh 5)) zag)) (zab (vSh 9) (zab (vSh 10) (zab (b2 eqD (b2 ixD (vSh 7) (vC (.int 3))) (vC (.int 1))) (zab (vSh 8) zag))))))))))) zca))))) (zfR 3 (zbk (vSh 3))))))
theorem za9:FnScope ["_law_cells","_law_steps_here","_law_horizon","_law_found","_law_left","_law_k","_law_cell_here","_law_row","_law_some","_law_early","_law_due"] ["_law_cells","_law_steps_here","_law_horizon"] (zao zee):=by trivial
theorem zhX {zaj:FQ} {zat:FQ} (F:Dfn K mg "_law_jobs" zee) (B:Bn mg) (c__law_digits:Cal Γ P w K mg base "_law_digits" 3 1 zaj) (c__law_name:Cal Γ P w K mg base "_law_name" 1 1 zat):Cal Γ P w K mg base "_law_jobs" 3 2 (zgs zaj zat) :=
 F.cal (k:=1) za9 (fun _ _ _ _ _ _ us hl=>match us,hl with | [_,_,_],_=>rfl) fun f cdv A outer s H E hr =>
  (zaf (zcG 3 za9.nd (zai zad)) (zaf (zl6 4 za9.nd rfl (CompScope.of rfl rfl) (FvOk.of (N':=["_law_step"]) (fv:=[none]) rfl) (zbb (zac 1)) ⟨fun _ _ _ _ _=>⟨(zaC 0 (show (["_law_step"]:List Str).Nodup by decide +kernel)),zaV,(zaw (zac 0) zae)⟩⟩) (zaf (zdh PassesOwn.never rfl (zen rfl B.z_enumerate (zac 0)) (zfo (n:=2) rfl (zbB (zaC 5 za9.nd) (zbB (zaC 6 za9.nd) zdN))) (zaf (zaN 7 za9.nd (dC c__law_digits hr (zaa (zac 6) (zaa (zaL (zac 5) zae) (zaa (DO.de (zai (zaa zae (zaa zae (zaa zae (zaa zae (zaa zae (zaa zae zad)))))))) zad))) ln3)) (zaf (zaN 8 za9.nd (zb2 (zac 4) zcE (zcu (zaw (zac 7) zae)))) (zaf (zaN 4 za9.nd (zb2 (zac 4) (zcu (zaw (zac 7) zae)) zcE)) (zam (zbD (zce (ziC (zrr hr)) (zac 8) (DO.de (zai zad)) (zby _)) (zaf (zaN 9 za9.nd (zaI (zmx rfl) rfl B.z_min (by rfl) (zaa (zac 2) (zaa (zcH (zaw (zac 7) zae) (zdk znT rfl B.z_int (by rfl) (zaa (zd2 zdP (zaw (zac 7) zae) zae (zby _)) zad))) zad)))) (zaf (zaN 10 za9.nd (zaI (zrT rfl) rfl B.z_max (by rfl) (zaa zae (zaa (zmg (zac 2) (zcH (zaw (zac 7) zae) (zdk znT rfl B.z_int (by rfl) (zaa (zd2 zdP (zaw (zac 7) zae) zae (zby _)) zad)))) zad)))) (zaf (zaN 8 za9.nd (zaL (zb2 (zac 8) (zcu (zbc (zaw (zac 7) zae) zae)) zcE) (zb2 (zac 8) zcE (zcu (zbc (zaw (zac 7) zae) zae))))) (zam (zbQ 3 (zar (zaa (dC c__law_name hr (zaa (zaL zae (zac 5)) zad) ln1) (zaa (zac 9) (zaa (zac 10) (zaa (zd2 zdP (zaw (zac 7) zae) zae (zby _)) (zaa (zac 8) zad))))))))))) zaK)))))) (zcm 3 (zam (zaE (zac 3)))))))
def zeQ (zaj:FQ):FQ:=zcj 5
  (zaG (zeB 3 (szF zag)) (zaG (zeh (itE (cF zaj (zab (vSh 0) (zab (vC (.int 3)) (zab (b2 zdw (zax (szF (zab (vC (.int 4)) zag))) (vC (.int 6))) zag))))) (zcX 2 (za2 (za3 4) (za2 (za3 5) zcW))) (zaG (zbn 6 (b2 ixD (b2 ixD (vSh 1) (b2 zbF (vSh 4) (cF zdu (zab (vSh 1) zag)))) (vC (.int 0)))) (zaG (zbn 7 (zaQ (szF (zab (vSh 6) (zab (b2 ixD (vC (.str "pqr")) (b2 zbF (vSh 4) (vC (.int 3)))) (zab (b2 ixD (vC (.str "pqr")) (b2 zbF (b2 zbe (vSh 4) (vSh 5)) (vC (.int 3)))) (zab (cF zlz (zab (vSh 2) (zab (vSh 5) zag))) zag))))))) (sIf (bwT 3 (zkM (toB (b2 gtD (vSh 5) (vC (.int 0)))) (toB (b2 zgz (slF (vSh 7) pN (pS (vC (.int 3)))) (zax (za0 (itF (vSh 3)) (za3 0) tT (slF (vSh 0) pN (pS (vC (.int 3)))) [none])))))) (zeD 3 (vSh 7)) zca)))) (zfR 3 (zbk (vSh 3)))))
theorem zbR:FnScope ["_law_cell_here","_law_benches_here","_law_horizon","_law_found","_law_k","_law_many","_law_bench","_law_row"] ["_law_cell_here","_law_benches_here","_law_horizon"] (zao zdq):=by trivial
theorem zgj {zaj:FQ} (F:Dfn K mg "_law_setups" zdq) (B:Bn mg) (c__law_digits:Cal Γ P w K mg base "_law_digits" 3 1 zaj):Cal Γ P w K mg base "_law_setups" 3 2 (zeQ zaj) :=
 F.cal (k:=1) zbR (fun _ _ _ _ _ _ us hl=>match us,hl with | [_,_,_],_=>rfl) fun f cdv A outer s H E hr =>
  (zaf (zcG 3 zbR.nd (zai zad)) (zaf (zdh PassesOwn.never rfl (zen rfl B.z_enumerate (dC c__law_digits hr (zaa (zac 0) (zaa zae (zaa (zcH (DO.de (zai (zaa zae zad))) zae) zad))) ln3)) (zfo (n:=2) rfl (zbB (zaC 4 zbR.nd) (zbB (zaC 5 zbR.nd) zdN))) (zaf (zaN 6 zbR.nd (zaw (zaw (zac 1) (zbc (zac 4) (zaI zdl rfl B.z_len (by rfl) (zaa (zac 1) zad)))) zae)) (zaf (zaN 7 zbR.nd (zar (zaa (zac 6) (zaa (zaw zay (zbc (zac 4) zae)) (zaa (zaw zay (zbc (zaL (zac 4) (zac 5)) zae)) (zaa (zaI (zmx rfl) rfl B.z_min (by rfl) (zaa (zac 2) (zaa (zac 5) zad))) zad)))))) (zam (zbD (zpK 3 (DW.dt (zl3 (zce zs5 (zac 5) zae (zby _)) (zji (zce (zmn (zof hr)) (zb2 (zac 7) zcE (zcu zae)) (DO.de (zcn rfl (CompScope.of rfl rfl) (FvOk.of (N':=["_law_one"]) (fv:=[none]) rfl) (zbb (zac 3)) ⟨fun _ _ _ _ _=>⟨(zaC 0 (show (["_law_one"]:List Str).Nodup by decide +kernel)),zaV,(zb2 (zac 0) zcE (zcu zae))⟩⟩)) (by rfl)))))) (zam (zbQ 3 (zac 7))) zaK))))) (zcm 3 (zam (zaE (zac 3))))))
def zfz (zaj:FQ):FQ:=zcj 5
  (zaG (zeB 3 (szF zag)) (zaG (zbn 4 (cF zaj (zab (vSh 0) (zab (vC (.int 5)) (zab (zax (szF (zab (vC (.int 3)) (zab (vC (.int 9)) (zab (vC (.int 9)) (zab (vC (.int 4)) (zab (vC (.int 9)) (zab (vC (.int 9)) (zab (vC (.int 4)) zag))))))))) zag))))) (zaG (zeh (itR zjF (zab (b2 ixD (vSh 4) (vC (.int 0))) zag)) (za3 5) (zaG (zbn 6 (b2 ixD (b2 ixD (vSh 1) (b2 zbF (b2 ixD (vSh 4) (b2 zbe (vC (.int 1)) (b2 zdw (vC (.int 3)) (vSh 5)))) (cF zdu (zab (vSh 1) zag)))) (vC (.int 0)))) (zaG (zbn 7 (b2 ixD (b2 ixD (vSh 1) (b2 zbF (b2 ixD (vSh 4) (b2 zbe (vC (.int 2)) (b2 zdw (vC (.int 3)) (vSh 5)))) (cF zdu (zab (vSh 1) zag)))) (vC (.int 0)))) (sIf (bwT 3 (zkM (toB (b2 neA (vSh 6) (vSh 7))) (toB (b2 zgz (zaQ (szF (zab (vSh 6) (zab (vSh 7) zag)))) (zax (za0 (itF (vSh 3)) (za3 0) tT (slF (vSh 0) pN (pS (vC (.int 2)))) [none])))))) (zeD 3 (zaQ (szF (zab (vSh 6) (zab (vSh 7) (zab (cF zlz (zab (vSh 2) (zab (b2 ixD (vSh 4) (b2 zbe (vC (.int 3)) (b2 zdw (vC (.int 3)) (vSh 5)))) zag))) zag)))))) zca)))) (zfR 3 (zbk (vSh 3))))))
theorem zb1:FnScope ["_law_cell_here","_law_steps_here","_law_horizon","_law_found","_law_row","_law_k","_law_one","_law_other"] ["_law_cell_here","_law_steps_here","_law_horizon"] (zao zdH):=by trivial
theorem zgM {zaj:FQ} (F:Dfn K mg "_law_links" zdH) (B:Bn mg) (c__law_digits:Cal Γ P w K mg base "_law_digits" 3 1 zaj):Cal Γ P w K mg base "_law_links" 3 2 (zfz zaj) :=
 F.cal (k:=1) zb1 (fun _ _ _ _ _ _ us hl=>match us,hl with | [_,_,_],_=>rfl) fun f cdv A outer s H E hr =>
  (zaf (zcG 3 zb1.nd (zai zad)) (zaf (zaN 4 zb1.nd (dC c__law_digits hr (zaa (zac 0) (zaa zae (zaa (DO.de (zai (zaa zae (zaa zae (zaa zae (zaa zae (zaa zae (zaa zae (zaa zae zad))))))))) zad))) ln3)) (zaf (zdh PassesOwn.never rfl (zdM rfl B.z_range (zaa (zaw (zac 4) zae) zad)) (zaC 5 zb1.nd) (zaf (zaN 6 zb1.nd (zaw (zaw (zac 1) (zbc (zaw (zac 4) (zaL zae (zcH zae (zac 5)))) (zaI zdl rfl B.z_len (by rfl) (zaa (zac 1) zad)))) zae)) (zaf (zaN 7 zb1.nd (zaw (zaw (zac 1) (zbc (zaw (zac 4) (zaL zae (zcH zae (zac 5)))) (zaI zdl rfl B.z_len (by rfl) (zaa (zac 1) zad)))) zae)) (zam (zbD (zpK 3 (DW.dt (zl3 (zce (ziC (zrr hr)) (zac 6) (zac 7) (zby _)) (zji (zce (zmn (zof hr)) (zar (zaa (zac 6) (zaa (zac 7) zad))) (DO.de (zcn rfl (CompScope.of rfl rfl) (FvOk.of (N':=["_law_link"]) (fv:=[none]) rfl) (zbb (zac 3)) ⟨fun _ _ _ _ _=>⟨(zaC 0 (show (["_law_link"]:List Str).Nodup by decide +kernel)),zaV,(zb2 (zac 0) zcE (zcu zae))⟩⟩)) (by rfl)))))) (zam (zbQ 3 (zar (zaa (zac 6) (zaa (zac 7) (zaa (zaI (zmx rfl) rfl B.z_min (by rfl) (zaa (zac 2) (zaa (zaw (zac 4) (zaL zae (zcH zae (zac 5)))) zad))) zad)))))) zaK))))) (zcm 3 (zam (zaE (zac 3)))))))
def zeP (zaj:FQ) (zat:FQ):FQ:=zcj 6
  (zaG (zbn 2 (cF zaj (zab (vSh 0) (zab (vC (.int 9)) (zab (zax (szF (zab (vC (.int 3)) (zab (vC (.int 4)) (zab (vC (.int 5)) (zab (vC (.int 8)) (zab (vC (.int 8)) (zab (vC (.int 4)) (zab (vC (.int 4)) zag))))))))) zag))))) (zaG (zeB 3 (szF zag)) (zaG (zeh (itR zjF (zab (b2 ixD (vSh 2) (vC (.int 0))) zag)) (za3 4) (zaG (zbn 5 (b2 zbe (b2 ixD (vSh 2) (vC (.int 1))) (b2 ixD (vSh 2) (vC (.int 2))))) (zaG (zbn 6 (zax (za0 (itE (vSh 1)) (zcX 2 (za2 (za3 0) (za2 (za3 1) zcW))) (toB (b2 eqD (b2 zbF (b2 zcJ (b2 zbe (b2 ixD (vSh 2) (vC (.int 3))) (vSh 3)) (b2 ixD (zax (szF (zab (vC (.int 1)) (zab (vC (.int 2)) (zab (vC (.int 4)) zag))))) (b2 zbF (vSh 0) (vC (.int 3))))) (vC (.int 2))) (vC (.int 1)))) (zaQ (szF (zab (b2 ixD (vSh 1) (vC (.int 0))) (zab (b2 zbe (vC (.int 1)) (b2 ixD (vSh 2) (vC (.int 5)))) zag)))) [none,none,some 2,some 4]))) (zaG (zbn 7 (zax (za0 (itE (vSh 1)) (zcX 2 (za2 (za3 0) (za2 (za3 1) zcW))) (toB (b2 eqD (b2 zbF (b2 zcJ (b2 zbe (b2 ixD (vSh 2) (vC (.int 4))) (vSh 3)) (b2 ixD (zax (szF (zab (vC (.int 1)) (zab (vC (.int 2)) (zab (vC (.int 4)) zag))))) (b2 zbF (vSh 0) (vC (.int 3))))) (vC (.int 2))) (vC (.int 1)))) (zaQ (szF (zab (b2 ixD (vSh 1) (vC (.int 0))) (zab (b2 zbe (vC (.int 1)) (b2 ixD (vSh 2) (vC (.int 6)))) zag)))) [none,none,some 2,some 4]))) (zeD 3 (zaQ (szF (zab (cF zat (zab (b2 zbe (vC (.int 80)) (vSh 4)) zag)) (zab (b2 ixD (vSh 2) (vC (.int 1))) (zab (vSh 5) (zab (vSh 6) (zab (vSh 7) zag)))))))))))) (zfR 3 (zbk (vSh 3))))))
theorem zbw:FnScope ["_law_cell_here","_law_steps_here","_law_row","_law_found","_law_k","_law_room","_law_takes","_law_puts"] ["_law_cell_here","_law_steps_here"] (zao zdp):=by trivial
theorem zgi {zaj:FQ} {zat:FQ} (F:Dfn K mg "_law_stocks" zdp) (B:Bn mg) (c__law_digits:Cal Γ P w K mg base "_law_digits" 3 1 zaj) (c__law_name:Cal Γ P w K mg base "_law_name" 1 1 zat):Cal Γ P w K mg base "_law_stocks" 2 2 (zeP zaj zat) :=
 F.cal (k:=1) zbw (fun _ _ _ _ _ _ us hl=>match us,hl with | [_,_],_=>rfl) fun f cdv A outer s H E hr =>
  (zaf (zaN 2 zbw.nd (dC c__law_digits hr (zaa (zac 0) (zaa zae (zaa (DO.de (zai (zaa zae (zaa zae (zaa zae (zaa zae (zaa zae (zaa zae (zaa zae zad))))))))) zad))) ln3)) (zaf (zcG 3 zbw.nd (zai zad)) (zaf (zdh PassesOwn.never rfl (zdM rfl B.z_range (zaa (zaw (zac 2) zae) zad)) (zaC 4 zbw.nd) (zaf (zaN 5 zbw.nd (zaL (zaw (zac 2) zae) (zaw (zac 2) zae))) (zaf (zl6 6 zbw.nd rfl (CompScope.of rfl rfl) (FvOk.of (N':=["_law_j","_law_step","_law_row","_law_k"]) (fv:=[none,none,some 2,some 4]) rfl) (zen rfl B.z_enumerate (zac 1)) ⟨fun _ _ _ _ _=>⟨(zfo (n:=2) rfl (zbB (zaC 0 (show (["_law_j","_law_step","_law_row","_law_k"]:List Str).Nodup by decide +kernel)) (zbB (zaC 1 (show (["_law_j","_law_step","_law_row","_law_k"]:List Str).Nodup by decide +kernel)) zdN))),(zl4 (zce zdP (zbc (zdv (zaL (zaw (zac 2) zae) (zac 3)) (zaw (DO.de (zai (zaa zae (zaa zae (zaa zae zad))))) (zbc (zac 0) zae))) zae) zae (zby _))),(zar (zaa (zaw (zac 1) zae) (zaa (zaL zae (zaw (zac 2) zae)) zad)))⟩⟩) (zaf (zl6 7 zbw.nd rfl (CompScope.of rfl rfl) (FvOk.of (N':=["_law_j","_law_step","_law_row","_law_k"]) (fv:=[none,none,some 2,some 4]) rfl) (zen rfl B.z_enumerate (zac 1)) ⟨fun _ _ _ _ _=>⟨(zfo (n:=2) rfl (zbB (zaC 0 (show (["_law_j","_law_step","_law_row","_law_k"]:List Str).Nodup by decide +kernel)) (zbB (zaC 1 (show (["_law_j","_law_step","_law_row","_law_k"]:List Str).Nodup by decide +kernel)) zdN))),(zl4 (zce zdP (zbc (zdv (zaL (zaw (zac 2) zae) (zac 3)) (zaw (DO.de (zai (zaa zae (zaa zae (zaa zae zad))))) (zbc (zac 0) zae))) zae) zae (zby _))),(zar (zaa (zaw (zac 1) zae) (zaa (zaL zae (zaw (zac 2) zae)) zad)))⟩⟩) (zam (zbQ 3 (zar (zaa (dC c__law_name hr (zaa (zaL zae (zac 4)) zad) ln1) (zaa (zaw (zac 2) zae) (zaa (zac 5) (zaa (zac 6) (zaa (zac 7) zad)))))))))))) (zcm 3 (zam (zaE (zac 3)))))))
def zfy (zaF:FQ) (zbm:FQ) (zbH:FQ) (zbY:FQ) (zbv:FQ) (zbJ:FQ) (zbt:FQ):FQ:=zcj 6
  (zaG (zbn 4 (cF zbm (zab (zax (za0 (itR zjF (zab (b2 zbe (vC (.int 1)) (b2 zbF (cF zaF (zab (vSh 0) (zab (vC (.int 0)) zag))) (vC (.int 3)))) zag)) (za3 0) tT (cF zaF (zab (vSh 1) (zab (b2 zbe (vC (.int 1)) (vSh 0)) zag))) [none,some 0])) (zab (vSh 2) zag)))) (zaG (zbn 5 (cF zbH (zab (zax (za0 (itR zjF (zab (vSh 1) zag)) (za3 0) tT (cF zaF (zab (vSh 1) (zab (b2 zbe (vC (.int 4)) (vSh 0)) zag))) [none,some 0])) (zab (vSh 4) (zab (vSh 2) (zab (vSh 3) zag)))))) (zaG (zbn 6 (cF zbY (zab (zax (za0 (itR zjF (zab (vC (.int 3)) zag)) (za3 0) tT (cF zaF (zab (vSh 1) (zab (b2 zbe (vC (.int 14)) (vSh 0)) zag))) [none,some 0])) (zab (vSh 5) (zab (vSh 2) zag))))) (zaG (zbn 7 (cF zbv (zab (cF zaF (zab (vSh 0) (zab (vC (.int 17)) zag))) (zab (vSh 4) (zab (vSh 2) zag))))) (zaG (zbn 8 (cF zbJ (zab (cF zaF (zab (vSh 0) (zab (vC (.int 18)) zag))) (zab (vSh 5) (zab (vSh 2) zag))))) (zaG (zbn 9 (cF zbt (zab (cF zaF (zab (vSh 0) (zab (vC (.int 19)) zag))) (zab (vSh 5) zag)))) (zbk (zax (szF (zab (vSh 4) (zab (vSh 5) (zab (vSh 6) (zab (vSh 7) (zab (vSh 8) (zab (vSh 9) (zab (vSh 2) zag))))))))))))))))
theorem zbK:FnScope ["_law_script","_law_many","_law_horizon","_law_longest","_law_benches_here","_law_steps_here","_law_jobs_here","_law_setups_here","_law_links_here","_law_stocks_here"] ["_law_script","_law_many","_law_horizon","_law_longest"] (zao zdG):=by trivial
theorem zgL {zaF:FQ} {zbm:FQ} {zbH:FQ} {zbY:FQ} {zbv:FQ} {zbJ:FQ} {zbt:FQ} (F:Dfn K mg "_law_lists" zdG) (B:Bn mg) (c__law_cell:Cal Γ P w K mg base "_law_cell" 2 1 zaF) (c__law_benches:Cal Γ P w K mg base "_law_benches" 2 2 zbm) (c__law_steps:Cal Γ P w K mg base "_law_steps" 4 2 zbH) (c__law_jobs:Cal Γ P w K mg base "_law_jobs" 3 2 zbY) (c__law_setups:Cal Γ P w K mg base "_law_setups" 3 2 zbv) (c__law_links:Cal Γ P w K mg base "_law_links" 3 2 zbJ) (c__law_stocks:Cal Γ P w K mg base "_law_stocks" 2 2 zbt):Cal Γ P w K mg base "_law_lists" 4 3 (zfy zaF zbm zbH zbY zbv zbJ zbt) :=
 F.cal (k:=2) zbK (fun _ _ _ _ _ _ us hl=>match us,hl with | [_,_,_,_],_=>rfl) fun f cdv A outer s H E hr =>
  (zaf (zaN 4 zbK.nd (dC c__law_benches hr (zaa (DO.de (zcn rfl (CompScope.of rfl rfl) (FvOk.of (N':=["_law_k","_law_script"]) (fv:=[none,some 0]) rfl) (zdM rfl B.z_range (zaa (zaL zae (zbc (dC c__law_cell hr (zaa (zac 0) (zaa zae zad)) ln2) zae)) zad)) ⟨fun _ _ _ _ _=>⟨(zaC 0 (show (["_law_k","_law_script"]:List Str).Nodup by decide +kernel)),zaV,(dC c__law_cell hr (zaa (zac 1) (zaa (zaL zae (zac 0)) zad)) ln2)⟩⟩)) (zaa (zac 2) zad)) ln2)) (zaf (zaN 5 zbK.nd (dC c__law_steps hr (zaa (DO.de (zcn rfl (CompScope.of rfl rfl) (FvOk.of (N':=["_law_k","_law_script"]) (fv:=[none,some 0]) rfl) (zdM rfl B.z_range (zaa (zac 1) zad)) ⟨fun _ _ _ _ _=>⟨(zaC 0 (show (["_law_k","_law_script"]:List Str).Nodup by decide +kernel)),zaV,(dC c__law_cell hr (zaa (zac 1) (zaa (zaL zae (zac 0)) zad)) ln2)⟩⟩)) (zaa (zac 4) (zaa (zac 2) (zaa (zac 3) zad)))) ln4)) (zaf (zaN 6 zbK.nd (dC c__law_jobs hr (zaa (DO.de (zcn rfl (CompScope.of rfl rfl) (FvOk.of (N':=["_law_k","_law_script"]) (fv:=[none,some 0]) rfl) (zdM rfl B.z_range (zaa zae zad)) ⟨fun _ _ _ _ _=>⟨(zaC 0 (show (["_law_k","_law_script"]:List Str).Nodup by decide +kernel)),zaV,(dC c__law_cell hr (zaa (zac 1) (zaa (zaL zae (zac 0)) zad)) ln2)⟩⟩)) (zaa (zac 5) (zaa (zac 2) zad))) ln3)) (zaf (zaN 7 zbK.nd (dC c__law_setups hr (zaa (dC c__law_cell hr (zaa (zac 0) (zaa zae zad)) ln2) (zaa (zac 4) (zaa (zac 2) zad))) ln3)) (zaf (zaN 8 zbK.nd (dC c__law_links hr (zaa (dC c__law_cell hr (zaa (zac 0) (zaa zae zad)) ln2) (zaa (zac 5) (zaa (zac 2) zad))) ln3)) (zaf (zaN 9 zbK.nd (dC c__law_stocks hr (zaa (dC c__law_cell hr (zaa (zac 0) (zaa zae zad)) ln2) (zaa (zac 5) zad)) ln2)) (zam (zaE (DO.de (zai (zaa (zac 4) (zaa (zac 5) (zaa (zac 6) (zaa (zac 7) (zaa (zac 8) (zaa (zac 9) (zaa (zac 2) zad)))))))))))))))))
def zbE:FQ:=zcj 1
  (zaG (sIf (toB (b2 eqD (vSh 0) (vC (.int 2)))) (zaG (zeB 5 (szF (zab (vC .non) (zab (zax (szF (zab (zaQ (szF (zab (vC (.str "A")) (zab (vC (.int 0)) (zab (vC (.int 1)) (zab (vC (.bl true)) (zab (zax (szF (zab (vSh 2) zag))) zag))))))) zag))) (zab (zax (szF (zab (zaQ (szF (zab (vC (.str "j")) (zab (vC (.int 0)) (zab (vSh 3) (zab (vC (.bl true)) (zab (zax (szF (zab (vSh 2) zag))) zag))))))) zag))) (zab (zax (szF (zab (zaQ (szF (zab (vC (.str "j")) (zab (vC (.int 0)) (zab (vC (.int 1)) (zab (vC (.int 1)) (zab (zax (szF (zab (vSh 2) zag))) zag))))))) zag))) zag)))))) (zfR 5 (zaG (zbn 5 (b2 zbe (vSh 5) (zax (szF (zab (zax (szF (zab (zaQ (szF (zab (vC (.str "j")) (zab (vC (.int 0)) (zab (vC (.int 1)) (zab (vC (.bl true)) (zab (zax (szF zag)) zag))))))) zag))) (zab (zax (szF (zab (zaQ (szF (zab (vC (.str "j")) (zab (vC (.int 0)) (zab (vC (.int 1)) (zab (vC (.bl true)) (zab (zax (szF (zab (vC (.str "zz")) zag))) zag))))))) zag))) (zab (zax (szF (zab (zaQ (szF (zab (vC (.str "j")) (zab (vC (.int 0)) (zab (vC (.int 1)) (zab (vC (.bl false)) (zab (zax (szF (zab (vSh 2) (zab (vSh 2) zag)))) zag))))))) zag))) zag))))))) (zaG (zbn 5 (b2 zbe (vSh 5) (zax (szF (zab (zax (szF (zab (zaQ (szF (zab (vC (.str "j")) (zab (b1 zp8 (vC (.int 1))) (zab (vC (.int 1)) (zab (vC (.bl true)) (zab (zax (szF (zab (vSh 2) zag))) zag))))))) zag))) (zab (zax (szF (zab (zaQ (szF (zab (vC (.str "j")) (zab (vC (.int 0)) (zab (vC (.int 1)) (zab (vC (.bl true)) (zab (zax (szF (zab (vSh 2) zag))) zag))))))) (zab (zaQ (szF (zab (vC (.str "i")) (zab (vC (.int 0)) (zab (vC (.int 1)) (zab (vC (.bl true)) (zab (zax (szF (zab (vSh 2) zag))) zag))))))) zag)))) zag)))))) (zbk (b2 ixD (b2 zbe (vSh 5) (zax (szF (zab (zax (szF (zab (zaQ (szF (zab (vC (.str "j")) (zab (vC (.int 0)) (zab (vC (.int 1)) (zab (vC (.bl true)) (zab (zaQ (szF (zab (vSh 2) zag))) zag))))))) zag))) (zab (zax (szF (zab (zaQ (szF (zab (vC (.str "j")) (zab (vC (.bl true)) (zab (vC (.int 1)) (zab (vC (.bl true)) (zab (zax (szF (zab (vSh 2) zag))) zag))))))) zag))) (zab (zax (szF (zab (vC (.str "j")) zag))) zag)))))) (b2 zbF (vSh 4) (vC (.int 12))))))))) zca) (zaG (sIf (toB (b2 eqD (vSh 0) (vC (.int 3)))) (zaG (zeB 5 (szF (zab (vC .non) (zab (zax (szF (zab (zaQ (szF (zab (vC (.str "zz")) (zab (vC (.str "p")) (zab (vC (.str "q")) (zab (vC (.int 1)) zag)))))) zag))) (zab (zax (szF (zab (zaQ (szF (zab (vSh 1) (zab (vC (.str "p")) (zab (vC (.str "q")) (zab (vC (.int 0)) zag)))))) zag))) (zab (zax (szF (zab (zaQ (szF (zab (vSh 1) (zab (vC (.str "p")) (zab (vC (.str "q")) (zab (vSh 3) zag)))))) zag))) zag)))))) (zaG (zeD 5 (b2 zdw (zax (szF (zab (zaQ (szF (zab (vSh 1) (zab (vC (.str "p")) (zab (vC (.str "q")) (zab (vC (.int 1)) zag)))))) zag))) (vC (.int 2)))) (zfR 5 (zbk (b2 ixD (b2 zbe (vSh 5) (zax (szF (zab (zax (szF (zab (zaQ (szF (zab (vSh 1) (zab (vC (.str "P")) (zab (vC (.str "q")) (zab (vC (.int 1)) zag)))))) zag))) (zab (zax (szF (zab (zaQ (szF (zab (vSh 1) (zab (vC (.str "p")) (zab (vC (.str "q")) (zab (vC (.bl true)) zag)))))) zag))) (zab (zax (szF (zab (zaQ (szF (zab (vSh 1) (zab (vC (.str "p")) (zab (vC (.str "q")) zag))))) zag))) (zab (zax (szF (zab (vSh 1) zag))) zag))))))) (b2 zbF (vSh 4) (vC (.int 9)))))))) zca) (zaG (sIf (toB (b2 eqD (vSh 0) (vC (.int 4)))) (zaG (zeB 5 (szF (zab (vC .non) (zab (zax (szF (zab (zaQ (szF (zab (vSh 2) (zab (vSh 2) (zab (vC (.int 0)) zag))))) zag))) (zab (zax (szF (zab (zaQ (szF (zab (vSh 2) (zab (vC (.str "zz")) (zab (vC (.int 0)) zag))))) zag))) (zab (zax (szF (zab (zaQ (szF (zab (vSh 2) zag))) zag))) (zab (zax (szF (zab (zax (szF (zab (vSh 2) (zab (vSh 2) (zab (vC (.int 0)) zag))))) zag))) (zab (zax (szF (zab (zaQ (szF (zab (vC (.str "zz")) (zab (vSh 2) (zab (vC (.int 0)) zag))))) zag))) (zab (zax (szF (zab (vC (.int 5)) zag))) zag))))))))) (zfR 5 (zbk (b2 ixD (vSh 5) (b2 zbF (vSh 4) (vC (.int 7))))))) zca) (zaG (zeB 5 (szF (zab (vC .non) (zab (zax (szF (zab (zaQ (szF (zab (vC (.str "s")) (zab (vC (.int 2)) (zab (vC (.int 1)) (zab (zax (szF zag)) (zab (zax (szF zag)) zag))))))) zag))) (zab (zax (szF (zab (zaQ (szF (zab (vC (.str "s")) (zab (vC (.int 0)) (zab (b1 zp8 (vC (.int 1))) (zab (zax (szF zag)) (zab (zax (szF zag)) zag))))))) zag))) (zab (zax (szF (zab (zaQ (szF (zab (vC (.str "S")) (zab (vC (.int 0)) (zab (vC (.int 1)) (zab (zax (szF zag)) (zab (zax (szF zag)) zag))))))) zag))) (zab (b2 zdw (zax (szF (zab (zaQ (szF (zab (vC (.str "s")) (zab (vC (.int 0)) (zab (vC (.int 1)) (zab (zax (szF zag)) (zab (zax (szF zag)) zag))))))) zag))) (vC (.int 2))) zag))))))) (zfR 5 (zaG (zbn 5 (b2 zbe (vSh 5) (zax (szF (zab (zax (szF (zab (zaQ (szF (zab (vC (.str "s")) (zab (vC (.int 0)) (zab (b2 zbe (b2 zn2 (vC (.int 10)) (vC (.int 6))) (vC (.int 1))) (zab (zax (szF zag)) (zab (zax (szF zag)) zag))))))) zag))) (zab (zax (szF (zab (zaQ (szF (zab (vC (.str "s")) (zab (vC (.int 0)) (zab (vC (.int 1)) (zab (zax (szF (zab (zaQ (szF (zab (vSh 2) (zab (vC (.int 0)) zag)))) zag))) (zab (zax (szF zag)) zag))))))) zag))) (zab (zax (szF (zab (zaQ (szF (zab (vC (.str "s")) (zab (vC (.int 0)) (zab (vC (.int 1)) (zab (zax (szF zag)) (zab (zax (szF (zab (zaQ (szF (zab (vC (.str "zz")) (zab (vC (.int 1)) zag)))) zag))) zag))))))) zag))) zag))))))) (zaG (zeB 5 (zta (vSh 5) (zax (szF (zab (zax (szF (zab (zaQ (szF (zab (vC (.str "s")) (zab (vC (.int 0)) (zab (vC (.int 1)) (zab (b2 zdw (zax (szF (zab (zaQ (szF (zab (vSh 2) (zab (vC (.int 1)) zag)))) zag))) (vC (.int 2))) (zab (zax (szF zag)) zag))))))) zag))) (zab (zax (szF (zab (zaQ (szF (zab (vC (.str "s")) (zab (vC (.int 0)) (zab (vC (.int 1)) (zab (zax (szF (zab (zaQ (szF (zab (vSh 2) (zab (b2 zbe (b2 zn2 (vC (.int 10)) (vC (.int 6))) (vC (.int 1))) zag)))) zag))) (zab (zax (szF zag)) zag))))))) zag))) zag)))))) (zaG (zeD 5 (zax (szF (zab (zaQ (szF (zab (vC (.str "s")) (zab (vC (.bl true)) (zab (vC (.int 1)) (zab (zax (szF zag)) (zab (zax (szF zag)) zag))))))) zag)))) (zfR 5 (zbk (b2 ixD (b2 zbe (vSh 5) (zax (szF (zab (zax (szF (zab (zaQ (szF (zab (vC (.str "s")) (zab (vC (.int 0)) (zab (vC (.int 1)) (zab (zax (szF (zab (zaQ (szF (zab (vSh 2) (zab (vC (.bl true)) zag)))) zag))) (zab (zax (szF zag)) zag))))))) zag))) (zab (zax (szF (zab (zaQ (szF (zab (vC (.str "s")) (zab (vC (.int 0)) (zab (vC (.int 1)) (zab (zaQ (szF zag)) zag)))))) zag))) (zab (zax (szF (zab (zaQ (szF (zab (vC (.str "s")) (zab (vC (.int 0)) (zab (vC (.int 1)) (zab (zaQ (szF zag)) (zab (zax (szF zag)) zag))))))) zag))) zag)))))) (b2 zbF (vSh 4) (vC (.int 14))))))))))))))
theorem za1:FnScope ["_law_part","_law_bench","_law_step","_law_far","_law_cell_here","_law_some"] ["_law_part","_law_bench","_law_step","_law_far","_law_cell_here"] (zao zcO):=by trivial
theorem ze7 (F:Dfn K mg "_law_bad_more" zcO) (B:Bn mg)  : Cal Γ P w K mg base "_law_bad_more" 5 1 (zbE) :=
 F.cal (k:=0) za1 (fun _ _ _ _ _ _ us hl=>match us,hl with | [_,_,_,_,_],_=>rfl) fun f cdv A outer s H E hr =>
  (zaf (zbD (zce zdP (zac 0) zae (zby _)) (zaf (zcG 5 za1.nd (zai (zaa zeL (zaa (DO.de (zai (zaa (zar (zaa zay (zaa zae (zaa zae (zaa zbU (zaa (DO.de (zai (zaa (zac 2) zad))) zad)))))) zad))) (zaa (DO.de (zai (zaa (zar (zaa zay (zaa zae (zaa (zac 3) (zaa zbU (zaa (DO.de (zai (zaa (zac 2) zad))) zad)))))) zad))) (zaa (DO.de (zai (zaa (zar (zaa zay (zaa zae (zaa zae (zaa zae (zaa (DO.de (zai (zaa (zac 2) zad))) zad)))))) zad))) zad)))))) (zcm 5 (zaf (zaN 5 za1.nd (zaL (zac 5) (DO.de (zai (zaa (DO.de (zai (zaa (zar (zaa zay (zaa zae (zaa zae (zaa zbU (zaa (DO.de (zai zad)) zad)))))) zad))) (zaa (DO.de (zai (zaa (zar (zaa zay (zaa zae (zaa zae (zaa zbU (zaa (DO.de (zai (zaa zay zad))) zad)))))) zad))) (zaa (DO.de (zai (zaa (zar (zaa zay (zaa zae (zaa zae (zaa zbU (zaa (DO.de (zai (zaa (zac 2) (zaa (zac 2) zad)))) zad)))))) zad))) zad))))))) (zaf (zaN 5 za1.nd (zaL (zac 5) (DO.de (zai (zaa (DO.de (zai (zaa (zar (zaa zay (zaa (zhK zae) (zaa zae (zaa zbU (zaa (DO.de (zai (zaa (zac 2) zad))) zad)))))) zad))) (zaa (DO.de (zai (zaa (zar (zaa zay (zaa zae (zaa zae (zaa zbU (zaa (DO.de (zai (zaa (zac 2) zad))) zad)))))) (zaa (zar (zaa zay (zaa zae (zaa zae (zaa zbU (zaa (DO.de (zai (zaa (zac 2) zad))) zad)))))) zad)))) zad)))))) (zam (zaE (zaw (zaL (zac 5) (DO.de (zai (zaa (DO.de (zai (zaa (zar (zaa zay (zaa zae (zaa zae (zaa zbU (zaa (zar (zaa (zac 2) zad)) zad)))))) zad))) (zaa (DO.de (zai (zaa (zar (zaa zay (zaa zbU (zaa zae (zaa zbU (zaa (DO.de (zai (zaa (zac 2) zad))) zad)))))) zad))) (zaa (DO.de (zai (zaa zay zad))) zad)))))) (zbc (zac 4) zae)))))))) zaK) (zaf (zbD (zce zdP (zac 0) zae (zby _)) (zaf (zcG 5 za1.nd (zai (zaa zeL (zaa (DO.de (zai (zaa (zar (zaa zay (zaa zay (zaa zay (zaa zae zad))))) zad))) (zaa (DO.de (zai (zaa (zar (zaa (zac 1) (zaa zay (zaa zay (zaa zae zad))))) zad))) (zaa (DO.de (zai (zaa (zar (zaa (zac 1) (zaa zay (zaa zay (zaa (zac 3) zad))))) zad))) zad)))))) (zaf (zbQ 5 (zcH (DO.de (zai (zaa (zar (zaa (zac 1) (zaa zay (zaa zay (zaa zae zad))))) zad))) zae)) (zcm 5 (zam (zaE (zaw (zaL (zac 5) (DO.de (zai (zaa (DO.de (zai (zaa (zar (zaa (zac 1) (zaa zay (zaa zay (zaa zae zad))))) zad))) (zaa (DO.de (zai (zaa (zar (zaa (zac 1) (zaa zay (zaa zay (zaa zbU zad))))) zad))) (zaa (DO.de (zai (zaa (zar (zaa (zac 1) (zaa zay (zaa zay zad)))) zad))) (zaa (DO.de (zai (zaa (zac 1) zad))) zad))))))) (zbc (zac 4) zae))))))) zaK) (zaf (zbD (zce zdP (zac 0) zae (zby _)) (zaf (zcG 5 za1.nd (zai (zaa zeL (zaa (DO.de (zai (zaa (zar (zaa (zac 2) (zaa (zac 2) (zaa zae zad)))) zad))) (zaa (DO.de (zai (zaa (zar (zaa (zac 2) (zaa zay (zaa zae zad)))) zad))) (zaa (DO.de (zai (zaa (zar (zaa (zac 2) zad)) zad))) (zaa (DO.de (zai (zaa (DO.de (zai (zaa (zac 2) (zaa (zac 2) (zaa zae zad))))) zad))) (zaa (DO.de (zai (zaa (zar (zaa zay (zaa (zac 2) (zaa zae zad)))) zad))) (zaa (DO.de (zai (zaa zae zad))) zad))))))))) (zcm 5 (zam (zaE (zaw (zac 5) (zbc (zac 4) zae)))))) zaK) (zaf (zcG 5 za1.nd (zai (zaa zeL (zaa (DO.de (zai (zaa (zar (zaa zay (zaa zae (zaa zae (zaa (DO.de (zai zad)) (zaa (DO.de (zai zad)) zad)))))) zad))) (zaa (DO.de (zai (zaa (zar (zaa zay (zaa zae (zaa (zhK zae) (zaa (DO.de (zai zad)) (zaa (DO.de (zai zad)) zad)))))) zad))) (zaa (DO.de (zai (zaa (zar (zaa zay (zaa zae (zaa zae (zaa (DO.de (zai zad)) (zaa (DO.de (zai zad)) zad)))))) zad))) (zaa (zcH (DO.de (zai (zaa (zar (zaa zay (zaa zae (zaa zae (zaa (DO.de (zai zad)) (zaa (DO.de (zai zad)) zad)))))) zad))) zae) zad))))))) (zcm 5 (zaf (zaN 5 za1.nd (zaL (zac 5) (DO.de (zai (zaa (DO.de (zai (zaa (zar (zaa zay (zaa zae (zaa (zaL (ziA zae zae) zae) (zaa (DO.de (zai zad)) (zaa (DO.de (zai zad)) zad)))))) zad))) (zaa (DO.de (zai (zaa (zar (zaa zay (zaa zae (zaa zae (zaa (DO.de (zai (zaa (zar (zaa (zac 2) (zaa zae zad))) zad))) (zaa (DO.de (zai zad)) zad)))))) zad))) (zaa (DO.de (zai (zaa (zar (zaa zay (zaa zae (zaa zae (zaa (DO.de (zai zad)) (zaa (DO.de (zai (zaa (zar (zaa zay (zaa zae zad))) zad))) zad)))))) zad))) zad))))))) (zaf (zcG 5 za1.nd (zrE (zac 5) (DO.de (zai (zaa (DO.de (zai (zaa (zar (zaa zay (zaa zae (zaa zae (zaa (zcH (DO.de (zai (zaa (zar (zaa (zac 2) (zaa zae zad))) zad))) zae) (zaa (DO.de (zai zad)) zad)))))) zad))) (zaa (DO.de (zai (zaa (zar (zaa zay (zaa zae (zaa zae (zaa (DO.de (zai (zaa (zar (zaa (zac 2) (zaa (zaL (ziA zae zae) zae) zad))) zad))) (zaa (DO.de (zai zad)) zad)))))) zad))) zad)))))) (zaf (zbQ 5 (DO.de (zai (zaa (zar (zaa zay (zaa zbU (zaa zae (zaa (DO.de (zai zad)) (zaa (DO.de (zai zad)) zad)))))) zad)))) (zcm 5 (zam (zaE (zaw (zaL (zac 5) (DO.de (zai (zaa (DO.de (zai (zaa (zar (zaa zay (zaa zae (zaa zae (zaa (DO.de (zai (zaa (zar (zaa (zac 2) (zaa zbU zad))) zad))) (zaa (DO.de (zai zad)) zad)))))) zad))) (zaa (DO.de (zai (zaa (zar (zaa zay (zaa zae (zaa zae (zaa (zar zad) zad))))) zad))) (zaa (DO.de (zai (zaa (zar (zaa zay (zaa zae (zaa zae (zaa (zar zad) (zaa (DO.de (zai zad)) zad)))))) zad))) zad)))))) (zbc (zac 4) zae)))))))))))))
def zcM (zaH:FQ):FQ:=zcj 4
  (zaG (zbn 3 (b2 ixD (b2 ixD (b2 ixD (vSh 1) (vC (.int 0))) (vC (.int 0))) (vC (.int 0)))) (zaG (zbn 4 (b2 ixD (b2 ixD (b2 ixD (vSh 1) (vC (.int 1))) (vC (.int 0))) (vC (.int 0)))) (zaG (zbn 5 (b2 zbe (b2 ixD (vSh 1) (vC (.int 6))) (vC (.int 1)))) (zaG (sIf (toB (b2 eqD (vSh 0) (vC (.int 6)))) (zbk (b2 ixD (zax (szF (zab (vC (.int 0)) (zab (b2 zbe (b2 zn2 (vC (.int 10)) (vC (.int 6))) (vC (.int 1))) (zab (vC (.bl true)) (zab (vC (.str "9")) (zab (vC .non) (zab (b1 zp8 (vC (.int 1))) (zab (b2 zn2 (vC (.int 10)) (vC (.int 40))) (zab (zaQ (szF (zab (vC (.int 1)) zag))) zag)))))))))) (b2 zbF (vSh 2) (vC (.int 8))))) zca) (zaG (sIf (toB (b2 eqD (vSh 0) (vC (.int 0)))) (zaG (zbn 6 (zax (szF (zab (zax (szF zag)) (zab (vC .non) (zab (zaQ (szF (zab (b2 ixD (b2 ixD (vSh 1) (vC (.int 0))) (vC (.int 0))) zag))) (zab (zax (szF (zab (zaQ (szF (zab (vC (.str "A")) (zab (zax (szF zag)) zag)))) zag))) (zab (b2 zdw (zax (szF (zab (zaQ (szF (zab (vSh 3) (zab (zax (szF zag)) zag)))) zag))) (vC (.int 2))) (zab (zax (szF (zab (zaQ (szF (zab (vSh 3) (zab (zax (szF (zab (zaQ (szF (zab (vC (.int 1)) (zab (vC (.int 1)) zag)))) zag))) zag)))) zag))) (zab (zax (szF (zab (zaQ (szF (zab (vSh 3) (zab (zax (szF (zab (zaQ (szF (zab (vC (.int 0)) (zab (vSh 5) zag)))) zag))) zag)))) zag))) zag)))))))))) (zaG (zbn 6 (b2 zbe (vSh 6) (zax (szF (zab (zax (szF (zab (zaQ (szF (zab (vSh 3) (zab (zax (szF (zab (zaQ (szF (zab (vC (.int 0)) (zab (vC (.int 1)) zag)))) (zab (zaQ (szF (zab (vC (.int 1)) (zab (vC (.int 2)) zag)))) zag)))) zag)))) zag))) (zab (zax (szF (zab (zaQ (szF (zab (vSh 3) (zab (zaQ (szF (zab (zaQ (szF (zab (vC (.int 0)) (zab (vC (.int 1)) zag)))) zag))) zag)))) zag))) (zab (zax (szF (zab (zaQ (szF (zab (vSh 3) zag))) zag))) (zab (zax (szF (zab (zaQ (szF (zab (vSh 3) (zab (zax (szF (zab (zaQ (szF (zab (vC (.bl true)) (zab (vC (.int 2)) zag)))) zag))) zag)))) zag))) zag)))))))) (zbk (b2 ixD (b2 zbe (vSh 6) (zax (szF (zab (zax (szF (zab (zaQ (szF (zab (vC (.str "abcdefghi")) (zab (zax (szF zag)) zag)))) zag))) (zab (zax (szF (zab (zaQ (szF (zab (vSh 3) (zab (zax (szF (zab (zaQ (szF (zab (b1 zp8 (vC (.int 1))) (zab (vC (.int 1)) zag)))) zag))) zag)))) zag))) (zab (zax (szF (zab (zax (szF (zab (vSh 3) (zab (zax (szF zag)) zag)))) zag))) zag)))))) (b2 zbF (vSh 2) (vC (.int 14))))))) zca) (zaG (sIf (toB (b2 eqD (vSh 0) (vC (.int 1)))) (zaG (zbn 6 (zax (szF (zab (zax (szF zag)) (zab (zax (szF (zab (zaQ (szF (zab (vSh 4) (zab (vC (.str "p")) (zab (zax (szF zag)) zag))))) zag))) (zab (zax (szF (zab (zaQ (szF (zab (vSh 4) (zab (vC (.str "P")) (zab (zax (szF (zab (zaQ (szF (zab (vSh 3) (zab (vC (.int 1)) zag)))) zag))) zag))))) zag))) (zab (zax (szF (zab (zaQ (szF (zab (vSh 4) (zab (vC (.str "p")) (zab (zax (szF (zab (zaQ (szF (zab (vC (.str "zz")) (zab (vC (.int 1)) zag)))) zag))) zag))))) zag))) (zab (vC .non) zag)))))))) (zaG (zbn 6 (b2 zbe (vSh 6) (zax (szF (zab (zax (szF (zab (zaQ (szF (zab (vSh 4) (zab (vC (.str "p")) (zab (zax (szF (zab (zaQ (szF (zab (vSh 3) (zab (vC (.int 0)) zag)))) zag))) zag))))) zag))) (zab (zax (szF (zab (zaQ (szF (zab (vSh 4) (zab (vC (.str "p")) (zab (zax (szF (zab (zaQ (szF (zab (vSh 3) (zab (vSh 5) zag)))) zag))) zag))))) zag))) (zab (zax (szF (zab (zaQ (szF (zab (vSh 4) (zab (vC (.str "p")) (zab (b2 zdw (zax (szF (zab (zaQ (szF (zab (vSh 3) (zab (vC (.int 1)) zag)))) zag))) (vC (.int 2))) zag))))) zag))) zag))))))) (zaG (zbn 6 (b2 zbe (vSh 6) (zax (szF (zab (zax (szF (zab (zaQ (szF (zab (vSh 4) (zab (vC (.str "p")) (zab (zax (szF (zab (zaQ (szF (zab (vSh 3) (zab (vC (.bl true)) zag)))) zag))) zag))))) zag))) (zab (b2 zdw (zax (szF (zab (zaQ (szF (zab (vSh 4) (zab (vC (.str "p")) (zab (zax (szF (zab (zaQ (szF (zab (vSh 3) (zab (vC (.int 1)) zag)))) zag))) zag))))) zag))) (vC (.int 2))) (zab (zax (szF (zab (zaQ (szF (zab (vC (.str "")) (zab (vC (.str "p")) (zab (zax (szF (zab (zaQ (szF (zab (vSh 3) (zab (vC (.int 1)) zag)))) zag))) zag))))) zag))) zag))))))) (zbk (b2 ixD (b2 zbe (vSh 6) (zax (szF (zab (zax (szF (zab (zaQ (szF (zab (vSh 4) (zab (vC (.str "p")) (zab (zaQ (szF (zab (zaQ (szF (zab (vSh 3) (zab (vC (.int 1)) zag)))) zag))) zag))))) zag))) (zab (zax (szF (zab (zaQ (szF (zab (vSh 4) (zab (zax (szF (zab (zaQ (szF (zab (vSh 3) (zab (vC (.int 1)) zag)))) zag))) zag)))) zag))) (zab (zax (szF (zab (zaQ (szF (zab (vSh 4) (zab (vC (.str "p")) (zab (zax (szF (zab (zax (szF (zab (vSh 3) (zab (vC (.int 1)) zag)))) zag))) zag))))) zag))) zag)))))) (b2 zbF (vSh 2) (vC (.int 14)))))))) zca) (zbk (cF zaH (zab (vSh 0) (zab (vSh 3) (zab (vSh 4) (zab (vSh 5) (zab (vSh 2) zag)))))))))))))
theorem zbL:FnScope ["_law_part","_law_lists_here","_law_cell_here","_law_bench","_law_step","_law_far","_law_some"] ["_law_part","_law_lists_here","_law_cell_here"] (zao ze2):=by trivial
theorem ziM {zaH:FQ} (F:Dfn K mg "_law_bad" ze2) (B:Bn mg) (c__law_bad_more:Cal Γ P w K mg base "_law_bad_more" 5 1 zaH):Cal Γ P w K mg base "_law_bad" 3 2 (zcM zaH) :=
 F.cal (k:=1) zbL (fun _ _ _ _ _ _ us hl=>match us,hl with | [_,_,_],_=>rfl) fun f cdv A outer s H E hr =>
  (zaf (zaN 3 zbL.nd (zaw (zaw (zaw (zac 1) zae) zae) zae)) (zaf (zaN 4 zbL.nd (zaw (zaw (zaw (zac 1) zae) zae) zae)) (zaf (zaN 5 zbL.nd (zaL (zaw (zac 1) zae) zae)) (zaf (zbD (zce zdP (zac 0) zae (zby _)) (zam (zaE (zaw (DO.de (zai (zaa zae (zaa (zaL (ziA zae zae) zae) (zaa zbU (zaa zay (zaa zeL (zaa (zhK zae) (zaa (ziA zae zae) (zaa (zar (zaa zae zad)) zad)))))))))) (zbc (zac 2) zae)))) zaK) (zaf (zbD (zce zdP (zac 0) zae (zby _)) (zaf (zaN 6 zbL.nd (DO.de (zai (zaa (DO.de (zai zad)) (zaa zeL (zaa (zar (zaa (zaw (zaw (zac 1) zae) zae) zad)) (zaa (DO.de (zai (zaa (zar (zaa zay (zaa (DO.de (zai zad)) zad))) zad))) (zaa (zcH (DO.de (zai (zaa (zar (zaa (zac 3) (zaa (DO.de (zai zad)) zad))) zad))) zae) (zaa (DO.de (zai (zaa (zar (zaa (zac 3) (zaa (DO.de (zai (zaa (zar (zaa zae (zaa zae zad))) zad))) zad))) zad))) (zaa (DO.de (zai (zaa (zar (zaa (zac 3) (zaa (DO.de (zai (zaa (zar (zaa zae (zaa (zac 5) zad))) zad))) zad))) zad))) zad)))))))))) (zaf (zaN 6 zbL.nd (zaL (zac 6) (DO.de (zai (zaa (DO.de (zai (zaa (zar (zaa (zac 3) (zaa (DO.de (zai (zaa (zar (zaa zae (zaa zae zad))) (zaa (zar (zaa zae (zaa zae zad))) zad)))) zad))) zad))) (zaa (DO.de (zai (zaa (zar (zaa (zac 3) (zaa (zar (zaa (zar (zaa zae (zaa zae zad))) zad)) zad))) zad))) (zaa (DO.de (zai (zaa (zar (zaa (zac 3) zad)) zad))) (zaa (DO.de (zai (zaa (zar (zaa (zac 3) (zaa (DO.de (zai (zaa (zar (zaa zbU (zaa zae zad))) zad))) zad))) zad))) zad)))))))) (zam (zaE (zaw (zaL (zac 6) (DO.de (zai (zaa (DO.de (zai (zaa (zar (zaa zay (zaa (DO.de (zai zad)) zad))) zad))) (zaa (DO.de (zai (zaa (zar (zaa (zac 3) (zaa (DO.de (zai (zaa (zar (zaa (zhK zae) (zaa zae zad))) zad))) zad))) zad))) (zaa (DO.de (zai (zaa (DO.de (zai (zaa (zac 3) (zaa (DO.de (zai zad)) zad)))) zad))) zad)))))) (zbc (zac 2) zae)))))) zaK) (zaf (zbD (zce zdP (zac 0) zae (zby _)) (zaf (zaN 6 zbL.nd (DO.de (zai (zaa (DO.de (zai zad)) (zaa (DO.de (zai (zaa (zar (zaa (zac 4) (zaa zay (zaa (DO.de (zai zad)) zad)))) zad))) (zaa (DO.de (zai (zaa (zar (zaa (zac 4) (zaa zay (zaa (DO.de (zai (zaa (zar (zaa (zac 3) (zaa zae zad))) zad))) zad)))) zad))) (zaa (DO.de (zai (zaa (zar (zaa (zac 4) (zaa zay (zaa (DO.de (zai (zaa (zar (zaa zay (zaa zae zad))) zad))) zad)))) zad))) (zaa zeL zad)))))))) (zaf (zaN 6 zbL.nd (zaL (zac 6) (DO.de (zai (zaa (DO.de (zai (zaa (zar (zaa (zac 4) (zaa zay (zaa (DO.de (zai (zaa (zar (zaa (zac 3) (zaa zae zad))) zad))) zad)))) zad))) (zaa (DO.de (zai (zaa (zar (zaa (zac 4) (zaa zay (zaa (DO.de (zai (zaa (zar (zaa (zac 3) (zaa (zac 5) zad))) zad))) zad)))) zad))) (zaa (DO.de (zai (zaa (zar (zaa (zac 4) (zaa zay (zaa (zcH (DO.de (zai (zaa (zar (zaa (zac 3) (zaa zae zad))) zad))) zae) zad)))) zad))) zad))))))) (zaf (zaN 6 zbL.nd (zaL (zac 6) (DO.de (zai (zaa (DO.de (zai (zaa (zar (zaa (zac 4) (zaa zay (zaa (DO.de (zai (zaa (zar (zaa (zac 3) (zaa zbU zad))) zad))) zad)))) zad))) (zaa (zcH (DO.de (zai (zaa (zar (zaa (zac 4) (zaa zay (zaa (DO.de (zai (zaa (zar (zaa (zac 3) (zaa zae zad))) zad))) zad)))) zad))) zae) (zaa (DO.de (zai (zaa (zar (zaa zay (zaa zay (zaa (DO.de (zai (zaa (zar (zaa (zac 3) (zaa zae zad))) zad))) zad)))) zad))) zad))))))) (zam (zaE (zaw (zaL (zac 6) (DO.de (zai (zaa (DO.de (zai (zaa (zar (zaa (zac 4) (zaa zay (zaa (zar (zaa (zar (zaa (zac 3) (zaa zae zad))) zad)) zad)))) zad))) (zaa (DO.de (zai (zaa (zar (zaa (zac 4) (zaa (DO.de (zai (zaa (zar (zaa (zac 3) (zaa zae zad))) zad))) zad))) zad))) (zaa (DO.de (zai (zaa (zar (zaa (zac 4) (zaa zay (zaa (DO.de (zai (zaa (DO.de (zai (zaa (zac 3) (zaa zae zad)))) zad))) zad)))) zad))) zad)))))) (zbc (zac 2) zae))))))) zaK) (zam (zaE (dC c__law_bad_more hr (zaa (zac 0) (zaa (zac 3) (zaa (zac 4) (zaa (zac 5) (zaa (zac 2) zad))))) ln5)))))))))
def zfa:FQ:=zcj 0
  (zbk (zd3 (cF zgC (zab (vSh 0) (zab (vC (.ty "int")) zag))) (zr6 (cF zgC (zab (vSh 0) (zab (vC (.ty "bool")) zag))))))
theorem ziW:FnScope ["thing"] ["thing"] (zao zeU):=by trivial
theorem ziE (F:Dfn K mg "is_whole" zeU) (B:Bn mg)  : Cal Γ P w K mg base "is_whole" 1 1 (zfa) :=
 F.cal (k:=0) ziW (fun _ _ _ _ _ _ us hl=>match us,hl with | [_],_=>rfl) fun f cdv A outer s H E hr =>
  (zam (zaE (zcB (zaI zfs rfl B.z_isinstance (by rfl) (zaa (zac 0) (zaa (ziz rfl B.z_int (by rfl)) zad))) (zdj (zrJ (zaI zfs rfl B.z_isinstance (by rfl) (zaa (zac 0) (zaa (ziz rfl B.z_bool (by rfl)) zad))))))))
def zeq (zb4:FQ):FQ:=zcj 0
  (zbk (zd3 (cF zb4 (zab (vSh 0) zag)) (chD leD leD (vSh 1) (vSh 0) (vSh 2))))
theorem zib:FnScope ["thing","least","most"] ["thing","least","most"] (zao zd7):=by trivial
theorem zhQ {zb4:FQ} (F:Dfn K mg "is_within" zd7) (B:Bn mg) (c_is_whole:Cal Γ P w K mg base "is_whole" 1 1 zb4):Cal Γ P w K mg base "is_within" 3 2 (zeq zb4) :=
 F.cal (k:=1) zib (fun _ _ _ _ _ _ us hl=>match us,hl with | [_,_,_],_=>rfl) fun f cdv A outer s H E hr =>
  (zam (zaE (zcB (dC c_is_whole hr (zaa (zac 0) zad) ln1) (zdj (zhL zhO zhO (zac 1) (zac 0) (zac 2))))))
def zfb:FQ:=zcj 0
  (zbk (zd3 (cF zgC (zab (vSh 0) (zab (vC (.ty "tuple")) zag))) (b2 eqD (cF zdu (zab (vSh 0) zag)) (vSh 1))))
theorem ziX:FnScope ["thing","many"] ["thing","many"] (zao zeV):=by trivial
theorem ziF (F:Dfn K mg "is_tuple" zeV) (B:Bn mg)  : Cal Γ P w K mg base "is_tuple" 2 1 (zfb) :=
 F.cal (k:=0) ziX (fun _ _ _ _ _ _ us hl=>match us,hl with | [_,_],_=>rfl) fun f cdv A outer s H E hr =>
  (zam (zaE (zcB (zaI zfs rfl B.z_isinstance (by rfl) (zaa (zac 0) (zaa (ziz rfl B.z_tuple (by rfl)) zad))) (zdj (zd2 zdP (zaI zdl rfl B.z_len (by rfl) (zaa (zac 0) zad)) (zac 1) (zby _))))))
def zfe (zak:FQ) (zal:FQ):FQ:=zcj 0
  (zaG (sIf (orT (zcc (toB (cF zal (zab (vSh 0) (zab (vC (.int 2)) zag))))) (orT (zcc (toB (cF zak (zab (b2 ixD (vSh 0) (vC (.int 0))) (zab (vC (.int 0)) (zab (vSh 1) zag)))))) (zcc (toB (cF zak (zab (b2 ixD (vSh 0) (vC (.int 1))) (zab (vC (.int 0)) (zab (vSh 1) zag)))))))) (zbk (vC (.bl false))) zca) (zbk (b2 ltD (b2 ixD (vSh 0) (vC (.int 0))) (b2 ixD (vSh 0) (vC (.int 1))))))
theorem zi0:FnScope ["row","horizon"] ["row","horizon"] (zao zeY):=by trivial
theorem ziI {zak:FQ} {zal:FQ} (F:Dfn K mg "is_break" zeY) (B:Bn mg) (c_is_within:Cal Γ P w K mg base "is_within" 3 2 zak) (c_is_tuple:Cal Γ P w K mg base "is_tuple" 2 1 zal):Cal Γ P w K mg base "is_break" 2 3 (zfe zak zal) :=
 F.cal (k:=2) zi0 (fun _ _ _ _ _ _ us hl=>match us,hl with | [_,_],_=>rfl) fun f cdv A outer s H E hr =>
  (zaf (zbD (DW.dt (zcR (zaR (zaO (dC c_is_tuple hr (zaa (zac 0) (zaa zae zad)) ln2))) (zcR (zaR (zaO (dC c_is_within hr (zaa (zaw (zac 0) zae) (zaa zae (zaa (zac 1) zad))) ln3))) (zct (zaR (zaO (dC c_is_within hr (zaa (zaw (zac 0) zae) (zaa zae (zaa (zac 1) zad))) ln3))))))) (zam (zaE zbU)) zaK) (zam (zaE (zd2 zpU (zaw (zac 0) zae) (zaw (zac 0) zae) (zby _)))))
def zgn:FQ:=zcj 0
  (zbk (zd3 (cF zgC (zab (vSh 0) (zab (vC (.ty "list")) zag))) (chD leD leD (vSh 1) (cF zdu (zab (vSh 0) zag)) (vSh 2))))
theorem zkk:FnScope ["thing","least","most"] ["thing","least","most"] (zao zfO):=by trivial
theorem zjp (F:Dfn K mg "is_list" zfO) (B:Bn mg)  : Cal Γ P w K mg base "is_list" 3 1 (zgn) :=
 F.cal (k:=0) zkk (fun _ _ _ _ _ _ us hl=>match us,hl with | [_,_,_],_=>rfl) fun f cdv A outer s H E hr =>
  (zam (zaE (zcB (zaI zfs rfl B.z_isinstance (by rfl) (zaa (zac 0) (zaa (ziz rfl B.z_list (by rfl)) zad))) (zdj (zhL zhO zhO (zac 1) (zaI zdl rfl B.z_len (by rfl) (zaa (zac 0) zad)) (zac 2))))))
def zfv (zb7:FQ) (zan:FQ):FQ:=zcj 0
  (zaG (sIf (orT (zcc (toB (cF zan (zab (vSh 0) (zab (vC (.int 0)) (zab (vC (.int 10)) zag)))))) (zcc (toB (cF ziR (zab (zax (za0 (itF (vSh 0)) (za3 0) tT (cF zb7 (zab (vSh 0) (zab (vSh 1) zag))) [none,some 1])) zag))))) (zbk (vC (.bl false))) zca) (zbk (cF ziR (zab (zax (za0 (itR zoI (zab (vC (.int 1)) (zab (cF zdu (zab (vSh 0) zag)) zag))) (za3 0) tT (b2 ltD (b2 ixD (b2 ixD (vSh 1) (b2 zk4 (vSh 0) (vC (.int 1)))) (vC (.int 1))) (b2 ixD (b2 ixD (vSh 1) (vSh 0)) (vC (.int 0)))) [none,some 0])) zag))))
theorem zhs:FnScope ["breaks","horizon"] ["breaks","horizon"] (zao zdD):=by trivial
theorem zgI {zb7:FQ} {zan:FQ} (F:Dfn K mg "are_breaks" zdD) (B:Bn mg) (c_is_break:Cal Γ P w K mg base "is_break" 2 3 zb7) (c_is_list:Cal Γ P w K mg base "is_list" 3 1 zan):Cal Γ P w K mg base "are_breaks" 2 4 (zfv zb7 zan) :=
 F.cal (k:=3) zhs (fun _ _ _ _ _ _ us hl=>match us,hl with | [_,_],_=>rfl) fun f cdv A outer s H E hr =>
  (zaf (zbD (DW.dt (zcR (zaR (zaO (dC c_is_list hr (zaa (zac 0) (zaa zae (zaa (zcg rfl B.c_MOST_BREAKS) zad))) ln3))) (zct (zaR (zaO (zaI (zdx rfl) rfl B.z_all (by rfl) (zaa (DO.de (zcn rfl (CompScope.of rfl rfl) (FvOk.of (N':=["row","horizon"]) (fv:=[none,some 1]) rfl) (zbb (zac 0)) ⟨fun _ _ _ _ _=>⟨(zaC 0 (show (["row","horizon"]:List Str).Nodup by decide +kernel)),zaV,(dC c_is_break hr (zaa (zac 0) (zaa (zac 1) zad)) ln2)⟩⟩)) zad))))))) (zam (zaE zbU)) zaK) (zam (zaE (zaI (zdx rfl) rfl B.z_all (by rfl) (zaa (DO.de (zcn rfl (CompScope.of rfl rfl) (FvOk.of (N':=["place","breaks"]) (fv:=[none,some 0]) rfl) (zmc rfl B.z_range (zaa zae (zaa (zaI zdl rfl B.z_len (by rfl) (zaa (zac 0) zad)) zad))) ⟨fun _ _ _ _ _=>⟨(zaC 0 (show (["place","breaks"]:List Str).Nodup by decide +kernel)),zaV,(zd2 zpU (zaw (zaw (zac 1) (zmg (zac 0) zae)) zae) (zaw (zaw (zac 1) (zac 0)) zae) (zby _))⟩⟩)) zad)))))
def ziS:FQ:=zcj 0
  (zaG (sIf (orT (zcc (toB (cF zgC (zab (vSh 0) (zab (vC (.ty "str")) zag))))) (zcc (toB (chD leD leD (vC (.int 1)) (cF zdu (zab (vSh 0) zag)) (vC (.int 8)))))) (zbk (vC (.bl false))) zca) (zbk (cF ziR (zab (zax (za0 (itS (vSh 0)) (za3 0) tT (chD leD leD (vC (.str "a")) (vSh 0) (vC (.str "z"))) [none])) zag))))
theorem zkj:FnScope ["thing"] ["thing"] (zao zfN):=by trivial
theorem zjo (F:Dfn K mg "is_name" zfN) (B:Bn mg)  : Cal Γ P w K mg base "is_name" 1 1 (ziS) :=
 F.cal (k:=0) zkj (fun _ _ _ _ _ _ us hl=>match us,hl with | [_],_=>rfl) fun f cdv A outer s H E hr =>
  (zaf (zbD (DW.dt (zcR (zaR (zaO (zaI zfs rfl B.z_isinstance (by rfl) (zaa (zac 0) (zaa (ziz rfl B.z_str (by rfl)) zad))))) (zct (zaR (znz zhO zhO zae (zaI zdl rfl B.z_len (by rfl) (zaa (zac 0) zad)) (zcg rfl B.c_LONGEST_NAME)))))) (zam (zaE zbU)) zaK) (zam (zaE (zaI (zdx rfl) rfl B.z_all (by rfl) (zaa (DO.de (zcn rfl (CompScope.of rfl rfl) (FvOk.of (N':=["sign"]) (fv:=[none]) rfl) (zrI (zac 0)) ⟨fun _ _ _ _ _=>⟨(zaC 0 (show (["sign"]:List Str).Nodup by decide +kernel)),zaV,(zhL zhO zhO zay (zac 0) zay)⟩⟩)) zad)))))
def zff (zbG:FQ) (zaz:FQ) (zal:FQ):FQ:=zcj 0
  (zbk (zd3 (cF zal (zab (vSh 0) (zab (vC (.int 2)) zag))) (zd3 (cF zaz (zab (b2 ixD (vSh 0) (vC (.int 0))) zag)) (cF zbG (zab (b2 ixD (vSh 0) (vC (.int 1))) (zab (vSh 1) zag))))))
theorem zi1:FnScope ["row","horizon"] ["row","horizon"] (zao zeZ):=by trivial
theorem ziJ {zbG:FQ} {zaz:FQ} {zal:FQ} (F:Dfn K mg "is_bench" zeZ) (B:Bn mg) (c_are_breaks:Cal Γ P w K mg base "are_breaks" 2 4 zbG) (c_is_name:Cal Γ P w K mg base "is_name" 1 1 zaz) (c_is_tuple:Cal Γ P w K mg base "is_tuple" 2 1 zal):Cal Γ P w K mg base "is_bench" 2 5 (zff zbG zaz zal) :=
 F.cal (k:=4) zi1 (fun _ _ _ _ _ _ us hl=>match us,hl with | [_,_],_=>rfl) fun f cdv A outer s H E hr =>
  (zam (zaE (zcB (dC c_is_tuple hr (zaa (zac 0) (zaa zae zad)) ln2) (zcB (dC c_is_name hr (zaa (zaw (zac 0) zae) zad) ln1) (zdj (dC c_are_breaks hr (zaa (zaw (zac 0) zae) (zaa (zac 1) zad)) ln2))))))
def zcC:FQ:=zcj 0
  (zbk (b2 eqD (b1 ze3 (vSh 0)) (cF zdu (zab (vSh 0) zag))))
theorem zhp:FnScope ["things"] ["things"] (zao zdA):=by trivial
theorem zgF (F:Dfn K mg "are_unlike" zdA) (B:Bn mg)  : Cal Γ P w K mg base "are_unlike" 1 1 (zcC) :=
 F.cal (k:=0) zhp (fun _ _ _ _ _ _ us hl=>match us,hl with | [_],_=>rfl) fun f cdv A outer s H E hr =>
  (zam (zaE (zd2 zdP (zmh rfl (zof hr) rfl B.z_len rfl B.z_set (zac 0)) (zaI zdl rfl B.z_len (by rfl) (zaa (zac 0) zad)) (zby _))))
def zeN (zb8:FQ) (zan:FQ) (zah:FQ):FQ:=zcj 0
  (zaG (sIf (orT (zcc (toB (cF zan (zab (vSh 0) (zab (vC (.int 1)) (zab (vC (.int 8)) zag)))))) (zcc (toB (cF ziR (zab (zax (za0 (itF (vSh 0)) (za3 0) tT (cF zb8 (zab (vSh 0) (zab (vSh 1) zag))) [none,some 1])) zag))))) (zbk (vC (.bl false))) zca) (zbk (cF zah (zab (zax (za0 (itF (vSh 0)) (za3 0) tT (b2 ixD (vSh 0) (vC (.int 0))) [none])) zag))))
theorem zgw:FnScope ["benches","horizon"] ["benches","horizon"] (zao zdn):=by trivial
theorem zgg {zb8:FQ} {zan:FQ} {zah:FQ} (F:Dfn K mg "are_benches" zdn) (B:Bn mg) (c_is_bench:Cal Γ P w K mg base "is_bench" 2 5 zb8) (c_is_list:Cal Γ P w K mg base "is_list" 3 1 zan) (c_are_unlike:Cal Γ P w K mg base "are_unlike" 1 1 zah):Cal Γ P w K mg base "are_benches" 2 6 (zeN zb8 zan zah) :=
 F.cal (k:=5) zgw (fun _ _ _ _ _ _ us hl=>match us,hl with | [_,_],_=>rfl) fun f cdv A outer s H E hr =>
  (zaf (zbD (DW.dt (zcR (zaR (zaO (dC c_is_list hr (zaa (zac 0) (zaa zae (zaa (zcg rfl B.c_MOST_BENCHES) zad))) ln3))) (zct (zaR (zaO (zaI (zdx rfl) rfl B.z_all (by rfl) (zaa (DO.de (zcn rfl (CompScope.of rfl rfl) (FvOk.of (N':=["row","horizon"]) (fv:=[none,some 1]) rfl) (zbb (zac 0)) ⟨fun _ _ _ _ _=>⟨(zaC 0 (show (["row","horizon"]:List Str).Nodup by decide +kernel)),zaV,(dC c_is_bench hr (zaa (zac 0) (zaa (zac 1) zad)) ln2)⟩⟩)) zad))))))) (zam (zaE zbU)) zaK) (zam (zaE (dC c_are_unlike hr (zaa (DO.de (zcn rfl (CompScope.of rfl rfl) (FvOk.of (N':=["row"]) (fv:=[none]) rfl) (zbb (zac 0)) ⟨fun _ _ _ _ _=>⟨(zaC 0 (show (["row"]:List Str).Nodup by decide +kernel)),zaV,(zaw (zac 0) zae)⟩⟩)) zad) ln1))))
def zer (zaz:FQ):FQ:=zcj 0
  (zbk (zd3 (cF zaz (zab (vSh 0) zag)) (b2 zrq (vSh 0) (vSh 1))))
theorem zic:FnScope ["thing","names"] ["thing","names"] (zao zd8):=by trivial
theorem zhR {zaz:FQ} (F:Dfn K mg "is_one_of" zd8) (B:Bn mg) (c_is_name:Cal Γ P w K mg base "is_name" 1 1 zaz):Cal Γ P w K mg base "is_one_of" 2 2 (zer zaz) :=
 F.cal (k:=1) zic (fun _ _ _ _ _ _ us hl=>match us,hl with | [_,_],_=>rfl) fun f cdv A outer s H E hr =>
  (zam (zaE (zcB (dC c_is_name hr (zaa (zac 0) zad) ln1) (zdj (zd2 (zrQ (zof hr)) (zac 0) (zac 1) (by rfl))))))
def zh1 (zak:FQ) (zau:FQ) (zal:FQ):FQ:=zcj 0
  (zbk (zd3 (cF zal (zab (vSh 0) (zab (vC (.int 2)) zag))) (zd3 (cF zau (zab (b2 ixD (vSh 0) (vC (.int 0))) (zab (vSh 1) zag))) (cF zak (zab (b2 ixD (vSh 0) (vC (.int 1))) (zab (vC (.int 1)) (zab (vSh 2) zag)))))))
theorem zla:FnScope ["row","bench_names","horizon"] ["row","bench_names","horizon"] (zao zht):=by trivial
theorem zkK {zak:FQ} {zau:FQ} {zal:FQ} (F:Dfn K mg "is_way" zht) (B:Bn mg) (c_is_within:Cal Γ P w K mg base "is_within" 3 2 zak) (c_is_one_of:Cal Γ P w K mg base "is_one_of" 2 2 zau) (c_is_tuple:Cal Γ P w K mg base "is_tuple" 2 1 zal):Cal Γ P w K mg base "is_way" 3 3 (zh1 zak zau zal) :=
 F.cal (k:=2) zla (fun _ _ _ _ _ _ us hl=>match us,hl with | [_,_,_],_=>rfl) fun f cdv A outer s H E hr =>
  (zam (zaE (zcB (dC c_is_tuple hr (zaa (zac 0) (zaa zae zad)) ln2) (zcB (dC c_is_one_of hr (zaa (zaw (zac 0) zae) (zaa (zac 1) zad)) ln2) (zdj (dC c_is_within hr (zaa (zaw (zac 0) zae) (zaa zae (zaa (zac 2) zad))) ln3))))))
def zhh (zcK:FQ) (zan:FQ) (zah:FQ):FQ:=zcj 0
  (zaG (sIf (orT (zcc (toB (cF zan (zab (vSh 0) (zab (vC (.int 1)) (zab (vC (.int 4)) zag)))))) (zcc (toB (cF ziR (zab (zax (za0 (itF (vSh 0)) (za3 0) tT (cF zcK (zab (vSh 0) (zab (vSh 1) (zab (vSh 2) zag)))) [none,some 1,some 2])) zag))))) (zbk (vC (.bl false))) zca) (zbk (cF zah (zab (zax (za0 (itF (vSh 0)) (za3 0) tT (b2 ixD (vSh 0) (vC (.int 0))) [none])) zag))))
theorem zi2:FnScope ["ways","bench_names","horizon"] ["ways","bench_names","horizon"] (zao ze0):=by trivial
theorem ziK {zcK:FQ} {zan:FQ} {zah:FQ} (F:Dfn K mg "are_ways" ze0) (B:Bn mg) (c_is_way:Cal Γ P w K mg base "is_way" 3 3 zcK) (c_is_list:Cal Γ P w K mg base "is_list" 3 1 zan) (c_are_unlike:Cal Γ P w K mg base "are_unlike" 1 1 zah):Cal Γ P w K mg base "are_ways" 3 4 (zhh zcK zan zah) :=
 F.cal (k:=3) zi2 (fun _ _ _ _ _ _ us hl=>match us,hl with | [_,_,_],_=>rfl) fun f cdv A outer s H E hr =>
  (zaf (zbD (DW.dt (zcR (zaR (zaO (dC c_is_list hr (zaa (zac 0) (zaa zae (zaa (zcg rfl B.c_MOST_WAYS) zad))) ln3))) (zct (zaR (zaO (zaI (zdx rfl) rfl B.z_all (by rfl) (zaa (DO.de (zcn rfl (CompScope.of rfl rfl) (FvOk.of (N':=["row","bench_names","horizon"]) (fv:=[none,some 1,some 2]) rfl) (zbb (zac 0)) ⟨fun _ _ _ _ _=>⟨(zaC 0 (show (["row","bench_names","horizon"]:List Str).Nodup by decide +kernel)),zaV,(dC c_is_way hr (zaa (zac 0) (zaa (zac 1) (zaa (zac 2) zad))) ln3)⟩⟩)) zad))))))) (zam (zaE zbU)) zaK) (zam (zaE (dC c_are_unlike hr (zaa (DO.de (zcn rfl (CompScope.of rfl rfl) (FvOk.of (N':=["row"]) (fv:=[none]) rfl) (zbb (zac 0)) ⟨fun _ _ _ _ _=>⟨(zaC 0 (show (["row"]:List Str).Nodup by decide +kernel)),zaV,(zaw (zac 0) zae)⟩⟩)) zad) ln1))))
def zgm (zaz:FQ) (zal:FQ) (zco:FQ):FQ:=zcj 0
  (zaG (sIf (orT (zcc (toB (cF zal (zab (vSh 0) (zab (vC (.int 3)) zag))))) (orT (zcc (toB (cF zaz (zab (b2 ixD (vSh 0) (vC (.int 0))) zag)))) (zcc (toB (cF zaz (zab (b2 ixD (vSh 0) (vC (.int 1))) zag)))))) (zbk (vC (.bl false))) zca) (zbk (cF zco (zab (b2 ixD (vSh 0) (vC (.int 2))) (zab (vSh 1) (zab (vSh 2) zag))))))
theorem zki:FnScope ["row","bench_names","horizon"] ["row","bench_names","horizon"] (zao zfM):=by trivial
theorem zjn {zaz:FQ} {zal:FQ} {zco:FQ} (F:Dfn K mg "is_step" zfM) (B:Bn mg) (c_is_name:Cal Γ P w K mg base "is_name" 1 1 zaz) (c_is_tuple:Cal Γ P w K mg base "is_tuple" 2 1 zal) (c_are_ways:Cal Γ P w K mg base "are_ways" 3 4 zco):Cal Γ P w K mg base "is_step" 3 5 (zgm zaz zal zco) :=
 F.cal (k:=4) zki (fun _ _ _ _ _ _ us hl=>match us,hl with | [_,_,_],_=>rfl) fun f cdv A outer s H E hr =>
  (zaf (zbD (DW.dt (zcR (zaR (zaO (dC c_is_tuple hr (zaa (zac 0) (zaa zae zad)) ln2))) (zcR (zaR (zaO (dC c_is_name hr (zaa (zaw (zac 0) zae) zad) ln1))) (zct (zaR (zaO (dC c_is_name hr (zaa (zaw (zac 0) zae) zad) ln1))))))) (zam (zaE zbU)) zaK) (zam (zaE (dC c_are_ways hr (zaa (zaw (zac 0) zae) (zaa (zac 1) (zaa (zac 2) zad))) ln3))))
def zgp (zcv:FQ) (zan:FQ) (zah:FQ):FQ:=zcj 0
  (zaG (sIf (orT (zcc (toB (cF zan (zab (vSh 0) (zab (vC (.int 1)) (zab (vC (.int 40)) zag)))))) (zcc (toB (cF ziR (zab (zax (za0 (itF (vSh 0)) (za3 0) tT (cF zcv (zab (vSh 0) (zab (vSh 1) (zab (vSh 2) zag)))) [none,some 1,some 2])) zag))))) (zbk (vC (.bl false))) zca) (zbk (cF zah (zab (zax (za0 (itF (vSh 0)) (za3 0) tT (b2 ixD (vSh 0) (vC (.int 0))) [none])) zag))))
theorem zie:FnScope ["steps","bench_names","horizon"] ["steps","bench_names","horizon"] (zao zea):=by trivial
theorem zhT {zcv:FQ} {zan:FQ} {zah:FQ} (F:Dfn K mg "are_steps" zea) (B:Bn mg) (c_is_step:Cal Γ P w K mg base "is_step" 3 5 zcv) (c_is_list:Cal Γ P w K mg base "is_list" 3 1 zan) (c_are_unlike:Cal Γ P w K mg base "are_unlike" 1 1 zah):Cal Γ P w K mg base "are_steps" 3 6 (zgp zcv zan zah) :=
 F.cal (k:=5) zie (fun _ _ _ _ _ _ us hl=>match us,hl with | [_,_,_],_=>rfl) fun f cdv A outer s H E hr =>
  (zaf (zbD (DW.dt (zcR (zaR (zaO (dC c_is_list hr (zaa (zac 0) (zaa zae (zaa (zcg rfl B.c_MOST_STEPS) zad))) ln3))) (zct (zaR (zaO (zaI (zdx rfl) rfl B.z_all (by rfl) (zaa (DO.de (zcn rfl (CompScope.of rfl rfl) (FvOk.of (N':=["row","bench_names","horizon"]) (fv:=[none,some 1,some 2]) rfl) (zbb (zac 0)) ⟨fun _ _ _ _ _=>⟨(zaC 0 (show (["row","bench_names","horizon"]:List Str).Nodup by decide +kernel)),zaV,(dC c_is_step hr (zaa (zac 0) (zaa (zac 1) (zaa (zac 2) zad))) ln3)⟩⟩)) zad))))))) (zam (zaE zbU)) zaK) (zam (zaE (dC c_are_unlike hr (zaa (DO.de (zcn rfl (CompScope.of rfl rfl) (FvOk.of (N':=["row"]) (fv:=[none]) rfl) (zbb (zac 0)) ⟨fun _ _ _ _ _=>⟨(zaC 0 (show (["row"]:List Str).Nodup by decide +kernel)),zaV,(zaw (zac 0) zae)⟩⟩)) zad) ln1))))
def zkd (zaz:FQ) (zal:FQ) (zak:FQ) (zau:FQ) (zan:FQ):FQ:=zcj 0
  (zaG (sIf (orT (zcc (toB (cF zal (zab (vSh 0) (zab (vC (.int 5)) zag))))) (orT (zcc (toB (cF zaz (zab (b2 ixD (vSh 0) (vC (.int 0))) zag)))) (zcc (toB (cF zgC (zab (b2 ixD (vSh 0) (vC (.int 3))) (zab (vC (.ty "bool")) zag))))))) (zbk (vC (.bl false))) zca) (zaG (sIf (orT (zcc (toB (cF zak (zab (b2 ixD (vSh 0) (vC (.int 1))) (zab (vC (.int 0)) (zab (vSh 2) zag)))))) (zcc (toB (cF zak (zab (b2 ixD (vSh 0) (vC (.int 2))) (zab (vC (.int 0)) (zab (vSh 2) zag))))))) (zbk (vC (.bl false))) zca) (zbk (zd3 (cF zan (zab (b2 ixD (vSh 0) (vC (.int 4))) (zab (vC (.int 1)) (zab (cF zdu (zab (vSh 1) zag)) zag)))) (cF ziR (zab (zax (za0 (itF (b2 ixD (vSh 0) (vC (.int 4)))) (za3 0) tT (cF zau (zab (vSh 0) (zab (vSh 1) zag))) [none,some 1])) zag))))))
theorem zlb:FnScope ["row","step_names","horizon"] ["row","step_names","horizon"] (zao zhu):=by trivial
theorem zkL {zaz:FQ} {zal:FQ} {zak:FQ} {zau:FQ} {zan:FQ} (F:Dfn K mg "is_job" zhu) (B:Bn mg) (c_is_name:Cal Γ P w K mg base "is_name" 1 1 zaz) (c_is_tuple:Cal Γ P w K mg base "is_tuple" 2 1 zal) (c_is_within:Cal Γ P w K mg base "is_within" 3 2 zak) (c_is_one_of:Cal Γ P w K mg base "is_one_of" 2 2 zau) (c_is_list:Cal Γ P w K mg base "is_list" 3 1 zan):Cal Γ P w K mg base "is_job" 3 3 (zkd zaz zal zak zau zan) :=
 F.cal (k:=2) zlb (fun _ _ _ _ _ _ us hl=>match us,hl with | [_,_,_],_=>rfl) fun f cdv A outer s H E hr =>
  (zaf (zbD (DW.dt (zcR (zaR (zaO (dC c_is_tuple hr (zaa (zac 0) (zaa zae zad)) ln2))) (zcR (zaR (zaO (dC c_is_name hr (zaa (zaw (zac 0) zae) zad) ln1))) (zct (zaR (zaO (zaI zfs rfl B.z_isinstance (by rfl) (zaa (zaw (zac 0) zae) (zaa (ziz rfl B.z_bool (by rfl)) zad))))))))) (zam (zaE zbU)) zaK) (zaf (zbD (DW.dt (zcR (zaR (zaO (dC c_is_within hr (zaa (zaw (zac 0) zae) (zaa zae (zaa (zac 2) zad))) ln3))) (zct (zaR (zaO (dC c_is_within hr (zaa (zaw (zac 0) zae) (zaa zae (zaa (zac 2) zad))) ln3)))))) (zam (zaE zbU)) zaK) (zam (zaE (zcB (dC c_is_list hr (zaa (zaw (zac 0) zae) (zaa zae (zaa (zaI zdl rfl B.z_len (by rfl) (zaa (zac 1) zad)) zad))) ln3) (zdj (zaI (zdx rfl) rfl B.z_all (by rfl) (zaa (DO.de (zcn rfl (CompScope.of rfl rfl) (FvOk.of (N':=["name","step_names"]) (fv:=[none,some 1]) rfl) (zbb (zaw (zac 0) zae)) ⟨fun _ _ _ _ _=>⟨(zaC 0 (show (["name","step_names"]:List Str).Nodup by decide +kernel)),zaV,(dC c_is_one_of hr (zaa (zac 0) (zaa (zac 1) zad)) ln2)⟩⟩)) zad))))))))
def zhi (zc2:FQ) (zan:FQ) (zah:FQ):FQ:=zcj 2
  (zaG (sIf (orT (zcc (toB (cF zan (zab (vSh 0) (zab (vC (.int 0)) (zab (vC (.int 40)) zag)))))) (zcc (toB (cF ziR (zab (zax (za0 (itF (vSh 0)) (za3 0) tT (cF zc2 (zab (vSh 0) (zab (vSh 1) (zab (vSh 2) zag)))) [none,some 1,some 2])) zag))))) (zbk (vC (.bl false))) zca) (zaG (zeB 3 (szF zag)) (zaG (zeh (itF (vSh 0)) (za3 4) (zp7 3 (b2 ixD (vSh 4) (vC (.int 4))))) (zfR 3 (zbk (zd3 (cF zah (zab (zax (za0 (itF (vSh 0)) (za3 0) tT (b2 ixD (vSh 0) (vC (.int 0))) [none])) zag)) (cF zah (zab (vSh 3) zag))))))))
theorem zd6:FnScope ["jobs","step_names","horizon","members","row"] ["jobs","step_names","horizon"] (zao ze1):=by trivial
theorem ziL {zc2:FQ} {zan:FQ} {zah:FQ} (F:Dfn K mg "are_jobs" ze1) (B:Bn mg) (c_is_job:Cal Γ P w K mg base "is_job" 3 3 zc2) (c_is_list:Cal Γ P w K mg base "is_list" 3 1 zan) (c_are_unlike:Cal Γ P w K mg base "are_unlike" 1 1 zah):Cal Γ P w K mg base "are_jobs" 3 4 (zhi zc2 zan zah) :=
 F.cal (k:=3) zd6 (fun _ _ _ _ _ _ us hl=>match us,hl with | [_,_,_],_=>rfl) fun f cdv A outer s H E hr =>
  (zaf (zbD (DW.dt (zcR (zaR (zaO (dC c_is_list hr (zaa (zac 0) (zaa zae (zaa (zcg rfl B.c_MOST_JOBS) zad))) ln3))) (zct (zaR (zaO (zaI (zdx rfl) rfl B.z_all (by rfl) (zaa (DO.de (zcn rfl (CompScope.of rfl rfl) (FvOk.of (N':=["row","step_names","horizon"]) (fv:=[none,some 1,some 2]) rfl) (zbb (zac 0)) ⟨fun _ _ _ _ _=>⟨(zaC 0 (show (["row","step_names","horizon"]:List Str).Nodup by decide +kernel)),zaV,(dC c_is_job hr (zaa (zac 0) (zaa (zac 1) (zaa (zac 2) zad))) ln3)⟩⟩)) zad))))))) (zam (zaE zbU)) zaK) (zaf (zcG 3 zd6.nd (zai zad)) (zaf (zdh PassesOwn.never rfl (zbb (zac 0)) (zaC 4 zd6.nd) (zam (zl7 3 (zaw (zac 4) zae)))) (zcm 3 (zam (zaE (zcB (dC c_are_unlike hr (zaa (DO.de (zcn rfl (CompScope.of rfl rfl) (FvOk.of (N':=["row"]) (fv:=[none]) rfl) (zbb (zac 0)) ⟨fun _ _ _ _ _=>⟨(zaC 0 (show (["row"]:List Str).Nodup by decide +kernel)),zaV,(zaw (zac 0) zae)⟩⟩)) zad) ln1) (zdj (dC c_are_unlike hr (zaa (zac 3) zad) ln1)))))))))
def zfd (zau:FQ) (zal:FQ) (zak:FQ) (zaz:FQ):FQ:=zcj 0
  (zaG (sIf (orT (zcc (toB (cF zal (zab (vSh 0) (zab (vC (.int 4)) zag))))) (zcc (toB (cF zau (zab (b2 ixD (vSh 0) (vC (.int 0))) (zab (vSh 1) zag)))))) (zbk (vC (.bl false))) zca) (zbk (zd3 (cF zaz (zab (b2 ixD (vSh 0) (vC (.int 1))) zag)) (zd3 (cF zaz (zab (b2 ixD (vSh 0) (vC (.int 2))) zag)) (cF zak (zab (b2 ixD (vSh 0) (vC (.int 3))) (zab (vC (.int 1)) (zab (vSh 2) zag))))))))
theorem ziZ:FnScope ["row","bench_names","horizon"] ["row","bench_names","horizon"] (zao zeX):=by trivial
theorem ziH {zau:FQ} {zal:FQ} {zak:FQ} {zaz:FQ} (F:Dfn K mg "is_setup" zeX) (B:Bn mg) (c_is_one_of:Cal Γ P w K mg base "is_one_of" 2 2 zau) (c_is_tuple:Cal Γ P w K mg base "is_tuple" 2 1 zal) (c_is_within:Cal Γ P w K mg base "is_within" 3 2 zak) (c_is_name:Cal Γ P w K mg base "is_name" 1 1 zaz):Cal Γ P w K mg base "is_setup" 3 3 (zfd zau zal zak zaz) :=
 F.cal (k:=2) ziZ (fun _ _ _ _ _ _ us hl=>match us,hl with | [_,_,_],_=>rfl) fun f cdv A outer s H E hr =>
  (zaf (zbD (DW.dt (zcR (zaR (zaO (dC c_is_tuple hr (zaa (zac 0) (zaa zae zad)) ln2))) (zct (zaR (zaO (dC c_is_one_of hr (zaa (zaw (zac 0) zae) (zaa (zac 1) zad)) ln2)))))) (zam (zaE zbU)) zaK) (zam (zaE (zcB (dC c_is_name hr (zaa (zaw (zac 0) zae) zad) ln1) (zcB (dC c_is_name hr (zaa (zaw (zac 0) zae) zad) ln1) (zdj (dC c_is_within hr (zaa (zaw (zac 0) zae) (zaa zae (zaa (zac 2) zad))) ln3)))))))
def zfu (zb6:FQ) (zan:FQ) (zah:FQ):FQ:=zcj 0
  (zaG (sIf (orT (zcc (toB (cF zan (zab (vSh 0) (zab (vC (.int 0)) (zab (vC (.int 100)) zag)))))) (zcc (toB (cF ziR (zab (zax (za0 (itF (vSh 0)) (za3 0) tT (cF zb6 (zab (vSh 0) (zab (vSh 1) (zab (vSh 2) zag)))) [none,some 1,some 2])) zag))))) (zbk (vC (.bl false))) zca) (zbk (cF zah (zab (zax (za0 (itF (vSh 0)) (za3 0) tT (slF (vSh 0) pN (pS (vC (.int 3)))) [none])) zag))))
theorem zhr:FnScope ["setups","bench_names","horizon"] ["setups","bench_names","horizon"] (zao zdC):=by trivial
theorem zgH {zb6:FQ} {zan:FQ} {zah:FQ} (F:Dfn K mg "are_setups" zdC) (B:Bn mg) (c_is_setup:Cal Γ P w K mg base "is_setup" 3 3 zb6) (c_is_list:Cal Γ P w K mg base "is_list" 3 1 zan) (c_are_unlike:Cal Γ P w K mg base "are_unlike" 1 1 zah):Cal Γ P w K mg base "are_setups" 3 4 (zfu zb6 zan zah) :=
 F.cal (k:=3) zhr (fun _ _ _ _ _ _ us hl=>match us,hl with | [_,_,_],_=>rfl) fun f cdv A outer s H E hr =>
  (zaf (zbD (DW.dt (zcR (zaR (zaO (dC c_is_list hr (zaa (zac 0) (zaa zae (zaa (zcg rfl B.c_MOST_SETUPS) zad))) ln3))) (zct (zaR (zaO (zaI (zdx rfl) rfl B.z_all (by rfl) (zaa (DO.de (zcn rfl (CompScope.of rfl rfl) (FvOk.of (N':=["row","bench_names","horizon"]) (fv:=[none,some 1,some 2]) rfl) (zbb (zac 0)) ⟨fun _ _ _ _ _=>⟨(zaC 0 (show (["row","bench_names","horizon"]:List Str).Nodup by decide +kernel)),zaV,(dC c_is_setup hr (zaa (zac 0) (zaa (zac 1) (zaa (zac 2) zad))) ln3)⟩⟩)) zad))))))) (zam (zaE zbU)) zaK) (zam (zaE (dC c_are_unlike hr (zaa (DO.de (zcn rfl (CompScope.of rfl rfl) (FvOk.of (N':=["row"]) (fv:=[none]) rfl) (zbb (zac 0)) ⟨fun _ _ _ _ _=>⟨(zaC 0 (show (["row"]:List Str).Nodup by decide +kernel)),zaV,(zb2 (zac 0) zcE (zcu zae))⟩⟩)) zad) ln1))))
def zgo (zau:FQ) (zal:FQ) (zak:FQ):FQ:=zcj 0
  (zaG (sIf (orT (zcc (toB (cF zal (zab (vSh 0) (zab (vC (.int 3)) zag))))) (orT (zcc (toB (cF zau (zab (b2 ixD (vSh 0) (vC (.int 0))) (zab (vSh 1) zag))))) (zcc (toB (cF zau (zab (b2 ixD (vSh 0) (vC (.int 1))) (zab (vSh 1) zag))))))) (zbk (vC (.bl false))) zca) (zbk (zd3 (b2 neA (b2 ixD (vSh 0) (vC (.int 0))) (b2 ixD (vSh 0) (vC (.int 1)))) (cF zak (zab (b2 ixD (vSh 0) (vC (.int 2))) (zab (vC (.int 0)) (zab (vSh 2) zag)))))))
theorem zkl:FnScope ["row","step_names","horizon"] ["row","step_names","horizon"] (zao zfP):=by trivial
theorem zjq {zau:FQ} {zal:FQ} {zak:FQ} (F:Dfn K mg "is_link" zfP) (B:Bn mg) (c_is_one_of:Cal Γ P w K mg base "is_one_of" 2 2 zau) (c_is_tuple:Cal Γ P w K mg base "is_tuple" 2 1 zal) (c_is_within:Cal Γ P w K mg base "is_within" 3 2 zak):Cal Γ P w K mg base "is_link" 3 3 (zgo zau zal zak) :=
 F.cal (k:=2) zkl (fun _ _ _ _ _ _ us hl=>match us,hl with | [_,_,_],_=>rfl) fun f cdv A outer s H E hr =>
  (zaf (zbD (DW.dt (zcR (zaR (zaO (dC c_is_tuple hr (zaa (zac 0) (zaa zae zad)) ln2))) (zcR (zaR (zaO (dC c_is_one_of hr (zaa (zaw (zac 0) zae) (zaa (zac 1) zad)) ln2))) (zct (zaR (zaO (dC c_is_one_of hr (zaa (zaw (zac 0) zae) (zaa (zac 1) zad)) ln2))))))) (zam (zaE zbU)) zaK) (zam (zaE (zcB (zd2 (ziC (zrr hr)) (zaw (zac 0) zae) (zaw (zac 0) zae) (zby _)) (zdj (dC c_is_within hr (zaa (zaw (zac 0) zae) (zaa zae (zaa (zac 2) zad))) ln3))))))
def zgq (zcw:FQ) (zan:FQ) (zah:FQ):FQ:=zcj 0
  (zaG (sIf (orT (zcc (toB (cF zan (zab (vSh 0) (zab (vC (.int 0)) (zab (vC (.int 100)) zag)))))) (zcc (toB (cF ziR (zab (zax (za0 (itF (vSh 0)) (za3 0) tT (cF zcw (zab (vSh 0) (zab (vSh 1) (zab (vSh 2) zag)))) [none,some 1,some 2])) zag))))) (zbk (vC (.bl false))) zca) (zbk (cF zah (zab (zax (za0 (itF (vSh 0)) (za3 0) tT (slF (vSh 0) pN (pS (vC (.int 2)))) [none])) zag))))
theorem zif:FnScope ["links","step_names","horizon"] ["links","step_names","horizon"] (zao zeb):=by trivial
theorem zhU {zcw:FQ} {zan:FQ} {zah:FQ} (F:Dfn K mg "are_links" zeb) (B:Bn mg) (c_is_link:Cal Γ P w K mg base "is_link" 3 3 zcw) (c_is_list:Cal Γ P w K mg base "is_list" 3 1 zan) (c_are_unlike:Cal Γ P w K mg base "are_unlike" 1 1 zah):Cal Γ P w K mg base "are_links" 3 4 (zgq zcw zan zah) :=
 F.cal (k:=3) zif (fun _ _ _ _ _ _ us hl=>match us,hl with | [_,_,_],_=>rfl) fun f cdv A outer s H E hr =>
  (zaf (zbD (DW.dt (zcR (zaR (zaO (dC c_is_list hr (zaa (zac 0) (zaa zae (zaa (zcg rfl B.c_MOST_LINKS) zad))) ln3))) (zct (zaR (zaO (zaI (zdx rfl) rfl B.z_all (by rfl) (zaa (DO.de (zcn rfl (CompScope.of rfl rfl) (FvOk.of (N':=["row","step_names","horizon"]) (fv:=[none,some 1,some 2]) rfl) (zbb (zac 0)) ⟨fun _ _ _ _ _=>⟨(zaC 0 (show (["row","step_names","horizon"]:List Str).Nodup by decide +kernel)),zaV,(dC c_is_link hr (zaa (zac 0) (zaa (zac 1) (zaa (zac 2) zad))) ln3)⟩⟩)) zad))))))) (zam (zaE zbU)) zaK) (zam (zaE (dC c_are_unlike hr (zaa (DO.de (zcn rfl (CompScope.of rfl rfl) (FvOk.of (N':=["row"]) (fv:=[none]) rfl) (zbb (zac 0)) ⟨fun _ _ _ _ _=>⟨(zaC 0 (show (["row"]:List Str).Nodup by decide +kernel)),zaV,(zb2 (zac 0) zcE (zcu zae))⟩⟩)) zad) ln1))))
def zes (zak:FQ) (zau:FQ) (zal:FQ):FQ:=zcj 0
  (zbk (zd3 (cF zal (zab (vSh 0) (zab (vC (.int 2)) zag))) (zd3 (cF zau (zab (b2 ixD (vSh 0) (vC (.int 0))) (zab (vSh 1) zag))) (cF zak (zab (b2 ixD (vSh 0) (vC (.int 1))) (zab (vC (.int 1)) (zab (vC (.int 1000000)) zag)))))))
theorem zid:FnScope ["row","step_names"] ["row","step_names"] (zao zd9):=by trivial
theorem zhS {zak:FQ} {zau:FQ} {zal:FQ} (F:Dfn K mg "is_amount" zd9) (B:Bn mg) (c_is_within:Cal Γ P w K mg base "is_within" 3 2 zak) (c_is_one_of:Cal Γ P w K mg base "is_one_of" 2 2 zau) (c_is_tuple:Cal Γ P w K mg base "is_tuple" 2 1 zal):Cal Γ P w K mg base "is_amount" 2 3 (zes zak zau zal) :=
 F.cal (k:=2) zid (fun _ _ _ _ _ _ us hl=>match us,hl with | [_,_],_=>rfl) fun f cdv A outer s H E hr =>
  (zam (zaE (zcB (dC c_is_tuple hr (zaa (zac 0) (zaa zae zad)) ln2) (zcB (dC c_is_one_of hr (zaa (zaw (zac 0) zae) (zaa (zac 1) zad)) ln2) (zdj (dC c_is_within hr (zaa (zaw (zac 0) zae) (zaa zae (zaa (zcg rfl B.c_MOST_AMOUNT) zad))) ln3))))))
def zeO (zbO:FQ) (zan:FQ) (zah:FQ):FQ:=zcj 0
  (zaG (sIf (orT (zcc (toB (cF zan (zab (vSh 0) (zab (vC (.int 0)) (zab (cF zdu (zab (vSh 1) zag)) zag)))))) (zcc (toB (cF ziR (zab (zax (za0 (itF (vSh 0)) (za3 0) tT (cF zbO (zab (vSh 0) (zab (vSh 1) zag))) [none,some 1])) zag))))) (zbk (vC (.bl false))) zca) (zbk (cF zah (zab (zax (za0 (itF (vSh 0)) (za3 0) tT (b2 ixD (vSh 0) (vC (.int 0))) [none])) zag))))
theorem zgx:FnScope ["rows","step_names"] ["rows","step_names"] (zao zdo):=by trivial
theorem zgh {zbO:FQ} {zan:FQ} {zah:FQ} (F:Dfn K mg "are_amounts" zdo) (B:Bn mg) (c_is_amount:Cal Γ P w K mg base "is_amount" 2 3 zbO) (c_is_list:Cal Γ P w K mg base "is_list" 3 1 zan) (c_are_unlike:Cal Γ P w K mg base "are_unlike" 1 1 zah):Cal Γ P w K mg base "are_amounts" 2 4 (zeO zbO zan zah) :=
 F.cal (k:=3) zgx (fun _ _ _ _ _ _ us hl=>match us,hl with | [_,_],_=>rfl) fun f cdv A outer s H E hr =>
  (zaf (zbD (DW.dt (zcR (zaR (zaO (dC c_is_list hr (zaa (zac 0) (zaa zae (zaa (zaI zdl rfl B.z_len (by rfl) (zaa (zac 1) zad)) zad))) ln3))) (zct (zaR (zaO (zaI (zdx rfl) rfl B.z_all (by rfl) (zaa (DO.de (zcn rfl (CompScope.of rfl rfl) (FvOk.of (N':=["row","step_names"]) (fv:=[none,some 1]) rfl) (zbb (zac 0)) ⟨fun _ _ _ _ _=>⟨(zaC 0 (show (["row","step_names"]:List Str).Nodup by decide +kernel)),zaV,(dC c_is_amount hr (zaa (zac 0) (zaa (zac 1) zad)) ln2)⟩⟩)) zad))))))) (zam (zaE zbU)) zaK) (zam (zaE (dC c_are_unlike hr (zaa (DO.de (zcn rfl (CompScope.of rfl rfl) (FvOk.of (N':=["row"]) (fv:=[none]) rfl) (zbb (zac 0)) ⟨fun _ _ _ _ _=>⟨(zaC 0 (show (["row"]:List Str).Nodup by decide +kernel)),zaV,(zaw (zac 0) zae)⟩⟩)) zad) ln1))))
def zfc (zaz:FQ) (zal:FQ) (zak:FQ) (zbl:FQ):FQ:=zcj 0
  (zaG (sIf (orT (zcc (toB (cF zal (zab (vSh 0) (zab (vC (.int 5)) zag))))) (zcc (toB (cF zaz (zab (b2 ixD (vSh 0) (vC (.int 0))) zag))))) (zbk (vC (.bl false))) zca) (zaG (sIf (orT (zcc (toB (cF zak (zab (b2 ixD (vSh 0) (vC (.int 2))) (zab (vC (.int 0)) (zab (vC (.int 1000000)) zag)))))) (zcc (toB (cF zak (zab (b2 ixD (vSh 0) (vC (.int 1))) (zab (vC (.int 0)) (zab (b2 ixD (vSh 0) (vC (.int 2))) zag))))))) (zbk (vC (.bl false))) zca) (zbk (zd3 (cF zbl (zab (b2 ixD (vSh 0) (vC (.int 3))) (zab (vSh 1) zag))) (cF zbl (zab (b2 ixD (vSh 0) (vC (.int 4))) (zab (vSh 1) zag)))))))
theorem ziY:FnScope ["row","step_names"] ["row","step_names"] (zao zeW):=by trivial
theorem ziG {zaz:FQ} {zal:FQ} {zak:FQ} {zbl:FQ} (F:Dfn K mg "is_stock" zeW) (B:Bn mg) (c_is_name:Cal Γ P w K mg base "is_name" 1 1 zaz) (c_is_tuple:Cal Γ P w K mg base "is_tuple" 2 1 zal) (c_is_within:Cal Γ P w K mg base "is_within" 3 2 zak) (c_are_amounts:Cal Γ P w K mg base "are_amounts" 2 4 zbl):Cal Γ P w K mg base "is_stock" 2 5 (zfc zaz zal zak zbl) :=
 F.cal (k:=4) ziY (fun _ _ _ _ _ _ us hl=>match us,hl with | [_,_],_=>rfl) fun f cdv A outer s H E hr =>
  (zaf (zbD (DW.dt (zcR (zaR (zaO (dC c_is_tuple hr (zaa (zac 0) (zaa zae zad)) ln2))) (zct (zaR (zaO (dC c_is_name hr (zaa (zaw (zac 0) zae) zad) ln1)))))) (zam (zaE zbU)) zaK) (zaf (zbD (DW.dt (zcR (zaR (zaO (dC c_is_within hr (zaa (zaw (zac 0) zae) (zaa zae (zaa (zcg rfl B.c_MOST_AMOUNT) zad))) ln3))) (zct (zaR (zaO (dC c_is_within hr (zaa (zaw (zac 0) zae) (zaa zae (zaa (zaw (zac 0) zae) zad))) ln3)))))) (zam (zaE zbU)) zaK) (zam (zaE (zcB (dC c_are_amounts hr (zaa (zaw (zac 0) zae) (zaa (zac 1) zad)) ln2) (zdj (dC c_are_amounts hr (zaa (zaw (zac 0) zae) (zaa (zac 1) zad)) ln2)))))))
def zft (zb5:FQ) (zan:FQ) (zah:FQ):FQ:=zcj 0
  (zaG (sIf (orT (zcc (toB (cF zan (zab (vSh 0) (zab (vC (.int 0)) (zab (vC (.int 6)) zag)))))) (zcc (toB (cF ziR (zab (zax (za0 (itF (vSh 0)) (za3 0) tT (cF zb5 (zab (vSh 0) (zab (vSh 1) zag))) [none,some 1])) zag))))) (zbk (vC (.bl false))) zca) (zbk (cF zah (zab (zax (za0 (itF (vSh 0)) (za3 0) tT (b2 ixD (vSh 0) (vC (.int 0))) [none])) zag))))
theorem zhq:FnScope ["stocks","step_names"] ["stocks","step_names"] (zao zdB):=by trivial
theorem zgG {zb5:FQ} {zan:FQ} {zah:FQ} (F:Dfn K mg "are_stocks" zdB) (B:Bn mg) (c_is_stock:Cal Γ P w K mg base "is_stock" 2 5 zb5) (c_is_list:Cal Γ P w K mg base "is_list" 3 1 zan) (c_are_unlike:Cal Γ P w K mg base "are_unlike" 1 1 zah):Cal Γ P w K mg base "are_stocks" 2 6 (zft zb5 zan zah) :=
 F.cal (k:=5) zhq (fun _ _ _ _ _ _ us hl=>match us,hl with | [_,_],_=>rfl) fun f cdv A outer s H E hr =>
  (zaf (zbD (DW.dt (zcR (zaR (zaO (dC c_is_list hr (zaa (zac 0) (zaa zae (zaa (zcg rfl B.c_MOST_STOCKS) zad))) ln3))) (zct (zaR (zaO (zaI (zdx rfl) rfl B.z_all (by rfl) (zaa (DO.de (zcn rfl (CompScope.of rfl rfl) (FvOk.of (N':=["row","step_names"]) (fv:=[none,some 1]) rfl) (zbb (zac 0)) ⟨fun _ _ _ _ _=>⟨(zaC 0 (show (["row","step_names"]:List Str).Nodup by decide +kernel)),zaV,(dC c_is_stock hr (zaa (zac 0) (zaa (zac 1) zad)) ln2)⟩⟩)) zad))))))) (zam (zaE zbU)) zaK) (zam (zaE (dC c_are_unlike hr (zaa (DO.de (zcn rfl (CompScope.of rfl rfl) (FvOk.of (N':=["row"]) (fv:=[none]) rfl) (zbb (zac 0)) ⟨fun _ _ _ _ _=>⟨(zaC 0 (show (["row"]:List Str).Nodup by decide +kernel)),zaV,(zaw (zac 0) zae)⟩⟩)) zad) ln1))))
def zdy (zak:FQ) (zaX:FQ) (zbg:FQ) (zbr:FQ) (za4:FQ) (zbh:FQ) (zbd:FQ):FQ:=zcj 2
  (zaG (sIf (zcc (toB (cF zak (zab (vSh 6) (zab (vC (.int 1)) (zab (vC (.int 1000000)) zag)))))) (zbk (vC (.str "horizon"))) zca) (zaG (sIf (zcc (toB (cF zaX (zab (vSh 0) (zab (vSh 6) zag))))) (zbk (vC (.str "benches"))) zca) (zaG (zbn 7 (zax (za0 (itF (vSh 0)) (za3 0) tT (b2 ixD (vSh 0) (vC (.int 0))) [none]))) (zaG (sIf (zcc (toB (cF zbg (zab (vSh 1) (zab (vSh 7) (zab (vSh 6) zag)))))) (zbk (vC (.str "steps"))) zca) (zaG (zbn 8 (zax (za0 (itF (vSh 1)) (za3 0) tT (b2 ixD (vSh 0) (vC (.int 0))) [none]))) (zaG (sIf (zcc (toB (cF zbr (zab (vSh 2) (zab (vSh 8) (zab (vSh 6) zag)))))) (zbk (vC (.str "jobs"))) zca) (zaG (sIf (zcc (toB (cF za4 (zab (vSh 3) (zab (vSh 7) (zab (vSh 6) zag)))))) (zbk (vC (.str "setups"))) zca) (zaG (sIf (zcc (toB (cF zbh (zab (vSh 4) (zab (vSh 8) (zab (vSh 6) zag)))))) (zbk (vC (.str "links"))) zca) (zaG (sIf (zcc (toB (cF zbd (zab (vSh 5) (zab (vSh 8) zag))))) (zbk (vC (.str "stocks"))) zca) (zbk (vC .non)))))))))))
theorem zcx:FnScope ["benches","steps","jobs","setups","links","stocks","horizon","bench_names","step_names"] ["benches","steps","jobs","setups","links","stocks","horizon"] (zao zcD):=by trivial
theorem zeM {zak:FQ} {zaX:FQ} {zbg:FQ} {zbr:FQ} {za4:FQ} {zbh:FQ} {zbd:FQ} (F:Dfn K mg "first_bad_part" zcD) (B:Bn mg) (c_is_within:Cal Γ P w K mg base "is_within" 3 2 zak) (c_are_benches:Cal Γ P w K mg base "are_benches" 2 6 zaX) (c_are_steps:Cal Γ P w K mg base "are_steps" 3 6 zbg) (c_are_jobs:Cal Γ P w K mg base "are_jobs" 3 4 zbr) (c_are_setups:Cal Γ P w K mg base "are_setups" 3 4 za4) (c_are_links:Cal Γ P w K mg base "are_links" 3 4 zbh) (c_are_stocks:Cal Γ P w K mg base "are_stocks" 2 6 zbd):Cal Γ P w K mg base "first_bad_part" 7 7 (zdy zak zaX zbg zbr za4 zbh zbd) :=
 F.cal (k:=6) zcx (fun _ _ _ _ _ _ us hl=>match us,hl with | [_,_,_,_,_,_,_],_=>rfl) fun f cdv A outer s H E hr =>
  (zaf (zbD (zaR (zaO (dC c_is_within hr (zaa (zac 6) (zaa zae (zaa (zcg rfl B.c_MOST_HORIZON) zad))) ln3))) (zam (zaE zay)) zaK) (zaf (zbD (zaR (zaO (dC c_are_benches hr (zaa (zac 0) (zaa (zac 6) zad)) ln2))) (zam (zaE zay)) zaK) (zaf (zl6 7 zcx.nd rfl (CompScope.of rfl rfl) (FvOk.of (N':=["row"]) (fv:=[none]) rfl) (zbb (zac 0)) ⟨fun _ _ _ _ _=>⟨(zaC 0 (show (["row"]:List Str).Nodup by decide +kernel)),zaV,(zaw (zac 0) zae)⟩⟩) (zaf (zbD (zaR (zaO (dC c_are_steps hr (zaa (zac 1) (zaa (zac 7) (zaa (zac 6) zad))) ln3))) (zam (zaE zay)) zaK) (zaf (zl6 8 zcx.nd rfl (CompScope.of rfl rfl) (FvOk.of (N':=["row"]) (fv:=[none]) rfl) (zbb (zac 1)) ⟨fun _ _ _ _ _=>⟨(zaC 0 (show (["row"]:List Str).Nodup by decide +kernel)),zaV,(zaw (zac 0) zae)⟩⟩) (zaf (zbD (zaR (zaO (dC c_are_jobs hr (zaa (zac 2) (zaa (zac 8) (zaa (zac 6) zad))) ln3))) (zam (zaE zay)) zaK) (zaf (zbD (zaR (zaO (dC c_are_setups hr (zaa (zac 3) (zaa (zac 7) (zaa (zac 6) zad))) ln3))) (zam (zaE zay)) zaK) (zaf (zbD (zaR (zaO (dC c_are_links hr (zaa (zac 4) (zaa (zac 8) (zaa (zac 6) zad))) ln3))) (zam (zaE zay)) zaK) (zaf (zbD (zaR (zaO (dC c_are_stocks hr (zaa (zac 5) (zaa (zac 8) zad)) ln2))) (zam (zaE zay)) zaK) (zam (zaE zeL)))))))))))
def zdb (zbP:FQ):FQ:=zcj 0
  (zaG (sIf (toB (cF zgC (zab (vSh 0) (zab (vC (.ty "list")) zag)))) (zbk (zax (za0 (itF (vSh 0)) (za3 0) tT (cF zbP (zab (vSh 0) zag)) [none]))) zca) (zaG (sIf (toB (cF zgC (zab (vSh 0) (zab (vC (.ty "tuple")) zag)))) (zbk (cF zk0 (zab (zax (za0 (itF (vSh 0)) (za3 0) tT (cF zbP (zab (vSh 0) zag)) [none])) zag))) zca) (zbk (vSh 0))))
theorem zmV:FnScope ["thing"] ["thing"] (zao zi3):=by trivial
theorem zms {k:Nat} {zbP:FQ} (F:Dfn K mg "fresh" zi3) (B:Bn mg) (c_fresh:Cal Γ P w K mg base "fresh" 1 k zbP):Cal Γ P w K mg base "fresh" 1 (k+1) (zdb zbP) :=
 F.cal (k:=k) zmV (fun _ _ _ _ _ _ us hl=>match us,hl with | [_],_=>rfl) fun f cdv A outer s H E hr =>
  (zaf (zbD (zaO (zaI zfs rfl B.z_isinstance (by rfl) (zaa (zac 0) (zaa (ziz rfl B.z_list (by rfl)) zad)))) (zam (zaE (DO.de (zcn rfl (CompScope.of rfl rfl) (FvOk.of (N':=["part"]) (fv:=[none]) rfl) (zbb (zac 0)) ⟨fun _ _ _ _ _=>⟨(zaC 0 (show (["part"]:List Str).Nodup by decide +kernel)),zaV,(zmi c_fresh hr (qu _) rfl (zaa (zac 0) zad) ln1)⟩⟩)))) zaK) (zaf (zbD (zaO (zaI zfs rfl B.z_isinstance (by rfl) (zaa (zac 0) (zaa (ziz rfl B.z_tuple (by rfl)) zad)))) (zam (zaE (zdk zmN rfl B.z_tuple (by rfl) (zaa (DO.de (zcn rfl (CompScope.of rfl rfl) (FvOk.of (N':=["part"]) (fv:=[none]) rfl) (zbb (zac 0)) ⟨fun _ _ _ _ _=>⟨(zaC 0 (show (["part"]:List Str).Nodup by decide +kernel)),zaV,(zmi c_fresh hr (qu _) rfl (zaa (zac 0) zad) ln1)⟩⟩)) zad)))) zaK) (zam (zaE (zac 0)))))
def zdS (zaB:FQ) (zbP:FQ):FQ:=zii 3 "Shop"
  (zaG (noXm (zbn 8 (cF zaB (zab (vSh 1) (zab (vSh 2) (zab (vSh 3) (zab (vSh 4) (zab (vSh 5) (zab (vSh 6) (zab (vSh 7) zag)))))))))) (zaG (sIf (toB (b2 zlS (vSh 8) (vC .non))) (zeg (zab (vSh 8) zag)) zca) (noXm (zaG (zeC "Shop" "benches" 0 (cF zbP (zab (vSh 1) zag))) (zaG (zeC "Shop" "steps" 0 (cF zbP (zab (vSh 2) zag))) (zaG (zeC "Shop" "jobs" 0 (cF zbP (zab (vSh 3) zag))) (zaG (zeC "Shop" "setups" 0 (cF zbP (zab (vSh 4) zag))) (zaG (zeC "Shop" "links" 0 (cF zbP (zab (vSh 5) zag))) (zaG (zeC "Shop" "stocks" 0 (cF zbP (zab (vSh 6) zag))) (zaG (zeC "Shop" "horizon" 0 (vSh 7)) (zaG (zeC "Shop" "bench_by_name" 0 (cF ziy (zab (zax (za0 (itF (zgy "Shop" "benches" 0)) (za3 0) tT (zaQ (szF (zab (b2 ixD (vSh 0) (vC (.int 0))) (zab (vSh 0) zag)))) [none])) zag))) (zaG (zeC "Shop" "step_by_name" 0 (cF ziy (zab (zax (za0 (itF (zgy "Shop" "steps" 0)) (za3 0) tT (zaQ (szF (zab (b2 ixD (vSh 0) (vC (.int 0))) (zab (vSh 0) zag)))) [none])) zag))) (zaG (zeC "Shop" "setup_by_names" 0 (cF zj3 (zab (zax (za0 (itF (zgy "Shop" "setups" 0)) (za3 0) tT (zaQ (szF (zab (slF (vSh 0) pN (pS (vC (.int 3)))) (zab (b2 ixD (vSh 0) (vC (.int 3))) zag)))) [none])) zag))) (zaG (zp6 "Shop" "job_by_step" 0) (zeh (itF (zgy "Shop" "jobs" 0)) (za3 9) (zeh (itF (b2 ixD (vSh 9) (vC (.int 4)))) (za3 10) (zc5 "Shop" "job_by_step" 0 (vSh 10) (vSh 9))))))))))))))))))
theorem zcf:FnScope ["self","benches","steps","jobs","setups","links","stocks","horizon","part","row","step"] ["self","benches","steps","jobs","setups","links","stocks","horizon"] (zao zcP):=by trivial
theorem ze8 {zaB:FQ} {zbP:FQ} {C CN CSE fI:Addr} {fdN:FuncData} {psN:List Str} (FN:FnOk P w K mg base CX0 1 fI fdN psN (zp5 CN "part")) (ZN:XCls K base CN CSE fI "part") (hbN:zcL K fdN psN []) (mN:mg "NoShop"=some (.ref CN)) (O:ClsOk Γ K mg "Shop" C) (F:DfnM K C "Shop" "__init__" "Shop.__init__" zcP) (B:Bn mg) (c_first_bad_part:Cal Γ P w K mg base "first_bad_part" 7 7 zaB) (c_fresh:Cal Γ P w K mg base "fresh" 1 8 zbP) (cf_Shop:CF Γ K "Shop" zmA):CalIY Γ P w K mg base "Shop" CN "part" 7 9 (zdS zaB zbP) :=
 DfnM.calIY (k:=8) O F zcf (fun _ _ _ _ _ _ us hl=>match us,hl with | [_,_,_,_,_,_,_,_],_=>rfl) (zgN.seq zgN.none (zgN.seq (zgN.iff zgN.raise zgN.nil) zgN.none)) fun f y cdv A outer s H E hr =>
  (zj2 (zsW (zaN 8 zcf.nd (dC (c_first_bad_part.re y) hr (zaa (zac 1) (zaa (zac 2) (zaa (zac 3) (zaa (zac 4) (zaa (zac 5) (zaa (zac 6) (zaa (zac 7) zad))))))) ln7))) (zj2 (zsX (zce znL (zac 8) zeL (zby _)) (zpI (zny (fun _ _ h=>h) FN ZN hbN hr (by decide) rfl mN (zaa (zac 8) zad))) zpJ) (zrB (zaf (zc8 0 (cf_Shop.re y) (.head _) (dC (c_fresh.re y) hr (zaa (zac 1) zad) ln1)) (zaf (zc8 0 (cf_Shop.re y) (.tail _ (.head _)) (dC (c_fresh.re y) hr (zaa (zac 2) zad) ln1)) (zaf (zc8 0 (cf_Shop.re y) (.tail _ (.tail _ (.head _))) (dC (c_fresh.re y) hr (zaa (zac 3) zad) ln1)) (zaf (zc8 0 (cf_Shop.re y) (.tail _ (.tail _ (.tail _ (.head _)))) (dC (c_fresh.re y) hr (zaa (zac 4) zad) ln1)) (zaf (zc8 0 (cf_Shop.re y) (.tail _ (.tail _ (.tail _ (.tail _ (.head _))))) (dC (c_fresh.re y) hr (zaa (zac 5) zad) ln1)) (zaf (zc8 0 (cf_Shop.re y) (.tail _ (.tail _ (.tail _ (.tail _ (.tail _ (.head _)))))) (dC (c_fresh.re y) hr (zaa (zac 6) zad) ln1)) (zaf (zc8 0 (cf_Shop.re y) (.tail _ (.tail _ (.tail _ (.tail _ (.tail _ (.tail _ (.head _))))))) (zac 7)) (zaf (zc8 0 (cf_Shop.re y) (.tail _ (.tail _ (.tail _ (.tail _ (.tail _ (.tail _ (.tail _ (.head _)))))))) (zdk (zjz rfl (zof hr)) rfl B.z_dict (by rfl) (zaa (DO.de (zcn rfl (CompScope.of rfl rfl) (FvOk.of (N':=["row"]) (fv:=[none]) rfl) (zbb (zhJ 0 (cf_Shop.re y) (.head _))) ⟨fun _ _ _ _ _=>⟨(zaC 0 (show (["row"]:List Str).Nodup by decide +kernel)),zaV,(zar (zaa (zaw (zac 0) zae) (zaa (zac 0) zad)))⟩⟩)) zad))) (zaf (zc8 0 (cf_Shop.re y) (.tail _ (.tail _ (.tail _ (.tail _ (.tail _ (.tail _ (.tail _ (.tail _ (.head _))))))))) (zdk (zjz rfl (zof hr)) rfl B.z_dict (by rfl) (zaa (DO.de (zcn rfl (CompScope.of rfl rfl) (FvOk.of (N':=["row"]) (fv:=[none]) rfl) (zbb (zhJ 0 (cf_Shop.re y) (.tail _ (.head _)))) ⟨fun _ _ _ _ _=>⟨(zaC 0 (show (["row"]:List Str).Nodup by decide +kernel)),zaV,(zar (zaa (zaw (zac 0) zae) (zaa (zac 0) zad)))⟩⟩)) zad))) (zaf (zc8 0 (cf_Shop.re y) (.tail _ (.tail _ (.tail _ (.tail _ (.tail _ (.tail _ (.tail _ (.tail _ (.tail _ (.head _)))))))))) (zdk (zmO rfl (zof hr)) rfl B.z_dict (by rfl) (zaa (DO.de (zcn rfl (CompScope.of rfl rfl) (FvOk.of (N':=["row"]) (fv:=[none]) rfl) (zbb (zhJ 0 (cf_Shop.re y) (.tail _ (.tail _ (.tail _ (.head _)))))) ⟨fun _ _ _ _ _=>⟨(zaC 0 (show (["row"]:List Str).Nodup by decide +kernel)),zaV,(zar (zaa (zb2 (zac 0) zcE (zcu zae)) (zaa (zaw (zac 0) zae) zad)))⟩⟩)) zad))) (zaf (zrD 0 (cf_Shop.re y) (.tail _ (.tail _ (.tail _ (.tail _ (.tail _ (.tail _ (.tail _ (.tail _ (.tail _ (.tail _ (.head _)))))))))))) (zam (zdh PassesOwn.never rfl (zbb (zhJ 0 (cf_Shop.re y) (.tail _ (.tail _ (.head _))))) (zaC 9 zcf.nd) (zam (zdh PassesOwn.never rfl (zbb (zaw (zac 9) zae)) (zaC 10 zcf.nd) (zam (zl5 0 (zof hr) (cf_Shop.re y) (.tail _ (.tail _ (.tail _ (.tail _ (.tail _ (.tail _ (.tail _ (.tail _ (.tail _ (.tail _ (.head _))))))))))) (zac 10) (zac 9)))))))))))))))))))))
def zet (zaS:FQ):FQ:=zqr zaS
  (zab (b2 ixD (vSh 0) (vC (.int 0))) (zab (b2 ixD (vSh 0) (vC (.int 1))) (zab (b2 ixD (vSh 0) (vC (.int 2))) (zab (b2 ixD (vSh 0) (vC (.int 3))) (zab (b2 ixD (vSh 0) (vC (.int 4))) (zab (b2 ixD (vSh 0) (vC (.int 5))) (zab (b2 ixD (vSh 0) (vC (.int 6))) zag)))))))
theorem zig:FnScope ["_law_lists_here"] ["_law_lists_here"] (zao zec):=by trivial
theorem zhV {zaS:FQ} {CN:Addr} (F:Dfn K mg "_law_shop" zec) (B:Bn mg) (c_Shop___init__:CalIY Γ P w K mg base "Shop" CN "part" 7 9 zaS):CalSY Γ P w K mg base "_law_shop" CN "part" 1 11 (zet zaS):=by
 obtain ⟨f,fd,h1,h2⟩:=F.ex
 obtain ⟨C,f2,fd2,ps2,g0,gM,gm,g1,g4⟩:=c_Shop___init__.ex
 have hbn:=h1.binds (ps:=["_law_lists_here"]) (fun _ _ _ _ _ _ us hl=>match us,hl with | [_],_=>rfl)
 obtain ⟨oc,od,kV,doc,pm,an,cdv,ct,osl,e,lk,hcd⟩:=id h1.ex
 subst e
 refine ⟨f,_,["_law_lists_here"],zpF (k:=10) lk hcd zig (fun vs H Q E h=>?_) (fun A outer s H vs Q E hr h=>?_),h2,h1.kp,hbn⟩
 ·obtain ⟨G,ds,d,_,r,hl,_⟩:=h
  rw [r.length,hl];rfl
 ·obtain ⟨G,ds,d,gh,r,hl,hd,kx,kn⟩:=h
  obtain ⟨v0,d0,rfl,rfl,r0⟩:∃ v0 d0,vs=[v0]/\ds=[d0]/\Rep Γ K G v0 d0:=by
   match ds,hl,r with
   | [d0],_,.cons a .nil=>exact ⟨_,_,rfl,rfl,a⟩
  have A0:At Γ K G H G H [some (.sh d0)] [some v0]:=⟨.refl gh,.ofSh rfl (fun i s e=>by
   match i,e with
   | 0,e=>cases e;exact ⟨_,rfl⟩) (fun i d e=>by
   match i,e with
   | 0,e=>cases e;exact ⟨_,rfl,r0⟩)⟩
  unfold zet zqr at hd
  obtain ⟨xs,hxs,hF⟩:=oBd hd
  refine ⟨_,zds (zgW (zo1 gM g1 (hr.mono (by decide)) rfl gm g4 .nil zo5 (DA.out (Γ:=Γ)
    (zaa (zaw (zac 0) zae) (zaa (zaw (zac 0) zae) (zaa (zaw (zac 0) zae) (zaa (zaw (zac 0) zae) (zaa (zaw (zac 0) zae) (zaa (zaw (zac 0) zae) (zaa (zaw (zac 0) zae) zad)))))))))),?_⟩
  refine ⟨G,H,G,_,xs,A0,hxs,fun us G1 H1 s1 r1' x dx hx hdx hne=>?_⟩
  rw [List.append_nil]
  exact ⟨x,dx,H1,G1,xs,d,us,rfl,rfl,hx,hdx,hne,s1.gh,r1',ln7 _ _ hxs,hF,fun p e G' H' dz st hz=>kx p e G' H' dz (s1.trans st) hz,fun nx G' H' st rp=>⟨rfl,kn nx _ G' H' (s1.trans st) rp⟩⟩
def zdc (zbi:FQ):FQ:=ztp zbi
theorem zcN:FnScope ["_law_lists_here","_law_caught","e"] ["_law_lists_here"] (zao zc3):=by trivial
theorem zfC {zbi:FQ} {CN CS CP CR CY:Addr} (F:Dfn K mg "_law_refused" zc3) (B:Bn mg) (R:RefZK K mg CN CS CP CR CY) (c__law_shop:CalSY Γ P w K mg base "_law_shop" CN "part" 1 11 zbi):Cal Γ P w K mg base "_law_refused" 1 12 (zdc zbi):=by
 obtain ⟨f,fd,h1,h2⟩:=F.ex
 obtain ⟨f2,fd2,ps2,g1,g2,g3,g4⟩:=c__law_shop.ex
 refine ⟨f,fd,["_law_lists_here"],Fun.ok (k:=11) h1 zcN (fun vs H Q E h=>?_) (fun cdv A outer s H vs Q E hr h=>?_),h2,h1.kp,h1.binds (fun _ _ _ _ _ _ us hl=>match us,hl with | [_],_=>rfl)⟩
 ·obtain ⟨G,ds,d,_,r,hl,_⟩:=h
  rw [r.length,hl];rfl
 ·obtain ⟨G,ds,d,gh,r,hl,hd,k⟩:=h
  obtain ⟨v0,d0,rfl,rfl,r0⟩:∃ v0 d0,vs=[v0]/\ds=[d0]/\Rep Γ K G v0 d0:=by
   match ds,hl,r with
   | [d0],_,.cons a .nil=>exact ⟨_,_,rfl,rfl,a⟩
  refine ⟨_,zcY (zjI (i:=1) zcN.nd rfl (.inl rfl) zn4) (zcY (zoR (i:=1) (j:=2) g1 (hr.mono (by decide)) (fun _ _ z=>z) rfl rfl rfl g2 g3 g4 (zbM (zcp (i:=0) rfl (.inl rfl)) zdd) rfl R.mS zcN.nd rfl rfl rfl rfl (by decide))
   (zcY (zli (zqC (zqU (zcp (i:=1) rfl (.inl rfl)))) (zds (zgW zil)) zfT)
   (zcY (zli (PW.pt (zqz (zjH (zeF zgf rfl B.z_isinstance (by rfl) (zbM (zcp (i:=1) rfl (.inl rfl)) (zbM (zn3 (zbM (zfV (v:=.ref CP) rfl R.mP rfl) (zbM (zfV (v:=.ref CR) rfl R.mR rfl) (zbM (zfV (v:=.ref CY) rfl R.mY rfl) zdd)))) zdd))))
    (zn0 (zlh (zjH (zeF zgf rfl B.z_isinstance (by rfl) (zbM (zcp (i:=1) rfl (.inl rfl)) (zbM (zfV (v:=.ref CN) rfl R.mN rfl) zdd)))))))) (zds (zgW zil)) zfT)
   (zcY (zli (zlh (zjH (zeF zgf rfl B.z_isinstance (by rfl) (zbM (zcp (i:=1) rfl (.inl rfl)) (zbM (zlm (v:=.ty "ValueError") rfl B.z_ValueError (by rfl) rfl) zdd))))) (zds (zgW zil)) zfT)
   (zds (zgW (zst (zcp (i:=1) rfl (.inl rfl))))))))),?_⟩
  unfold zdc ztp at hd
  obtain ⟨y,hF,hd⟩:=oBd hd
  show zqi K (ztn Γ K CN "part" 1 zbi) (.ref CS) 1 2 (zql (zr3 0) ztm) _ [some v0,some .non,none] H
  refine ⟨v0,rfl,?_⟩
  by_cases hy:∃ p,y=xm p
  ·obtain ⟨p,rfl⟩:=hy
   cases hd
   refine ⟨fun _ _=>False,fun cls o H2=>cls=.ref CN/\∃ dz G2 H3,o=some dz/\Step G H G2 H3/\H3 dz=none/\H2=upd H3 dz (.xd [("part",.str p)]),⟨G,[d0],_,gh,.cons r0 .nil,rfl,hF,fun p' e G' H' dz st hz=>?_,fun z=>absurd rfl (z p)⟩,fun _ _ z=>z.elim,?_⟩
   ·cases e
    exact ⟨rfl,dz,G',H',rfl,st,hz,rfl⟩
   ·rintro CN' dz H2 ⟨e,dz',G2,H3,e2,st,hz,rfl⟩
    cases e
    cases e2
    refine ⟨R.exm,fun a ha=>?_⟩
    have sA:=st.trans (Step.newOwn (o:=.xd [("part",.str p)]) st.gh hz)
    have sB:=sA.trans (Step.newOwn (o:=.ext (zeS a CN dz)) sA.gh ha)
    have hnz:dz≠a:=fun z=>by rw [← z,zav] at ha;cases ha
    have hA:(upd (upd H3 dz (.xd [("part",.str p)])) a (.ext (zeS a CN dz))) a=some (.ext (zeS a CN dz)):=zav
    have hZ:(upd (upd H3 dz (.xd [("part",.str p)])) a (.ext (zeS a CN dz))) dz=some (.xd [("part",.str p)]):=by rw [zaq hnz,zav]
    refine ⟨.ref a,rfl,?_⟩
    refine ⟨_,rfl,?_⟩
    refine zoe ?_
    refine ⟨.ref a,rfl,by show 3<=sizeLine;decide,fun q hq=>?_⟩
    have ne1:a≠q:=fun z=>by subst z;rw [hA] at hq;cases hq
    have ne2:dz≠q:=fun z=>by subst z;rw [hZ] at hq;cases hq
    have hA2:upd (upd (upd H3 dz (.xd [("part",.str p)])) a (.ext (zeS a CN dz))) q (.tup [.ref CP,.ref CR,.ref CY]) a=some (.ext (zeS a CN dz)):=by rw [zaq ne1];exact hA
    refine ⟨a,CN,dz,.ref q,false,rfl,hA2,R.exk,.tup zav rfl R.k3,false,rfl,?_⟩
    refine ⟨.ref a,rfl,a,CN,dz,.ref CN,true,rfl,hA2,R.exk,.one rfl (by unfold PySem.W.kitOne;rw [qX (beq_self_eq_true _)]),true,rfl,?_⟩
    refine ⟨.ref a,rfl,a,CN,dz,.ty "ValueError",true,rfl,hA2,R.exk,.one rfl R.k2,true,rfl,?_⟩
    refine ⟨.ref a,rfl,a,CN,dz,_,.str p,rfl,hA2,by rw [zaq ne2];exact hZ,R.exk,R.hd,R.no,rfl,?_⟩
    exact k _ G2 _ (sB.trans (Step.newOwn sB.gh hq)) (.str p)
  ·have hd':d=.str "none":=by
    unfold zr4 at hd
    split at hd
    ·split at hd
     ·rename_i hn;subst hn;exact absurd ⟨_,rfl⟩ hy
     ·cases hd
    ·cases hd;rfl
    ·cases hd
   subst hd'
   refine ⟨fun v H2=>∃ G2,Step G H G2 H2,fun _ _ _=>False,⟨G,[d0],y,gh,.cons r0 .nil,rfl,hF,fun p e=>absurd ⟨p,e⟩ hy,fun _ v G' H' st _=>⟨G',st⟩⟩,?_,fun _ _ _ z=>z.elim⟩
   rintro v H2 ⟨G2,st⟩
   refine ⟨.non,rfl,?_⟩
   refine ⟨_,rfl,?_⟩
   refine zod ?_
   exact k _ G2 H2 st (.str "none")
def zrW (zaF:FQ) (zbI:FQ) (zaP:FQ) (zaT:FQ):FQ:=zcj 8
  (zaG (zbn 1 (b2 ixD (zax (szF (zab (vC (.int 9)) (zab (vC (.int 40)) (zab (b2 zn2 (vC (.int 10)) (vC (.int 6))) (zab (b2 zbe (vC (.int 1)) (b2 zbF (cF zaF (zab (vSh 0) (zab (vC (.int 20)) zag))) (vC (.int 30)))) zag)))))) (b2 zbF (cF zaF (zab (vSh 0) (zab (vC (.int 21)) zag))) (vC (.int 4))))) (zaG (zbn 2 (cF zbI (zab (vSh 0) (zab (b2 zbe (vC (.int 1)) (b2 zbF (cF zaF (zab (vSh 0) (zab (vC (.int 22)) zag))) (vC (.int 10)))) (zab (vSh 1) (zab (vC (.int 7)) zag)))))) (zaG (zbn 3 (zax (szF (zab (vC (.str "benches")) (zab (vC (.str "steps")) (zab (vC (.str "jobs")) (zab (vC (.str "setups")) (zab (vC (.str "links")) (zab (vC (.str "stocks")) (zab (vC (.str "horizon")) zag)))))))))) (zaG (zeh (itF (b2 zbe (slF (vSh 0) (pS (vC (.int 23))) (pS (vC (.int 53)))) (zax (szF (zab (vC (.int 0)) (zab (vC (.int 6)) zag)))))) (za3 4) (zaG (zbn 5 (slF (zax (szF (zab (b2 zbF (vSh 4) (vC (.int 7))) (zab (b2 zbF (b2 zcJ (vSh 4) (vC (.int 7))) (vC (.int 7))) zag)))) pN (pS (b2 zbe (vC (.int 1)) (b2 zbF (b2 zcJ (vSh 4) (vC (.int 49))) (vC (.int 2))))))) (zaG (zeB 6 (zlH (vSh 2))) (zaG (zeh (itF (vSh 5)) (za3 7) (zfQ 6 (vSh 7) (cF zaP (zab (vSh 7) (zab (vSh 2) (zab (b2 zcJ (vSh 4) (vC (.int 98))) zag)))))) (zaG (zbn 8 (b2 ixD (vSh 3) (b2 zk4 (cF zq9 (zab (zax (za0 (itF (vSh 5)) (za3 0) tT (b2 zbF (b2 zbe (vSh 0) (vC (.int 1))) (vC (.int 7))) [none])) zag)) (vC (.int 1))))) (sIf (bwT 6 (toB (b2 neA (cF zaT (zab (vSh 6) zag)) (vSh 8)))) (zbk (vC (.bl false))) zca)))))) (zbk (b2 eqD (cF zaT (zab (vSh 2) zag)) (vC (.str "none"))))))))
theorem zez:FnScope ["_law_script","_law_horizon","_law_lists_here","_law_words","_law_cell_here","_law_parts","_law_spoilt","_law_part","_law_due"] ["_law_script"] (zao zfL):=by trivial
theorem zpV {zaF:FQ} {zbI:FQ} {zaP:FQ} {zaT:FQ} (B:Bn mg) (c__law_cell:Cal Γ P w K mg base "_law_cell" 2 1 zaF) (c__law_lists:Cal Γ P w K mg base "_law_lists" 4 3 zbI) (c__law_bad:Cal Γ P w K mg base "_law_bad" 3 2 zaP) (c__law_refused:Cal Γ P w K mg base "_law_refused" 1 12 zaT) (f:Addr) (cdv:Value) (A:Around) (outer:List Env) (s:Shared) (H:Hp) (E:XK) (hr:Room 12 (A.deeper (envOfC "law" (zao zfL) s.heap.objs.size f cdv))):DSs Γ (zgD CX0 P w K mg base ["_law_script","_law_horizon","_law_lists_here","_law_words","_law_cell_here","_law_parts","_law_spoilt","_law_part","_law_due"] "law" (zao zfL) f cdv A outer s H E).nox (zbW zfL)
  (zaG (zbn 1 (b2 ixD (zax (szF (zab (vC (.int 9)) (zab (vC (.int 40)) (zab (b2 zn2 (vC (.int 10)) (vC (.int 6))) (zab (b2 zbe (vC (.int 1)) (b2 zbF (cF zaF (zab (vSh 0) (zab (vC (.int 20)) zag))) (vC (.int 30)))) zag)))))) (b2 zbF (cF zaF (zab (vSh 0) (zab (vC (.int 21)) zag))) (vC (.int 4))))) (zaG (zbn 2 (cF zbI (zab (vSh 0) (zab (b2 zbe (vC (.int 1)) (b2 zbF (cF zaF (zab (vSh 0) (zab (vC (.int 22)) zag))) (vC (.int 10)))) (zab (vSh 1) (zab (vC (.int 7)) zag)))))) (zaG (zbn 3 (zax (szF (zab (vC (.str "benches")) (zab (vC (.str "steps")) (zab (vC (.str "jobs")) (zab (vC (.str "setups")) (zab (vC (.str "links")) (zab (vC (.str "stocks")) (zab (vC (.str "horizon")) zag)))))))))) (zaG (zeh (itF (b2 zbe (slF (vSh 0) (pS (vC (.int 23))) (pS (vC (.int 53)))) (zax (szF (zab (vC (.int 0)) (zab (vC (.int 6)) zag)))))) (za3 4) (zaG (zbn 5 (slF (zax (szF (zab (b2 zbF (vSh 4) (vC (.int 7))) (zab (b2 zbF (b2 zcJ (vSh 4) (vC (.int 7))) (vC (.int 7))) zag)))) pN (pS (b2 zbe (vC (.int 1)) (b2 zbF (b2 zcJ (vSh 4) (vC (.int 49))) (vC (.int 2))))))) (zaG (zeB 6 (zlH (vSh 2))) (zaG (zeh (itF (vSh 5)) (za3 7) (zfQ 6 (vSh 7) (cF zaP (zab (vSh 7) (zab (vSh 2) (zab (b2 zcJ (vSh 4) (vC (.int 98))) zag)))))) (zaG (zbn 8 (b2 ixD (vSh 3) (b2 zk4 (cF zq9 (zab (zax (za0 (itF (vSh 5)) (za3 0) tT (b2 zbF (b2 zbe (vSh 0) (vC (.int 1))) (vC (.int 7))) [none])) zag)) (vC (.int 1))))) (sIf (bwT 6 (toB (b2 neA (cF zaT (zab (vSh 6) zag)) (vSh 8)))) (zbk (vC (.bl false))) zca)))))) (zbk (b2 eqD (cF zaT (zab (vSh 2) zag)) (vC (.str "none")))))))) :=
  (zaf (zaN 1 zez.nd (zaw (DO.de (zai (zaa zae (zaa zae (zaa (ziA zae zae) (zaa (zaL zae (zbc (dC c__law_cell hr (zaa (zac 0) (zaa zae zad)) ln2) zae)) zad)))))) (zbc (dC c__law_cell hr (zaa (zac 0) (zaa zae zad)) ln2) zae))) (zaf (zaN 2 zez.nd (dC c__law_lists hr (zaa (zac 0) (zaa (zaL zae (zbc (dC c__law_cell hr (zaa (zac 0) (zaa zae zad)) ln2) zae)) (zaa (zac 1) (zaa zae zad)))) ln4)) (zaf (zaN 3 zez.nd (DO.de (zai (zaa zay (zaa zay (zaa zay (zaa zay (zaa zay (zaa zay (zaa zay zad)))))))))) (zaf (zdh PassesOwn.never rfl (zbb (zaL (zb2 (zac 0) (zcu zae) (zcu zae)) (DO.de (zai (zaa zae (zaa zae zad)))))) (zaC 4 zez.nd) (zaf (zaN 5 zez.nd (zb2 (DO.de (zai (zaa (zbc (zac 4) zae) (zaa (zbc (zdv (zac 4) zae) zae) zad)))) zcE (zcu (zaL zae (zbc (zdv (zac 4) zae) zae))))) (zaf (zcG 6 zez.nd (zpQ rfl B.z_list (zac 2))) (zaf (zdh PassesOwn.never rfl (zbb (zac 5)) (zaC 7 zez.nd) (zam (znA 6 (dC c__law_bad hr (zaa (zac 7) (zaa (zac 2) (zaa (zdv (zac 4) zae) zad))) ln3) (zac 7)))) (zaf (zaN 8 zez.nd (zaw (zac 3) (zmg (zaI (zpZ rfl) rfl B.z_min (by rfl) (zaa (DO.de (zcn rfl (CompScope.of rfl rfl) (FvOk.of (N':=["_law_part"]) (fv:=[none]) rfl) (zbb (zac 5)) ⟨fun _ _ _ _ _=>⟨(zaC 0 (show (["_law_part"]:List Str).Nodup by decide +kernel)),zaV,(zbc (zaL (zac 0) zae) zae)⟩⟩)) zad)) zae))) (zam (zbD (zpK 6 (zce (ziC (zrr hr)) (dC c__law_refused hr (zaa (zac 6) zad) ln1) (zac 8) (zby _))) (zam (zaE zbU)) zaK))))))) (zam (zaE (zd2 zdP (dC c__law_refused hr (zaa (zac 2) zad) ln1) zay (zby _))))))))
end Law
end
section
namespace Law
open PySem L2 PySem.Spec PyProof.Rows
def zaF:FQ:=zgt
def zaj:FQ:=zeR
def zbu:FQ:=zfx
def zat:FQ:=zgr
def zbm:FQ:=zd4 zaj zbu zat
def zbH:FQ:=zfw zaj zat
def zbY:FQ:=zgs zaj zat
def zbv:FQ:=zeQ zaj
def zbJ:FQ:=zfz zaj
def zbt:FQ:=zeP zaj zat
def zbI:FQ:=zfy zaF zbm zbH zbY zbv zbJ zbt
def zaH:FQ:=zbE
def zaP:FQ:=zcM zaH
def zb4:FQ:=zfa
def zak:FQ:=zeq zb4
def zal:FQ:=zfb
def zb7:FQ:=zfe zak zal
def zan:FQ:=zgn
def zbG:FQ:=zfv zb7 zan
def zaz:FQ:=ziS
def zb8:FQ:=zff zbG zaz zal
def zah:FQ:=zcC
def zaX:FQ:=zeN zb8 zan zah
def zau:FQ:=zer zaz
def zcK:FQ:=zh1 zak zau zal
def zco:FQ:=zhh zcK zan zah
def zcv:FQ:=zgm zaz zal zco
def zbg:FQ:=zgp zcv zan zah
def zc2:FQ:=zkd zaz zal zak zau zan
def zbr:FQ:=zhi zc2 zan zah
def zb6:FQ:=zfd zau zal zak zaz
def za4:FQ:=zfu zb6 zan zah
def zcw:FQ:=zgo zau zal zak
def zbh:FQ:=zgq zcw zan zah
def zbO:FQ:=zes zak zau zal
def zbl:FQ:=zeO zbO zan zah
def zb5:FQ:=zfc zaz zal zak zbl
def zbd:FQ:=zft zb5 zan zah
def zaB:FQ:=zdy zak zaX zbg zbr za4 zbh zbd
def zda:Nat->FQ
 | 0=>fun _=>none
 | n+1=>zdb (zda n)
def zbP:FQ:=zda 8
def zaS:FQ:=zdS zaB zbP
def zbi:FQ:=zet zaS
def zaT:FQ:=zdc zbi
def zp2:FQ:=zrW zaF zbI zaP zaT
end Law
end
section
namespace Law
open PySem L2
theorem i2:zjf "int" "int"=some true:=rfl
theorem i3:zjf "int" "bool"=some false:=rfl
theorem i5:zjf "bool" "bool"=some true:=rfl
theorem k1:zjf "list" "list"=some true:=rfl
theorem k2:zjf "tuple" "list"=some false:=rfl
theorem k3:zjf "tuple" "tuple"=some true:=rfl
theorem k4:zjf "str" "list"=some false:=rfl
theorem k5:zjf "str" "tuple"=some false:=rfl
theorem k6:zjf "int" "list"=some false:=rfl
theorem k7:zjf "int" "tuple"=some false:=rfl
theorem k8:zjf "bool" "list"=some false:=rfl
theorem k9:zjf "bool" "tuple"=some false:=rfl
theorem k10:zjf "NoneType" "list"=some false:=rfl
theorem k11:zjf "NoneType" "tuple"=some false:=rfl
theorem sz1:(1<=sizeLine)=True:=by simp [sizeLine]
theorem sz2:(1+1<=sizeLine)=True:=by simp [sizeLine]
theorem sz3:(1+1+1<=sizeLine)=True:=by simp [sizeLine]
theorem sz4:(1+1+1+1<=sizeLine)=True:=by simp [sizeLine]
theorem sz5:(1+1+1+1+1<=sizeLine)=True:=by simp [sizeLine]
theorem sz6:(1+1+1+1+1+1<=sizeLine)=True:=by simp [sizeLine]
theorem sz7:(1+1+1+1+1+1+1<=sizeLine)=True:=by simp [sizeLine]
section
variable {x0 x1 x2 x3 x4:D} {r:List D}
theorem zdQ {α:Type} (l:List α) (n:Nat):atI l (n:Int)=l[n]?:=by
 unfold atI ixN
 rw [qX (by omega)]
 by_cases h:n < l.length
 ·rw [qX (by omega)];simp
 ·rw [qY (by omega)];simp;omega
theorem zje:ixD (.tup (x0::r)) (.int 0)=some x0:=zdQ _ 0
theorem zmI:ixD (.tup (x0::x1::r)) (.int 1)=some x1:=zdQ _ 1
theorem zrm:ixD (.tup (x0::x1::x2::r)) (.int 2)=some x2:=zdQ _ 2
theorem zr9:ixD (.tup (x0::x1::x2::x3::r)) (.int 3)=some x3:=zdQ _ 3
theorem zrl:ixD (.tup (x0::x1::x2::x3::x4::r)) (.int 4)=some x4:=zdQ _ 4
end
theorem zpT {fe:FE} {r:za5} {f:D->D}:∀ {xs:List D} {a:Option Slot},(∀ x∈xs,fe (oS x::r)=some (f x))->zgE (za3 0) tT fe xs (a::r)=some (xs.map f)
 | [],_,_=>rfl
 | x::xs,a,h=>by
  have h1:=h x qf
  have ih:=zpT (xs:=xs) (a:=oS x) fun y hy=>h y (qg _ hy)
  simp only [zgE,za3,List.set_cons_zero,qa,tT,if_true,h1,ih,qd,ql]
theorem zmv:∀ {l:List D},(∀ x∈l,x=.bl true)->∃ bs:List Bool,zqc l=some bs/\bs.all id=true
 | [],_=>⟨[],rfl,rfl⟩
 | x::r,h=>by
  obtain ⟨bs,h1,h2⟩:=zmv (l:=r) fun y hy=>h y (qg _ hy)
  have hx:=h x qf
  subst hx
  exact ⟨true::bs,by simp [zqc,h1],by simpa using h2⟩
theorem zch {fi:FA} {fe:FE} {fv:List (Option Nat)} {ρ r:za5} {a:Option Slot} {xs:List D} (h1:fi ρ=some xs) (h2:xs.length<=sizeLine) (h3:zeI fv ρ=a::r) (h:∀ x∈xs,fe (oS x::r)=some (.bl true)) :
  cF ziR (zab (zax (za0 fi (za3 0) tT fe fv)) zag) ρ=some (.bl true):=by
 have c:=zpT (a:=a) (f:=fun _=>.bl true) h
 obtain ⟨bs,e1,e2⟩:=zmv (l:=xs.map fun _=>D.bl true) (by simp)
 simp only [cF,zab,zag,zax,za0,h1,qa,qX h2,h3,c,qd,ziR,e1]
 simpa using e2
theorem zcd {fi:FA} {fe:FE} {fv:List (Option Nat)} {ρ r:za5} {a:Option Slot} {xs:List D} {f:D->D} (h1:fi ρ=some xs) (h2:xs.length<=sizeLine) (h3:zeI fv ρ=a::r) (h:∀ x∈xs,fe (oS x::r)=some (f x)) :
  zax (za0 fi (za3 0) tT fe fv) ρ=some (.lst (xs.map f)):=by
 simp only [zax,za0,h1,qa,qX h2,h3,zpT (a:=a) h,qd]
theorem zcQ {gg:FG} {body:FS} {xs:List D} {ρ:za5} (I:Nat->za5->Prop) (h0:I 0 ρ) (hs:∀ i x ρ,xs[i]?=some x->I i ρ->∃ ρ1 ρ2,gg x ρ=some ρ1/\body ρ1=some (.nx,ρ2)/\I (i+1) ρ2) :
  ∃ ρ',zjZ gg body xs ρ=some (.nx,ρ')/\I xs.length ρ':=by
 have key:∀ (ys:List D) (k:Nat) (ρ:za5),xs.drop k=ys->I k ρ->∃ ρ',zjZ gg body ys ρ=some (.nx,ρ')/\I (k+ys.length) ρ':=by
  intro ys
  induction ys with
  | nil=>intro k ρ _ hk;exact ⟨ρ,rfl,hk⟩
  | cons y r ih =>
   intro k ρ hd hk
   have hy:xs[k]?=some y:=by
    have:(xs.drop k)[0]?=some y:=by rw [hd];rfl
    simpa using this
   obtain ⟨ρ1,ρ2,h1,h2,h3⟩:=hs k y ρ hy hk
   have hd':xs.drop (k+1)=r:=by rw [← List.drop_drop,hd];rfl
   obtain ⟨ρ',h4,h5⟩:=ih (k+1) ρ2 hd' h3
   refine ⟨ρ',?_,by rw [qh];rwa [show k+1+r.length=k+(r.length+1) by omega] at h5⟩
   simp only [zjZ,h1,qa,h2,h4]
 obtain ⟨ρ',h1,h2⟩:=key xs 0 ρ rfl h0
 exact ⟨ρ',h1,by rwa [Nat.zero_add] at h2⟩
theorem zrS:(2:Int) ^ 62=4611686018427387904:=by decide +kernel
theorem zoH {i j:Int} (h:0<=i/\i<=1000000/\0<=j/\j<=1000000):zoI [.int i,.int j]=some ((List.range (j - i).toNat).map fun k:Nat=>D.int (i+k)):=by
 unfold zoI
 rw [zrS]
 exact qX ⟨by omega,by omega,by omega,by omega⟩
theorem zfS {j:Int} (h:0<=j/\j<=1000000):zjF [.int j]=some ((List.range j.toNat).map fun i:Nat=>D.int (0+i)):=by
 unfold zjF
 rw [zrS]
 exact qX ⟨by omega,by omega⟩
theorem zg8 {g:List D->Option (List D)} {fr:FA} {ρ:za5} {ds r:List D} (h1:fr ρ=some ds) (h2:g ds=some r):itR g fr ρ=some r:=by
 unfold itR;rw [h1];exact h2
theorem zaA {g:D->D->Option D} {fa fb:FE} {ρ:za5} {x y z:D} (h1:fa ρ=some x) (h2:fb ρ=some y) (h3:g x y=some z):b2 g fa fb ρ=some z:=by
 unfold b2;rw [h1,qa,h2,qa];exact h3
theorem za6 {g:FQ} {fr:FA} {ρ:za5} {ds:List D} {z:D} (h1:fr ρ=some ds) (h2:g ds=some z):cF g fr ρ=some z:=by
 unfold cF;rw [h1];exact h2
theorem zap {f:FE} {fr:FA} {ρ:za5} {d:D} {ds:List D} (h1:f ρ=some d) (h2:fr ρ=some ds):zab f fr ρ=some (d::ds):=by
 unfold zab;rw [h1,qa,h2];rfl
theorem zaM {ρ:za5}:zag ρ=some []:=rfl
theorem znY {n:Nat} {g:FS} {ds:List D} {d:D} {ρ':za5} (h:g (ds.map (fun d=>some (Slot.sh d))++List.replicate n none)=some (.rt d,ρ')):zcj n g ds=some d:=by
 unfold zcj;rw [h];rfl
theorem zaZ {n:Nat} {g:FS} {ds:List D} {d:D} (ρ:za5) {ρ':za5} (e:ds.map (fun d=>some (Slot.sh d))++List.replicate n none=ρ) (h:g ρ=some (.rt d,ρ')):zcj n g ds=some d:=by
 subst e;exact znY h
theorem zaY {f:FE} {ρ:za5} {d:D} (h:f ρ=some d):zbk f ρ=some (.rt d,ρ):=by unfold zbk;rw [h];rfl
theorem zaU {f:FE} {ρ:za5} {b:Bool} (h:f ρ=some (.bl b)):toB f ρ=some b:=by unfold toB;rw [h];rfl
theorem zbz {A:FE} {X E:FS} {ρ:za5} (hA:A ρ=some (.bl true)):zaG (sIf (zcc (toB A)) X zca) E ρ=E ρ:=by
 simp only [zaG,sIf,zcc,zaU hA,qd,qa,Bool.not_true,qp,if_false,zca]
theorem zdL {A B:FE} {X E:FS} {ρ:za5} (hA:A ρ=some (.bl true)) (hB:B ρ=some (.bl true)):zaG (sIf (orT (zcc (toB A)) (zcc (toB B))) X zca) E ρ=E ρ:=by
 simp only [zaG,sIf,orT,zcc,zaU hA,zaU hB,qd,qa,Bool.not_true,qp,if_false,zca]
theorem zrs {A B C:FE} {X E:FS} {ρ:za5} (hA:A ρ=some (.bl true)) (hB:B ρ=some (.bl true)) (hC:C ρ=some (.bl true)):zaG (sIf (orT (zcc (toB A)) (orT (zcc (toB B)) (zcc (toB C)))) X zca) E ρ=E ρ:=by
 simp only [zaG,sIf,orT,zcc,zaU hA,zaU hB,zaU hC,qd,qa,Bool.not_true,qp,if_false,zca]
theorem zon {A B:FE} {ρ:za5} (hA:A ρ=some (.bl true)) (hB:B ρ=some (.bl true)):zd3 A B ρ=some (.bl true):=by
 simp only [zd3,hA,hB,qa]
theorem zaD {i:Nat} {f:FE} {g:FS} {ρ:za5} {d:D} (h:f ρ=some d):zaG (zbn i f) g ρ=g (ρ.set i (oS d)):=by
 simp only [zaG,zbn,h,qd,qa]
theorem zkT (i:Int):zb4 [.int i]=some (.bl true):=by
 simp only [zb4,zfa,zcj,zbk,zd3,zr6,cF,zab,zag,vSh,vC,zgC,tyD,ql,qM,qo,qP,List.replicate,qb,qa,qd,Bool.not_false,i2,i3]
theorem zbq (i a b:Int) (h:a<=i/\i<=b):zak [.int i,.int a,.int b]=some (.bl true):=by
 simp only [zak,zeq,zkT,zcj,zbk,zd3,cF,zab,zag,vSh,chD,leD,ql,qM,qo,qP,List.replicate,qb,qc,qa,qd,qQ h.1,qQ h.2]
theorem zc7 (l:List D) (a b:Int) (h:a<=l.length/\(l.length:Int)<=b):zan [.lst l,.int a,.int b]=some (.bl true):=by
 simp only [zan,zgn,zcj,zbk,zd3,cF,zab,zag,vSh,vC,chD,zgC,tyD,zdu,leD,ql,qM,qo,qP,List.replicate,qb,qc,qa,qd,k1,qQ h.1,qQ h.2]
theorem zfE (l:List D) (n:Int) (h:(l.length:Int)=n):zal [.tup l,.int n]=some (.bl true):=by
 simp only [zal,zfb,zcj,zbk,zd3,cF,zab,zag,vSh,vC,b2,zgC,tyD,zdu,eqD,eqS,ql,qM,qo,qP,List.replicate,qb,qc,qa,qd,k3,qQ h]
section
variable {a b c d e:D}
theorem zr2:zal [.tup [a,b],.int 2]=some (.bl true):=zfE _ _ rfl
theorem ztk:zal [.tup [a,b,c],.int 3]=some (.bl true):=zfE _ _ rfl
theorem ztI:zal [.tup [a,b,c,d],.int 4]=some (.bl true):=zfE _ _ rfl
theorem ztj:zal [.tup [a,b,c,d,e],.int 5]=some (.bl true):=zfE _ _ rfl
end
def dIv (p:Int×Int):D:=.tup [.int p.1,.int p.2]
theorem znP (p:Int×Int) (h:Int) (h1:0<=p.1) (h2:p.1 < p.2) (h3:p.2<=h):zb7 [dIv p,.int h]=some (.bl true):=by
 simp only [zb7,zfe,dIv,zcj,zaG,sIf,zbk,zca,orT,zcc,toB,cF,zab,zag,vSh,vC,b2,ltD,zje,zmI,ql,qM,qo,qP,List.replicate,qb,qc,qa,qd,if_false,Bool.not_true,qp,zr2,zbq p.1 0 h ⟨h1,by omega⟩,zbq p.2 0 h ⟨by omega,h3⟩,qQ h2]
def az (c:Nat):Bool:=!ltS ⟨#[c]⟩ "a" && !ltS "z" ⟨#[c]⟩
theorem zs9 {c:Nat} (h:az c=true):c<=122:=by
 have z:("z":Str)=⟨#[122]⟩:=by decide +kernel
 unfold az ltS at h
 rw [z] at h
 simp only [Bool.and_eq_true,Bool.not_eq_true',decide_eq_false_iff_not] at h
 have h2:=h.2
 rcases Nat.lt_or_ge 122 c with q | q
 ·exact absurd (show ([122]:List Nat) < [c] from List.Lex.rel q) h2
 ·exact q
theorem znK (c:Nat) (r:za5):chD leD leD (vC (.str "a")) (vSh 0) (vC (.str "z")) (oS (.str ⟨#[c]⟩)::r)=some (.bl (az c)):=by
 simp only [chD,vC,vSh,qb,qa,leD,az]
 cases ltS ⟨#[c]⟩ "a" <;> simp
def za8 (x:Str):Bool:=decide (1<=x.length) && decide (x.length<=8) && x.cps.toList.all az
theorem zlw {x:Str} (h:za8 x=true):1<=x.length/\x.length<=8:=by
 unfold za8 at h
 simp only [Bool.and_eq_true,decide_eq_true_eq] at h
 exact h.1
theorem zjO {x:Str} (h:za8 x=true):∀ c∈x.cps.toList,az c=true:=by
 unfold za8 at h
 simp only [Bool.and_eq_true,List.all_eq_true] at h
 exact h.2
theorem zdJ {x:Str} (h:za8 x=true):zaz [.str x]=some (.bl true):=by
 obtain ⟨h1,h2⟩:=zlw h
 have hz:x.length<=sizeLine:=by unfold sizeLine;omega
 have hl:(x.cps.toList.map fun c=>D.str ⟨#[c]⟩).length<=sizeLine:=by simpa [Str.length] using hz
 have e1:decide ((1:Int)<=(x.length:Nat))=true:=qQ (by omega)
 have e2:decide (((x.length:Nat):Int)<=8)=true:=qQ (by omega)
 have ha:=zch (fi:=itS (vSh 0)) (fe:=chD leD leD (vC (.str "a")) (vSh 0) (vC (.str "z"))) (fv:=[none]) (ρ:=[oS (.str x)]) (r:=[]) (a:=none) (xs:=x.cps.toList.map fun c=>D.str ⟨#[c]⟩)
  (by simp [itS,vSh,zk8]) hl rfl (fun y hy=>by
   obtain ⟨c,hc,rfl⟩:=List.mem_map.mp hy
   rw [znK,zjO h c hc])
 refine znY (ρ':=[oS (.str x)]) ((zdL ?_ ?_).trans (zaY ha))
 ·rfl
 ·show chD leD leD (vC (.int 1)) (cF zdu (zab (vSh 0) zag)) (vC (.int 8)) [oS (.str x)]=_
  simp only [cF,zab,zag,vSh,vC,chD,zdu,leD,qb,qa,qd,qX hz,e1,e2]
theorem zjB {x:Str} (h:za8 x=true):PyData.strOk x=true:=by
 unfold PyData.strOk
 rw [Array.all_eq_true']
 intro c hc
 have:=zs9 (zjO h c (by simpa using hc))
 exact qQ (by omega)
theorem zhw:∀ (ns:List Str),zkq (ns.map D.str)=some (ns.map PyData.str)
 | []=>by simp [zkq]
 | x::r=>by simp [zkq,pdD,zhw r]
theorem zeH:∀ {ns:List Str},(∀ x∈ns,za8 x=true)->PyData.canLayAll0 (ns.map PyData.str)=true
 | [],_=>by simp [PyData.canLayAll0]
 | x::r,h=>by
  simp only [ql,PyData.canLayAll0,PyData.canLay0,zjB (h x qf),Bool.true_and]
  exact zeH fun y hy=>h y (qg _ hy)
theorem zkc (x:Str):∀ (ns:List Str),((ns.map PyData.str).any fun z=>PyData.eqv z (.str x))=decide (x∈ns)
 | []=>by simp
 | y::r=>by
  have ih:=zkc x r
  rw [ql,List.any_cons,ih]
  simp only [PyData.eqv]
  by_cases e:y=x
  ·subst e;simp
  ·have:x≠y:=fun z=>e z.symm
   simp [e,this]
theorem zpx {x:Str} {ns:List Str} (hx:za8 x=true) (hn:∀ y∈ns,za8 y=true):zrq (.str x) (.lst (ns.map D.str))=some (.bl (decide (x∈ns))):=by
 have sh:SeqAt.shaped (.str x)=true:=by simp [SeqAt.shaped,PyData.canLay0,zjB hx,PyData.depth]
 simp only [zrq,inX,pdD,zhw,qd,qa,sh,zeH hn,and_self,if_true,zkc]
theorem zde {x:Str} {ns:List Str} (hx:x∈ns) (hn:∀ y∈ns,za8 y=true):zau [.str x,.lst (ns.map D.str)]=some (.bl true):=by
 simp only [zau,zer,zcj,zbk,zd3,cF,zab,zag,vSh,b2,ql,qM,qo,qP,List.replicate,qb,qc,qa,qd,zdJ (hn x hx),zpx (hn x hx) hn,qQ hx]
theorem zj4 {κ:Type} [DecidableEq κ] {l:List κ} (h:l.Nodup):ST.dd l=l:=by
 have key:∀ (l a:List κ),(a++l).Nodup->l.foldl (fun a k=>if k∈a then a else a++[k]) a=a++l:=by
  intro l
  induction l with
  | nil=>intro a _;simp
  | cons x r ih =>
   intro a hn
   have hx:x∉a:=by
    intro z
    rw [List.nodup_append] at hn
    exact hn.2.2 x z x qf rfl
   rw [List.foldl_cons,qY hx,ih (a++[x]) (by simpa using hn)]
   simp
 simpa [ST.dd] using key l [] (by simpa using h)
theorem zdX:∀ (ns:List Str),zfB (ns.map D.str)=some (ns.map Sum.inr)
 | []=>by simp [zfB]
 | x::r=>by simp [zfB,znD,zdX r]
theorem zci {ns:List Str} (h:ns.Nodup) (hl:ns.length<=300):zah [.lst (ns.map D.str)]=some (.bl true):=by
 have hd:(ns.map (Sum.inr:Str->Key)).Nodup:=List.Pairwise.map _ (fun a b hab z=>hab (Sum.inr.inj z)) h
 simp only [zah,zcC,zcj,zbk,cF,zab,zag,vSh,b1,b2,zdu,eqD,eqS,ql,qM,qo,qP,List.replicate,qb,qa,qd,ze3,qe,qX hl,zdX,zj4 hd]
 simp
theorem zfg:∀ (ts:List (List Str)),zd5 (ts.map fun t=>.tup (t.map D.str))=some (ts.map fun t=>t.map Sum.inr)
 | []=>by simp [zd5]
 | t::r=>by simp [zd5,zdX,zfg r]
theorem zfH {ts:List (List Str)} (h:ts.Nodup) (hl:ts.length<=300):zah [.lst (ts.map fun t=>.tup (t.map D.str))]=some (.bl true):=by
 have inj:∀ a b:List Str,a.map (Sum.inr:Str->Key)=b.map Sum.inr->a=b:=fun a b z=>(List.map_inj_right (fun x y q=>Sum.inr.inj q)).mp z
 have hd:(ts.map fun t=>t.map (Sum.inr:Str->Key)).Nodup:=List.Pairwise.map _ (fun a b hab z=>hab (inj a b z)) h
 cases ts with
 | nil=>simp only [zah,zcC,zcj,zbk,cF,zab,zag,vSh,b1,b2,zdu,eqD,eqS,ql,qM,qo,qP,List.replicate,qb,qa,qd,qk,ze3,zfB,ST.dd];simp
 | cons t r =>
  have e:zfB ((t::r).map fun t=>D.tup (t.map D.str))=none:=by simp [zfB,znD]
  simp only [zah,zcC,zcj,zbk,b2,b1,vSh,ql,qM,qo,qP,List.replicate,qb,qa,ze3,cF,zab,zag,zdu,qd]
  rw [qX (by simpa using hl)]
  have e':=e
  rw [ql] at e'
  rw [e']
  have t':=zfg (t::r)
  rw [ql] at t'
  rw [t']
  rw [qd,zj4 hd]
  simp [eqD,eqS]
end Law
end
section
namespace Law
open PySem L2
structure BenchT where
 nm:Str
 br:List (Int×Int)
structure StepT where
 nm:Str
 kd:Str
 ws:List (Str×Int)
structure JobT where
 nm:Str
 ea:Int
 du:Int
 od:Bool
 ms:List Str
structure SetT where
 b:Str
 p:Str
 q:Str
 n:Int
structure LinkT where
 a:Str
 b:Str
 g:Int
structure StockT where
 nm:Str
 lo:Int
 hi:Int
 tk:List (Str×Int)
 pt:List (Str×Int)
def dW (w:Str×Int):D:=.tup [.str w.1,.int w.2]
def zaJ (b:BenchT):D:=.tup [.str b.nm,.lst (b.br.map dIv)]
def zaW (s:StepT):D:=.tup [.str s.nm,.str s.kd,.lst (s.ws.map dW)]
def zbZ (j:JobT):D:=.tup [.str j.nm,.int j.ea,.int j.du,.bl j.od,.lst (j.ms.map D.str)]
def zc9 (u:SetT):D:=.tup [.str u.b,.str u.p,.str u.q,.int u.n]
def zb3 (l:LinkT):D:=.tup [.str l.a,.str l.b,.int l.g]
def zbA (k:StockT):D:=.tup [.str k.nm,.int k.lo,.int k.hi,.lst (k.tk.map dW),.lst (k.pt.map dW)]
structure GoodB (h:Int) (b:BenchT):Prop where
 nm:za8 b.nm=true
 len:b.br.length<=10
 iv:∀ p∈b.br,0<=p.1/\p.1 < p.2/\p.2<=h
 gap:∀ (i:Nat) p q,b.br[i]?=some p->b.br[i+1]?=some q->p.2 < q.1
structure GoodS (bn:List Str) (h:Int) (s:StepT):Prop where
 nm:za8 s.nm=true
 kd:za8 s.kd=true
 l1:1<=s.ws.length
 l4:s.ws.length<=4
 ws:∀ w∈s.ws,w.1∈bn/\1<=w.2/\w.2<=h
 nd:(s.ws.map (·.1)).Nodup
structure GoodJ (sn:List Str) (h:Int) (j:JobT):Prop where
 nm:za8 j.nm=true
 ea:0<=j.ea/\j.ea<=h
 du:0<=j.du/\j.du<=h
 l1:1<=j.ms.length
 ln:j.ms.length<=sn.length
 ms:∀ m∈j.ms,m∈sn
structure GoodU (bn:List Str) (h:Int) (u:SetT):Prop where
 b:u.b∈bn
 p:za8 u.p=true
 q:za8 u.q=true
 n:1<=u.n/\u.n<=h
structure GoodL (sn:List Str) (h:Int) (l:LinkT):Prop where
 a:l.a∈sn
 b:l.b∈sn
 ne:l.a≠l.b
 g:0<=l.g/\l.g<=h
structure GoodA (sn:List Str) (am:List (Str×Int)):Prop where
 ln:am.length<=sn.length
 ws:∀ w∈am,w.1∈sn/\1<=w.2/\w.2<=1000000
 nd:(am.map (·.1)).Nodup
structure GoodK (sn:List Str) (k:StockT):Prop where
 nm:za8 k.nm=true
 lo:0<=k.lo/\k.lo<=k.hi
 hi:0<=k.hi/\k.hi<=1000000
 tk:GoodA sn k.tk
 pt:GoodA sn k.pt
structure Good (bs:List BenchT) (ss:List StepT) (js:List JobT) (us:List SetT) (ls:List LinkT) (ks:List StockT) (hz:Int):Prop where
 hh:1<=hz/\hz<=1000000
 bl:1<=bs.length/\bs.length<=8
 b:∀ x∈bs,GoodB hz x
 bn:(bs.map (·.nm)).Nodup
 sl:1<=ss.length/\ss.length<=40
 s:∀ x∈ss,GoodS (bs.map (·.nm)) hz x
 sn:(ss.map (·.nm)).Nodup
 jl:js.length<=40
 j:∀ x∈js,GoodJ (ss.map (·.nm)) hz x
 jn:(js.map (·.nm)).Nodup
 jm:(js.flatMap (·.ms)).Nodup
 ul:us.length<=100
 u:∀ x∈us,GoodU (bs.map (·.nm)) hz x
 un:(us.map fun u=>[u.b,u.p,u.q]).Nodup
 ll:ls.length<=100
 l:∀ x∈ls,GoodL (ss.map (·.nm)) hz x
 ln:(ls.map fun l=>[l.a,l.b]).Nodup
 kl:ks.length<=6
 k:∀ x∈ks,GoodK (ss.map (·.nm)) x
 kn:(ks.map (·.nm)).Nodup
theorem ixL (l:List D) (n:Nat):ixD (.lst l) (.int (n:Int))=l[n]?:=zdQ l n
theorem szN {n k:Nat} (h:n<=k) (hk:k<=1000):n<=sizeLine:=by unfold sizeLine;omega
section
variable {h:Int} {bn sn:List Str}
theorem zrt {br:List (Int×Int)} (len:br.length<=10) (gap:∀ (i:Nat) p q,br[i]?=some p->br[i+1]?=some q->p.2 < q.1) :
  cF ziR (zab (zax (za0 (itR zoI (zab (vC (.int 1)) (zab (cF zdu (zab (vSh 0) zag)) zag))) (za3 0) tT (b2 ltD (b2 ixD (b2 ixD (vSh 1) (b2 zk4 (vSh 0) (vC (.int 1)))) (vC (.int 1))) (b2 ixD (b2 ixD (vSh 1) (vSh 0)) (vC (.int 0)))) [none,some 0])) zag) [oS (.lst (br.map dIv)),oS (.int h)]=some (.bl true):=by
 have e0:itR zoI (zab (vC (.int 1)) (zab (cF zdu (zab (vSh 0) zag)) zag)) [oS (.lst (br.map dIv)),oS (.int h)]=some ((List.range (((br.map dIv).length:Int) - 1).toNat).map fun k:Nat=>D.int (1+k)):=by
  exact zg8 rfl (zoH (i:=1) (j:=((br.map dIv).length:Nat)) (by rw [qe];omega))
 refine zch (r:=[oS (.lst (br.map dIv))]) (a:=none) e0 ?_ rfl fun x hx=>?_
 ·simp only [qe,qS]
  exact szN (k:=10) (by omega) (by decide)
 ·obtain ⟨k,hk,rfl⟩:=List.mem_map.mp hx
  rw [List.mem_range,qe] at hk
  have hk1:k < br.length:=by omega
  have hk2:k+1 < br.length:=by omega
  have e1:br[k]?=some br[k]:=by simp [hk1]
  have e2:br[k+1]?=some br[k+1]:=by simp [hk2]
  have g:=gap k _ _ e1 e2
  have a1:ixD (.lst (br.map dIv)) (.int (1+(k:Int) - 1))=some (dIv br[k]):=by
   have:(1+(k:Int) - 1)=((k:Nat):Int):=by omega
   rw [this,ixL,qj,e1];rfl
  have a2:ixD (.lst (br.map dIv)) (.int (1+(k:Int)))=some (dIv br[k+1]):=by
   have:(1+(k:Int))=((k+1:Nat):Int):=by omega
   rw [this,ixL,qj,e2];rfl
  simp only [vSh,vC,b2,ltD,zk4,qb,qc,qa,a1,a2]
  simp only [dIv,zje,zmI,qa,qQ g]
theorem zmt {br:List (Int×Int)} (len:br.length<=10) (iv:∀ p∈br,0<=p.1/\p.1 < p.2/\p.2<=h) (gap:∀ (i:Nat) p q,br[i]?=some p->br[i+1]?=some q->p.2 < q.1) :
  zbG [.lst (br.map dIv),.int h]=some (.bl true):=by
 refine zaZ [oS (.lst (br.map dIv)),oS (.int h)] rfl ((zdL ?_ (zch (r:=[oS (.int h)]) (a:=none) (xs:=br.map dIv) rfl (by rw [qe];exact szN len (by decide)) rfl fun x hx=>?_)).trans (zaY (zrt len gap)))
 ·exact zc7 _ 0 10 ⟨by omega,by rw [qe];omega⟩
 ·obtain ⟨p,hp,rfl⟩:=List.mem_map.mp hx
  obtain ⟨h1,h2,h3⟩:=iv p hp
  exact znP p h h1 h2 h3
theorem znQ {b:BenchT} (g:GoodB h b):zb8 [zaJ b,.int h]=some (.bl true):=by
 simp only [zb8,zff,zaJ,zcj,zbk,zd3,cF,zab,zag,vSh,vC,b2,zje,zmI,ql,qM,qo,qP,List.replicate,qb,qc,qa,qd,zr2,zdJ g.nm,zmt g.len g.iv g.gap]
theorem zcq {α:Type} {f:α->D} {nm:α->Str} {xs:List α} {i:Nat} {ρ:za5} {fv:List (Option Nat)} (hf:∀ x,∃ r,f x=.tup (.str (nm x)::r)) (h1:vSh i ρ=some (.lst (xs.map f))) (h2:xs.length<=sizeLine) (h3:zeI fv ρ=[none]) :
  zax (za0 (itF (vSh i)) (za3 0) tT (b2 ixD (vSh 0) (vC (.int 0))) fv) ρ=some (.lst ((xs.map nm).map D.str)):=by
 have hc:=zcd (fi:=itF (vSh i)) (fe:=b2 ixD (vSh 0) (vC (.int 0))) (fv:=fv) (ρ:=ρ) (r:=[]) (a:=none) (xs:=xs.map f) (f:=fun d=>match d with | .tup (x::_)=>x | _=>.non) (by unfold itF;rw [h1];rfl) (by rw [qe];exact h2) h3 (fun x hx=>by
  obtain ⟨y,_,rfl⟩:=List.mem_map.mp hx
  obtain ⟨r,e⟩:=hf y
  simp only [b2,vSh,vC,qb,qa,e,zje])
 rw [hc]
 congr 2
 rw [qm,qm]
 refine List.map_congr_left fun x _=>?_
 obtain ⟨r,e⟩:=hf x
 simp [e]
theorem zhe {bs:List BenchT} (l1:1<=bs.length) (l8:bs.length<=8) (g:∀ x∈bs,GoodB h x) (nd:(bs.map (·.nm)).Nodup):zaX [.lst (bs.map zaJ),.int h]=some (.bl true):=by
 refine zaZ [oS (.lst (bs.map zaJ)),oS (.int h)] rfl ((zdL ?_ (zch (r:=[oS (.int h)]) (a:=none) (xs:=bs.map zaJ) rfl (by rw [qe];exact szN l8 (by decide)) rfl fun x hx=>?_)).trans (zaY ?_))
 ·exact zc7 _ 1 8 ⟨by rw [qe];omega,by rw [qe];omega⟩
 ·obtain ⟨p,hp,rfl⟩:=List.mem_map.mp hx
  exact znQ (g p hp)
 ·have:=zcq (i:=0) (fv:=[none]) (ρ:=[oS (.lst (bs.map zaJ)),oS (.int h)]) (f:=zaJ) (nm:=(·.nm)) (xs:=bs) (fun x=>⟨_,rfl⟩) rfl (szN l8 (by decide)) rfl
  simp only [cF,zab,zag,this,qa,qd]
  exact zci nd (by rw [qe];omega)
theorem zqe {w:Str×Int} (hb:∀ y∈bn,za8 y=true) (g:w.1∈bn/\1<=w.2/\w.2<=h):zcK [dW w,.lst (bn.map D.str),.int h]=some (.bl true):=by
 simp only [zcK,zh1,dW,zcj,zbk,zd3,cF,zab,zag,vSh,vC,b2,zje,zmI,ql,qM,qo,qP,List.replicate,qb,qc,qa,qd,zr2,zde g.1 hb,zbq w.2 1 h g.2]
theorem zor {ws:List (Str×Int)} (hb:∀ y∈bn,za8 y=true) (l1:1<=ws.length) (l4:ws.length<=4) (g:∀ w∈ws,w.1∈bn/\1<=w.2/\w.2<=h) (nd:(ws.map (·.1)).Nodup):zco [.lst (ws.map dW),.lst (bn.map D.str),.int h]=some (.bl true):=by
 refine zaZ [oS (.lst (ws.map dW)),oS (.lst (bn.map D.str)),oS (.int h)] rfl ((zdL ?_ (zch (r:=[oS (.lst (bn.map D.str)),oS (.int h)]) (a:=none) (xs:=ws.map dW) rfl (by rw [qe];exact szN l4 (by decide)) rfl fun x hx=>?_)).trans (zaY ?_))
 ·exact zc7 _ 1 4 ⟨by rw [qe];omega,by rw [qe];omega⟩
 ·obtain ⟨p,hp,rfl⟩:=List.mem_map.mp hx
  exact zqe hb (g p hp)
 ·have:=zcq (i:=0) (fv:=[none]) (ρ:=[oS (.lst (ws.map dW)),oS (.lst (bn.map D.str)),oS (.int h)]) (f:=dW) (nm:=(·.1)) (xs:=ws) (fun x=>⟨_,rfl⟩) rfl (szN l4 (by decide)) rfl
  simp only [cF,zab,zag,this,qa,qd]
  exact zci nd (by rw [qe];omega)
theorem zoy {s:StepT} (hb:∀ y∈bn,za8 y=true) (g:GoodS bn h s):zcv [zaW s,.lst (bn.map D.str),.int h]=some (.bl true):=by
 simp only [zcv,zgm,zaW,zcj,zaG,sIf,zbk,zca,orT,zcc,toB,cF,zab,zag,vSh,vC,b2,zje,zmI,zrm,ql,qM,qo,qP,List.replicate,qb,qc,qa,qd,if_false,Bool.not_true,qp,ztk,zdJ g.nm,zdJ g.kd,zor hb g.l1 g.l4 g.ws g.nd]
theorem zjC {ss:List StepT} (hb:∀ y∈bn,za8 y=true) (l1:1<=ss.length) (l4:ss.length<=40) (g:∀ s∈ss,GoodS bn h s) (nd:(ss.map (·.nm)).Nodup):zbg [.lst (ss.map zaW),.lst (bn.map D.str),.int h]=some (.bl true):=by
 refine zaZ [oS (.lst (ss.map zaW)),oS (.lst (bn.map D.str)),oS (.int h)] rfl ((zdL ?_ (zch (r:=[oS (.lst (bn.map D.str)),oS (.int h)]) (a:=none) (xs:=ss.map zaW) rfl (by rw [qe];exact szN l4 (by decide)) rfl fun x hx=>?_)).trans (zaY ?_))
 ·exact zc7 _ 1 40 ⟨by rw [qe];omega,by rw [qe];omega⟩
 ·obtain ⟨p,hp,rfl⟩:=List.mem_map.mp hx
  exact zoy hb (g p hp)
 ·have:=zcq (i:=0) (fv:=[none]) (ρ:=[oS (.lst (ss.map zaW)),oS (.lst (bn.map D.str)),oS (.int h)]) (f:=zaW) (nm:=(·.nm)) (xs:=ss) (fun x=>⟨_,rfl⟩) rfl (szN l4 (by decide)) rfl
  simp only [cF,zab,zag,this,qa,qd]
  exact zci nd (by rw [qe];omega)
end
end Law
end
section
namespace Law
open PySem L2
theorem zi7 (a b:Str):neA (.str a) (.str b)=some (.bl (!decide (a=b))):=rfl
theorem zs3 {a b c d:D}:zgS none (some 3) (.tup [a,b,c,d])=some (.tup [a,b,c]):=rfl
theorem ztA {a b c:D}:zgS none (some 2) (.tup [a,b,c])=some (.tup [a,b]):=rfl
theorem zhH {α β:Type} {f:α->List β} {m:Nat}:∀ {l:List α},(∀ x∈l,(f x).length<=m)->(l.flatMap f).length<=l.length*m
 | [],_=>by simp
 | x::r,h=>by
  have h1:=h x qf
  have h2:=zhH (l:=r) fun y hy=>h y (qg _ hy)
  rw [List.flatMap_cons,qi,qh,Nat.succ_mul]
  omega
section
variable {h:Int} {bn sn:List Str}
theorem zrh {j:JobT} (hs:∀ y∈sn,za8 y=true) (hl:sn.length<=40) (g:GoodJ sn h j):zc2 [zbZ j,.lst (sn.map D.str),.int h]=some (.bl true):=by
 refine zaZ [oS (zbZ j),oS (.lst (sn.map D.str)),oS (.int h)] rfl ((zrs ?_ ?_ ?_).trans ((zdL ?_ ?_).trans (zaY (zon ?_ (zch (r:=[oS (.lst (sn.map D.str))]) (a:=none) (xs:=j.ms.map D.str) ?_ ?_ rfl fun x hx=>?_)))))
 ·exact ztj
 ·simp only [zbZ,cF,zab,zag,vSh,vC,b2,zje,qb,qa,qd,zdJ g.nm]
 ·simp only [zbZ,cF,zab,zag,vSh,vC,b2,zgC,tyD,zr9,qb,qa,qd,i5]
 ·simp only [zbZ,cF,zab,zag,vSh,vC,b2,zmI,qb,qc,qa,qd,zbq _ 0 h g.ea]
 ·simp only [zbZ,cF,zab,zag,vSh,vC,b2,zrm,qb,qc,qa,qd,zbq _ 0 h g.du]
 ·simp only [zbZ,cF,zab,zag,vSh,vC,b2,zdu,zrl,qb,qc,qa,qd]
  exact zc7 _ _ _ ⟨by rw [qe];have:=g.l1;omega,by rw [qe,qe];have:=g.ln;omega⟩
 ·simp only [zbZ,vSh,vC,b2,itF,zf5,zrl,qb,qa]
 ·rw [qe];exact szN (qK g.ln hl) (by decide)
 ·obtain ⟨m,hm,rfl⟩:=List.mem_map.mp hx
  simp only [cF,zab,zag,vSh,qb,qc,qa,qd,zde (g.ms m hm) hs]
theorem zks {js:List JobT} {S H:Option Slot} (hl:js.length<=40) (g:∀ j∈js,j.ms.length<=40) :
  ∃ z,zjZ (za3 4) (zp7 3 (b2 ixD (vSh 4) (vC (.int 4)))) (js.map zbZ) [oS (.lst (js.map zbZ)),S,H,some (.own []),none]=some (.nx,[oS (.lst (js.map zbZ)),S,H,some (.own ((js.flatMap (·.ms)).map D.str)),z]):=by
 obtain ⟨ρ',h1,z,h2⟩:=zcQ (gg:=za3 4) (body:=zp7 3 (b2 ixD (vSh 4) (vC (.int 4)))) (xs:=js.map zbZ) (ρ:=[oS (.lst (js.map zbZ)),S,H,some (.own []),none])
  (fun i ρ=>∃ z,ρ=[oS (.lst (js.map zbZ)),S,H,some (.own (((js.take i).flatMap (·.ms)).map D.str)),z]) ⟨none,by simp⟩ (fun i x ρ hx hI=>by
   obtain ⟨z,rfl⟩:=hI
   rw [qj] at hx
   obtain ⟨j,hj,rfl⟩:=oMd hx
   have hm:j∈js:=qN hj
   have t1:((js.take i).flatMap (·.ms)).length<=(js.take i).length*40:=zhH fun y hy=>g y (List.mem_of_mem_take hy)
   have t2:(js.take i).length<=40:=by rw [qC];omega
   have t3:=g j hm
   have tk:js.take (i+1)=js.take i++[j]:=by rw [List.take_add_one,hj];rfl
   have sz:(((js.take i).flatMap (·.ms)).map D.str).length+(j.ms.map D.str).length<=sizeLine:=by
    rw [qe,qe];unfold sizeLine;omega
   refine ⟨_,[oS (.lst (js.map zbZ)),S,H,some (.own (((js.take (i+1)).flatMap (·.ms)).map D.str)),oS (zbZ j)],rfl,?_,_,rfl⟩
   have e:b2 ixD (vSh 4) (vC (.int 4)) [oS (.lst (js.map zbZ)),S,H,some (.own (((js.take i).flatMap (·.ms)).map D.str)),oS (zbZ j)]=some (.lst (j.ms.map D.str)):=by
    simp only [zbZ,vSh,vC,b2,zrl,qb,qc,qa]
   simp only [zp7,List.set_cons_zero,List.set_cons_succ,qb,qc,e,qa,qX sz,tk]
   simp)
 refine ⟨z,?_⟩
 rw [h1,h2,qe,List.take_length]
theorem zlO {js:List JobT} (hs:∀ y∈sn,za8 y=true) (hl:sn.length<=40) (l4:js.length<=40) (g:∀ j∈js,GoodJ sn h j) (nd:(js.map (·.nm)).Nodup) (nm:(js.flatMap (·.ms)).Nodup) (ml:(js.flatMap (·.ms)).length<=300):zbr [.lst (js.map zbZ),.lst (sn.map D.str),.int h]=some (.bl true):=by
 obtain ⟨z,hz⟩:=zks (js:=js) (S:=oS (.lst (sn.map D.str))) (H:=oS (.int h)) l4 fun j hj=>qK (g j hj).ln hl
 refine zaZ [oS (.lst (js.map zbZ)),oS (.lst (sn.map D.str)),oS (.int h),none,none] (ρ':=[oS (.lst (js.map zbZ)),oS (.lst (sn.map D.str)),oS (.int h),oS (.lst ((js.flatMap (·.ms)).map D.str)),z]) rfl ((zdL ?_ (zch (r:=[oS (.lst (sn.map D.str)),oS (.int h)]) (a:=none) (xs:=js.map zbZ) rfl (by rw [qe];exact szN l4 (by decide)) rfl fun x hx=>?_)).trans ?_)
 ·exact zc7 _ 0 40 ⟨by omega,by rw [qe];omega⟩
 ·obtain ⟨p,hp,rfl⟩:=List.mem_map.mp hx
  simp only [cF,zab,zag,vSh,qb,qc,qa,qd,zrh hs hl (g p hp)]
 ·have nn:=zcq (i:=0) (fv:=[none]) (ρ:=[oS (.lst (js.map zbZ)),oS (.lst (sn.map D.str)),oS (.int h),oS (.lst ((js.flatMap (·.ms)).map D.str)),z]) (f:=zbZ) (nm:=(·.nm)) (xs:=js) (fun x=>⟨_,rfl⟩) rfl (szN l4 (by decide)) rfl
  have u1:cF zah (zab (zax (za0 (itF (vSh 0)) (za3 0) tT (b2 ixD (vSh 0) (vC (.int 0))) [none])) zag) [oS (.lst (js.map zbZ)),oS (.lst (sn.map D.str)),oS (.int h),oS (.lst ((js.flatMap (·.ms)).map D.str)),z]=some (.bl true) :=
   za6 (zap nn zaM) (zci nd (by rw [qe];omega))
  have u2:cF zah (zab (vSh 3) zag) [oS (.lst (js.map zbZ)),oS (.lst (sn.map D.str)),oS (.int h),oS (.lst ((js.flatMap (·.ms)).map D.str)),z]=some (.bl true) :=
   za6 (zap rfl zaM) (zci nm ml)
  have r:=zaY (zon u1 u2)
  have z0:(0<=sizeLine)=True:=by simp
  simp only [zaG,zeB,szF,zag,qa,qd,qk,z0,if_true,List.set_cons_zero,List.set_cons_succ,zeh,itF,vSh,qb,zf5]
  rw [hz]
  simp only [qa,zfR,qb,qc,List.set_cons_zero,List.set_cons_succ]
  exact r
theorem zmS {u:SetT} (hb:∀ y∈bn,za8 y=true) (g:GoodU bn h u):zb6 [zc9 u,.lst (bn.map D.str),.int h]=some (.bl true):=by
 simp only [zb6,zfd,zc9,zcj,zaG,sIf,zbk,zca,zd3,orT,zcc,toB,cF,zab,zag,vSh,vC,b2,zje,zmI,zrm,zr9,ql,qM,qo,qP,List.replicate,qb,qc,qa,qd,if_false,Bool.not_true,qp,ztI,zde g.b hb,zdJ g.p,zdJ g.q,zbq _ 1 h g.n]
theorem zh8 {us:List SetT} (hb:∀ y∈bn,za8 y=true) (l4:us.length<=100) (g:∀ u∈us,GoodU bn h u) (nd:(us.map fun u=>[u.b,u.p,u.q]).Nodup):za4 [.lst (us.map zc9),.lst (bn.map D.str),.int h]=some (.bl true):=by
 refine zaZ [oS (.lst (us.map zc9)),oS (.lst (bn.map D.str)),oS (.int h)] rfl ((zdL ?_ (zch (r:=[oS (.lst (bn.map D.str)),oS (.int h)]) (a:=none) (xs:=us.map zc9) rfl (by rw [qe];exact szN l4 (by decide)) rfl fun x hx=>?_)).trans (zaY (za6 (zap (zcd (r:=[]) (a:=none) (xs:=us.map zc9) (f:=fun d=>match d with | .tup [a,b,c,d]=>.tup [a,b,c] | _=>.non) rfl (by rw [qe];exact szN l4 (by decide)) rfl fun x hx=>?_) zaM) ?_)))
 ·exact zc7 _ 0 100 ⟨by omega,by rw [qe];omega⟩
 ·obtain ⟨p,hp,rfl⟩:=List.mem_map.mp hx
  simp only [cF,zab,zag,vSh,qb,qc,qa,qd,zmS hb (g p hp)]
 ·obtain ⟨p,hp,rfl⟩:=List.mem_map.mp hx
  simp only [vSh,vC,slF,pN,pS,qb,qa,zc9,zs3]
 ·have:=zfH nd (by rw [qe];omega)
  rw [qm] at this ⊢
  exact this
theorem zpt {l:LinkT} (hs:∀ y∈sn,za8 y=true) (g:GoodL sn h l):zcw [zb3 l,.lst (sn.map D.str),.int h]=some (.bl true):=by
 have:=g.ne
 simp only [zcw,zgo,zb3,zcj,zaG,sIf,zbk,zca,zd3,orT,zcc,toB,cF,zab,zag,vSh,vC,b2,zje,zmI,zrm,ql,qM,qo,qP,List.replicate,qb,qc,qa,qd,if_false,Bool.not_true,Bool.not_false,qp,ztk,zde g.a hs,zde g.b hs,zi7,qL g.ne,zbq _ 0 h g.g]
theorem zjR {ls:List LinkT} (hs:∀ y∈sn,za8 y=true) (l4:ls.length<=100) (g:∀ l∈ls,GoodL sn h l) (nd:(ls.map fun l=>[l.a,l.b]).Nodup):zbh [.lst (ls.map zb3),.lst (sn.map D.str),.int h]=some (.bl true):=by
 refine zaZ [oS (.lst (ls.map zb3)),oS (.lst (sn.map D.str)),oS (.int h)] rfl ((zdL ?_ (zch (r:=[oS (.lst (sn.map D.str)),oS (.int h)]) (a:=none) (xs:=ls.map zb3) rfl (by rw [qe];exact szN l4 (by decide)) rfl fun x hx=>?_)).trans (zaY (za6 (zap (zcd (r:=[]) (a:=none) (xs:=ls.map zb3) (f:=fun d=>match d with | .tup [a,b,c]=>.tup [a,b] | _=>.non) rfl (by rw [qe];exact szN l4 (by decide)) rfl fun x hx=>?_) zaM) ?_)))
 ·exact zc7 _ 0 100 ⟨by omega,by rw [qe];omega⟩
 ·obtain ⟨p,hp,rfl⟩:=List.mem_map.mp hx
  simp only [cF,zab,zag,vSh,qb,qc,qa,qd,zpt hs (g p hp)]
 ·obtain ⟨p,hp,rfl⟩:=List.mem_map.mp hx
  simp only [vSh,vC,slF,pN,pS,qb,qa,zb3,ztA]
 ·have:=zfH nd (by rw [qe];omega)
  rw [qm] at this ⊢
  exact this
theorem zmB {w:Str×Int} (hs:∀ y∈sn,za8 y=true) (g:w.1∈sn/\1<=w.2/\w.2<=1000000):zbO [dW w,.lst (sn.map D.str)]=some (.bl true):=by
 simp only [zbO,zes,dW,zcj,zbk,zd3,cF,zab,zag,vSh,vC,b2,zje,zmI,ql,qM,qo,qP,List.replicate,qb,qc,qa,qd,zr2,zde g.1 hs,zbq w.2 1 1000000 g.2]
theorem zhf {ws:List (Str×Int)} (hs:∀ y∈sn,za8 y=true) (hl:sn.length<=40) (g:GoodA sn ws):zbl [.lst (ws.map dW),.lst (sn.map D.str)]=some (.bl true):=by
 have l4:ws.length<=40:=qK g.ln hl
 refine zaZ [oS (.lst (ws.map dW)),oS (.lst (sn.map D.str))] rfl ((zdL ?_ (zch (r:=[oS (.lst (sn.map D.str))]) (a:=none) (xs:=ws.map dW) rfl (by rw [qe];exact szN l4 (by decide)) rfl fun x hx=>?_)).trans (zaY ?_))
 ·have e:=zc7 (ws.map dW) 0 ((sn.map D.str).length:Nat) ⟨by omega,by rw [qe,qe];have:=g.ln;omega⟩
  simp only [cF,zab,zag,vSh,vC,zdu,qb,qc,qa,qd]
  exact e
 ·obtain ⟨p,hp,rfl⟩:=List.mem_map.mp hx
  simp only [cF,zab,zag,vSh,qb,qc,qa,qd,zmB hs (g.ws p hp)]
 ·have:=zcq (i:=0) (fv:=[none]) (ρ:=[oS (.lst (ws.map dW)),oS (.lst (sn.map D.str))]) (f:=dW) (nm:=(·.1)) (xs:=ws) (fun x=>⟨_,rfl⟩) rfl (szN l4 (by decide)) rfl
  exact za6 (zap this zaM) (zci g.nd (by rw [qe];omega))
theorem zmP {k:StockT} (hs:∀ y∈sn,za8 y=true) (hl:sn.length<=40) (g:GoodK sn k):zb5 [zbA k,.lst (sn.map D.str)]=some (.bl true):=by
 simp only [zb5,zfc,zbA,zcj,zaG,sIf,zbk,zca,zd3,orT,zcc,toB,cF,zab,zag,vSh,vC,b2,zje,zmI,zrm,zr9,zrl,ql,qM,qo,qP,List.replicate,qb,qc,qa,qd,if_false,Bool.not_true,qp,ztj,zdJ g.nm,zbq _ 0 1000000 g.hi,zbq _ 0 _ g.lo,zhf hs hl g.tk,zhf hs hl g.pt]
theorem zk5 {ks:List StockT} (hs:∀ y∈sn,za8 y=true) (hl:sn.length<=40) (l4:ks.length<=6) (g:∀ k∈ks,GoodK sn k) (nd:(ks.map (·.nm)).Nodup):zbd [.lst (ks.map zbA),.lst (sn.map D.str)]=some (.bl true):=by
 refine zaZ [oS (.lst (ks.map zbA)),oS (.lst (sn.map D.str))] rfl ((zdL ?_ (zch (r:=[oS (.lst (sn.map D.str))]) (a:=none) (xs:=ks.map zbA) rfl (by rw [qe];exact szN l4 (by decide)) rfl fun x hx=>?_)).trans (zaY ?_))
 ·exact zc7 _ 0 6 ⟨by omega,by rw [qe];omega⟩
 ·obtain ⟨p,hp,rfl⟩:=List.mem_map.mp hx
  simp only [cF,zab,zag,vSh,qb,qc,qa,qd,zmP hs hl (g p hp)]
 ·have:=zcq (i:=0) (fv:=[none]) (ρ:=[oS (.lst (ks.map zbA)),oS (.lst (sn.map D.str))]) (f:=zbA) (nm:=(·.nm)) (xs:=ks) (fun x=>⟨_,rfl⟩) rfl (szN l4 (by decide)) rfl
  exact za6 (zap this zaM) (zci nd (by rw [qe];omega))
end
section
variable {bs:List BenchT} {ss:List StepT} {js:List JobT} {us:List SetT} {ls:List LinkT} {ks:List StockT} {h:Int}
theorem Good.bnn (g:Good bs ss js us ls ks h):∀ y∈bs.map (·.nm),za8 y=true:=fun y hy=>by
 obtain ⟨b,hb,rfl⟩:=List.mem_map.mp hy
 exact (g.b b hb).nm
theorem Good.snn (g:Good bs ss js us ls ks h):∀ y∈ss.map (·.nm),za8 y=true:=fun y hy=>by
 obtain ⟨b,hb,rfl⟩:=List.mem_map.mp hy
 exact (g.s b hb).nm
theorem zlo (g:Good bs ss js us ls ks h) (ml:(js.flatMap (·.ms)).length<=300):zaB [.lst (bs.map zaJ),.lst (ss.map zaW),.lst (js.map zbZ),.lst (us.map zc9),.lst (ls.map zb3),.lst (ks.map zbA),.int h]=some .non:=by
 have hb:=g.bnn
 have hs:=g.snn
 have hl:(ss.map (·.nm)).length<=40:=by rw [qe];exact g.sl.2
 have n1:∀ z:Option Slot,zax (za0 (itF (vSh 0)) (za3 0) tT (b2 ixD (vSh 0) (vC (.int 0))) [none]) [oS (.lst (bs.map zaJ)),oS (.lst (ss.map zaW)),oS (.lst (js.map zbZ)),oS (.lst (us.map zc9)),oS (.lst (ls.map zb3)),oS (.lst (ks.map zbA)),oS (.int h),none,none]=some (.lst ((bs.map (·.nm)).map D.str)):=fun z =>
  zcq (f:=zaJ) (nm:=(·.nm)) (xs:=bs) (fun x=>⟨_,rfl⟩) rfl (szN g.bl.2 (by decide)) rfl
 have n2:zax (za0 (itF (vSh 1)) (za3 0) tT (b2 ixD (vSh 0) (vC (.int 0))) [none]) [oS (.lst (bs.map zaJ)),oS (.lst (ss.map zaW)),oS (.lst (js.map zbZ)),oS (.lst (us.map zc9)),oS (.lst (ls.map zb3)),oS (.lst (ks.map zbA)),oS (.int h),oS (.lst ((bs.map (·.nm)).map D.str)),none]=some (.lst ((ss.map (·.nm)).map D.str)) :=
  zcq (f:=zaW) (nm:=(·.nm)) (xs:=ss) (fun x=>⟨_,rfl⟩) rfl (szN g.sl.2 (by decide)) rfl
 refine zaZ [oS (.lst (bs.map zaJ)),oS (.lst (ss.map zaW)),oS (.lst (js.map zbZ)),oS (.lst (us.map zc9)),oS (.lst (ls.map zb3)),oS (.lst (ks.map zbA)),oS (.int h),none,none] rfl ((zbz ?_).trans ((zbz ?_).trans ((zaD (n1 none)).trans ((zbz ?_).trans ((zaD n2).trans ((zbz ?_).trans ((zbz ?_).trans ((zbz ?_).trans ((zbz ?_).trans (zaY rfl))))))))))
 ·exact zbq h 1 1000000 g.hh
 ·exact zhe g.bl.1 g.bl.2 g.b g.bn
 ·exact zjC hb g.sl.1 g.sl.2 g.s g.sn
 ·exact zlO hs hl g.jl g.j g.jn g.jm ml
 ·exact zh8 hb g.ul g.u g.un
 ·exact zjR hs g.ll g.l g.ln
 ·exact zk5 hs hl g.kl g.k g.kn
end
end Law
end
section
namespace Law
open PySem L2
def Pl:Nat->D->Prop
 | 0,_=>False
 | n+1,.lst l=>l.length<=sizeLine/\∀ x∈l,Pl n x
 | n+1,.tup l=>l.length<=sizeLine/\∀ x∈l,Pl n x
 | _+1,.non=>True
 | _+1,.bl _=>True
 | _+1,.int _=>True
 | _+1,.str _=>True
 | _+1,_=>False
theorem zbo {ft:FT} {X E:FS} {ρ:za5} (h:ft ρ=some false):zaG (sIf ft X zca) E ρ=E ρ:=by
 simp only [zaG,sIf,h,qa,qp,if_false,zca]
theorem zbV {ft:FT} {A B E:FS} {ρ ρ':za5} {d:D} (h:ft ρ=some true) (h2:A ρ=some (.rt d,ρ')):zaG (sIf ft A B) E ρ=some (.rt d,ρ'):=by
 simp only [zaG,sIf,h,qa,if_true,h2]
theorem zhG:∀ (n:Nat) (d:D),Pl n d->zda n [d]=some d
 | 0,_,h=>h.elim
 | n+1,.lst l,h=>by
  refine zaZ [oS (.lst l)] rfl (zbV (zaU (b:=true) ?_) (zaY ?_))
  ·simp only [cF,zab,zag,vSh,vC,zgC,tyD,qb,qa,qd,k1]
  ·have:=zcd (fi:=itF (vSh 0)) (fe:=cF (zda n) (zab (vSh 0) zag)) (fv:=[none]) (ρ:=[oS (.lst l)]) (r:=[]) (a:=none) (xs:=l) (f:=fun x=>x) rfl h.1 rfl (fun x hx=>by simp only [cF,zab,zag,vSh,qb,qa,qd,zhG n x (h.2 x hx)])
   rw [List.map_id'] at this
   exact this
 | n+1,.tup l,h=>by
  refine zaZ [oS (.tup l)] rfl ((zbo (zaU (b:=false) ?_)).trans (zbV (zaU (b:=true) ?_) (zaY (za6 (zap (d:=.lst l) ?_ zaM) rfl))))
  ·simp only [cF,zab,zag,vSh,vC,zgC,tyD,qb,qa,qd,k2]
  ·simp only [cF,zab,zag,vSh,vC,zgC,tyD,qb,qa,qd,k3]
  ·have:=zcd (fi:=itF (vSh 0)) (fe:=cF (zda n) (zab (vSh 0) zag)) (fv:=[none]) (ρ:=[oS (.tup l)]) (r:=[]) (a:=none) (xs:=l) (f:=fun x=>x) rfl h.1 rfl (fun x hx=>by simp only [cF,zab,zag,vSh,qb,qa,qd,zhG n x (h.2 x hx)])
   rw [List.map_id'] at this
   exact this
 | n+1,.non,h=>by
  show zdb (zda n) [.non]=some .non
  unfold zdb
  refine zaZ [oS .non] rfl ((zbo (zaU (b:=false) ?_)).trans ((zbo (zaU (b:=false) ?_)).trans (zaY (f:=vSh 0) rfl))) <;> simp only [cF,zab,zag,vSh,vC,zgC,tyD,qb,qa,qd,k10,k11]
 | n+1,.bl b,h=>by
  show zdb (zda n) [.bl b]=some (.bl b)
  unfold zdb
  refine zaZ [oS (.bl b)] rfl ((zbo (zaU (b:=false) ?_)).trans ((zbo (zaU (b:=false) ?_)).trans (zaY (f:=vSh 0) rfl))) <;> simp only [cF,zab,zag,vSh,vC,zgC,tyD,qb,qa,qd,k8,k9]
 | n+1,.int b,h=>by
  show zdb (zda n) [.int b]=some (.int b)
  unfold zdb
  refine zaZ [oS (.int b)] rfl ((zbo (zaU (b:=false) ?_)).trans ((zbo (zaU (b:=false) ?_)).trans (zaY (f:=vSh 0) rfl))) <;> simp only [cF,zab,zag,vSh,vC,zgC,tyD,qb,qa,qd,k6,k7]
 | n+1,.str b,h=>by
  show zdb (zda n) [.str b]=some (.str b)
  unfold zdb
  refine zaZ [oS (.str b)] rfl ((zbo (zaU (b:=false) ?_)).trans ((zbo (zaU (b:=false) ?_)).trans (zaY (f:=vSh 0) rfl))) <;> simp only [cF,zab,zag,vSh,vC,zgC,tyD,qb,qa,qd,k4,k4,k5]
theorem zhb {d:D} (h:Pl 8 d):zbP [d]=some d:=zhG 8 d h
theorem zeE {n:Nat} {α:Type} {f:α->D} {xs:List α} (hl:xs.length<=1000) (h:∀ x∈xs,Pl n (f x)):Pl (n+1) (.lst (xs.map f)) :=
 ⟨by rw [qe];exact szN hl (by decide),fun x hx=>by
  obtain ⟨y,hy,rfl⟩:=List.mem_map.mp hx
  exact h y hy⟩
theorem zqG {n:Nat} {xs:List Str} (hl:xs.length<=1000):Pl (n+2) (.lst (xs.map D.str)):=zeE hl fun x _=>(trivial:Pl (n+1) (.str x))
theorem zss {n:Nat} {xs:List (Str×Int)} (hl:xs.length<=1000):Pl (n+3) (.lst (xs.map dW)):=zeE hl fun x _=>⟨by simp [sizeLine],by
 intro y hy
 simp only [qJ,qH,or_false] at hy
 rcases hy with rfl | rfl <;> trivial⟩
theorem zm2 {n:Nat} {h:Int} {b:BenchT} (g:GoodB h b):Pl (n+4) (zaJ b):=⟨by simp [sizeLine],by
 intro y hy
 simp only [qJ,qH,or_false] at hy
 rcases hy with rfl | rfl
 ·trivial
 ·exact zeE (by have:=g.len;omega) fun x _=>⟨by simp [sizeLine],by
   intro y hy
   simp only [qJ,qH,or_false] at hy
   rcases hy with rfl | rfl <;> trivial⟩⟩
theorem zoV {n:Nat} {bn:List Str} {h:Int} {s:StepT} (g:GoodS bn h s):Pl (n+4) (zaW s):=⟨by simp [sizeLine],by
 intro y hy
 simp only [qJ,qH,or_false] at hy
 rcases hy with rfl | rfl | rfl
 ·trivial
 ·trivial
 ·exact zss (by have:=g.l4;omega)⟩
theorem zqI {n:Nat} {sn:List Str} {h:Int} {j:JobT} (hl:sn.length<=40) (g:GoodJ sn h j):Pl (n+3) (zbZ j):=⟨by simp [sizeLine],by
 intro y hy
 simp only [qJ,qH,or_false] at hy
 rcases hy with rfl | rfl | rfl | rfl | rfl
 ·trivial
 ·trivial
 ·trivial
 ·trivial
 ·exact zqG (by have:=g.ln;omega)⟩
theorem zqH {n:Nat} {u:SetT}:Pl (n+2) (zc9 u):=⟨by simp [sizeLine],by
 intro y hy
 simp only [qJ,qH,or_false] at hy
 rcases hy with rfl | rfl | rfl | rfl <;> trivial⟩
theorem zoW {n:Nat} {u:LinkT}:Pl (n+2) (zb3 u):=⟨by simp [sizeLine],by
 intro y hy
 simp only [qJ,qH,or_false] at hy
 rcases hy with rfl | rfl | rfl <;> trivial⟩
theorem zm1 {n:Nat} {sn:List Str} {k:StockT} (hl:sn.length<=40) (g:GoodK sn k):Pl (n+4) (zbA k):=⟨by simp [sizeLine],by
 intro y hy
 simp only [qJ,qH,or_false] at hy
 rcases hy with rfl | rfl | rfl | rfl | rfl
 ·trivial
 ·trivial
 ·trivial
 ·exact zss (by have:=g.tk.ln;omega)
 ·exact zss (by have:=g.pt.ln;omega)⟩
theorem zgZ {α:Type} {nm:α->Str} {f:α->D}:∀ (xs:List α),zg0 (xs.map fun x=>.tup [.str (nm x),f x])=some (xs.map fun x=>(.inr (nm x),f x))
 | []=>rfl
 | x::r=>by simp only [ql,zg0,znD,qa,zgZ r,qd]
theorem zgY {α:Type} {t:α->List Str} {f:α->D}:∀ (xs:List α),zfX (xs.map fun x=>.tup [.tup ((t x).map D.str),f x])=some (xs.map fun x=>((t x).map Sum.inr,f x))
 | []=>rfl
 | x::r=>by simp only [ql,zfX,zdX,qa,zgY r,qd]
theorem zg3 {κ:Type} [DecidableEq κ] {ps:List (κ×D)} (h:(ps.map (·.1)).Nodup):zr7 ps=ps:=by
 have key:∀ (l a:List (κ×D)),((a++l).map (·.1)).Nodup->l.foldl (fun acc kv=>zko acc kv.1 kv.2) a=a++l:=by
  intro l
  induction l with
  | nil=>intro a _;simp
  | cons x r ih =>
   intro a hn
   have hx:(a.any fun kv=>decide (kv.1=x.1))=false:=by
    rw [List.any_eq_false]
    intro y hy z
    rw [List.map_append,List.nodup_append] at hn
    exact hn.2.2 y.1 (qV hy) x.1 (by simp) (of_decide_eq_true z)
   rw [List.foldl_cons]
   have e:zko a x.1 x.2=a++[x]:=by
    unfold zko
    rw [hx]
    rfl
   rw [e,ih (a++[x]) (by simpa using hn)]
   simp
 simpa [zr7] using key ps [] (by simpa using h)
theorem zhB {β:Type}:∀ {fs:List (Str×β)} {i:Nat} {k:Str} {d:β},(fs.map (·.1)).Nodup->fs[i]?=some (k,d)->fs.lookup k=some d
 | [],i,k,d,_,h=>by simp at h
 | (a,b)::r,0,k,d,_,h=>by
  simp only [qb,Option.some.injEq,Prod.mk.injEq] at h
  obtain ⟨rfl,rfl⟩:=h
  simp [List.lookup]
 | (a,b)::r,i+1,k,d,nd,h=>by
  rw [qc] at h
  rw [ql,List.nodup_cons] at nd
  have ne:k≠a:=by
   intro z
   subst z
   exact nd.1 (qV (f:=(·.1)) (qN h))
  have hb:(k==a)=false:=by simpa using ne
  simp only [List.lookup,hb]
  exact zhB nd.2 h
theorem zhC {β:Type}:∀ {fs:List (Str×β)} {k:Str},k∉fs.map (·.1)->fs.lookup k=none
 | [],_,_=>rfl
 | (a,b)::r,k,h=>by
  rw [ql,qJ,not_or] at h
  have hb:(k==a)=false:=by simpa using h.1
  simp only [List.lookup,hb]
  exact zhC h.2
end Law
end
section
namespace Law
open PySem L2
def zmH (j:JobT) (acc:List (Key×D)) (m:Str):List (Key×D):=zko acc (.inr m) (zbZ j)
def jkv (js:List JobT):List (Key×D):=js.foldl (fun acc j=>j.ms.foldl (zmH j) acc) []
theorem zmZ {κ:Type} [DecidableEq κ] (kvs:List (κ×D)) (k:κ) (v:D):(zko kvs k v).length<=kvs.length+1:=by
 unfold zko
 split
 ·rw [qe];omega
 ·rw [qi];simp
theorem zf8 (j:JobT):∀ (ms:List Str) (acc:List (Key×D)),(ms.foldl (zmH j) acc).length<=acc.length+ms.length
 | [],acc=>by simp
 | m::r,acc=>by
  rw [List.foldl_cons]
  have h1:=zf8 j r (zmH j acc m)
  have h2:(zmH j acc m).length<=acc.length+1:=zmZ _ _ _
  rw [qh];omega
theorem zlP {m:Nat}:∀ {js:List JobT} (acc:List (Key×D)),(∀ j∈js,j.ms.length<=m)->(js.foldl (fun acc j=>j.ms.foldl (zmH j) acc) acc).length<=acc.length+js.length*m
 | [],acc,_=>by simp
 | j::r,acc,h=>by
  rw [List.foldl_cons]
  have h1:=zlP (js:=r) (j.ms.foldl (zmH j) acc) fun y hy=>h y (qg _ hy)
  have h2:=zf8 j j.ms acc
  have h3:=h j qf
  rw [qh,Nat.succ_mul];omega
def zlY (bs:List BenchT) (ss:List StepT) (js:List JobT) (us:List SetT) (ls:List LinkT) (ks:List StockT) (h:Int):List (Str×D) :=
 [("benches",.lst (bs.map zaJ)),("steps",.lst (ss.map zaW)),("jobs",.lst (js.map zbZ)),("setups",.lst (us.map zc9)),("links",.lst (ls.map zb3)),("stocks",.lst (ks.map zbA)),("horizon",.int h),
 ("bench_by_name",.dk (bs.map fun b=>(.inr b.nm,zaJ b))),("step_by_name",.dk (ss.map fun s=>(.inr s.nm,zaW s))),("setup_by_names",.dt (us.map fun u=>([u.b,u.p,u.q].map Sum.inr,.int u.n)))]
def zt9 (bs:List BenchT) (ss:List StepT) (js:List JobT) (us:List SetT) (ls:List LinkT) (ks:List StockT) (h:Int):List (Str×D):=zlY bs ss js us ls ks h++[(("job_by_step":Str),D.dk (jkv js))]
def zrK (bs:List BenchT) (ss:List StepT) (js:List JobT) (us:List SetT) (ls:List LinkT) (ks:List StockT) (h:Int):D:=.ins "Shop" (zt9 bs ss js us ls ks h)
def zg6:List Str:=["benches","steps","jobs","setups","links","stocks","horizon","bench_by_name","step_by_name","setup_by_names","job_by_step"]
theorem zjc:zg6.Nodup:=by decide +kernel
theorem zlv {α:Type} {l:List α} (h:l.Nodup) (n:Nat):(l.take n).Nodup:=List.Sublist.nodup (List.take_sublist n l) h
section
variable {fs:List (Str×D)} {f:Str} {fv:FE} {r:za5} {g:FS} {d:D}
theorem zc6 (n:Nat) (hk:zg6[n]?=some f) (hf:fs.map (·.1)=zg6.take n) (h:fv (some (.obj "Shop" fs)::r)=some d):zaG (zeC "Shop" f 0 fv) g (some (.obj "Shop" fs)::r)=g (some (.obj "Shop" (fs++[(f,d)]))::r):=by
 have hno:fs.lookup f=none:=zhC (by
  rw [hf]
  intro z
  obtain ⟨i,hi⟩:=List.getElem?_of_mem z
  have hin:i < n:=by
   rcases Nat.lt_or_ge i n with q | q
   ·exact q
   ·rw [List.getElem?_eq_none (by rw [qC];omega)] at hi;cases hi
  rw [List.getElem?_take_of_lt hin] at hi
  have:=(List.getElem?_inj (List.getElem?_eq_some_iff.mp hi).1 zjc).mp (hi.trans hk.symm)
  omega)
 have hlen:fs.length < 100:=by
  have:=congrArg List.length hf
  rw [qe,qC] at this
  have k:zg6.length=11:=rfl
  omega
 simp only [zaG,zeC,h,qa,qb,hno,hlen,and_self,if_true,List.set_cons_zero]
theorem zhy (n i:Nat) (hf:fs.map (·.1)=zg6.take n) (h:fs[i]?=some (f,d)):zgy "Shop" f 0 (some (.obj "Shop" fs)::r)=some d:=by
 have e:fs.lookup f=some d:=zhB (by rw [hf];exact zlv zjc n) h
 show (if some ("Shop":Str)=some ("Shop":Str) then fs.lookup f else none)=some d
 rw [qX rfl,e]
end
theorem zma {α:Type} {f:α->D} {nm:α->Str} {xs:List α} {fo:FE} {ρ:za5} (hf:∀ x,∃ r,f x=.tup (.str (nm x)::r)) (h1:fo ρ=some (.lst (xs.map f))) (h2:xs.length<=1000) (nd:(xs.map nm).Nodup) :
  cF ziy (zab (zax (za0 (itF fo) (za3 0) tT (zaQ (szF (zab (b2 ixD (vSh 0) (vC (.int 0))) (zab (vSh 0) zag)))) [none])) zag) ρ=some (.dk (xs.map fun x=>(.inr (nm x),f x))):=by
 have hc:=zcd (fi:=itF fo) (fe:=zaQ (szF (zab (b2 ixD (vSh 0) (vC (.int 0))) (zab (vSh 0) zag)))) (fv:=[none]) (ρ:=ρ) (r:=[]) (a:=none) (xs:=xs.map f) (f:=fun d=>.tup [match d with | .tup (x::_)=>x | _=>.non,d]) (by unfold itF;rw [h1];rfl) (by rw [qe];exact szN h2 (by decide)) rfl (fun x hx=>by
  obtain ⟨y,_,rfl⟩:=List.mem_map.mp hx
  obtain ⟨r,e⟩:=hf y
  simp only [zab,zag,vSh,vC,b2,zaQ,szF,zje,qb,qa,qd,if_true,qh,qk,Nat.zero_add,sz2,e])
 have e:(xs.map f).map (fun d=>D.tup [match d with | .tup (x::_)=>x | _=>.non,d])=xs.map fun x=>.tup [.str (nm x),f x]:=by
  rw [qm]
  refine List.map_congr_left fun x _=>?_
  obtain ⟨r,e⟩:=hf x
  simp [e]
 rw [e] at hc
 have kn:((xs.map fun x=>((.inr (nm x):Key),f x)).map (·.1)).Nodup:=by
  rw [qm]
  have:=List.Pairwise.map (S:=fun a b:Key=>a≠b) (Sum.inr:Str->Key) (fun a b hab z=>hab (Sum.inr.inj z)) nd
  rw [qm] at this
  exact this
 refine za6 (zap hc zaM) ?_
 show (if _ then _ else _)=_
 rw [qX (by rw [qe];exact h2),zgZ,qd,zg3 kn]
theorem znH {us:List SetT} {fo:FE} {ρ:za5} (h1:fo ρ=some (.lst (us.map zc9))) (h2:us.length<=1000) (nd:(us.map fun u=>[u.b,u.p,u.q]).Nodup) :
  cF zj3 (zab (zax (za0 (itF fo) (za3 0) tT (zaQ (szF (zab (slF (vSh 0) pN (pS (vC (.int 3)))) (zab (b2 ixD (vSh 0) (vC (.int 3))) zag)))) [none])) zag) ρ=some (.dt (us.map fun u=>([u.b,u.p,u.q].map Sum.inr,.int u.n))):=by
 have hc:=zcd (fi:=itF fo) (fe:=zaQ (szF (zab (slF (vSh 0) pN (pS (vC (.int 3)))) (zab (b2 ixD (vSh 0) (vC (.int 3))) zag)))) (fv:=[none]) (ρ:=ρ) (r:=[]) (a:=none) (xs:=us.map zc9) (f:=fun d=>match d with | .tup [a,b,c,d]=>.tup [.tup [a,b,c],d] | _=>.non) (by unfold itF;rw [h1];rfl) (by rw [qe];exact szN h2 (by decide)) rfl (fun x hx=>by
  obtain ⟨y,_,rfl⟩:=List.mem_map.mp hx
  simp only [zab,zag,vSh,vC,b2,zaQ,szF,slF,pN,pS,zr9,qb,qa,qd,if_true,qh,qk,Nat.zero_add,sz2,zc9,zs3])
 rw [qm] at hc
 have kn:((us.map fun u=>([u.b,u.p,u.q].map (Sum.inr:Str->Key),D.int u.n)).map (·.1)).Nodup:=by
  rw [qm]
  have inj:∀ a b:List Str,a.map (Sum.inr:Str->Key)=b.map Sum.inr->a=b:=fun a b z=>(List.map_inj_right (fun x y q=>Sum.inr.inj q)).mp z
  have:=List.Pairwise.map (S:=fun a b:List Key=>a≠b) (List.map (Sum.inr:Str->Key)) (fun a b hab z=>hab (inj a b z)) nd
  rw [qm] at this
  exact this
 refine za6 (zap hc zaM) ?_
 show (if _ then _ else _)=_
 have e:=zgY (t:=fun u:SetT=>[u.b,u.p,u.q]) (f:=fun u=>.int u.n) us
 rw [qX (by rw [qe];exact h2)]
 have e2:zfX (us.map ((fun d=>match d with | .tup [a,b,c,d]=>D.tup [.tup [a,b,c],d] | _=>.non) ∘ zc9))=some (us.map fun u=>([u.b,u.p,u.q].map Sum.inr,.int u.n)):=e
 rw [e2,qd,zg3 kn]
section
variable {bs:List BenchT} {ss:List StepT} {js:List JobT} {us:List SetT} {ls:List LinkT} {ks:List StockT} {h:Int}
theorem zga:(zlY bs ss js us ls ks h).map (·.1)=zg6.take 10:=rfl
abbrev r9 (bs:List BenchT) (ss:List StepT) (js:List JobT) (us:List SetT) (ls:List LinkT) (ks:List StockT) (h:Int) (a b:Option Slot):za5:=[oS (.lst (bs.map zaJ)),oS (.lst (ss.map zaW)),oS (.lst (js.map zbZ)),oS (.lst (us.map zc9)),oS (.lst (ls.map zb3)),oS (.lst (ks.map zbA)),oS (.int h),oS .non,a,b]
abbrev ob (bs:List BenchT) (ss:List StepT) (js:List JobT) (us:List SetT) (ls:List LinkT) (ks:List StockT) (h:Int) (kvs:List (Key×D)):Option Slot:=some (.objd "Shop" (zlY bs ss js us ls ks h) "job_by_step" kvs)
theorem zqB {j:JobT} {m:Str} {kvs:List (Key×D)} (hl:kvs.length < 100000):zc5 "Shop" "job_by_step" 0 (vSh 10) (vSh 9) (ob bs ss js us ls ks h kvs::r9 bs ss js us ls ks h (oS (zbZ j)) (oS (.str m)))=some (.nx,ob bs ss js us ls ks h (zmH j kvs m)::r9 bs ss js us ls ks h (oS (zbZ j)) (oS (.str m))):=by
 have hno:(zlY bs ss js us ls ks h).lookup ("job_by_step":Str)=none:=zhC (by rw [zga];decide +kernel)
 simp only [zc5,vSh,qb,qc,qa,znD,hno,hl,and_self,if_true,List.set_cons_zero,zmH]
theorem znr {j:JobT} {acc:List (Key×D)} {z:Option Slot} (hl:acc.length+j.ms.length < 100000):∃ z',zeh (itF (b2 ixD (vSh 9) (vC (.int 4)))) (za3 10) (zc5 "Shop" "job_by_step" 0 (vSh 10) (vSh 9)) (ob bs ss js us ls ks h acc::r9 bs ss js us ls ks h (oS (zbZ j)) z)=some (.nx,ob bs ss js us ls ks h (j.ms.foldl (zmH j) acc)::r9 bs ss js us ls ks h (oS (zbZ j)) z'):=by
 obtain ⟨ρ',h1,z',h2⟩:=zcQ (gg:=za3 10) (body:=zc5 "Shop" "job_by_step" 0 (vSh 10) (vSh 9)) (xs:=j.ms.map D.str) (ρ:=ob bs ss js us ls ks h acc::r9 bs ss js us ls ks h (oS (zbZ j)) z)
  (fun i ρ=>∃ z,ρ=ob bs ss js us ls ks h ((j.ms.take i).foldl (zmH j) acc)::r9 bs ss js us ls ks h (oS (zbZ j)) z) ⟨z,by simp⟩ (fun i x ρ hx hI=>by
   obtain ⟨z,rfl⟩:=hI
   rw [qj] at hx
   obtain ⟨m,hm,rfl⟩:=oMd hx
   have tk:j.ms.take (i+1)=j.ms.take i++[m]:=by rw [List.take_add_one,hm];rfl
   have hlen:=zf8 j (j.ms.take i) acc
   rw [qC] at hlen
   refine ⟨_,_,rfl,zqB (by omega),oS (.str m),?_⟩
   rw [tk,List.foldl_append];rfl)
 refine ⟨z',?_⟩
 have e:itF (b2 ixD (vSh 9) (vC (.int 4))) (ob bs ss js us ls ks h acc::r9 bs ss js us ls ks h (oS (zbZ j)) z)=some (j.ms.map D.str):=by
  simp only [vSh,vC,b2,itF,zf5,zrl,qb,qc,qa,zbZ]
 unfold zeh
 rw [e,qa,h1,h2,qe,List.take_length]
theorem znb (hj:js.length<=40) (hm:∀ j∈js,j.ms.length<=40):∃ z z',zjZ (za3 9) (zeh (itF (b2 ixD (vSh 9) (vC (.int 4)))) (za3 10) (zc5 "Shop" "job_by_step" 0 (vSh 10) (vSh 9))) (js.map zbZ) (ob bs ss js us ls ks h []::r9 bs ss js us ls ks h none none)=some (.nx,ob bs ss js us ls ks h (jkv js)::r9 bs ss js us ls ks h z z'):=by
 obtain ⟨ρ',h1,z,z',h2⟩:=zcQ (gg:=za3 9) (body:=zeh (itF (b2 ixD (vSh 9) (vC (.int 4)))) (za3 10) (zc5 "Shop" "job_by_step" 0 (vSh 10) (vSh 9))) (xs:=js.map zbZ) (ρ:=ob bs ss js us ls ks h []::r9 bs ss js us ls ks h none none)
  (fun i ρ=>∃ z z',ρ=ob bs ss js us ls ks h (jkv (js.take i))::r9 bs ss js us ls ks h z z') ⟨none,none,by simp [jkv]⟩ (fun i x ρ hx hI=>by
   obtain ⟨z,z',rfl⟩:=hI
   rw [qj] at hx
   obtain ⟨j,hjm,rfl⟩:=oMd hx
   have tk:js.take (i+1)=js.take i++[j]:=by rw [List.take_add_one,hjm];rfl
   have hlen:=zlP (m:=40) (js:=js.take i) [] fun y hy=>hm y (List.mem_of_mem_take hy)
   rw [qC,qk] at hlen
   have h4:=hm j (qN hjm)
   obtain ⟨w,hw⟩:=znr (bs:=bs) (ss:=ss) (js:=js) (us:=us) (ls:=ls) (ks:=ks) (h:=h) (j:=j) (acc:=jkv (js.take i)) (z:=z') (by unfold jkv;omega)
   refine ⟨_,_,rfl,hw,oS (zbZ j),w,?_⟩
   rw [tk]
   unfold jkv
   rw [List.foldl_append];rfl)
 refine ⟨z,z',?_⟩
 rw [h1,h2,qe,List.take_length]
theorem zkS {i:Nat} {f:FE} {g:FS} {ρ:za5} {d:D} (h:f ρ=some d):zaG (noXm (zbn i f)) g ρ=g (ρ.set i (oS d)):=by
 unfold zaG noXm zbn;rw [h];rfl
theorem zpg {g:FS} {ρ ρ':za5} (h:g ρ=some (.nx,ρ')):noXm g ρ=some (.nx,ρ'):=by unfold noXm;rw [h]
theorem zpw (g:Good bs ss js us ls ks h) (ml:(js.flatMap (·.ms)).length<=300):zaS [.lst (bs.map zaJ),.lst (ss.map zaW),.lst (js.map zbZ),.lst (us.map zc9),.lst (ls.map zb3),.lst (ks.map zbA),.int h]=some (zrK bs ss js us ls ks h):=by
 have hl:(ss.map (·.nm)).length<=40:=by rw [qe];exact g.sl.2
 have f1:=zhb (d:=.lst (bs.map zaJ)) (zeE (by have:=g.bl.2;omega) fun x hx=>zm2 (g.b x hx))
 have f2:=zhb (d:=.lst (ss.map zaW)) (zeE (by have:=g.sl.2;omega) fun x hx=>zoV (g.s x hx))
 have f3:=zhb (d:=.lst (js.map zbZ)) (zeE (by have:=g.jl;omega) fun x hx=>zqI hl (g.j x hx))
 have f4:=zhb (d:=.lst (us.map zc9)) (zeE (by have:=g.ul;omega) fun x hx=>zqH)
 have f5:=zhb (d:=.lst (ls.map zb3)) (zeE (by have:=g.ll;omega) fun x hx=>zoW)
 have f6:=zhb (d:=.lst (ks.map zbA)) (zeE (by have:=g.kl;omega) fun x hx=>zm1 hl (g.k x hx))
 obtain ⟨z,z',ho⟩:=znb (bs:=bs) (ss:=ss) (us:=us) (ls:=ls) (ks:=ks) (h:=h) g.jl fun j hj=>qK (g.j j hj).ln hl
 have key:∀ (G:FS) (ρ':za5),G (some (.obj "Shop" [])::[oS (.lst (bs.map zaJ)),oS (.lst (ss.map zaW)),oS (.lst (js.map zbZ)),oS (.lst (us.map zc9)),oS (.lst (ls.map zb3)),oS (.lst (ks.map zbA)),oS (.int h),none,none,none])=some (.nx,ob bs ss js us ls ks h (jkv js)::ρ') ->
   zii 3 "Shop" G [.lst (bs.map zaJ),.lst (ss.map zaW),.lst (js.map zbZ),.lst (us.map zc9),.lst (ls.map zb3),.lst (ks.map zbA),.int h]=some (zrK bs ss js us ls ks h):=fun G ρ' e=>by
  unfold zii
  show (G (some (.obj "Shop" [])::[oS (.lst (bs.map zaJ)),oS (.lst (ss.map zaW)),oS (.lst (js.map zbZ)),oS (.lst (us.map zc9)),oS (.lst (ls.map zb3)),oS (.lst (ks.map zbA)),oS (.int h),none,none,none])).bind _=_
  rw [e]
  rfl
 refine key _ (r9 bs ss js us ls ks h z z') ((zkS (za6 rfl (zlo g ml))).trans ?_)
 show zaG _ _ (some (.obj "Shop" [])::r9 bs ss js us ls ks h none none)=_
 refine (zbo (zaU (b:=false) rfl)).trans (zpg ?_)
 refine (zc6 0 rfl rfl (za6 rfl f1)).trans ?_
 refine (zc6 1 rfl rfl (za6 rfl f2)).trans ?_
 refine (zc6 2 rfl rfl (za6 rfl f3)).trans ?_
 refine (zc6 3 rfl rfl (za6 rfl f4)).trans ?_
 refine (zc6 4 rfl rfl (za6 rfl f5)).trans ?_
 refine (zc6 5 rfl rfl (za6 rfl f6)).trans ?_
 refine (zc6 6 rfl rfl (d:=.int h) rfl).trans ?_
 refine (zc6 7 rfl rfl (zma (f:=zaJ) (nm:=(·.nm)) (xs:=bs) (fun x=>⟨_,rfl⟩) (zhy 7 0 rfl rfl) (by have:=g.bl.2;omega) g.bn)).trans ?_
 refine (zc6 8 rfl rfl (zma (f:=zaW) (nm:=(·.nm)) (xs:=ss) (fun x=>⟨_,rfl⟩) (zhy 8 1 rfl rfl) (by have:=g.sl.2;omega) g.sn)).trans ?_
 refine (zc6 9 rfl rfl (znH (us:=us) (zhy 9 3 rfl rfl) (by have:=g.ul;omega) g.un)).trans ?_
 have hno:(zlY bs ss js us ls ks h).lookup ("job_by_step":Str)=none:=zhC (by rw [zga];decide +kernel)
 have hle:(zlY bs ss js us ls ks h).length < 100:=by simp [zlY]
 have e1:zp6 "Shop" "job_by_step" 0 (some (.obj "Shop" (zlY bs ss js us ls ks h))::r9 bs ss js us ls ks h none none)=some (.nx,ob bs ss js us ls ks h []::r9 bs ss js us ls ks h none none):=by
  simp only [zp6,qb,hno,hle,and_self,if_true,List.set_cons_zero]
 have e2:itF (zgy "Shop" "jobs" 0) (ob bs ss js us ls ks h []::r9 bs ss js us ls ks h none none)=some (js.map zbZ):=by
  have lk:(zlY bs ss js us ls ks h).lookup ("jobs":Str)=some (.lst (js.map zbZ)):=zhB (i:=2) (by rw [zga];exact zlv zjc 10) rfl
  have n1:("jobs":Str)≠"job_by_step":=by decide +kernel
  have e:zgy "Shop" "jobs" 0 (ob bs ss js us ls ks h []::r9 bs ss js us ls ks h none none)=some (.lst (js.map zbZ)):=by
   show (if some ("Shop":Str)=some ("Shop":Str) then (if ("jobs":Str)="job_by_step" then none else (zlY bs ss js us ls ks h).lookup ("jobs":Str)) else none)=_
   rw [qX rfl,qY n1,lk]
  unfold itF
  rw [e];rfl
 show zaG (zp6 "Shop" "job_by_step" 0) (zeh (itF (zgy "Shop" "jobs" 0)) (za3 9) (zeh (itF (b2 ixD (vSh 9) (vC (.int 4)))) (za3 10) (zc5 "Shop" "job_by_step" 0 (vSh 10) (vSh 9)))) (some (.obj "Shop" (zlY bs ss js us ls ks h))::r9 bs ss js us ls ks h none none)=_
 unfold zaG
 rw [e1,qa]
 show zeh _ _ _ _=_
 unfold zeh
 rw [e2,qa]
 exact ho
end
end Law
end
section
namespace Law
open PySem L2
theorem zf9 {ft:FT} {g g':FS} {ρ:za5} {b:Bool} (h:ft ρ=some b):sIf ft g g' ρ=if b=true then g ρ else g' ρ:=by unfold sIf;rw [h];rfl
theorem zcF {g g':FS} {ρ ρ1:za5} (h:g ρ=some (.nx,ρ1)):zaG g g' ρ=g' ρ1:=by unfold zaG;rw [h];rfl
theorem zjE {i:Nat} {f:FE} {ρ:za5} {d:D} (h:f ρ=some d):zbn i f ρ=some (.nx,ρ.set i (oS d)):=by unfold zbn;rw [h];rfl
theorem zka {i:Nat} {f:FE} {ρ:za5} {ds:List D} {d:D} (h1:ρ[i]?=some (some (.own ds))) (h2:f ρ=some d) (h3:ds.length < sizeLine):zeD i f ρ=some (.nx,ρ.set i (some (.own (ds++[d])))):=by
 unfold zeD
 rw [h1]
 show (f ρ).bind _=_
 rw [h2,qa,qX h3]
theorem zfk {i:Nat} {g:FS} {ρ:za5}:zaG (zeB i (szF zag)) g ρ=g (ρ.set i (some (.own []))):=by
 have z0:(0<=sizeLine)=True:=by simp
 simp only [zaG,zeB,szF,zag,qa,qd,qk,z0,if_true]
theorem zc0 {i:Nat} {g:FS} {ρ:za5} {ds:List D} (h1:ρ[i]?=some (some (.own ds))):zfR i g ρ=g (ρ.set i (oS (.lst ds))):=by unfold zfR;rw [h1]
theorem zfn {fi:FA} {gg:FG} {body:FS} {ρ:za5} {xs:List D} (h:fi ρ=some xs):zeh fi gg body ρ=zjZ gg body xs ρ:=by unfold zeh;rw [h];rfl
theorem zbp {a b:Int} (h:0 < b):zbF (.int a) (.int b)=some (.int (a % b)):=qX h
theorem zel {a b:Int} (h:0 < b/\b < 1073741824):zcJ (.int a) (.int b)=some (.int (a / b)):=qX h
theorem zs8:(2:Int) ^ 64=18446744073709551616:=by decide +kernel
theorem zg2 {a b:Int} (h:(-1000000000000 < a/\a < 1000000000000)\/(-1000000000000 < b/\b < 1000000000000)):zdw (.int a) (.int b)=some (.int (a*b)):=by
 show (if _ then _ else _)=_
 rw [zs8]
 exact qX (by omega)
theorem zdO (ns:List Int) (k:Nat):zaF [.scr ns,.int (k:Int)]=some (.int (ns.getD k 0)):=by
 have e:toB (b2 ltD (vSh 1) (cF zdu (zab (vSh 0) zag))) [oS (.scr ns),oS (.int k)]=some (decide (k < ns.length)):=by
  simp only [toB,cF,zab,zag,vSh,b2,zdu,ltD,qb,qc,qa,qd]
  congr 1
  exact decide_eq_decide.mpr (by omega)
 by_cases h:k < ns.length
 ·refine zaZ [oS (.scr ns),oS (.int k)] rfl (zbV (e.trans (by rw [qQ h])) (zaY ?_))
  show (atI ns (k:Int)).map D.int=_
  rw [zdQ]
  simp [List.getD,h]
 ·refine zaZ [oS (.scr ns),oS (.int k)] rfl ((zbo (e.trans (by rw [qL h]))).trans (zaY ?_))
  have:ns.getD k 0=0:=by simp [List.getD,Nat.le_of_not_lt h]
  rw [this]
  rfl
abbrev dE (c:Int) (k:Nat) (sz:List Int) (n:Int) (ds:List Int) (a b:Option Slot):za5:=[oS (.int c),oS (.int k),oS (.lst (sz.map D.int)),oS (.int n),some (.own (ds.map D.int)),a,b]
def zjk:FS:=sIf (orT (toB (b2 eqD (b2 zbF (vSh 0) (vC (.int 2))) (vC (.int 1)))) (toB (b2 eqD (vSh 3) (vC (.int 0))))) (zaG (zbn 3 (b2 zbe (b2 zbF (b2 zbe (vSh 3) (vSh 0)) (vC (.int 2147483629))) (vC (.int 48271)))) (zaG (zbn 3 (b2 zbe (vSh 3) (b2 zdw (b2 zdw (vC (.int 7919)) (b2 zbe (vSh 1) (vSh 5))) (b2 zbe (vSh 1) (vSh 5))))) (zaG (zbn 3 (b2 zbF (b2 zdw (vSh 3) (vSh 3)) (vC (.int 2147483587)))) (zeD 4 (b2 zbF (b2 zcJ (vSh 3) (vC (.int 16))) (vSh 6)))))) (zaG (zeD 4 (b2 zbF (vSh 3) (vSh 6))) (zbn 3 (b2 zcJ (vSh 3) (vSh 6))))
theorem znG {c n s:Int} {k t:Nat} {sz ds:List Int} (hk:k<=1000) (ht:t<=100) (hs:0 < s/\s < 1073741824) (hl:ds.length<=100):∃ n' d,zjk (dE c k sz n ds (oS (.int t)) (oS (.int s)))=some (.nx,dE c k sz n' (ds++[d]) (oS (.int t)) (oS (.int s)))/\0<=d/\d < s:=by
 have e1:toB (b2 eqD (b2 zbF (vSh 0) (vC (.int 2))) (vC (.int 1))) (dE c k sz n ds (oS (.int t)) (oS (.int s)))=some (decide (c % 2=1)) :=
  zaU (zaA (zaA rfl rfl (zbp (by decide))) rfl rfl)
 have e2:toB (b2 eqD (vSh 3) (vC (.int 0))) (dE c k sz n ds (oS (.int t)) (oS (.int s)))=some (decide (n=0)):=zaU (zaA rfl rfl rfl)
 have e3:orT (toB (b2 eqD (b2 zbF (vSh 0) (vC (.int 2))) (vC (.int 1)))) (toB (b2 eqD (vSh 3) (vC (.int 0)))) (dE c k sz n ds (oS (.int t)) (oS (.int s)))=some (decide (c % 2=1) || decide (n=0)):=by
  unfold orT
  rw [e1,qa,e2]
  cases decide (c % 2=1) <;> rfl
 have hsz:(ds.map D.int).length < sizeLine:=by rw [qe];unfold sizeLine;omega
 unfold zjk
 rw [zf9 e3]
 split
 ·have q1:0<=(n+c) % 2147483629:=qW _ (by decide)
  have q2:(n+c) % 2147483629 < 2147483629:=qT _ (by decide)
  have q3:0<=(k:Int)+t/\(k:Int)+t<=1100:=by omega
  have q4:0<=7919*((k:Int)+t)*((k:Int)+t):=Int.mul_nonneg (by omega) q3.1
  have q5:7919*((k:Int)+t)*((k:Int)+t)<=7919*1100*1100:=Int.mul_le_mul (by omega) q3.2 q3.1 (by decide)
  let n2:Int:=(n+c) % 2147483629+48271+7919*((k:Int)+t)*((k:Int)+t)
  refine ⟨n2*n2 % 2147483587,n2*n2 % 2147483587 / 16 % s,(zaD (zaA (zaA (zaA rfl rfl rfl) rfl (zbp (by decide))) rfl rfl)).trans ((zaD (zaA rfl (zaA (zaA rfl (zaA rfl rfl rfl) (zg2 (.inl (by decide)))) (zaA rfl rfl rfl) (zg2 (.inr (by omega)))) rfl)).trans ((zaD (zaA (zaA rfl rfl (zg2 (.inl (by omega)))) rfl (zbp (by decide)))).trans (zka rfl (zaA (zaA rfl rfl (zel (by decide))) rfl (zbp hs.1)) hsz))) |>.trans ?_,qW _ (by omega),qT _ hs.1⟩
  simp [dE]
  exact ⟨rfl,rfl⟩
 ·refine ⟨n / s,n % s,(zcF (zka rfl (zaA rfl rfl (zbp hs.1)) hsz)).trans (zjE (zaA rfl rfl (zel hs))) |>.trans ?_,qW _ (by omega),qT _ hs.1⟩
  simp [dE]
theorem zeJ {xs:List D} {i:Nat} {d:D} (h:(xs.mapIdx fun i d=>D.tup [.int i,d])[i]?=some d):∃ x,xs[i]?=some x/\d=.tup [.int i,x]:=by
 rw [List.getElem?_mapIdx] at h
 obtain ⟨x,hx,rfl⟩:=oMd h
 exact ⟨x,hx,rfl⟩
theorem zdi (c:Int) (k:Nat) (hk:k<=1000) (sz:List Int) (hs:∀ s∈sz,0 < s/\s < 1073741824) (hl:sz.length<=100) :
  ∃ ds:List Int,zaj [.int c,.int (k:Int),.lst (sz.map D.int)]=some (.lst (ds.map D.int))/\ds.length=sz.length/\∀ (i:Nat) s,sz[i]?=some s->∃ d,ds[i]?=some d/\0<=d/\d < s:=by
 obtain ⟨n0,hn0⟩:∃ n0:Int,b2 zcJ (cF zsa (zab (vSh 0) zag)) (vC (.int 2)) [oS (.int c),oS (.int k),oS (.lst (sz.map D.int)),none,none,none,none]=some (.int n0):=⟨_,zaA (za6 (zap rfl zaM) rfl) rfl (zel (by decide))⟩
 obtain ⟨ρ',h1,n,ds,a,b,h2,h3,h4⟩:=zcQ (gg:=zcX 2 (za2 (za3 5) (za2 (za3 6) zcW))) (body:=zjk) (xs:=(sz.map D.int).mapIdx fun i d=>D.tup [.int i,d]) (ρ:=dE c k sz n0 [] none none)
  (fun i ρ=>∃ n ds a b,ρ=dE c k sz n ds a b/\ds.length=i/\∀ (j:Nat) s,j < i->sz[j]?=some s->∃ d,ds[j]?=some d/\0<=d/\d < s) ⟨n0,[],none,none,rfl,rfl,fun j s hj=>by omega⟩ (fun i x ρ hx hI=>by
   obtain ⟨n,ds,a,b,rfl,hlen,hb⟩:=hI
   obtain ⟨y,hy,rfl⟩:=zeJ hx
   rw [qj] at hy
   obtain ⟨s,hsi,rfl⟩:=oMd hy
   have hi:i < sz.length:=(List.getElem?_eq_some_iff.mp hsi).1
   obtain ⟨n',d,e1,e2,e3⟩:=znG (c:=c) (n:=n) (k:=k) (t:=i) (sz:=sz) (ds:=ds) hk (by omega) (hs s (qN hsi)) (by omega)
   refine ⟨_,_,rfl,e1,n',ds++[d],_,_,rfl,by rw [qi,hlen];rfl,fun j s' hj hs'=>?_⟩
   by_cases hji:j=i
   ·subst hji
    rw [hsi] at hs'
    cases hs'
    exact ⟨d,by rw [qI (by omega),hlen,Nat.sub_self];rfl,e2,e3⟩
   ·obtain ⟨d',q1,q2⟩:=hb j s' (by omega) hs'
    exact ⟨d',by rw [qx (by omega)];exact q1,q2⟩)
 rw [List.length_mapIdx,qe] at h3 h4
 refine ⟨ds,?_,h3,fun i s hi=>h4 i s (List.getElem?_eq_some_iff.mp hi).1 hi⟩
 refine zaZ [oS (.int c),oS (.int k),oS (.lst (sz.map D.int)),none,none,none,none] rfl ((zaD hn0).trans (zfk.trans ((zcF ((zfn (xs:=(sz.map D.int).mapIdx fun i d=>D.tup [.int i,d]) rfl).trans (h1.trans (by rw [h2])))).trans ((zc0 rfl).trans (zaY (f:=vSh 4) rfl)))))
end Law
end
section
namespace Law
open PySem L2
def nm (k:Nat):Str:=match zat [.int (k:Int)] with
 | some (.str x)=>x
 | _=>⟨#[]⟩
def ztz (k:Nat):Bool:=match zat [.int (k:Int)] with
 | some (.str x)=>za8 x
 | _=>false
theorem zq7:∀ k,k < 90->ztz k=true:=by decide +kernel
theorem zio {k:Nat} (h:k < 90):zat [.int (k:Int)]=some (.str (nm k))/\za8 (nm k)=true:=by
 have:=zq7 k h
 unfold ztz at this
 unfold nm
 split at this
 ·rename_i x e
  rw [e]
  exact ⟨rfl,this⟩
 ·cases this
theorem zpk:∀ i,i < 10->∀ j,j < 10->nm i=nm j->i=j:=by decide +kernel
theorem zpj:∀ i,i < 3->∀ j,j < 3->nm (60+i)=nm (60+j)->i=j:=by decide +kernel
theorem zpi:∀ i,i < 3->∀ j,j < 3->nm (70+i)=nm (70+j)->i=j:=by decide +kernel
theorem zph:∀ i,i < 3->∀ j,j < 3->nm (80+i)=nm (80+j)->i=j:=by decide +kernel
def pqr (i:Nat):Str:=if i=0 then "p" else if i=1 then "q" else "r"
theorem zgX:∀ i,i < 3->za8 (pqr i)=true:=by decide +kernel
theorem zlj {i:Int} (h0:0<=i) (h:i < 3):ixD (.str "pqr") (.int i)=some (.str (pqr i.toNat)):=by
 have:i=0\/i=1\/i=2:=by omega
 rcases this with rfl | rfl | rfl <;> rfl
theorem zrN {xs:List D} {d:Int} (h:0<=d):zgS none (some d) (.lst xs)=some (.lst (xs.take d.toNat)):=by
 show some (D.lst (zfG xs none (some d)))=_
 unfold zfG HT.sIx
 simp only
 rw [qY (by omega),List.drop_zero,Nat.sub_zero]
 congr 2
 rw [Nat.min_def]
 split
 ·rfl
 ·rw [List.take_of_length_le (qu _),List.take_of_length_le (by omega)]
theorem zrM {xs:List D} {d:Int} (h:0<=d):zgS (some d) none (.lst xs)=some (.lst (xs.drop d.toNat)):=by
 show some (D.lst (zfG xs (some d) none))=_
 unfold zfG HT.sIx
 simp only
 rw [qY (by omega)]
 congr 2
 rw [Nat.min_def]
 split
 ·rw [List.take_of_length_le (by rw [List.length_drop];omega)]
 ·rw [List.drop_of_length_le (qu _),List.drop_of_length_le (by omega)];simp
theorem zoD {f:FE} {g:FE} {ρ:za5} {xs:List D} {d:Int} (h1:f ρ=some (.lst xs)) (h2:g ρ=some (.int d)) (h:0<=d):slF f pN (pS g) ρ=some (.lst (xs.take d.toNat)):=by
 unfold slF pN pS
 rw [h1,h2]
 exact zrN h
theorem zqq {f:FE} {g:FE} {ρ:za5} {xs:List D} {d:Int} (h1:f ρ=some (.lst xs)) (h2:g ρ=some (.int d)) (h:0<=d):slF f (pS g) pN ρ=some (.lst (xs.drop d.toNat)):=by
 unfold slF pN pS
 rw [h1,h2]
 exact zrM h
structure GoodI (h:Int) (br:List (Int×Int)):Prop where
 iv:∀ p∈br,0<=p.1/\p.1 < p.2/\p.2<=h
 gap:∀ (i:Nat) p q,br[i]?=some p->br[i+1]?=some q->p.2 < q.1
abbrev sE (rs:List (Int×Int)) (h:Int) (br:List (Int×Int)) (f:Int) (a b c d:Option Slot):za5:=[oS (.lst (rs.map dIv)),oS (.int h),some (.own (br.map dIv)),oS (.int f),a,b,c,d]
def znW:FS:=zaG (zbn 6 (b2 zbe (vSh 3) (vSh 4))) (zaG (zbn 7 (b2 zbe (b2 zbe (vSh 6) (vC (.int 1))) (vSh 5))) (sIf (toB (b2 leD (vSh 7) (vSh 1))) (zaG (zeD 2 (zaQ (szF (zab (vSh 6) (zab (vSh 7) zag))))) (zbn 3 (b2 zbe (vSh 7) (vC (.int 1))))) zca))
theorem zdm {f g:FE} {ρ:za5} {x y:D} (h1:f ρ=some x) (h2:g ρ=some y):zaQ (szF (zab f (zab g zag))) ρ=some (.tup [x,y]):=by
 simp only [zaQ,szF,zab,zag,h1,h2,qa,qd,qh,qk,Nat.zero_add,sz2,if_true]
theorem zk2 {f g e:FE} {ρ:za5} {x y z:D} (h1:f ρ=some x) (h2:g ρ=some y) (h3:e ρ=some z):zaQ (szF (zab f (zab g (zab e zag)))) ρ=some (.tup [x,y,z]):=by
 simp only [zaQ,szF,zab,zag,h1,h2,h3,qa,qd,qh,qk,Nat.zero_add,sz3,if_true]
theorem zou {f g e a:FE} {ρ:za5} {x y z w:D} (h1:f ρ=some x) (h2:g ρ=some y) (h3:e ρ=some z) (h4:a ρ=some w):zaQ (szF (zab f (zab g (zab e (zab a zag))))) ρ=some (.tup [x,y,z,w]):=by
 simp only [zaQ,szF,zab,zag,h1,h2,h3,h4,qa,qd,qh,qk,Nat.zero_add,sz4,if_true]
theorem zk1 {f g e a b:FE} {ρ:za5} {x y z w u:D} (h1:f ρ=some x) (h2:g ρ=some y) (h3:e ρ=some z) (h4:a ρ=some w) (h5:b ρ=some u):zaQ (szF (zab f (zab g (zab e (zab a (zab b zag)))))) ρ=some (.tup [x,y,z,w,u]):=by
 simp only [zaQ,szF,zab,zag,h1,h2,h3,h4,h5,qa,qd,qh,qk,Nat.zero_add,sz5,if_true]
theorem zmR (rs:List (Int×Int)) (h:Int) (hr:∀ p∈rs,0<=p.1/\0<=p.2) (hl:rs.length<=3):∃ br:List (Int×Int),zbu [.lst (rs.map dIv),.int h]=some (.lst (br.map dIv))/\br.length<=rs.length/\GoodI h br:=by
 obtain ⟨ρ',h1,br,f,a,b,c,d,h2,h3,h4,h5,h6⟩:=zcQ (gg:=zcX 2 (za2 (za3 4) (za2 (za3 5) zcW))) (body:=znW) (xs:=rs.map dIv) (ρ:=sE rs h [] 0 none none none none)
  (fun i ρ=>∃ br f a b c d,ρ=sE rs h br f a b c d/\br.length<=i/\GoodI h br/\0<=f/\∀ p∈br,p.2 < f) ⟨[],0,none,none,none,none,rfl,qu _,⟨fun p hp=>(by cases hp),fun i p q hp=>(by simp at hp)⟩,Int.le_refl _,fun p hp=>(by cases hp)⟩ (fun i x ρ hx hI=>by
   obtain ⟨br,f,a,b,c,d,rfl,hlen,hg,hf,hlt⟩:=hI
   rw [qj] at hx
   obtain ⟨p,hp,rfl⟩:=oMd hx
   obtain ⟨p1,p2⟩:=hr p (qN hp)
   have hi:i < rs.length:=(List.getElem?_eq_some_iff.mp hp).1
   have hsz:(br.map dIv).length < sizeLine:=by rw [qe];unfold sizeLine;omega
   have pre:∀ ρ2,(sIf (toB (b2 leD (vSh 7) (vSh 1))) (zaG (zeD 2 (zaQ (szF (zab (vSh 6) (zab (vSh 7) zag))))) (zbn 3 (b2 zbe (vSh 7) (vC (.int 1))))) zca) (sE rs h br f (oS (.int p.1)) (oS (.int p.2)) (oS (.int (f+p.1))) (oS (.int (f+p.1+1+p.2))))=some (.nx,ρ2)->znW (sE rs h br f (oS (.int p.1)) (oS (.int p.2)) c d)=some (.nx,ρ2):=fun ρ2 q =>
    (zaD (zaA rfl rfl rfl)).trans ((zaD (zaA (zaA rfl rfl rfl) rfl rfl)).trans q)
   have e:toB (b2 leD (vSh 7) (vSh 1)) (sE rs h br f (oS (.int p.1)) (oS (.int p.2)) (oS (.int (f+p.1))) (oS (.int (f+p.1+1+p.2))))=some (decide (f+p.1+1+p.2<=h)):=zaU (zaA rfl rfl rfl)
   by_cases hh:f+p.1+1+p.2<=h
   ·rw [qQ hh] at e
    refine ⟨_,_,rfl,pre _ ((zf9 e).trans ((qX rfl).trans ((zcF (zka rfl (zdm rfl rfl) hsz)).trans (zjE (zaA rfl rfl rfl))))),br++[(f+p.1,f+p.1+1+p.2)],f+p.1+1+p.2+1,oS (.int p.1),oS (.int p.2),oS (.int (f+p.1)),oS (.int (f+p.1+1+p.2)),?_,?_,⟨fun q hq=>?_,fun j q q' hq hq'=>?_⟩,by omega,fun q hq=>?_⟩
    ·simp [sE,dIv]
    ·rw [qi];simp;omega
    ·rcases List.mem_append.mp hq with z | z
     ·exact hg.iv q z
     ·rw [List.mem_singleton.mp z];exact ⟨by omega,by omega,hh⟩
    ·have hj:j+1 < br.length+1:=by
      have:=(List.getElem?_eq_some_iff.mp hq').1
      simpa using this
     rw [qx (by omega)] at hq
     by_cases hj2:j+1 < br.length
     ·rw [qx hj2] at hq'
      exact hg.gap j q q' hq hq'
     ·rw [qI (by omega),show j+1 - br.length=0 by omega] at hq'
      cases hq'
      have:=hlt q (qN hq)
      show q.2 < f+p.1
      omega
    ·rcases List.mem_append.mp hq with z | z
     ·have:=hlt q z;omega
     ·rw [List.mem_singleton.mp z];show f+p.1+1+p.2 < _;omega
   ·rw [qL hh] at e
    exact ⟨_,_,rfl,pre _ ((zf9 e).trans rfl),br,f,_,_,_,_,rfl,by omega,hg,hf,hlt⟩)
 rw [qe] at h3
 refine ⟨br,zaZ [oS (.lst (rs.map dIv)),oS (.int h),none,none,none,none,none,none] rfl (zfk.trans ((zaD (d:=.int 0) rfl).trans ((zcF ((zfn (xs:=rs.map dIv) rfl).trans (h1.trans (by rw [h2])))).trans ((zc0 rfl).trans (zaY (f:=vSh 2) rfl))))),h3,h4⟩
theorem zep {α:Type} {g:α->D} {xs:List α} {x:α} {i:Nat} {f:FE} {ρ:za5} (h1:ρ[i]?=some (some (.own (xs.map g)))) (h2:f ρ=some (g x)) (h3:xs.length<=1000):zeD i f ρ=some (.nx,ρ.set i (some (.own ((xs++[x]).map g)))):=by
 rw [zka h1 h2 (by rw [qe];unfold sizeLine;omega),List.map_append];rfl
theorem zlC {f g e:FE} {ρ:za5} {x y z:D} (h1:f ρ=some x) (h2:g ρ=some y) (h3:e ρ=some z):zax (szF (zab f (zab g (zab e zag)))) ρ=some (.lst [x,y,z]):=by
 simp only [zax,szF,zab,zag,h1,h2,h3,qa,qd,qh,qk,Nat.zero_add,sz3,if_true]
theorem zcl {f:FE} {ρ:za5} {ds:List Int} {n:Nat} {d:Int} (h1:f ρ=some (.lst (ds.map D.int))) (h2:ds[n]?=some d):b2 ixD f (vC (.int (n:Int))) ρ=some (.int d) :=
 zaA h1 rfl (by rw [ixL,qj,h2];rfl)
structure BenchAt (h:Int) (i:Nat) (b:BenchT):Prop where
 nm:b.nm=nm (60+i)
 len:b.br.length<=3
 good:GoodI h b.br
abbrev bE (cs:List Int) (h:Int) (bs:List BenchT) (a b c d:Option Slot):za5:=[oS (.lst (cs.map D.int)),oS (.int h),some (.own (bs.map zaJ)),a,b,c,d]
def ztC:FE:=zax (szF (zab (vC (.int 4)) (zab (vC (.int 5)) (zab (vC (.int 3)) (zab (vC (.int 7)) (zab (vC (.int 4)) (zab (vC (.int 9)) (zab (vC (.int 5)) zag))))))))
theorem zpX (ρ:za5):ztC ρ=some (.lst (([4,5,3,7,4,9,5]:List Int).map D.int)):=rfl
def zom:FS:=zaG (zbn 5 (cF zaj (zab (vSh 4) (zab (vSh 3) (zab ztC zag))))) (zaG (zbn 6 (slF (zax (szF (zab (zaQ (szF (zab (b2 ixD (vSh 5) (vC (.int 1))) (zab (b2 ixD (vSh 5) (vC (.int 2))) zag)))) (zab (zaQ (szF (zab (b2 ixD (vSh 5) (vC (.int 3))) (zab (b2 ixD (vSh 5) (vC (.int 4))) zag)))) (zab (zaQ (szF (zab (b2 ixD (vSh 5) (vC (.int 5))) (zab (b2 ixD (vSh 5) (vC (.int 6))) zag)))) zag))))) pN (pS (b2 ixD (vSh 5) (vC (.int 0)))))) (zeD 2 (zaQ (szF (zab (cF zat (zab (b2 zbe (vC (.int 60)) (vSh 3)) zag)) (zab (cF zbu (zab (vSh 6) (zab (vSh 1) zag))) zag))))))
theorem zpW {cs:List Int} {h c:Int} {bs:List BenchT} {i:Nat} {y z:Option Slot} (hi:i < 3) (hl:bs.length<=3):∃ b u v,zom (bE cs h bs (oS (.int i)) (oS (.int c)) y z)=some (.nx,bE cs h (bs++[b]) (oS (.int i)) (oS (.int c)) u v)/\BenchAt h i b:=by
 obtain ⟨ds,e,hd,hb⟩:=zdi c i (by omega) [4,5,3,7,4,9,5] (by decide) (by decide)
 obtain ⟨d0,q0,p0,_⟩:=hb 0 4 rfl
 obtain ⟨d1,q1,p1,_⟩:=hb 1 5 rfl
 obtain ⟨d2,q2,p2,_⟩:=hb 2 3 rfl
 obtain ⟨d3,q3,p3,_⟩:=hb 3 7 rfl
 obtain ⟨d4,q4,p4,_⟩:=hb 4 4 rfl
 obtain ⟨d5,q5,p5,_⟩:=hb 5 9 rfl
 obtain ⟨d6,q6,p6,_⟩:=hb 6 5 rfl
 have hrs:∀ p∈([(d1,d2),(d3,d4),(d5,d6)]:List (Int×Int)).take d0.toNat,0<=p.1/\0<=p.2:=fun p hp=>by
  have:=List.mem_of_mem_take hp
  simp only [qJ,qH,or_false] at this
  rcases this with rfl | rfl | rfl
  ·exact ⟨p1,p2⟩
  ·exact ⟨p3,p4⟩
  ·exact ⟨p5,p6⟩
 obtain ⟨br,es,hbl,hbg⟩:=zmR (([(d1,d2),(d3,d4),(d5,d6)]:List (Int×Int)).take d0.toNat) h hrs (by rw [qC];simp;omega)
 have hn:=(zio (k:=60+i) (by omega)).1
 have hn':zat [.int (60+(i:Int))]=some (.str (nm (60+i))):=by
  rw [← hn];congr 2
 refine ⟨⟨nm (60+i),br⟩,_,_,(zaD (d:=.lst (ds.map D.int)) (za6 (zap rfl (zap rfl (zap (zpX _) zaM))) e)).trans ((zaD (d:=.lst ((([(d1,d2),(d3,d4),(d5,d6)]:List (Int×Int)).take d0.toNat).map dIv)) ?_).trans (zep rfl (zdm (za6 (zap (zaA rfl rfl rfl) zaM) hn') (za6 (zap rfl (zap rfl zaM)) es)) (by omega))),rfl,by rw [qC] at hbl;simp at hbl;show br.length<=3;omega,hbg⟩
 rw [List.map_take]
 exact zoD (xs:=[dIv (d1,d2),dIv (d3,d4),dIv (d5,d6)]) (zlC (zdm (zcl rfl q1) (zcl rfl q2)) (zdm (zcl rfl q3) (zcl rfl q4)) (zdm (zcl rfl q5) (zcl rfl q6))) (zcl rfl q0) p0
theorem zjb (cs:List Int) (h:Int) (hl:cs.length<=3):∃ bs:List BenchT,zbm [.lst (cs.map D.int),.int h]=some (.lst (bs.map zaJ))/\bs.length=cs.length/\∀ (i:Nat) b,bs[i]?=some b->BenchAt h i b:=by
 obtain ⟨ρ',h1,bs,a,b,c,d,h2,h3,h4⟩:=zcQ (gg:=zcX 2 (za2 (za3 3) (za2 (za3 4) zcW))) (body:=zom) (xs:=(cs.map D.int).mapIdx fun i d=>D.tup [.int i,d]) (ρ:=bE cs h [] none none none none)
  (fun i ρ=>∃ bs a b c d,ρ=bE cs h bs a b c d/\bs.length=i/\∀ (j:Nat) b,bs[j]?=some b->BenchAt h j b) ⟨[],none,none,none,none,rfl,rfl,fun j b hj=>(by simp at hj)⟩ (fun i x ρ hx hI=>by
   obtain ⟨bs,a,b,c,d,rfl,hlen,hb⟩:=hI
   obtain ⟨y,hy,rfl⟩:=zeJ hx
   rw [qj] at hy
   obtain ⟨s,hsi,rfl⟩:=oMd hy
   have hi:i < cs.length:=(List.getElem?_eq_some_iff.mp hsi).1
   obtain ⟨b',u,v,e1,e2⟩:=zpW (cs:=cs) (h:=h) (c:=s) (bs:=bs) (i:=i) (y:=c) (z:=d) (by omega) (by omega)
   refine ⟨_,_,rfl,e1,bs++[b'],_,_,_,_,rfl,by rw [qi,hlen];rfl,fun j b'' hj=>?_⟩
   by_cases hji:j < bs.length
   ·rw [qx hji] at hj
    exact hb j b'' hj
   ·have hl2:=(List.getElem?_eq_some_iff.mp hj).1
    rw [qi,qU] at hl2
    rw [qI (by omega),show j - bs.length=0 by omega] at hj
    cases hj
    rw [show j=i by omega]
    exact e2)
 rw [List.length_mapIdx,qe] at h3
 exact ⟨bs,zaZ [oS (.lst (cs.map D.int)),oS (.int h),none,none,none,none,none] rfl (zfk.trans ((zcF ((zfn (xs:=(cs.map D.int).mapIdx fun i d=>D.tup [.int i,d]) rfl).trans (h1.trans (by rw [h2])))).trans ((zc0 rfl).trans (zaY (f:=vSh 2) rfl)))),h3,h4⟩
end Law
end
section
namespace Law
open PySem L2
def bnm (bs:List BenchT) (i:Nat):Str:=(bs.map (·.nm)).getD i ⟨#[]⟩
theorem zmu {bs:List BenchT} {i:Nat} (h:i < bs.length):bnm bs i∈bs.map (·.nm):=by
 unfold bnm
 rw [List.getD_eq_getElem?_getD,qj,qB h]
 exact qV (List.getElem_mem h)
theorem zj8 {bs:List BenchT} {ρ:za5} {f g:FE} {d:Int} (h1:f ρ=some (.lst (bs.map zaJ))) (h2:g ρ=some (.int d)) (h3:0<=d) (h4:d < bs.length):b2 ixD (b2 ixD f g) (vC (.int 0)) ρ=some (.str (bnm bs d.toNat)):=by
 obtain ⟨n,rfl⟩:=Int.eq_ofNat_of_zero_le h3
 have hd:n < bs.length:=by omega
 have e:ixD (.lst (bs.map zaJ)) (.int (n:Int))=some (zaJ bs[n]):=by
  rw [ixL,qj,qB hd]
  rfl
 refine zaA (zaA h1 h2 e) rfl ?_
 show ixD (.tup _) (.int 0)=_
 rw [zje]
 unfold bnm
 rw [Int.toNat_natCast,List.getD_eq_getElem?_getD,qj,qB hd]
 rfl
structure StepAt (bn:List Str) (h:Int) (i:Nat) (s:StepT):Prop where
 nm:s.nm=nm i
 good:GoodS bn h s
abbrev tE (cs:List Int) (bs:List BenchT) (h lo:Int) (ss:List StepT) (a b c d:Option Slot):za5:=[oS (.lst (cs.map D.int)),oS (.lst (bs.map zaJ)),oS (.int h),oS (.int lo),some (.own (ss.map zaW)),a,b,c,d]
theorem zpp {f:FE} {ρ:za5} {x:D} (h1:f ρ=some x):szF (zab f zag) ρ=some [x]:=by
 simp only [szF,zab,zag,h1,qa,qd,qh,qk,Nat.zero_add,sz1,if_true]
theorem zlB {f g e a b c:FE} {ρ:za5} {x y z w u v:D} (h1:f ρ=some x) (h2:g ρ=some y) (h3:e ρ=some z) (h4:a ρ=some w) (h5:b ρ=some u) (h6:c ρ=some v):zax (szF (zab f (zab g (zab e (zab a (zab b (zab c zag))))))) ρ=some (.lst [x,y,z,w,u,v]):=by
 simp only [zax,szF,zab,zag,h1,h2,h3,h4,h5,h6,qa,qd,qh,qk,Nat.zero_add,sz6,if_true]
theorem zhA {f g e a b c d:FE} {ρ:za5} {x y z w u v t:D} (h1:f ρ=some x) (h2:g ρ=some y) (h3:e ρ=some z) (h4:a ρ=some w) (h5:b ρ=some u) (h6:c ρ=some v) (h7:d ρ=some t):zax (szF (zab f (zab g (zab e (zab a (zab b (zab c (zab d zag)))))))) ρ=some (.lst [x,y,z,w,u,v,t]):=by
 simp only [zax,szF,zab,zag,h1,h2,h3,h4,h5,h6,h7,qa,qd,qh,qk,Nat.zero_add,sz7,if_true]
theorem zlq {i:Nat} {fr:FA} {g:FS} {ρ:za5} {ds:List D} (h:fr ρ=some ds):zaG (zeB i fr) g ρ=g (ρ.set i (some (.own ds))):=by
 simp only [zaG,zeB,h,qd,qa]
theorem zjt {f g:FT} {ρ:za5} {a b:Bool} (h1:f ρ=some a) (h2:g ρ=some b):zkM f g ρ=some (a && b):=by
 unfold zkM;rw [h1,qa,h2];cases a <;> rfl
theorem zi8 (a:Int) {h:Int} (hh:1<=h):1<=1+a % h/\1+a % h<=h:=by
 have h1:=qW a (show h≠0 by omega)
 have h2:=qT a (show 0 < h by omega)
 omega
def znV:FS:=(zaG (zbn 7 (cF zaj (zab (vSh 6) (zab (b2 zbe (vSh 5) (vC (.int 7))) (zab (zax (szF (zab (vC (.int 3)) (zab (cF zdu (zab (vSh 1) zag)) (zab (vSh 3) (zab (cF zdu (zab (vSh 1) zag)) (zab (vSh 3) (zab (vC (.int 3)) zag)))))))) zag))))) (zaG (zeB 8 (szF (zab (zaQ (szF (zab (b2 ixD (b2 ixD (vSh 1) (b2 ixD (vSh 7) (vC (.int 1)))) (vC (.int 0))) (zab (b2 zbe (vC (.int 1)) (b2 zbF (b2 ixD (vSh 7) (vC (.int 2))) (vSh 2))) zag)))) zag))) (zaG (sIf (zkM (toB (b2 eqD (b2 ixD (vSh 7) (vC (.int 0))) (vC (.int 0)))) (toB (b2 neA (b2 ixD (vSh 7) (vC (.int 3))) (b2 ixD (vSh 7) (vC (.int 1)))))) (zeD 8 (zaQ (szF (zab (b2 ixD (b2 ixD (vSh 1) (b2 ixD (vSh 7) (vC (.int 3)))) (vC (.int 0))) (zab (b2 zbe (vC (.int 1)) (b2 zbF (b2 ixD (vSh 7) (vC (.int 4))) (vSh 2))) zag))))) zca) (zfR 8 (zeD 4 (zaQ (szF (zab (cF zat (zab (vSh 5) zag)) (zab (b2 ixD (vC (.str "pqr")) (b2 ixD (vSh 7) (vC (.int 5)))) (zab (vSh 8) zag))))))))))
theorem zoz {cs:List Int} {h lo c:Int} {bs:List BenchT} {ss:List StepT} {i:Nat} {y z:Option Slot} (hh:1<=h) (hlo:0 < lo/\lo < 1000) (hi:i < 10) (hb:1<=bs.length/\bs.length<=3) (bnd:(bs.map (·.nm)).Nodup) (hl:ss.length<=10) :
  ∃ s u v,znV (tE cs bs h lo ss (oS (.int i)) (oS (.int c)) y z)=some (.nx,tE cs bs h lo (ss++[s]) (oS (.int i)) (oS (.int c)) u v)/\StepAt (bs.map (·.nm)) h i s:=by
 obtain ⟨ds,e,hd,hbd⟩:=zdi c (i+7) (by omega) [3,(bs.length:Int),lo,(bs.length:Int),lo,3] (by
  intro s hs
  simp only [qJ,qH,or_false] at hs
  rcases hs with rfl | rfl | rfl | rfl | rfl | rfl <;> omega) (by simp)
 obtain ⟨d0,q0,p0,_⟩:=hbd 0 3 rfl
 obtain ⟨d1,q1,p1,r1⟩:=hbd 1 _ rfl
 obtain ⟨d2,q2,p2,_⟩:=hbd 2 _ rfl
 obtain ⟨d3,q3,p3,r3⟩:=hbd 3 _ rfl
 obtain ⟨d4,q4,p4,_⟩:=hbd 4 _ rfl
 obtain ⟨d5,q5,p5,r5⟩:=hbd 5 3 rfl
 obtain ⟨hn,hnb⟩:=zio (k:=i) (by omega)
 have w1:(bnm bs d1.toNat)∈bs.map (·.nm):=zmu (by omega)
 have w3:(bnm bs d3.toNat)∈bs.map (·.nm):=zmu (by omega)
 have bm:∀ a b:Nat,a < bs.length->b < bs.length->bnm bs a=bnm bs b->a=b:=fun a b ha hb' hab=>by
  unfold bnm at hab
  rw [List.getD_eq_getElem?_getD,List.getD_eq_getElem?_getD,qB (by simpa using ha),qB (by simpa using hb')] at hab
  exact (List.getElem_inj bnd).mp hab
 let W1:Str×Int:=(bnm bs d1.toNat,1+d2 % h)
 let W3:Str×Int:=(bnm bs d3.toNat,1+d4 % h)
 have e7:((i:Int)+7)=((i+7:Nat):Int):=by omega
 have eD:cF zaj (zab (vSh 6) (zab (b2 zbe (vSh 5) (vC (.int 7))) (zab (zax (szF (zab (vC (.int 3)) (zab (cF zdu (zab (vSh 1) zag)) (zab (vSh 3) (zab (cF zdu (zab (vSh 1) zag)) (zab (vSh 3) (zab (vC (.int 3)) zag)))))))) zag))) (tE cs bs h lo ss (oS (.int i)) (oS (.int c)) y z)=some (.lst (ds.map D.int)):=by
  refine za6 (zap (d:=.int c) rfl (zap (d:=.int ((i:Int)+7)) (zaA rfl rfl rfl) (zap (zlB rfl (y:=.int (bs.length:Nat)) ?_ rfl (w:=.int (bs.length:Nat)) ?_ rfl rfl) zaM))) (by rw [e7];exact e) <;>
  ·refine za6 (zap rfl zaM) ?_
   show some (D.int _)=_
   rw [qe]
 have fin:∀ (ws:List (Str×Int)),GoodS (bs.map (·.nm)) h ⟨nm i,pqr d5.toNat,ws⟩->zfR 8 (zeD 4 (zaQ (szF (zab (cF zat (zab (vSh 5) zag)) (zab (b2 ixD (vC (.str "pqr")) (b2 ixD (vSh 7) (vC (.int 5)))) (zab (vSh 8) zag)))))) (tE cs bs h lo ss (oS (.int i)) (oS (.int c)) (oS (.lst (ds.map D.int))) (some (.own (ws.map dW))))=some (.nx,tE cs bs h lo (ss++[⟨nm i,pqr d5.toNat,ws⟩]) (oS (.int i)) (oS (.int c)) (oS (.lst (ds.map D.int))) (oS (.lst (ws.map dW)))):=fun ws _ =>
  (zc0 rfl).trans (zep rfl (zk2 (za6 (zap rfl zaM) hn) (zaA rfl (zcl rfl q5) (zlj p5 r5)) rfl) (by omega))
 have eW:∀ Z,szF (zab (zaQ (szF (zab (b2 ixD (b2 ixD (vSh 1) (b2 ixD (vSh 7) (vC (.int 1)))) (vC (.int 0))) (zab (b2 zbe (vC (.int 1)) (b2 zbF (b2 ixD (vSh 7) (vC (.int 2))) (vSh 2))) zag)))) zag) (tE cs bs h lo ss (oS (.int i)) (oS (.int c)) (oS (.lst (ds.map D.int))) Z)=some ([W1].map dW):=fun Z =>
  zpp (zdm (zj8 rfl (zcl rfl q1) p1 (by omega)) (zaA rfl (zaA (zcl rfl q2) rfl (zbp (by omega))) rfl))
 have eT:∀ Z,zkM (toB (b2 eqD (b2 ixD (vSh 7) (vC (.int 0))) (vC (.int 0)))) (toB (b2 neA (b2 ixD (vSh 7) (vC (.int 3))) (b2 ixD (vSh 7) (vC (.int 1))))) (tE cs bs h lo ss (oS (.int i)) (oS (.int c)) (oS (.lst (ds.map D.int))) Z)=some (decide (d0=0) && !decide (d3=d1)):=fun Z =>
  zjt (zaU (zaA (zcl rfl q0) rfl rfl)) (zaU (zaA (zcl rfl q3) (zcl rfl q1) rfl))
 have g1:GoodS (bs.map (·.nm)) h ⟨nm i,pqr d5.toNat,[W1]⟩:=⟨hnb,zgX _ (by omega),by simp,by simp,fun w hw=>by
  rw [List.mem_singleton.mp hw]
  exact ⟨w1,zi8 d2 hh⟩,by simp⟩
 by_cases ht:(decide (d0=0) && !decide (d3=d1))=true
 ·have hne:d3≠d1:=by
   simp only [Bool.and_eq_true,Bool.not_eq_true',decide_eq_false_iff_not] at ht
   exact ht.2
  have g2:GoodS (bs.map (·.nm)) h ⟨nm i,pqr d5.toNat,[W1]++[W3]⟩:=⟨hnb,zgX _ (by omega),by simp,by simp,fun w hw=>by
   rcases List.mem_append.mp hw with q | q
   ·rw [List.mem_singleton.mp q];exact ⟨w1,zi8 d2 hh⟩
   ·rw [List.mem_singleton.mp q];exact ⟨w3,zi8 d4 hh⟩,by
   show [bnm bs d1.toNat,bnm bs d3.toNat].Nodup
   rw [List.nodup_cons]
   refine ⟨fun q=>?_,by simp⟩
   have:=bm _ _ (by omega) (by omega) (List.mem_singleton.mp q)
   omega⟩
  exact ⟨_,_,_,(zaD eD).trans ((zlq (eW z)).trans ((zcF ((zf9 (eT _)).trans ((qX ht).trans (zep (x:=W3) rfl (zdm (zj8 rfl (zcl rfl q3) p3 (by omega)) (zaA rfl (zaA (zcl rfl q4) rfl (zbp (by omega))) rfl)) (by simp))))).trans (fin _ g2))),rfl,g2⟩
 ·exact ⟨_,_,_,(zaD eD).trans ((zlq (eW z)).trans ((zcF ((zf9 (eT _)).trans ((qY ht).trans rfl))).trans (fin _ g1))),rfl,g1⟩
theorem zlA (cs:List Int) (bs:List BenchT) (h lo:Int) (hh:1<=h) (hlo:0 < lo/\lo < 1000) (hl:cs.length<=10) (hb:1<=bs.length/\bs.length<=3) (bnd:(bs.map (·.nm)).Nodup):∃ ss:List StepT,zbH [.lst (cs.map D.int),.lst (bs.map zaJ),.int h,.int lo]=some (.lst (ss.map zaW))/\ss.length=cs.length/\∀ (i:Nat) s,ss[i]?=some s->StepAt (bs.map (·.nm)) h i s:=by
 obtain ⟨ρ',h1,ss,a,b,c,d,h2,h3,h4⟩:=zcQ (gg:=zcX 2 (za2 (za3 5) (za2 (za3 6) zcW))) (body:=znV) (xs:=(cs.map D.int).mapIdx fun i d=>D.tup [.int i,d]) (ρ:=tE cs bs h lo [] none none none none)
  (fun i ρ=>∃ ss a b c d,ρ=tE cs bs h lo ss a b c d/\ss.length=i/\∀ (j:Nat) s,ss[j]?=some s->StepAt (bs.map (·.nm)) h j s) ⟨[],none,none,none,none,rfl,rfl,fun j b hj=>(by simp at hj)⟩ (fun i x ρ hx hI=>by
   obtain ⟨ss,a,b,c,d,rfl,hlen,hb'⟩:=hI
   obtain ⟨y,hy,rfl⟩:=zeJ hx
   rw [qj] at hy
   obtain ⟨s,hsi,rfl⟩:=oMd hy
   have hi:i < cs.length:=(List.getElem?_eq_some_iff.mp hsi).1
   obtain ⟨s',u,v,e1,e2⟩:=zoz (cs:=cs) (h:=h) (lo:=lo) (c:=s) (bs:=bs) (ss:=ss) (i:=i) (y:=c) (z:=d) hh hlo (by omega) hb bnd (by omega)
   refine ⟨_,_,rfl,e1,ss++[s'],_,_,_,_,rfl,by rw [qi,hlen];rfl,fun j b'' hj=>?_⟩
   by_cases hji:j < ss.length
   ·rw [qx hji] at hj
    exact hb' j b'' hj
   ·have hl2:=(List.getElem?_eq_some_iff.mp hj).1
    rw [qi,qU] at hl2
    rw [qI (by omega),show j - ss.length=0 by omega] at hj
    cases hj
    rw [show j=i by omega]
    exact e2)
 rw [List.length_mapIdx,qe] at h3
 exact ⟨ss,zaZ [oS (.lst (cs.map D.int)),oS (.lst (bs.map zaJ)),oS (.int h),oS (.int lo),none,none,none,none,none] rfl (zfk.trans ((zcF ((zfn (xs:=(cs.map D.int).mapIdx fun i d=>D.tup [.int i,d]) rfl).trans (h1.trans (by rw [h2])))).trans ((zc0 rfl).trans (zaY (f:=vSh 4) rfl)))),h3,h4⟩
end Law
end
section
namespace Law
open PySem L2
theorem ze6:∀ (ns:List Str),PyData.depthAll (ns.map PyData.str)=0
 | []=>by simp [PyData.depthAll]
 | x::r=>by simp [PyData.depthAll,PyData.depth,ze6 r]
theorem ziU {ns:List Str} (h:∀ x∈ns,za8 x=true):SeqAt.shaped (.list (ns.map PyData.str))=true:=by
 simp [SeqAt.shaped,PyData.canLay0,zeH h,PyData.depth,ze6]
theorem zpl {ns:List Str} (h:∀ x∈ns,za8 x=true):neA (.lst (ns.map D.str)) (.lst [])=some (.bl (!ns.isEmpty)):=by
 have e0:neA (.lst (ns.map D.str)) (.lst [])=zq8 (.lst (ns.map D.str)) (.lst []):=rfl
 have s1:=ziU h
 have s2:SeqAt.shaped (.list [])=true:=by simp [SeqAt.shaped,PyData.canLay0,PyData.canLayAll0,PyData.depth,PyData.depthAll]
 have p1:pdD (.lst (ns.map D.str))=some (.list (ns.map PyData.str)):=by simp [pdD,zhw]
 have p2:pdD (.lst [])=some (.list []):=by simp [pdD,zkq]
 have q:PyData.eqv (.list (ns.map PyData.str)) (.list [])=ns.isEmpty:=by
  cases ns <;> simp [PyData.eqv,PyData.eqvAll]
 rw [e0]
 unfold zq8 eqX
 rw [p1,p2,qa,qa,qX ⟨s1,s2⟩,q]
 rfl
abbrev jE (cs:List Int) (ss:List StepT) (h:Int) (js:List JobT) (lf:List Str) (a b c d e f:Option Slot):za5:=[oS (.lst (cs.map D.int)),oS (.lst (ss.map zaW)),oS (.int h),some (.own (js.map zbZ)),oS (.lst (lf.map D.str)),a,b,c,d,e,f]
structure JInv (sn:List Str) (h:Int) (i:Nat) (js:List JobT) (lf:List Str):Prop where
 len:js.length<=i
 nd:(js.flatMap (·.ms)++lf).Nodup
 sub:∀ x∈js.flatMap (·.ms)++lf,x∈sn
 ll:lf.length<=sn.length
 good:∀ j∈js,GoodJ sn h j
 nmd:(js.map (·.nm)).Nodup
 nmk:∀ j∈js,∃ k,k < i/\j.nm=nm (70+k)
def zoc:FS:=(zaG (zbn 7 (cF zaj (zab (vSh 6) (zab (b2 zbe (vSh 5) (vC (.int 17))) (zab (zax (szF (zab (vC (.int 4)) (zab (vC (.int 3)) (zab (vC (.int 3)) (zab (vC (.int 2)) (zab (vC (.int 5)) (zab (vC (.int 7)) zag)))))))) zag))))) (zaG (zbn 8 (slF (vSh 4) pN (pS (b2 ixD (vSh 7) (vC (.int 0)))))) (zaG (zbn 4 (slF (vSh 4) (pS (b2 ixD (vSh 7) (vC (.int 0)))) pN)) (sIf (toB (b2 neA (vSh 8) (zax (szF zag)))) (zaG (zbn 9 (cF zlz (zab (vSh 2) (zab (b2 zdw (b2 ixD (vSh 7) (vC (.int 1))) (cF znq (zab (b2 eqD (b2 ixD (vSh 7) (vC (.int 2))) (vC (.int 0))) zag))) zag)))) (zaG (zbn 10 (cF zp9 (zab (vC (.int 0)) (zab (b2 zk4 (vSh 2) (b2 zdw (b2 ixD (vSh 7) (vC (.int 4))) (cF znq (zab (b2 eqD (b2 ixD (vSh 7) (vC (.int 2))) (vC (.int 1))) zag)))) zag)))) (zaG (zbn 8 (b2 zbe (slF (vSh 8) (pS (b2 zbF (b2 ixD (vSh 7) (vC (.int 5))) (vC (.int 2)))) pN) (slF (vSh 8) pN (pS (b2 zbF (b2 ixD (vSh 7) (vC (.int 5))) (vC (.int 2))))))) (zeD 3 (zaQ (szF (zab (cF zat (zab (b2 zbe (vC (.int 70)) (vSh 5)) zag)) (zab (vSh 9) (zab (vSh 10) (zab (b2 eqD (b2 ixD (vSh 7) (vC (.int 3))) (vC (.int 1))) (zab (vSh 8) zag))))))))))) zca))))
theorem zpn {h a:Int} (hh:1<=h) (ha:0<=a):∃ m,zlz [.int h,.int a]=some (.int m)/\0<=m/\m<=h:=by
 refine ⟨_,rfl,?_,?_⟩
 ·omega
 ·omega
theorem zpo {h a:Int} (hh:1<=h) (ha:a<=h):∃ m,zp9 [.int 0,.int a]=some (.int m)/\0<=m/\m<=h:=by
 refine ⟨_,rfl,?_,?_⟩
 ·omega
 ·omega
theorem zl0 {f:FE} {ρ:za5} {a c:Int} (h:f ρ=some (.int a)):∃ b:Int,cF znq (zab (b2 eqD f (vC (.int c))) zag) ρ=some (.int b)/\0<=b/\b<=1:=by
 refine ⟨if decide (a=c)=true then 1 else 0,za6 (zap (zaA h rfl rfl) zaM) rfl,?_,?_⟩ <;> split <;> decide
theorem zpu {cs:List Int} {h c:Int} {ss:List StepT} {js:List JobT} {lf:List Str} {i:Nat} {y z w v:Option Slot} (hh:1<=h) (hi:i < 3) (hs:∀ x∈ss.map (·.nm),za8 x=true) (I:JInv (ss.map (·.nm)) h i js lf) (hsl:ss.length<=40) :
  ∃ js' lf' y' z' w' v',zoc (jE cs ss h js lf (oS (.int i)) (oS (.int c)) y z w v)=some (.nx,jE cs ss h js' lf' (oS (.int i)) (oS (.int c)) y' z' w' v')/\JInv (ss.map (·.nm)) h (i+1) js' lf':=by
 obtain ⟨ds,e,hd,hbd⟩:=zdi c (i+17) (by omega) [4,3,3,2,5,7] (by decide) (by decide)
 obtain ⟨d0,q0,p0,r0⟩:=hbd 0 4 rfl
 obtain ⟨d1,q1,p1,_⟩:=hbd 1 3 rfl
 obtain ⟨d2,q2,p2,_⟩:=hbd 2 3 rfl
 obtain ⟨d3,q3,p3,_⟩:=hbd 3 2 rfl
 obtain ⟨d4,q4,p4,_⟩:=hbd 4 5 rfl
 obtain ⟨d5,q5,p5,_⟩:=hbd 5 7 rfl
 have hn:=(zio (k:=70+i) (by omega)).1
 have hnb:=(zio (k:=70+i) (by omega)).2
 have hn':zat [.int (70+(i:Int))]=some (.str (nm (70+i))):=by rw [← hn];congr 2
 have e17:((i:Int)+17)=((i+17:Nat):Int):=by omega
 generalize hsm:lf.take d0.toNat=sm
 generalize hlf:lf.drop d0.toNat=lf'
 have hlf2:lf=sm++lf':=by rw [← hsm,← hlf,List.take_append_drop]
 have hslen:sm.length<=3:=by rw [← hsm,qC];omega
 have hsml:sm.length+lf'.length=lf.length:=by rw [hlf2,qi]
 have hsn:∀ x∈sm,za8 x=true:=fun x hx=>hs x (I.sub x (qO _ (by rw [hlf2];exact List.mem_append_left _ hx)))
 have eD:cF zaj (zab (vSh 6) (zab (b2 zbe (vSh 5) (vC (.int 17))) (zab (zax (szF (zab (vC (.int 4)) (zab (vC (.int 3)) (zab (vC (.int 3)) (zab (vC (.int 2)) (zab (vC (.int 5)) (zab (vC (.int 7)) zag)))))))) zag))) (jE cs ss h js lf (oS (.int i)) (oS (.int c)) y z w v)=some (.lst (ds.map D.int)) :=
  za6 (zap (d:=.int c) rfl (zap (d:=.int ((i:Int)+17)) (zaA rfl rfl rfl) (zap (zlB rfl rfl rfl rfl rfl rfl) zaM))) (by rw [e17];exact e)
 have e8:slF (vSh 4) pN (pS (b2 ixD (vSh 7) (vC (.int 0)))) (jE cs ss h js lf (oS (.int i)) (oS (.int c)) (oS (.lst (ds.map D.int))) z w v)=some (.lst (sm.map D.str)):=by
  rw [← hsm,List.map_take]
  exact zoD rfl (zcl rfl q0) p0
 have e4:slF (vSh 4) (pS (b2 ixD (vSh 7) (vC (.int 0)))) pN (jE cs ss h js lf (oS (.int i)) (oS (.int c)) (oS (.lst (ds.map D.int))) (oS (.lst (sm.map D.str))) w v)=some (.lst (lf'.map D.str)):=by
  rw [← hlf,List.map_drop]
  exact zqq rfl (zcl rfl q0) p0
 have eT:toB (b2 neA (vSh 8) (zax (szF zag))) (jE cs ss h js lf' (oS (.int i)) (oS (.int c)) (oS (.lst (ds.map D.int))) (oS (.lst (sm.map D.str))) w v)=some (!sm.isEmpty):=zaU (zaA rfl (y:=.lst []) rfl (zpl hsn))
 by_cases hem:sm.isEmpty=true
 ·have hsm0:sm=[]:=List.isEmpty_iff.mp hem
  rw [hem] at eT
  refine ⟨js,lf',_,_,_,_,(zaD eD).trans ((zaD e8).trans ((zaD e4).trans ((zf9 eT).trans rfl))),⟨by have:=I.len;omega,?_,?_,by have:=I.ll;omega,I.good,I.nmd,fun j hj=>?_⟩⟩
  ·have:=I.nd;rw [hlf2,hsm0] at this;exact this
  ·have:=I.sub;rw [hlf2,hsm0] at this;exact this
  ·obtain ⟨k,h1,h2⟩:=I.nmk j hj
   exact ⟨k,by omega,h2⟩
 ·have hem':sm.isEmpty=false:=by simpa using hem
  rw [hem'] at eT
  have hs1:1<=sm.length:=by
   cases sm with
   | nil=>simp at hem
   | cons a b=>simp
  obtain ⟨b1,f1,f2,f3⟩:=zl0 (c:=0) (f:=b2 ixD (vSh 7) (vC (.int 2))) (ρ:=jE cs ss h js lf' (oS (.int i)) (oS (.int c)) (oS (.lst (ds.map D.int))) (oS (.lst (sm.map D.str))) w v) (zcl rfl q2)
  obtain ⟨ea,m1,m2,m3⟩:=zpn (h:=h) (a:=d1*b1) hh (Int.mul_nonneg p1 f2)
  have e9:cF zlz (zab (vSh 2) (zab (b2 zdw (b2 ixD (vSh 7) (vC (.int 1))) (cF znq (zab (b2 eqD (b2 ixD (vSh 7) (vC (.int 2))) (vC (.int 0))) zag))) zag)) (jE cs ss h js lf' (oS (.int i)) (oS (.int c)) (oS (.lst (ds.map D.int))) (oS (.lst (sm.map D.str))) w v)=some (.int ea) :=
   za6 (zap rfl (zap (zaA (zcl rfl q1) f1 (zg2 (.inr (by omega)))) zaM)) m1
  obtain ⟨b2',f4,f5,f6⟩:=zl0 (c:=1) (f:=b2 ixD (vSh 7) (vC (.int 2))) (ρ:=jE cs ss h js lf' (oS (.int i)) (oS (.int c)) (oS (.lst (ds.map D.int))) (oS (.lst (sm.map D.str))) (oS (.int ea)) v) (zcl rfl q2)
  obtain ⟨du,n1,n2,n3⟩:=zpo (h:=h) (a:=h - d4*b2') hh (by have:=Int.mul_nonneg p4 f5;omega)
  have e10:cF zp9 (zab (vC (.int 0)) (zab (b2 zk4 (vSh 2) (b2 zdw (b2 ixD (vSh 7) (vC (.int 4))) (cF znq (zab (b2 eqD (b2 ixD (vSh 7) (vC (.int 2))) (vC (.int 1))) zag)))) zag)) (jE cs ss h js lf' (oS (.int i)) (oS (.int c)) (oS (.lst (ds.map D.int))) (oS (.lst (sm.map D.str))) (oS (.int ea)) v)=some (.int du) :=
   za6 (zap rfl (zap (zaA rfl (zaA (zcl rfl q4) f4 (zg2 (.inr (by omega)))) rfl) zaM)) n1
  have t0:0<=d5 % 2:=qW _ (by decide)
  generalize htt:(d5 % 2).toNat=t
  have hrl:(sm.drop t++sm.take t).length=sm.length:=by rw [qi,List.length_drop,qC];omega
  have e8':b2 zbe (slF (vSh 8) (pS (b2 zbF (b2 ixD (vSh 7) (vC (.int 5))) (vC (.int 2)))) pN) (slF (vSh 8) pN (pS (b2 zbF (b2 ixD (vSh 7) (vC (.int 5))) (vC (.int 2))))) (jE cs ss h js lf' (oS (.int i)) (oS (.int c)) (oS (.lst (ds.map D.int))) (oS (.lst (sm.map D.str))) (oS (.int ea)) (oS (.int du)))=some (.lst ((sm.drop t++sm.take t).map D.str)):=by
   refine zaA (zqq rfl (zaA (zcl rfl q5) rfl (zbp (by decide))) t0) (zoD rfl (zaA (zcl rfl q5) rfl (zbp (by decide))) t0) ?_
   show (if _ then _ else _)=_
   rw [qX,htt,List.map_append,List.map_drop,List.map_take]
   rw [List.length_drop,qC,qe];unfold sizeLine;omega
  let J:JobT:=⟨nm (70+i),ea,du,decide (d3=1),sm.drop t++sm.take t⟩
  have perm:(sm.drop t++sm.take t).Perm sm:=(List.perm_append_comm).trans (by rw [List.take_append_drop])
  have pa:((js++[J]).flatMap (·.ms)++lf').Perm (js.flatMap (·.ms)++lf):=by
   rw [List.flatMap_append,hlf2,List.append_assoc]
   refine List.Perm.append_left _ ?_
   rw [List.flatMap_singleton]
   exact List.Perm.append_right _ perm
  refine ⟨js++[J],lf',_,_,_,_,(zaD eD).trans ((zaD e8).trans ((zaD e4).trans ((zf9 eT).trans ((qX rfl).trans ((zaD e9).trans ((zaD e10).trans ((zaD e8').trans (zep rfl (zk1 (za6 (zap (zaA rfl rfl rfl) zaM) hn') rfl rfl (zaA (zcl rfl q3) rfl rfl) rfl) (by have:=I.len;omega))))))))),⟨?_,?_,?_,?_,?_,?_,?_⟩⟩
  ·rw [qi];have:=I.len;simp;omega
  ·exact (pa.nodup_iff).mpr I.nd
  ·exact fun x hx=>I.sub x (pa.mem_iff.mp hx)
  ·have:=I.ll;omega
  ·intro j hj
   rcases List.mem_append.mp hj with q | q
   ·exact I.good j q
   ·rw [List.mem_singleton.mp q]
    refine ⟨hnb,⟨m2,m3⟩,⟨n2,n3⟩,by show 1<=(sm.drop t++sm.take t).length;omega,by show (sm.drop t++sm.take t).length<=_;have:=I.ll;omega,fun m hm=>?_⟩
    exact I.sub m (qO _ (by rw [hlf2];exact List.mem_append_left _ (perm.mem_iff.mp hm)))
  ·rw [List.map_append,List.nodup_append]
   refine ⟨I.nmd,by simp,fun a ha b hb hab=>?_⟩
   obtain ⟨j,hj,rfl⟩:=List.mem_map.mp ha
   obtain ⟨k,hk,hk2⟩:=I.nmk j hj
   have hb':b=nm (70+i):=by simpa using hb
   have:=zpi k (by omega) i hi (hk2.symm.trans (hab.trans hb'))
   omega
  ·intro j hj
   rcases List.mem_append.mp hj with q | q
   ·obtain ⟨k,h1,h2⟩:=I.nmk j q
    exact ⟨k,by omega,h2⟩
   ·rw [List.mem_singleton.mp q];exact ⟨i,by omega,rfl⟩
theorem zni (cs:List Int) (ss:List StepT) (h:Int) (hh:1<=h) (hl:cs.length<=3) (hsl:ss.length<=40) (hs:∀ x∈ss.map (·.nm),za8 x=true) (snd:(ss.map (·.nm)).Nodup):∃ js:List JobT,zbY [.lst (cs.map D.int),.lst (ss.map zaW),.int h]=some (.lst (js.map zbZ))/\js.length<=3/\(∀ j∈js,GoodJ (ss.map (·.nm)) h j)/\(js.map (·.nm)).Nodup/\(js.flatMap (·.ms)).Nodup:=by
 obtain ⟨ρ',h1,js,lf,a,b,c,d,e,f,h2,h3⟩:=zcQ (gg:=zcX 2 (za2 (za3 5) (za2 (za3 6) zcW))) (body:=zoc) (xs:=(cs.map D.int).mapIdx fun i d=>D.tup [.int i,d]) (ρ:=jE cs ss h [] (ss.map (·.nm)) none none none none none none)
  (fun i ρ=>∃ js lf a b c d e f,ρ=jE cs ss h js lf a b c d e f/\JInv (ss.map (·.nm)) h i js lf) ⟨[],ss.map (·.nm),none,none,none,none,none,none,rfl,⟨qu _,by simpa using snd,fun x hx=>(by simpa using hx),qu _,fun j hj=>(by cases hj),by simp,fun j hj=>(by cases hj)⟩⟩ (fun i x ρ hx hI=>by
   obtain ⟨js,lf,a,b,c,d,e,f,rfl,I⟩:=hI
   obtain ⟨y,hy,rfl⟩:=zeJ hx
   rw [qj] at hy
   obtain ⟨s,hsi,rfl⟩:=oMd hy
   have hi:i < cs.length:=(List.getElem?_eq_some_iff.mp hsi).1
   obtain ⟨js',lf',y',z',w',v',e1,e2⟩:=zpu (cs:=cs) (h:=h) (c:=s) (ss:=ss) (js:=js) (lf:=lf) (i:=i) (y:=c) (z:=d) (w:=e) (v:=f) hh (by omega) hs I hsl
   exact ⟨_,_,rfl,e1,js',lf',_,_,_,_,_,_,rfl,e2⟩)
 rw [List.length_mapIdx,qe] at h3
 have nn:=zcq (i:=1) (fv:=[none]) (ρ:=[oS (.lst (cs.map D.int)),oS (.lst (ss.map zaW)),oS (.int h),some (.own []),none,none,none,none,none,none,none]) (f:=zaW) (nm:=(·.nm)) (xs:=ss) (fun x=>⟨_,rfl⟩) rfl (szN hsl (by decide)) rfl
 refine ⟨js,zaZ [oS (.lst (cs.map D.int)),oS (.lst (ss.map zaW)),oS (.int h),none,none,none,none,none,none,none,none] rfl (zfk.trans ((zaD nn).trans ((zcF ((zfn (xs:=(cs.map D.int).mapIdx fun i d=>D.tup [.int i,d]) rfl).trans (h1.trans (by rw [h2])))).trans ((zc0 rfl).trans (zaY (f:=vSh 3) rfl))))),qK h3.len hl,h3.good,h3.nmd,?_⟩
 exact (List.nodup_append.mp h3.nd).1
end Law
end
section
namespace Law
open PySem L2
theorem zn6 (t:List Str):pdD (.tup (t.map D.str))=some (.tuple (t.map PyData.str)):=by simp [pdD,zhw]
theorem zln:∀ (ts:List (List Str)),zkq (ts.map fun t=>.tup (t.map D.str))=some (ts.map fun t=>.tuple (t.map PyData.str))
 | []=>by simp [zkq]
 | t::r=>by simp [zkq,zn6,zln r]
theorem zjS:∀ {ts:List (List Str)},(∀ t∈ts,∀ x∈t,za8 x=true)->PyData.canLayAll0 (ts.map fun t=>.tuple (t.map PyData.str))=true
 | [],_=>by simp [PyData.canLayAll0]
 | t::r,h=>by
  simp only [ql,PyData.canLayAll0,PyData.canLay0,zeH (h t qf),Bool.true_and]
  exact zjS fun y hy=>h y (qg _ hy)
theorem zj1:∀ (a b:List Str),PyData.eqvAll (a.map PyData.str) (b.map PyData.str)=decide (a=b)
 | [],[]=>by simp [PyData.eqvAll]
 | [],_::_=>by simp [PyData.eqvAll]
 | _::_,[]=>by simp [PyData.eqvAll]
 | x::r,y::t=>by
  simp only [ql,PyData.eqvAll,PyData.eqv,zj1 r t]
  by_cases e:x=y
  ·subst e;simp
  ·simp [e]
theorem zkb (t:List Str):∀ (ts:List (List Str)),((ts.map fun t=>PyData.tuple (t.map PyData.str)).any fun z=>PyData.eqv z (.tuple (t.map PyData.str)))=decide (t∈ts)
 | []=>by simp
 | y::r=>by
  rw [ql,List.any_cons,zkb t r]
  simp only [PyData.eqv,zj1]
  by_cases e:y=t
  ·subst e;simp
  ·have:t≠y:=fun z=>e z.symm
   simp [e,this]
theorem zjM {t:List Str} {ts:List (List Str)} (hx:∀ x∈t,za8 x=true) (hn:∀ y∈ts,∀ x∈y,za8 x=true):zgz (.tup (t.map D.str)) (.lst (ts.map fun t=>.tup (t.map D.str)))=some (.bl (!decide (t∈ts))):=by
 have sh:SeqAt.shaped (.tuple (t.map PyData.str))=true:=by simp [SeqAt.shaped,PyData.canLay0,zeH hx,PyData.depth,ze6]
 have p1:pdD (.lst (ts.map fun t=>.tup (t.map D.str)))=some (.list (ts.map fun t=>.tuple (t.map PyData.str))):=by simp [pdD,zln]
 unfold zgz inX
 rw [zn6,p1,qa,qa]
 simp only [sh,zjS hn,and_self,if_true,zkb,qd]
theorem zld {α:Type} {f:α->D} {nm:α->Str} {xs:List α} {ρ:za5} {fo g:FE} {d:Int} (hf:∀ x,∃ r,f x=.tup (.str (nm x)::r)) (h1:fo ρ=some (.lst (xs.map f))) (h2:g ρ=some (.int d)) (h3:0<=d) (h4:d < xs.length):∃ x∈xs,b2 ixD (b2 ixD fo g) (vC (.int 0)) ρ=some (.str (nm x)):=by
 obtain ⟨n,rfl⟩:=Int.eq_ofNat_of_zero_le h3
 have hd:n < xs.length:=by omega
 refine ⟨xs[n],List.getElem_mem hd,zaA (zaA h1 h2 (show ixD _ (.int (n:Int))=some (f xs[n]) by rw [ixL,qj,qB hd];rfl)) rfl ?_⟩
 obtain ⟨r,e⟩:=hf xs[n]
 rw [e,zje]
theorem zsN {f g:FE} {ρ:za5} {ds:List Int} {n:Nat} {m d:Int} (h1:f ρ=some (.lst (ds.map D.int))) (h2:g ρ=some (.int m)) (hm:m=(n:Int)) (h3:ds[n]?=some d):b2 ixD f g ρ=some (.int d) :=
 zaA h1 h2 (by rw [hm,ixL,qj,h3];rfl)
theorem zlJ {f:FE} {ρ:za5} {l:List D} (h:f ρ=some (.lst l)):cF zdu (zab f zag) ρ=some (.int (l.length:Nat)):=za6 (zap h zaM) rfl
theorem zrR {i:Nat} {ft:FT} {ρ:za5} {ds:List D} {b:Bool} (h1:ρ[i]?=some (some (.own ds))) (h2:ft (ρ.set i (oS (.lst ds)))=some b):bwT i ft ρ=some b:=by
 unfold bwT;rw [h1];exact h2
theorem zne {x:List D} {j:Int} (h : -(2 ^ 63)<=j/\j < 2 ^ 63/\x.length*j.toNat<=sizeLine):zdw (.lst x) (.int j)=some (.lst (List.replicate j.toNat x).flatten):=qX h
theorem zsG:zdw (.lst [.int 4]) (.int 6)=some (.lst (([4,4,4,4,4,4]:List Int).map D.int)):=zne (x:=[.int 4]) (j:=6) (by decide)
structure UInv (bn:List Str) (h:Int) (i:Nat) (us:List SetT):Prop where
 len:us.length<=i
 good:∀ u∈us,GoodU bn h u
 nd:(us.map fun u=>[u.b,u.p,u.q]).Nodup
abbrev uE (c:Int) (bs:List BenchT) (h:Int) (us:List SetT) (a b d e:Option Slot):za5:=[oS (.int c),oS (.lst (bs.map zaJ)),oS (.int h),some (.own (us.map zc9)),a,b,d,e]
def znU:FS:=(zaG (zbn 6 (b2 ixD (b2 ixD (vSh 1) (b2 zbF (vSh 4) (cF zdu (zab (vSh 1) zag)))) (vC (.int 0)))) (zaG (zbn 7 (zaQ (szF (zab (vSh 6) (zab (b2 ixD (vC (.str "pqr")) (b2 zbF (vSh 4) (vC (.int 3)))) (zab (b2 ixD (vC (.str "pqr")) (b2 zbF (b2 zbe (vSh 4) (vSh 5)) (vC (.int 3)))) (zab (cF zlz (zab (vSh 2) (zab (vSh 5) zag))) zag))))))) (sIf (bwT 3 (zkM (toB (b2 gtD (vSh 5) (vC (.int 0)))) (toB (b2 zgz (slF (vSh 7) pN (pS (vC (.int 3)))) (zax (za0 (itF (vSh 3)) (za3 0) tT (slF (vSh 0) pN (pS (vC (.int 3)))) [none])))))) (zeD 3 (vSh 7)) zca)))
theorem zox {c h m:Int} {bs:List BenchT} {us:List SetT} {i:Nat} {y z:Option Slot} (hh:1<=h) (hm:0<=m) (hi:i < 6) (hb:1<=bs.length) (hbn:∀ x∈bs.map (·.nm),za8 x=true) (I:UInv (bs.map (·.nm)) h i us) :
  ∃ us' y' z',znU (uE c bs h us (oS (.int i)) (oS (.int m)) y z)=some (.nx,uE c bs h us' (oS (.int i)) (oS (.int m)) y' z')/\UInv (bs.map (·.nm)) h (i+1) us':=by
 have k0:0<=(i:Int) % (bs.length:Nat):=qW _ (by omega)
 have k1:(i:Int) % (bs.length:Nat) < (bs.length:Nat):=qT _ (by omega)
 obtain ⟨b,hbm,e6⟩:=zld (f:=zaJ) (nm:=(·.nm)) (xs:=bs) (ρ:=uE c bs h us (oS (.int i)) (oS (.int m)) y z) (fo:=vSh 1) (g:=b2 zbF (vSh 4) (cF zdu (zab (vSh 1) zag))) (d:=(i:Int) % (bs.length:Nat)) (fun x=>⟨_,rfl⟩) rfl (zaA rfl (zlJ rfl) (by rw [qe];exact zbp (by omega))) k0 k1
 have t0:0<=(i:Int) % 3:=qW _ (by decide)
 have t1:(i:Int) % 3 < 3:=qT _ (by decide)
 have s0:0<=((i:Int)+m) % 3:=qW _ (by decide)
 have s1:((i:Int)+m) % 3 < 3:=qT _ (by decide)
 let U:SetT:=⟨b.nm,pqr ((i:Int) % 3).toNat,pqr (((i:Int)+m) % 3).toNat,if m < h then m else h⟩
 have e7:zaQ (szF (zab (vSh 6) (zab (b2 ixD (vC (.str "pqr")) (b2 zbF (vSh 4) (vC (.int 3)))) (zab (b2 ixD (vC (.str "pqr")) (b2 zbF (b2 zbe (vSh 4) (vSh 5)) (vC (.int 3)))) (zab (cF zlz (zab (vSh 2) (zab (vSh 5) zag))) zag))))) (uE c bs h us (oS (.int i)) (oS (.int m)) (oS (.str b.nm)) z)=some (zc9 U) :=
  zou rfl (zaA rfl (zaA rfl rfl (zbp (by decide))) (zlj t0 t1)) (zaA rfl (zaA (zaA rfl rfl rfl) rfl (zbp (by decide))) (zlj s0 s1)) (za6 (zap rfl (zap rfl zaM)) rfl)
 have nU:∀ x∈[U.b,U.p,U.q],za8 x=true:=fun x hx=>by
  simp only [qJ,qH,or_false] at hx
  rcases hx with rfl | rfl | rfl
  ·exact hbn _ (qV hbm)
  ·exact zgX _ (by omega)
  ·exact zgX _ (by omega)
 have nA:∀ y∈us.map (fun u=>[u.b,u.p,u.q]),∀ x∈y,za8 x=true:=fun y hy x hx=>by
  obtain ⟨u,hu,rfl⟩:=List.mem_map.mp hy
  have g:=I.good u hu
  simp only [qJ,qH,or_false] at hx
  rcases hx with rfl | rfl | rfl
  ·exact hbn _ g.b
  ·exact g.p
  ·exact g.q
 have hul:us.length<=6:=qK I.len (by omega)
 have eL:zax (za0 (itF (vSh 3)) (za3 0) tT (slF (vSh 0) pN (pS (vC (.int 3)))) [none]) [oS (.int c),oS (.lst (bs.map zaJ)),oS (.int h),oS (.lst (us.map zc9)),oS (.int i),oS (.int m),oS (.str b.nm),oS (zc9 U)]=some (.lst ((us.map fun u=>[u.b,u.p,u.q]).map fun t=>.tup (t.map D.str))):=by
  rw [qm]
  refine (zcd (r:=[]) (a:=none) (xs:=us.map zc9) (f:=fun d=>match d with | .tup [a,b,c,d]=>.tup [a,b,c] | _=>.non) rfl (by rw [qe];exact szN hul (by decide)) rfl fun x hx=>?_).trans ?_
  ·obtain ⟨p,hp,rfl⟩:=List.mem_map.mp hx
   simp only [vSh,vC,slF,pN,pS,qb,qa,zc9,zs3]
  ·rw [qm];rfl
 have eT:bwT 3 (zkM (toB (b2 gtD (vSh 5) (vC (.int 0)))) (toB (b2 zgz (slF (vSh 7) pN (pS (vC (.int 3)))) (zax (za0 (itF (vSh 3)) (za3 0) tT (slF (vSh 0) pN (pS (vC (.int 3)))) [none]))))) (uE c bs h us (oS (.int i)) (oS (.int m)) (oS (.str b.nm)) (oS (zc9 U)))=some (decide (0 < m) && !decide ([U.b,U.p,U.q]∈us.map fun u=>[u.b,u.p,u.q])) :=
  zrR rfl (zjt (zaU (zaA rfl rfl rfl)) (zaU (zaA (x:=.tup ([U.b,U.p,U.q].map D.str)) rfl eL (zjM nU nA))))
 by_cases ht:(decide (0 < m) && !decide ([U.b,U.p,U.q]∈us.map fun u=>[u.b,u.p,u.q]))=true
 ·have hq:0 < m/\[U.b,U.p,U.q]∉us.map fun u=>[u.b,u.p,u.q]:=by simpa using ht
  refine ⟨us++[U],_,_,(zaD e6).trans ((zaD e7).trans ((zf9 eT).trans ((qX ht).trans (zep (x:=U) rfl rfl (by omega))))),⟨?_,?_,?_⟩⟩
  ·rw [qi];have:=I.len;simp;omega
  ·intro u hu
   rcases List.mem_append.mp hu with q | q
   ·exact I.good u q
   ·rw [List.mem_singleton.mp q]
    refine ⟨qV hbm,zgX _ (by omega),zgX _ (by omega),?_,?_⟩
    ·show 1<=if m < h then m else h
     split <;> omega
    ·show (if m < h then m else h)<=h
     split <;> omega
  ·rw [List.map_append,List.nodup_append]
   refine ⟨I.nd,by simp,fun a ha b' hb' hab=>?_⟩
   have:b'=[U.b,U.p,U.q]:=by simpa using hb'
   rw [hab,this] at ha
   exact hq.2 ha
 ·exact ⟨us,_,_,(zaD e6).trans ((zaD e7).trans ((zf9 eT).trans ((qY ht).trans rfl))),⟨by have:=I.len;omega,I.good,I.nd⟩⟩
theorem zkx (c:Int) (bs:List BenchT) (h:Int) (hh:1<=h) (hb:1<=bs.length) (hbn:∀ x∈bs.map (·.nm),za8 x=true):∃ us:List SetT,zbv [.int c,.lst (bs.map zaJ),.int h]=some (.lst (us.map zc9))/\us.length<=6/\(∀ u∈us,GoodU (bs.map (·.nm)) h u)/\(us.map fun u=>[u.b,u.p,u.q]).Nodup:=by
 obtain ⟨ds,e,hd,hbd⟩:=zdi c 3 (by omega) [4,4,4,4,4,4] (by decide) (by decide)
 have eM:b2 zdw (zax (szF (zab (vC (.int 4)) zag))) (vC (.int 6)) (uE c bs h [] none none none none)=some (.lst (([4,4,4,4,4,4]:List Int).map D.int)) :=
  zaA (x:=.lst [.int 4]) (y:=.int 6) rfl rfl zsG
 have hd6:ds.length=6:=hd
 obtain ⟨ρ',h1,us,a,b,d,f,h2,h3⟩:=zcQ (gg:=zcX 2 (za2 (za3 4) (za2 (za3 5) zcW))) (body:=znU) (xs:=(ds.map D.int).mapIdx fun i d=>D.tup [.int i,d]) (ρ:=uE c bs h [] none none none none)
  (fun i ρ=>∃ us a b d e,ρ=uE c bs h us a b d e/\UInv (bs.map (·.nm)) h i us) ⟨[],none,none,none,none,rfl,⟨qu _,fun j hj=>(by cases hj),by simp⟩⟩ (fun i x ρ hx hI=>by
   obtain ⟨us,a,b,d,e,rfl,I⟩:=hI
   obtain ⟨y,hy,rfl⟩:=zeJ hx
   rw [qj] at hy
   obtain ⟨s,hsi,rfl⟩:=oMd hy
   have hi:i < ds.length:=(List.getElem?_eq_some_iff.mp hsi).1
   have hs0:0<=s:=by
    have h6:i < 6:=by omega
    have:([4,4,4,4,4,4]:List Int)[i]?=some 4:=by
     have:i=0\/i=1\/i=2\/i=3\/i=4\/i=5:=by omega
     rcases this with rfl | rfl | rfl | rfl | rfl | rfl <;> rfl
    obtain ⟨d,q1,q2,_⟩:=hbd i 4 this
    rw [hsi] at q1
    cases q1
    exact q2
   obtain ⟨us',y',z',e1,e2⟩:=zox (c:=c) (h:=h) (m:=s) (bs:=bs) (us:=us) (i:=i) (y:=d) (z:=e) hh hs0 (by omega) hb hbn I
   exact ⟨_,_,rfl,e1,us',_,_,_,_,rfl,e2⟩)
 rw [List.length_mapIdx,qe] at h3
 have eI:itE (cF zaj (zab (vSh 0) (zab (vC (.int 3)) (zab (b2 zdw (zax (szF (zab (vC (.int 4)) zag))) (vC (.int 6))) zag)))) (uE c bs h [] none none none none)=some ((ds.map D.int).mapIdx fun i d=>D.tup [.int i,d]):=by
  have:cF zaj (zab (vSh 0) (zab (vC (.int 3)) (zab (b2 zdw (zax (szF (zab (vC (.int 4)) zag))) (vC (.int 6))) zag))) (uE c bs h [] none none none none)=some (.lst (ds.map D.int)):=za6 (zap rfl (zap rfl (zap eM zaM))) e
  unfold itE
  rw [this];rfl
 exact ⟨us,zaZ [oS (.int c),oS (.lst (bs.map zaJ)),oS (.int h),none,none,none,none,none] rfl (zfk.trans ((zcF ((zfn eI).trans (h1.trans (by rw [h2])))).trans ((zc0 rfl).trans (zaY (f:=vSh 3) rfl)))),by have:=h3.len;omega,h3.good,h3.nd⟩
structure LInv (sn:List Str) (h:Int) (i:Nat) (ls:List LinkT):Prop where
 len:ls.length<=i
 good:∀ l∈ls,GoodL sn h l
 nd:(ls.map fun l=>[l.a,l.b]).Nodup
abbrev lE (c:Int) (ss:List StepT) (h:Int) (ls:List LinkT) (ds:List Int) (a b d:Option Slot):za5:=[oS (.int c),oS (.lst (ss.map zaW)),oS (.int h),some (.own (ls.map zb3)),oS (.lst (ds.map D.int)),a,b,d]
def zn8:FS:=(zaG (zbn 6 (b2 ixD (b2 ixD (vSh 1) (b2 zbF (b2 ixD (vSh 4) (b2 zbe (vC (.int 1)) (b2 zdw (vC (.int 3)) (vSh 5)))) (cF zdu (zab (vSh 1) zag)))) (vC (.int 0)))) (zaG (zbn 7 (b2 ixD (b2 ixD (vSh 1) (b2 zbF (b2 ixD (vSh 4) (b2 zbe (vC (.int 2)) (b2 zdw (vC (.int 3)) (vSh 5)))) (cF zdu (zab (vSh 1) zag)))) (vC (.int 0)))) (sIf (bwT 3 (zkM (toB (b2 neA (vSh 6) (vSh 7))) (toB (b2 zgz (zaQ (szF (zab (vSh 6) (zab (vSh 7) zag)))) (zax (za0 (itF (vSh 3)) (za3 0) tT (slF (vSh 0) pN (pS (vC (.int 2)))) [none])))))) (zeD 3 (zaQ (szF (zab (vSh 6) (zab (vSh 7) (zab (cF zlz (zab (vSh 2) (zab (b2 ixD (vSh 4) (b2 zbe (vC (.int 3)) (b2 zdw (vC (.int 3)) (vSh 5)))) zag))) zag)))))) zca)))
theorem zps {c h:Int} {ss:List StepT} {ls:List LinkT} {ds:List Int} {i:Nat} {y z:Option Slot} (hh:1<=h) (hi:i < 2) (hs1:1<=ss.length) (hsn:∀ x∈ss.map (·.nm),za8 x=true) (hds:∀ j,j < 7->∃ d,ds[j]?=some d/\0<=d) (I:LInv (ss.map (·.nm)) h i ls) :
  ∃ ls' y' z',zn8 (lE c ss h ls ds (oS (.int (0+(i:Int)))) y z)=some (.nx,lE c ss h ls' ds (oS (.int (0+(i:Int)))) y' z')/\LInv (ss.map (·.nm)) h (i+1) ls':=by
 obtain ⟨x1,q1,p1⟩:=hds (1+3*i) (by omega)
 obtain ⟨x2,q2,p2⟩:=hds (2+3*i) (by omega)
 obtain ⟨x3,q3,p3⟩:=hds (3+3*i) (by omega)
 have ixs:∀ (n:Nat) (y z:Option Slot) (lst:List D) (x:Int) (k:Int),k=(n:Int)->ds[n+3*i]?=some x->∀ s3:Option Slot,b2 ixD (vSh 4) (b2 zbe (vC (.int k)) (b2 zdw (vC (.int 3)) (vSh 5))) [oS (.int c),oS (.lst (ss.map zaW)),oS (.int h),s3,oS (.lst (ds.map D.int)),oS (.int (0+(i:Int))),y,z]=some (.int x):=fun n y z _ x k hk hx s3 =>
  zsN (n:=n+3*i) rfl (zaA rfl (zaA rfl rfl (zg2 (.inl (by decide)))) rfl) (by omega) hx
 have m1:∀ x:Int,0<=x % (ss.length:Nat)/\x % (ss.length:Nat) < (ss.length:Nat):=fun x=>⟨qW _ (by omega),qT _ (by omega)⟩
 obtain ⟨sa,ha,e6⟩:=zld (f:=zaW) (nm:=(·.nm)) (xs:=ss) (ρ:=lE c ss h ls ds (oS (.int (0+(i:Int)))) y z) (fo:=vSh 1) (g:=b2 zbF (b2 ixD (vSh 4) (b2 zbe (vC (.int 1)) (b2 zdw (vC (.int 3)) (vSh 5)))) (cF zdu (zab (vSh 1) zag))) (d:=x1 % (ss.length:Nat)) (fun x=>⟨_,rfl⟩) rfl (zaA (ixs 1 y z [] x1 1 rfl q1 _) (zlJ rfl) (by rw [qe];exact zbp (by omega))) (m1 x1).1 (m1 x1).2
 obtain ⟨sb,hb,e7⟩:=zld (f:=zaW) (nm:=(·.nm)) (xs:=ss) (ρ:=lE c ss h ls ds (oS (.int (0+(i:Int)))) (oS (.str sa.nm)) z) (fo:=vSh 1) (g:=b2 zbF (b2 ixD (vSh 4) (b2 zbe (vC (.int 2)) (b2 zdw (vC (.int 3)) (vSh 5)))) (cF zdu (zab (vSh 1) zag))) (d:=x2 % (ss.length:Nat)) (fun x=>⟨_,rfl⟩) rfl (zaA (ixs 2 _ z [] x2 2 rfl q2 _) (zlJ rfl) (by rw [qe];exact zbp (by omega))) (m1 x2).1 (m1 x2).2
 let U:LinkT:=⟨sa.nm,sb.nm,if x3 < h then x3 else h⟩
 have nU:∀ x∈[U.a,U.b],za8 x=true:=fun x hx=>by
  simp only [qJ,qH,or_false] at hx
  rcases hx with rfl | rfl
  ·exact hsn _ (qV ha)
  ·exact hsn _ (qV hb)
 have nA:∀ y∈ls.map (fun l=>[l.a,l.b]),∀ x∈y,za8 x=true:=fun y hy x hx=>by
  obtain ⟨u,hu,rfl⟩:=List.mem_map.mp hy
  have g:=I.good u hu
  simp only [qJ,qH,or_false] at hx
  rcases hx with rfl | rfl
  ·exact hsn _ g.a
  ·exact hsn _ g.b
 have hul:ls.length<=2:=qK I.len (by omega)
 have eL:zax (za0 (itF (vSh 3)) (za3 0) tT (slF (vSh 0) pN (pS (vC (.int 2)))) [none]) [oS (.int c),oS (.lst (ss.map zaW)),oS (.int h),oS (.lst (ls.map zb3)),oS (.lst (ds.map D.int)),oS (.int (0+(i:Int))),oS (.str sa.nm),oS (.str sb.nm)]=some (.lst ((ls.map fun l=>[l.a,l.b]).map fun t=>.tup (t.map D.str))):=by
  rw [qm]
  refine (zcd (r:=[]) (a:=none) (xs:=ls.map zb3) (f:=fun d=>match d with | .tup [a,b,c]=>.tup [a,b] | _=>.non) rfl (by rw [qe];exact szN hul (by decide)) rfl fun x hx=>?_).trans ?_
  ·obtain ⟨p,hp,rfl⟩:=List.mem_map.mp hx
   simp only [vSh,vC,slF,pN,pS,qb,qa,zb3,ztA]
  ·rw [qm];rfl
 have eT:bwT 3 (zkM (toB (b2 neA (vSh 6) (vSh 7))) (toB (b2 zgz (zaQ (szF (zab (vSh 6) (zab (vSh 7) zag)))) (zax (za0 (itF (vSh 3)) (za3 0) tT (slF (vSh 0) pN (pS (vC (.int 2)))) [none]))))) (lE c ss h ls ds (oS (.int (0+(i:Int)))) (oS (.str sa.nm)) (oS (.str sb.nm)))=some ((!decide (sa.nm=sb.nm)) && !decide ([U.a,U.b]∈ls.map fun l=>[l.a,l.b])) :=
  zrR rfl (zjt (zaU (zaA rfl rfl (zi7 _ _))) (zaU (zaA (x:=.tup ([U.a,U.b].map D.str)) (zdm rfl rfl) eL (zjM nU nA))))
 by_cases ht:((!decide (sa.nm=sb.nm)) && !decide ([U.a,U.b]∈ls.map fun l=>[l.a,l.b]))=true
 ·have hq:sa.nm≠sb.nm/\[U.a,U.b]∉ls.map fun l=>[l.a,l.b]:=by simpa using ht
  refine ⟨ls++[U],_,_,(zaD e6).trans ((zaD e7).trans ((zf9 eT).trans ((qX ht).trans (zep (x:=U) rfl (zk2 rfl rfl (za6 (zap rfl (zap (ixs 3 _ _ [] x3 3 rfl q3 _) zaM)) rfl)) (by omega))))),⟨?_,?_,?_⟩⟩
  ·rw [qi];have:=I.len;simp;omega
  ·intro u hu
   rcases List.mem_append.mp hu with q | q
   ·exact I.good u q
   ·rw [List.mem_singleton.mp q]
    refine ⟨qV ha,qV hb,hq.1,?_,?_⟩
    ·show 0<=if x3 < h then x3 else h
     split <;> omega
    ·show (if x3 < h then x3 else h)<=h
     split <;> omega
  ·rw [List.map_append,List.nodup_append]
   refine ⟨I.nd,by simp,fun a ha b' hb' hab=>?_⟩
   have:b'=[U.a,U.b]:=by simpa using hb'
   rw [hab,this] at ha
   exact hq.2 ha
 ·exact ⟨ls,_,_,(zaD e6).trans ((zaD e7).trans ((zf9 eT).trans ((qY ht).trans rfl))),⟨by have:=I.len;omega,I.good,I.nd⟩⟩
theorem zle {n i:Nat} {x:D} (h:((List.range n).map fun k:Nat=>D.int (0+k))[i]?=some x):i < n/\x=.int (0+(i:Int)):=by
 rw [qj] at h
 obtain ⟨k,hk,rfl⟩:=oMd h
 rw [List.getElem?_eq_some_iff] at hk
 obtain ⟨h1,h2⟩:=hk
 rw [qS] at h1
 rw [List.getElem_range] at h2
 subst h2
 exact ⟨h1,rfl⟩
theorem zlG (c:Int) (ss:List StepT) (h:Int) (hh:1<=h) (hs1:1<=ss.length) (hsn:∀ x∈ss.map (·.nm),za8 x=true):∃ ls:List LinkT,zbJ [.int c,.lst (ss.map zaW),.int h]=some (.lst (ls.map zb3))/\ls.length<=2/\(∀ l∈ls,GoodL (ss.map (·.nm)) h l)/\(ls.map fun l=>[l.a,l.b]).Nodup:=by
 obtain ⟨ds,e,hd,hbd⟩:=zdi c 5 (by omega) [3,9,9,4,9,9,4] (by decide) (by decide)
 have hds:∀ j,j < 7->∃ d,ds[j]?=some d/\0<=d:=fun j hj=>by
  have:∃ s,([3,9,9,4,9,9,4]:List Int)[j]?=some s:=⟨_,qB (by simpa using hj)⟩
  obtain ⟨s,hs⟩:=this
  obtain ⟨d,q1,q2,_⟩:=hbd j s hs
  exact ⟨d,q1,q2⟩
 obtain ⟨d0,q0,p0,r0⟩:=hbd 0 3 rfl
 obtain ⟨ρ',h1,ls,a,b,d,h2,h3⟩:=zcQ (gg:=za3 5) (body:=zn8) (xs:=(List.range d0.toNat).map fun k:Nat=>D.int (0+k)) (ρ:=lE c ss h [] ds none none none)
  (fun i ρ=>∃ ls a b d,ρ=lE c ss h ls ds a b d/\LInv (ss.map (·.nm)) h i ls) ⟨[],none,none,none,rfl,⟨qu _,fun j hj=>(by cases hj),by simp⟩⟩ (fun i x ρ hx hI=>by
   obtain ⟨ls,a,b,d,rfl,I⟩:=hI
   obtain ⟨hi,rfl⟩:=zle hx
   obtain ⟨ls',y',z',e1,e2⟩:=zps (c:=c) (h:=h) (ss:=ss) (ls:=ls) (ds:=ds) (i:=i) (y:=b) (z:=d) hh (by omega) hs1 hsn hds I
   exact ⟨_,_,rfl,e1,ls',_,_,_,rfl,e2⟩)
 rw [qe,qS] at h3
 have eS:cF zaj (zab (vSh 0) (zab (vC (.int 5)) (zab (zax (szF (zab (vC (.int 3)) (zab (vC (.int 9)) (zab (vC (.int 9)) (zab (vC (.int 4)) (zab (vC (.int 9)) (zab (vC (.int 9)) (zab (vC (.int 4)) zag))))))))) zag))) [oS (.int c),oS (.lst (ss.map zaW)),oS (.int h),some (.own []),none,none,none,none]=some (.lst (ds.map D.int)) :=
  za6 (zap rfl (zap rfl (zap (zhA rfl rfl rfl rfl rfl rfl rfl) zaM))) e
 have eI:itR zjF (zab (b2 ixD (vSh 4) (vC (.int 0))) zag) (lE c ss h [] ds none none none)=some ((List.range d0.toNat).map fun k:Nat=>D.int (0+k)):=zg8 (zap (zcl (n:=0) rfl q0) zaM) (zfS ⟨p0,by omega⟩)
 exact ⟨ls,zaZ [oS (.int c),oS (.lst (ss.map zaW)),oS (.int h),none,none,none,none,none] rfl (zfk.trans ((zaD eS).trans ((zcF ((zfn eI).trans (h1.trans (by rw [h2])))).trans ((zc0 rfl).trans (zaY (f:=vSh 3) rfl))))),by have:=h3.len;omega,h3.good,h3.nd⟩
end Law
end
section
namespace Law
open PySem L2
theorem zml {ft:FT} {fe:FE} {r:za5} {v:Int} (ht:∀ (j:Nat) (s:StepT),∃ q:Bool,ft (oS (.int (j:Int))::oS (zaW s)::r)=some q) (he:∀ (j:Nat) (s:StepT),fe (oS (.int (j:Int))::oS (zaW s)::r)=some (dW (s.nm,v))) :
  ∀ (ss:List StepT) (F:Nat->Nat) (a b:Option Slot),∃ sub:List StepT,sub.Sublist ss/\zgE (zcX 2 (za2 (za3 0) (za2 (za3 1) zcW))) ft fe ((ss.map zaW).mapIdx fun i d=>D.tup [.int (F i:Nat),d]) (a::b::r)=some (sub.map fun s=>dW (s.nm,v))
 | [],_,_,_=>⟨[],.slnil,rfl⟩
 | s::ss,F,a,b=>by
  obtain ⟨sub,h1,h2⟩:=zml ht he ss (fun i=>F (i+1)) (oS (.int (F 0:Nat))) (oS (zaW s))
  obtain ⟨q,hq⟩:=ht (F 0) s
  have e0:zcX 2 (za2 (za3 0) (za2 (za3 1) zcW)) (.tup [.int (F 0:Nat),zaW s]) (a::b::r)=some (oS (.int (F 0:Nat))::oS (zaW s)::r):=rfl
  rw [ql,List.mapIdx_cons]
  cases q with
  | true =>
   refine ⟨s::sub,h1.cons_cons s,?_⟩
   simp only [zgE,e0,qa,hq,if_true,he,h2,qd,ql]
  | false =>
   refine ⟨sub,h1.cons s,?_⟩
   simp only [zgE,e0,qa,hq,qp,if_false,h2]
def tkT (n:Int):FT:=toB (b2 eqD (b2 zbF (b2 zcJ (b2 zbe (b2 ixD (vSh 2) (vC (.int n))) (vSh 3)) (b2 ixD (zax (szF (zab (vC (.int 1)) (zab (vC (.int 2)) (zab (vC (.int 4)) zag))))) (b2 zbF (vSh 0) (vC (.int 3))))) (vC (.int 2))) (vC (.int 1)))
def tkE (n:Int):FE:=zaQ (szF (zab (b2 ixD (vSh 1) (vC (.int 0))) (zab (b2 zbe (vC (.int 1)) (b2 ixD (vSh 2) (vC (.int n)))) zag)))
def tkC (n m:Int):FE:=zax (za0 (itE (vSh 1)) (zcX 2 (za2 (za3 0) (za2 (za3 1) zcW))) (tkT n) (tkE m) [none,none,some 2,some 4])
abbrev kE (c:Int) (ss:List StepT) (ds:List Int) (ks:List StockT) (k a b d:Option Slot):za5:=[oS (.int c),oS (.lst (ss.map zaW)),oS (.lst (ds.map D.int)),some (.own (ks.map zbA)),k,a,b,d]
theorem zjA {c k:Int} {ss:List StepT} {ds:List Int} {ks:List StockT} {a b d:Option Slot} {n m:Nat} {x v:Int} (hl:ss.length<=40) (hn:ds[n]?=some x) (hm:ds[m]?=some v) :
  ∃ sub:List StepT,sub.Sublist ss/\tkC (n:Int) (m:Int) (kE c ss ds ks (oS (.int k)) a b d)=some (.lst ((sub.map fun s=>(s.nm,1+v)).map dW)):=by
 have ht:∀ (j:Nat) (s:StepT),∃ q:Bool,tkT (n:Int) (oS (.int (j:Int))::oS (zaW s)::[oS (.lst (ds.map D.int)),oS (.int k)])=some q:=fun j s=>by
  have m0:0<=(j:Int) % 3:=qW _ (by decide)
  have m1:(j:Int) % 3 < 3:=qT _ (by decide)
  obtain ⟨w,hw,hw1⟩:∃ w:Int,ixD (.lst [.int 1,.int 2,.int 4]) (.int ((j:Int) % 3))=some (.int w)/\(0 < w/\w < 1073741824):=by
   have:(j:Int) % 3=0\/(j:Int) % 3=1\/(j:Int) % 3=2:=by omega
   rcases this with z | z | z <;> rw [z]
   ·exact ⟨1,rfl,by decide⟩
   ·exact ⟨2,rfl,by decide⟩
   ·exact ⟨4,rfl,by decide⟩
  exact ⟨_,zaU (zaA (zaA (zaA (zaA (zcl rfl hn) rfl rfl) (zaA (zlC rfl rfl rfl) (zaA rfl rfl (zbp (by decide))) hw) (zel hw1)) rfl (zbp (by decide))) rfl rfl)⟩
 have he:∀ (j:Nat) (s:StepT),tkE (m:Int) (oS (.int (j:Int))::oS (zaW s)::[oS (.lst (ds.map D.int)),oS (.int k)])=some (dW (s.nm,1+v)):=fun j s =>
  zdm (zaA rfl rfl zje) (zaA rfl (zcl rfl hm) rfl)
 obtain ⟨sub,h1,h2⟩:=zml ht he ss (fun i=>i) none none
 refine ⟨sub,h1,?_⟩
 have e1:itE (vSh 1) (kE c ss ds ks (oS (.int k)) a b d)=some ((ss.map zaW).mapIdx fun i d=>D.tup [.int i,d]):=rfl
 have e2:zeI [none,none,some 2,some 4] (kE c ss ds ks (oS (.int k)) a b d)=none::none::[oS (.lst (ds.map D.int)),oS (.int k)]:=rfl
 unfold tkC zax za0
 rw [e1,qa,qX (by rw [List.length_mapIdx,qe];exact szN hl (by decide)),e2,h2,qd,qm]
 rfl
theorem ziv {ss sub:List StepT} {v:Int} (h:sub.Sublist ss) (nd:(ss.map (·.nm)).Nodup) (hv:1<=v/\v<=1000000):GoodA (ss.map (·.nm)) (sub.map fun s=>(s.nm,v)):=by
 refine ⟨by rw [qe,qe];exact h.length_le,fun w hw=>?_,?_⟩
 ·obtain ⟨s,hs,rfl⟩:=List.mem_map.mp hw
  exact ⟨qV (h.subset hs),hv⟩
 ·rw [qm]
  exact List.Sublist.nodup (h.map (·.nm)) nd
structure KInv (sn:List Str) (i:Nat) (ks:List StockT):Prop where
 len:ks.length=i
 good:∀ k∈ks,GoodK sn k
 nmk:∀ (j:Nat) k,ks[j]?=some k->k.nm=nm (80+j)
def znX:FS:=(zaG (zbn 5 (b2 zbe (b2 ixD (vSh 2) (vC (.int 1))) (b2 ixD (vSh 2) (vC (.int 2))))) (zaG (zbn 6 (zax (za0 (itE (vSh 1)) (zcX 2 (za2 (za3 0) (za2 (za3 1) zcW))) (toB (b2 eqD (b2 zbF (b2 zcJ (b2 zbe (b2 ixD (vSh 2) (vC (.int 3))) (vSh 3)) (b2 ixD (zax (szF (zab (vC (.int 1)) (zab (vC (.int 2)) (zab (vC (.int 4)) zag))))) (b2 zbF (vSh 0) (vC (.int 3))))) (vC (.int 2))) (vC (.int 1)))) (zaQ (szF (zab (b2 ixD (vSh 1) (vC (.int 0))) (zab (b2 zbe (vC (.int 1)) (b2 ixD (vSh 2) (vC (.int 5)))) zag)))) [none,none,some 2,some 4]))) (zaG (zbn 7 (zax (za0 (itE (vSh 1)) (zcX 2 (za2 (za3 0) (za2 (za3 1) zcW))) (toB (b2 eqD (b2 zbF (b2 zcJ (b2 zbe (b2 ixD (vSh 2) (vC (.int 4))) (vSh 3)) (b2 ixD (zax (szF (zab (vC (.int 1)) (zab (vC (.int 2)) (zab (vC (.int 4)) zag))))) (b2 zbF (vSh 0) (vC (.int 3))))) (vC (.int 2))) (vC (.int 1)))) (zaQ (szF (zab (b2 ixD (vSh 1) (vC (.int 0))) (zab (b2 zbe (vC (.int 1)) (b2 ixD (vSh 2) (vC (.int 6)))) zag)))) [none,none,some 2,some 4]))) (zeD 3 (zaQ (szF (zab (cF zat (zab (b2 zbe (vC (.int 80)) (vSh 4)) zag)) (zab (b2 ixD (vSh 2) (vC (.int 1))) (zab (vSh 5) (zab (vSh 6) (zab (vSh 7) zag)))))))))))
theorem zoE {c:Int} {ss:List StepT} {ds:List Int} {ks:List StockT} {i:Nat} {x y z:Option Slot} {d1 d2 d3 d4 d5 d6:Int} (hi:i < 2) (hl:ss.length<=40) (nd:(ss.map (·.nm)).Nodup)
  (q1:ds[1]?=some d1) (q2:ds[2]?=some d2) (q3:ds[3]?=some d3) (q4:ds[4]?=some d4) (q5:ds[5]?=some d5) (q6:ds[6]?=some d6) (p1:0<=d1/\d1 < 4) (p2:0<=d2/\d2 < 5) (p5:0<=d5/\d5 < 4) (p6:0<=d6/\d6 < 4) (I:KInv (ss.map (·.nm)) i ks) :
  ∃ ks' x' y' z',znX (kE c ss ds ks (oS (.int (0+(i:Int)))) x y z)=some (.nx,kE c ss ds ks' (oS (.int (0+(i:Int)))) x' y' z')/\KInv (ss.map (·.nm)) (i+1) ks':=by
 have hn:=(zio (k:=80+i) (by omega)).1
 have hnb:=(zio (k:=80+i) (by omega)).2
 have hn':zat [.int (80+(0+(i:Int)))]=some (.str (nm (80+i))):=by
  rw [← hn];congr 3;omega
 have e5:b2 zbe (b2 ixD (vSh 2) (vC (.int 1))) (b2 ixD (vSh 2) (vC (.int 2))) (kE c ss ds ks (oS (.int (0+(i:Int)))) x y z)=some (.int (d1+d2)):=zaA (zcl (n:=1) rfl q1) (zcl (n:=2) rfl q2) rfl
 obtain ⟨s1,h1,e6⟩:=zjA (c:=c) (k:=0+(i:Int)) (ss:=ss) (ks:=ks) (a:=oS (.int (d1+d2))) (b:=y) (d:=z) (n:=3) (m:=5) hl q3 q5
 obtain ⟨s2,h2,e7⟩:=zjA (c:=c) (k:=0+(i:Int)) (ss:=ss) (ks:=ks) (a:=oS (.int (d1+d2))) (b:=some (.sh (.lst ((s1.map fun s=>(s.nm,1+d5)).map dW)))) (d:=z) (n:=4) (m:=6) hl q4 q6
 let K:StockT:=⟨nm (80+i),d1,d1+d2,s1.map fun s=>(s.nm,1+d5),s2.map fun s=>(s.nm,1+d6)⟩
 refine ⟨ks++[K],_,_,_,(zaD e5).trans ((zaD e6).trans ((zaD e7).trans (zep (x:=K) rfl (zk1 (za6 (zap (zaA rfl rfl rfl) zaM) hn') (zcl (n:=1) rfl q1) rfl rfl rfl) (by have:=I.len;omega)))),⟨?_,?_,?_⟩⟩
 ·rw [qi,I.len];rfl
 ·intro k hk
  rcases List.mem_append.mp hk with q | q
  ·exact I.good k q
  ·rw [List.mem_singleton.mp q]
   exact ⟨hnb,⟨p1.1,by show d1<=d1+d2;omega⟩,⟨by show 0<=d1+d2;omega,by show d1+d2<=_;omega⟩,ziv h1 nd (by omega),ziv h2 nd (by omega)⟩
 ·intro j k hj
  by_cases hji:j < ks.length
  ·rw [qx hji] at hj
   exact I.nmk j k hj
  ·have hl2:=(List.getElem?_eq_some_iff.mp hj).1
   rw [qi,qU] at hl2
   rw [qI (by omega),show j - ks.length=0 by omega] at hj
   cases hj
   have:=I.len
   rw [show j=i by omega]
theorem zdI {α:Type} {l:List α} {f:α->Str} {g:Nat->Str} {n:Nat} (hn:l.length<=n) (hg:∀ i,i < n->∀ j,j < n->g i=g j->i=j) (h:∀ (j:Nat) k,l[j]?=some k->f k=g j):(l.map f).Nodup:=by
 rw [List.nodup_iff_pairwise_ne,List.pairwise_iff_getElem]
 intro i j hi hj hij e
 rw [qe] at hi hj
 rw [List.getElem_map,List.getElem_map,h i _ (qB hi),h j _ (qB hj)] at e
 have:=hg i (by omega) j (by omega) e
 omega
theorem zkw (c:Int) (ss:List StepT) (hl:ss.length<=40) (nd:(ss.map (·.nm)).Nodup):∃ ks:List StockT,zbt [.int c,.lst (ss.map zaW)]=some (.lst (ks.map zbA))/\ks.length<=2/\(∀ k∈ks,GoodK (ss.map (·.nm)) k)/\(ks.map (·.nm)).Nodup:=by
 obtain ⟨ds,e,hd,hbd⟩:=zdi c 9 (by omega) [3,4,5,8,8,4,4] (by decide) (by decide)
 obtain ⟨d0,q0,p0,r0⟩:=hbd 0 3 rfl
 obtain ⟨d1,q1,p1⟩:=hbd 1 4 rfl
 obtain ⟨d2,q2,p2⟩:=hbd 2 5 rfl
 obtain ⟨d3,q3,p3⟩:=hbd 3 8 rfl
 obtain ⟨d4,q4,p4⟩:=hbd 4 8 rfl
 obtain ⟨d5,q5,p5⟩:=hbd 5 4 rfl
 obtain ⟨d6,q6,p6⟩:=hbd 6 4 rfl
 obtain ⟨ρ',h1,ks,a,x,y,z,h2,h3⟩:=zcQ (gg:=za3 4) (body:=znX) (xs:=(List.range d0.toNat).map fun k:Nat=>D.int (0+k)) (ρ:=kE c ss ds [] none none none none)
  (fun i ρ=>∃ ks a x y z,ρ=kE c ss ds ks a x y z/\KInv (ss.map (·.nm)) i ks) ⟨[],none,none,none,none,rfl,⟨rfl,fun j hj=>(by cases hj),fun j k hj=>(by simp at hj)⟩⟩ (fun i w ρ hx hI=>by
   obtain ⟨ks,a,x,y,z,rfl,I⟩:=hI
   obtain ⟨hi,rfl⟩:=zle hx
   obtain ⟨ks',x',y',z',e1,e2⟩:=zoE (c:=c) (ss:=ss) (ds:=ds) (ks:=ks) (i:=i) (x:=x) (y:=y) (z:=z) (by omega) hl nd q1 q2 q3 q4 q5 q6 p1 p2 p5 p6 I
   exact ⟨_,_,rfl,e1,ks',_,_,_,_,rfl,e2⟩)
 rw [qe,qS] at h3
 have eS:cF zaj (zab (vSh 0) (zab (vC (.int 9)) (zab (zax (szF (zab (vC (.int 3)) (zab (vC (.int 4)) (zab (vC (.int 5)) (zab (vC (.int 8)) (zab (vC (.int 8)) (zab (vC (.int 4)) (zab (vC (.int 4)) zag))))))))) zag))) [oS (.int c),oS (.lst (ss.map zaW)),none,none,none,none,none,none]=some (.lst (ds.map D.int)) :=
  za6 (zap rfl (zap rfl (zap (zhA rfl rfl rfl rfl rfl rfl rfl) zaM))) e
 have eI:itR zjF (zab (b2 ixD (vSh 2) (vC (.int 0))) zag) (kE c ss ds [] none none none none)=some ((List.range d0.toNat).map fun k:Nat=>D.int (0+k)):=zg8 (zap (zcl (n:=0) rfl q0) zaM) (zfS ⟨p0,by omega⟩)
 exact ⟨ks,zaZ [oS (.int c),oS (.lst (ss.map zaW)),none,none,none,none,none,none] rfl ((zaD eS).trans (zfk.trans ((zcF ((zfn eI).trans (h1.trans (by rw [h2])))).trans ((zc0 rfl).trans (zaY (f:=vSh 3) rfl))))),by have:=h3.len;omega,h3.good,zdI (n:=3) (by have:=h3.len;omega) zph h3.nmk⟩
theorem zhN (ns:List Int) (n m:Nat) (hn:n<=1000) {fi:FA} {ρ:za5} {k:Int} (hk:k=(m:Int)) (h0:ρ[0]?=some (oS (.scr ns))) (hfi:fi ρ=some ((List.range n).map fun i:Nat=>D.int (0+i))) :
  ∃ cs:List Int,zax (za0 fi (za3 0) tT (cF zaF (zab (vSh 1) (zab (b2 zbe (vC (.int k)) (vSh 0)) zag))) [none,some 0]) ρ=some (.lst (cs.map D.int))/\cs.length=n:=by
 have hfv:zeI [none,some 0] ρ=none::[oS (.scr ns)]:=by
  simp only [zeI,ql,qM,Option.bind_none,qa,h0]
 have hc:=zcd (fi:=fi) (fe:=cF zaF (zab (vSh 1) (zab (b2 zbe (vC (.int k)) (vSh 0)) zag))) (fv:=[none,some 0]) (ρ:=ρ) (r:=[oS (.scr ns)]) (a:=none) (f:=fun d=>match d with | .int i=>.int (ns.getD (m+i.toNat) 0) | _=>.non) hfi (by rw [qe,qS];exact szN hn (by decide)) hfv (fun x hx=>by
  obtain ⟨i,hi,rfl⟩:=List.mem_map.mp hx
  have e:=zdO ns (m+i)
  refine za6 (zap rfl (zap (zaA rfl rfl rfl) zaM)) ?_
  subst hk
  have e1:((m:Int)+(0+(i:Int)))=((m+i:Nat):Int):=by omega
  rw [e1,e]
  congr 3
  omega)
 refine ⟨(List.range n).map fun i=>ns.getD (m+i) 0,?_,by rw [qe,qS]⟩
 rw [hc,qm,qm]
 congr 2
 refine List.map_congr_left fun i _=>?_
 show D.int (ns.getD (m+(0+(i:Int)).toNat) 0)=D.int (ns.getD (m+i) 0)
 congr 3
 omega
def zcT (bs:List BenchT) (ss:List StepT) (js:List JobT) (us:List SetT) (ls:List LinkT) (ks:List StockT) (h:Int):D:=.lst [.lst (bs.map zaJ),.lst (ss.map zaW),.lst (js.map zbZ),.lst (us.map zc9),.lst (ls.map zb3),.lst (ks.map zbA),.int h]
theorem zjN {α:Type} {f:α->Str} {g:Nat->Str} {l:List α} (h:∀ (i:Nat) x,l[i]?=some x->f x=g i):l.map f=(List.range l.length).map g:=by
 apply List.ext_getElem?
 intro i
 rw [qj,qj]
 by_cases hi:i < l.length
 ·rw [qB hi,List.getElem?_range hi]
  exact congrArg some (h i _ (qB hi))
 ·rw [List.getElem?_eq_none (by omega),List.getElem?_eq_none (by simpa using hi)]
  rfl
theorem znk (ns:List Int) (n:Nat) (h lo:Int) (hn:1<=n/\n<=10) (hh:1<=h/\h<=1000000) (hlo:0 < lo/\lo < 1000):∃ bs ss js us ls ks,zbI [.scr ns,.int (n:Int),.int h,.int lo]=some (zcT bs ss js us ls ks h)/\Good bs ss js us ls ks h/\js.length<=3/\(∃ nb,1<=nb/\nb<=3/\bs.map (·.nm)=(List.range nb).map fun j=>nm (60+j))/\ss.map (·.nm)=(List.range n).map nm/\(∀ x∈bs,x.br.length<=3):=by
 have b0:0<=(ns.getD 0 0) % 3:=qW _ (by decide)
 have b1:(ns.getD 0 0) % 3 < 3:=qT _ (by decide)
 obtain ⟨nb,hnb⟩:∃ nb:Nat,1+(ns.getD 0 0) % 3=(nb:Int):=⟨(1+(ns.getD 0 0) % 3).toNat,by omega⟩
 obtain ⟨cb,eb,lb⟩:=zhN ns nb 1 (by omega) (k:=1) (fi:=itR zjF (zab (b2 zbe (vC (.int 1)) (b2 zbF (cF zaF (zab (vSh 0) (zab (vC (.int 0)) zag))) (vC (.int 3)))) zag)) (ρ:=[oS (.scr ns),oS (.int n),oS (.int h),oS (.int lo),none,none,none,none,none,none]) rfl rfl (zg8 (zap (d:=.int (nb:Int)) (zaA rfl (zaA (za6 (zap rfl (zap rfl zaM)) (zdO ns 0)) rfl (zbp (by decide))) (by rw [← hnb];rfl)) zaM) (zfS (j:=(nb:Int)) (by omega)))
 obtain ⟨bs,e1,l1,g1⟩:=zjb cb h (by omega)
 have bnd:(bs.map (·.nm)).Nodup:=zdI (n:=3) (by omega) zpj fun j b hj=>(g1 j b hj).nm
 have hbn:∀ x∈bs.map (·.nm),za8 x=true:=fun x hx=>by
  obtain ⟨b,hb,rfl⟩:=List.mem_map.mp hx
  obtain ⟨j,hj⟩:=List.getElem?_of_mem hb
  have hjl:=(List.getElem?_eq_some_iff.mp hj).1
  rw [(g1 j b hj).nm]
  exact (zio (by omega)).2
 obtain ⟨ct,et,lt⟩:=zhN ns n 4 (by omega) (k:=4) (fi:=itR zjF (zab (vSh 1) zag)) (ρ:=[oS (.scr ns),oS (.int n),oS (.int h),oS (.int lo),oS (.lst (bs.map zaJ)),none,none,none,none,none]) rfl rfl (zg8 (zap rfl zaM) (zfS (j:=(n:Int)) (by omega)))
 obtain ⟨ss,e2,l2,g2⟩:=zlA ct bs h lo hh.1 hlo (by omega) (by omega) bnd
 have snd:(ss.map (·.nm)).Nodup:=zdI (n:=10) (by omega) zpk fun j b hj=>(g2 j b hj).nm
 have gs:∀ s∈ss,GoodS (bs.map (·.nm)) h s:=fun s hs=>by
  obtain ⟨j,hj⟩:=List.getElem?_of_mem hs
  exact (g2 j s hj).good
 have hsn:∀ x∈ss.map (·.nm),za8 x=true:=fun x hx=>by
  obtain ⟨b,hb,rfl⟩:=List.mem_map.mp hx
  exact (gs b hb).nm
 obtain ⟨cj,ej,lj⟩:=zhN ns 3 14 (by omega) (k:=14) (fi:=itR zjF (zab (vC (.int 3)) zag)) (ρ:=[oS (.scr ns),oS (.int n),oS (.int h),oS (.int lo),oS (.lst (bs.map zaJ)),oS (.lst (ss.map zaW)),none,none,none,none]) rfl rfl (zg8 (zap rfl zaM) (zfS (j:=3) (by omega)))
 obtain ⟨js,e3,l3,g3,g4,g5⟩:=zni cj ss h hh.1 (by omega) (by omega) hsn snd
 obtain ⟨us,e4,l4,g6,g7⟩:=zkx (ns.getD 17 0) bs h hh.1 (by omega) hbn
 obtain ⟨ls,e5,l5,g8,g9⟩:=zlG (ns.getD 18 0) ss h hh.1 (by omega) hsn
 obtain ⟨ks,e6,l6,g10,g11⟩:=zkw (ns.getD 19 0) ss (by omega) snd
 refine ⟨bs,ss,js,us,ls,ks,?_,⟨hh,by omega,fun x hx=>?_,bnd,by omega,gs,snd,by omega,g3,g4,g5,by omega,g6,g7,by omega,g8,g9,by omega,g10,g11⟩,l3,⟨bs.length,by omega,by omega,zjN fun j b hj=>(g1 j b hj).nm⟩,by rw [show n=ss.length by omega];exact zjN fun j s hj=>(g2 j s hj).nm,fun x hx=>by
  obtain ⟨j,hj⟩:=List.getElem?_of_mem hx
  exact (g1 j x hj).len⟩
 ·refine zaZ [oS (.scr ns),oS (.int n),oS (.int h),oS (.int lo),none,none,none,none,none,none] rfl ((zaD (za6 (zap eb (zap rfl zaM)) e1)).trans ((zaD (za6 (zap et (zap rfl (zap rfl (zap rfl zaM)))) e2)).trans ((zaD (za6 (zap ej (zap rfl (zap rfl zaM))) e3)).trans ((zaD (za6 (zap (za6 (zap rfl (zap rfl zaM)) (zdO ns 17)) (zap rfl (zap rfl zaM))) e4)).trans ((zaD (za6 (zap (za6 (zap rfl (zap rfl zaM)) (zdO ns 18)) (zap rfl (zap rfl zaM))) e5)).trans ((zaD (za6 (zap (za6 (zap rfl (zap rfl zaM)) (zdO ns 19)) (zap rfl zaM)) e6)).trans (zaY (zhA rfl rfl rfl rfl rfl rfl rfl))))))))
 ·obtain ⟨j,hj⟩:=List.getElem?_of_mem hx
  have hjl:=(List.getElem?_eq_some_iff.mp hj).1
  have g:=g1 j x hj
  exact ⟨by rw [g.nm];exact (zio (by omega)).2,by have:=g.len;omega,g.good.iv,g.good.gap⟩
end Law
end
section
namespace Law
open PySem L2
theorem zm8 {a b c d e f h:D} {p:Str} (hp:zaB [a,b,c,d,e,f,h]=some (.str p)) (hl:p.length<=1000):zaT [.lst [a,b,c,d,e,f,h]]=some (.str p):=by
 have key:∀ (G:FS) (ρ':za5),G (some (.obj "Shop" [])::[oS a,oS b,oS c,oS d,oS e,oS f,oS h,none,none,none])=some (.rt (xm p),ρ')->zii 3 "Shop" G [a,b,c,d,e,f,h]=some (xm p):=fun G ρ' e=>by
  unfold zii
  show (G (some (.obj "Shop" [])::[oS a,oS b,oS c,oS d,oS _,oS f,oS h,none,none,none])).bind _=_
  rw [e]
  rfl
 have hi:zaS [a,b,c,d,e,f,h]=some (xm p):=by
  refine key _ [some (.obj "Shop" []),oS a,oS b,oS c,oS d,oS e,oS f,oS h,oS (.str p),none,none] ((zkS (za6 rfl hp)).trans (zbV (d:=xm p) (zaU (b:=true) rfl) ?_))
  show zeg (zab (vSh 8) zag) _=_
  unfold zeg
  show (if p.length<=1000 then _ else _)=_
  rw [qX hl]
  rfl
 have hs:zbi [.lst [a,b,c,d,e,f,h]]=zaS [a,b,c,d,e,f,h]:=rfl
 show (zbi [.lst [a,b,c,d,e,f,h]]).bind zr4=_
 rw [hs,hi]
 rfl
theorem zoF {bs:List BenchT} {ss:List StepT} {js:List JobT} {us:List SetT} {ls:List LinkT} {ks:List StockT} {h:Int} (g:Good bs ss js us ls ks h) (ml:(js.flatMap (·.ms)).length<=300) :
  zaT [.lst [.lst (bs.map zaJ),.lst (ss.map zaW),.lst (js.map zbZ),.lst (us.map zc9),.lst (ls.map zb3),.lst (ks.map zbA),.int h]]=some (.str "none"):=by
 have hs:zbi [.lst [.lst (bs.map zaJ),.lst (ss.map zaW),.lst (js.map zbZ),.lst (us.map zc9),.lst (ls.map zb3),.lst (ks.map zbA),.int h]]=zaS [.lst (bs.map zaJ),.lst (ss.map zaW),.lst (js.map zbZ),.lst (us.map zc9),.lst (ls.map zb3),.lst (ks.map zbA),.int h]:=rfl
 show (zbi [.lst [.lst (bs.map zaJ),.lst (ss.map zaW),.lst (js.map zbZ),.lst (us.map zc9),.lst (ls.map zb3),.lst (ks.map zbA),.int h]]).bind zr4=_
 rw [hs,zpw g ml]
 rfl
end Law
end
section
namespace Law
open PySem L2
def LH:List D:=[.int 0,
 .int 1000001,
 .bl true,
 .str "9",
 .non,
 .int (-1),
 .int 10000000000000000000000000000000000000000,
 .tup [.int 1]]
def LB (r f:D):List D:=[.lst [],
 .non,
 .tup [r],
 .lst [.tup [.str "A",.lst []]],
 .lst [.tup [.str "i",.lst []],.tup [.str "i",.lst []]],
 .lst [.tup [.str "i",.lst [.tup [.int 1,.int 1]]]],
 .lst [.tup [.str "i",.lst [.tup [.int 0,f]]]],
 .lst [.tup [.str "i",.lst [.tup [.int 0,.int 1],.tup [.int 1,.int 2]]]],
 .lst [.tup [.str "i",.tup [.tup [.int 0,.int 1]]]],
 .lst [.tup [.str "i"]],
 .lst [.tup [.str "i",.lst [.tup [.bl true,.int 2]]]],
 .lst [.tup [.str "abcdefghi",.lst []]],
 .lst [.tup [.str "i",.lst [.tup [.int (-1),.int 1]]]],
 .lst [.lst [.str "i",.lst []]]]
def LS (f:D):List D:=[.lst [],
 .lst [.tup [.str "a",.str "p",.lst []]],
 .lst [.tup [.str "a",.str "P",.lst [.tup [.str "i",.int 1]]]],
 .lst [.tup [.str "a",.str "p",.lst [.tup [.str "zz",.int 1]]]],
 .non,
 .lst [.tup [.str "a",.str "p",.lst [.tup [.str "i",.int 0]]]],
 .lst [.tup [.str "a",.str "p",.lst [.tup [.str "i",f]]]],
 .lst [.tup [.str "a",.str "p",.lst [.tup [.str "i",.int 1],.tup [.str "i",.int 1]]]],
 .lst [.tup [.str "a",.str "p",.lst [.tup [.str "i",.bl true]]]],
 .lst [.tup [.str "a",.str "p",.lst [.tup [.str "i",.int 1]]],.tup [.str "a",.str "p",.lst [.tup [.str "i",.int 1]]]],
 .lst [.tup [.str "",.str "p",.lst [.tup [.str "i",.int 1]]]],
 .lst [.tup [.str "a",.str "p",.tup [.tup [.str "i",.int 1]]]],
 .lst [.tup [.str "a",.lst [.tup [.str "i",.int 1]]]],
 .lst [.tup [.str "a",.str "p",.lst [.lst [.str "i",.int 1]]]]]
def LJ (f:D):List D:=[.non,
 .lst [.tup [.str "A",.int 0,.int 1,.bl true,.lst [.str "a"]]],
 .lst [.tup [.str "j",.int 0,f,.bl true,.lst [.str "a"]]],
 .lst [.tup [.str "j",.int 0,.int 1,.int 1,.lst [.str "a"]]],
 .lst [.tup [.str "j",.int 0,.int 1,.bl true,.lst []]],
 .lst [.tup [.str "j",.int 0,.int 1,.bl true,.lst [.str "zz"]]],
 .lst [.tup [.str "j",.int 0,.int 1,.bl false,.lst [.str "a",.str "a"]]],
 .lst [.tup [.str "j",.int (-1),.int 1,.bl true,.lst [.str "a"]]],
 .lst [.tup [.str "j",.int 0,.int 1,.bl true,.lst [.str "a"]],.tup [.str "i",.int 0,.int 1,.bl true,.lst [.str "a"]]],
 .lst [.tup [.str "j",.int 0,.int 1,.bl true,.tup [.str "a"]]],
 .lst [.tup [.str "j",.bl true,.int 1,.bl true,.lst [.str "a"]]],
 .lst [.str "j"]]
def LU (f:D):List D:=[.non,
 .lst [.tup [.str "zz",.str "p",.str "q",.int 1]],
 .lst [.tup [.str "i",.str "p",.str "q",.int 0]],
 .lst [.tup [.str "i",.str "p",.str "q",f]],
 .lst [.tup [.str "i",.str "p",.str "q",.int 1],.tup [.str "i",.str "p",.str "q",.int 1]],
 .lst [.tup [.str "i",.str "P",.str "q",.int 1]],
 .lst [.tup [.str "i",.str "p",.str "q",.bl true]],
 .lst [.tup [.str "i",.str "p",.str "q"]],
 .lst [.str "i"]]
def LL:List D:=[.non,
 .lst [.tup [.str "a",.str "a",.int 0]],
 .lst [.tup [.str "a",.str "zz",.int 0]],
 .lst [.tup [.str "a"]],
 .lst [.lst [.str "a",.str "a",.int 0]],
 .lst [.tup [.str "zz",.str "a",.int 0]],
 .lst [.int 5]]
def LK:List D:=[.non,
 .lst [.tup [.str "s",.int 2,.int 1,.lst [],.lst []]],
 .lst [.tup [.str "s",.int 0,.int (-1),.lst [],.lst []]],
 .lst [.tup [.str "S",.int 0,.int 1,.lst [],.lst []]],
 .lst [.tup [.str "s",.int 0,.int 1,.lst [],.lst []],.tup [.str "s",.int 0,.int 1,.lst [],.lst []]],
 .lst [.tup [.str "s",.int 0,.int 1000001,.lst [],.lst []]],
 .lst [.tup [.str "s",.int 0,.int 1,.lst [.tup [.str "a",.int 0]],.lst []]],
 .lst [.tup [.str "s",.int 0,.int 1,.lst [],.lst [.tup [.str "zz",.int 1]]]],
 .lst [.tup [.str "s",.int 0,.int 1,.lst [.tup [.str "a",.int 1],.tup [.str "a",.int 1]],.lst []]],
 .lst [.tup [.str "s",.int 0,.int 1,.lst [.tup [.str "a",.int 1000001]],.lst []]],
 .lst [.tup [.str "s",.bl true,.int 1,.lst [],.lst []]],
 .lst [.tup [.str "s",.int 0,.int 1,.lst [.tup [.str "a",.bl true]],.lst []]],
 .lst [.tup [.str "s",.int 0,.int 1,.tup []]],
 .lst [.tup [.str "s",.int 0,.int 1,.tup [],.lst []]]]
def bnE:List Str:=["i","js","kss"]
def snE:List Str:=["a","bq","cqq","dqqq","e","fq","gqq","hqqq","i","jq"]
def isF:Option D->Bool
 | some (.bl false)=>true
 | _=>false
theorem zf6 {x:Option D} (h:isF x=true):x=some (.bl false):=by
 unfold isF at h
 split at h
 ·rfl
 ·cases h
def hzs:List Nat:=(List.range 30).map (1+·)++[40,1000000]
def nB (n:Nat):D:=.lst ((bnE.take n).map D.str)
def nS (n:Nat):D:=.lst ((snE.take n).map D.str)
def far (h:Nat):D:=.int ((h:Int)+1)
def okB (h:Nat):Bool:=(LB .non (far h)).all fun b=>isF (zaX [b,.int (h:Int)])
def okS (n h:Nat):Bool:=(LS (far h)).all fun b=>isF (zbg [b,nB n,.int (h:Int)])
def okJ (n h:Nat):Bool:=(LJ (far h)).all fun b=>isF (zbr [b,nS n,.int (h:Int)])
def okU (n h:Nat):Bool:=(LU (far h)).all fun b=>isF (za4 [b,nB n,.int (h:Int)])
def okL (n h:Nat):Bool:=LL.all fun b=>isF (zbh [b,nS n,.int (h:Int)])
def okK (n:Nat):Bool:=LK.all fun b=>isF (zbd [b,nS n])
def okH:Bool:=LH.all fun b=>isF (zak [b,.int 1,.int 1000000])
end Law
end
section
namespace Law
open PySem L2
theorem zul:(hzs.all fun h=>okB h)=true:=by decide +kernel
end Law
end
section
namespace Law
open PySem L2
theorem zug:((List.range 3).all fun n=>hzs.all fun h=>okS (1+n) h)=true:=by decide +kernel
end Law
end
section
namespace Law
open PySem L2
theorem zuj:((List.range 10).all fun n=>hzs.all fun h=>okJ (1+n) h)=true:=by decide +kernel
end Law
end
section
namespace Law
open PySem L2
theorem zuf:((List.range 3).all fun n=>hzs.all fun h=>okU (1+n) h)=true:=by decide +kernel
end Law
end
section
namespace Law
open PySem L2
theorem zuh:((List.range 10).all fun n=>hzs.all fun h=>okL (1+n) h)=true:=by decide +kernel
end Law
end
section
namespace Law
open PySem L2
theorem zui:((List.range 10).all fun n=>okK (1+n))=true:=by decide +kernel
theorem zuk:okH=true:=by decide +kernel
end Law
end
section
namespace Law
open PySem L2
theorem zg1 {i:Nat} {fr:FA} {g:FS} {ρ:za5} {ds:List D} (h:fr ρ=some ds):zaG (zeB i fr) g ρ=g (ρ.set i (some (.own ds))):=by
 unfold zaG zeB;rw [h];rfl
theorem zsM {l:List D} {i:Int} {r:Nat} {d:D} (h:i=r) (hd:l[r]?=some d):ixD (.lst l) (.int i)=some d:=by
 subst h
 exact (ixL l r).trans hd
theorem zoX {l:List D} {x:Int} {M:Nat} (h:0 < M) (hl:l.length=M):∃ d,d∈l/\ixD (.lst l) (.int (x % (M:Int)))=some d:=by
 have h1:=qW x (show (M:Int)≠0 by omega)
 have h2:=qT x (show (0:Int) < M by omega)
 have h3:(x % (M:Int)).toNat < l.length:=by rw [hl];omega
 exact ⟨l[(x % (M:Int)).toNat],List.getElem_mem h3,zsM (by omega) (qB h3)⟩
section
variable {br k ws gJ gU gL gK:D} {B S:List D} {h x:Int}
def d7 (br k ws gJ gU gL gK:D) (B S:List D) (h:Int):D:=.lst [.lst (.tup [.str "i",br]::B),.lst (.tup [.str "a",k,ws]::S),gJ,gU,gL,gK,.int h]
theorem zov {f:FE} {ρ:za5} {x:D} (h:f ρ=some x):zaQ (szF (zab f zag)) ρ=some (.tup [x]):=by
 simp only [zaQ,szF,zab,zag,h,qa,qd,qh,qk,Nat.zero_add,sz1,if_true]
theorem zhE {f g:FE} {ρ:za5} {a:D} {l:List D} (h:f ρ=some (.lst (a::l))) (hg:g ρ=some (.int 0)):b2 ixD f g ρ=some a:=zaA h hg (ixL (a::l) 0)
theorem zuc:∃ d,d∈LH/\zaP [.int 6,d7 br k ws gJ gU gL gK B S h,.int x]=some d:=by
 obtain ⟨d,hd,he⟩:=zoX (l:=LH) (x:=x) (M:=8) (by decide) rfl
 refine ⟨d,hd,?_⟩
 unfold zaP zcM
 refine zaZ (ρ':=[oS (.int 6),oS (d7 br k ws gJ gU gL gK B S h),oS (.int x),oS (.str "i"),oS (.str "a"),oS (.int (h+1)),none]) [oS (.int 6),oS (d7 br k ws gJ gU gL gK B S h),oS (.int x),none,none,none,none] rfl ?_
 exact (zaD (d:=.str "i") (zaA (zhE (a:=.tup [.str "i",br]) (l:=B) (by kernel_rfl) rfl) rfl (by kernel_rfl))).trans ((zaD (d:=.str "a") (zaA (zhE (a:=.tup [.str "a",k,ws]) (l:=S) (by kernel_rfl) rfl) rfl (by kernel_rfl))).trans ((zaD (d:=.int (h+1)) (by kernel_rfl)).trans (zbV (zaU (b:=true) (by kernel_rfl)) (zaY (zaA (x:=.lst LH) (by kernel_rfl) (zaA rfl rfl (zbp (by decide))) he)))))
theorem zue:∃ d,d∈LB (.tup [.str "i",br]) (.int (h+1))/\zaP [.int 0,d7 br k ws gJ gU gL gK B S h,.int x]=some d:=by
 obtain ⟨d,hd,he⟩:=zoX (l:=LB (.tup [.str "i",br]) (.int (h+1))) (x:=x) (M:=14) (by decide) rfl
 refine ⟨d,hd,?_⟩
 unfold zaP zcM
 refine zaZ (ρ':=[oS (.int 0),oS (d7 br k ws gJ gU gL gK B S h),oS (.int x),oS (.str "i"),oS (.str "a"),oS (.int (h+1)),oS (.lst ((LB (.tup [.str "i",br]) (.int (h+1))).take 11))]) [oS (.int 0),oS (d7 br k ws gJ gU gL gK B S h),oS (.int x),none,none,none,none] rfl ?_
 refine (zaD (d:=.str "i") (zaA (zhE (a:=.tup [.str "i",br]) (l:=B) (by kernel_rfl) rfl) rfl (by kernel_rfl))).trans ((zaD (d:=.str "a") (zaA (zhE (a:=.tup [.str "a",k,ws]) (l:=S) (by kernel_rfl) rfl) rfl (by kernel_rfl))).trans ((zaD (d:=.int (h+1)) (by kernel_rfl)).trans ((zbo (zaU (b:=false) (by kernel_rfl))).trans (zbV (zaU (b:=true) (by kernel_rfl)) ?_))))
 exact (zaD (d:=.lst ((LB (.tup [.str "i",br]) (.int (h+1))).take 7)) (zhA (by kernel_rfl) rfl (zov (zhE (a:=.tup [.str "i",br]) (l:=B) (by kernel_rfl) rfl)) (by kernel_rfl) (by kernel_rfl) (by kernel_rfl) (by kernel_rfl))).trans ((zaD (d:=.lst ((LB (.tup [.str "i",br]) (.int (h+1))).take 11)) (by kernel_rfl)).trans (zaY (zaA (x:=.lst (LB (.tup [.str "i",br]) (.int (h+1)))) (by kernel_rfl) (zaA rfl rfl (zbp (by decide))) he)))
theorem zud:∃ d,d∈LS (.int (h+1))/\zaP [.int 1,d7 br k ws gJ gU gL gK B S h,.int x]=some d:=by
 obtain ⟨d,hd,he⟩:=zoX (l:=LS (.int (h+1))) (x:=x) (M:=14) (by decide) rfl
 refine ⟨d,hd,?_⟩
 unfold zaP zcM
 refine zaZ (ρ':=[oS (.int 1),oS (d7 br k ws gJ gU gL gK B S h),oS (.int x),oS (.str "i"),oS (.str "a"),oS (.int (h+1)),oS (.lst ((LS (.int (h+1))).take 11))]) [oS (.int 1),oS (d7 br k ws gJ gU gL gK B S h),oS (.int x),none,none,none,none] rfl ?_
 refine (zaD (d:=.str "i") (zaA (zhE (a:=.tup [.str "i",br]) (l:=B) (by kernel_rfl) rfl) rfl (by kernel_rfl))).trans ((zaD (d:=.str "a") (zaA (zhE (a:=.tup [.str "a",k,ws]) (l:=S) (by kernel_rfl) rfl) rfl (by kernel_rfl))).trans ((zaD (d:=.int (h+1)) (by kernel_rfl)).trans ((zbo (zaU (b:=false) (by kernel_rfl))).trans ((zbo (zaU (b:=false) (by kernel_rfl))).trans (zbV (zaU (b:=true) (by kernel_rfl)) ?_)))))
 exact (zaD (d:=.lst ((LS (.int (h+1))).take 5)) (by kernel_rfl)).trans ((zaD (d:=.lst ((LS (.int (h+1))).take 8)) (by kernel_rfl)).trans ((zaD (d:=.lst ((LS (.int (h+1))).take 11)) (by kernel_rfl)).trans (zaY (zaA (x:=.lst (LS (.int (h+1)))) (by kernel_rfl) (zaA rfl rfl (zbp (by decide))) he))))
theorem zj9 {p:Int} {d:D} (h6:toB (b2 eqD (vSh 0) (vC (.int 6))) [oS (.int p),oS (d7 br k ws gJ gU gL gK B S h),oS (.int x),oS (.str "i"),oS (.str "a"),oS (.int (h+1)),none]=some false) (h0:toB (b2 eqD (vSh 0) (vC (.int 0))) [oS (.int p),oS (d7 br k ws gJ gU gL gK B S h),oS (.int x),oS (.str "i"),oS (.str "a"),oS (.int (h+1)),none]=some false) (h1:toB (b2 eqD (vSh 0) (vC (.int 1))) [oS (.int p),oS (d7 br k ws gJ gU gL gK B S h),oS (.int x),oS (.str "i"),oS (.str "a"),oS (.int (h+1)),none]=some false)
  (hm:zaH [.int p,.str "i",.str "a",.int (h+1),.int x]=some d):zaP [.int p,d7 br k ws gJ gU gL gK B S h,.int x]=some d:=by
 unfold zaP zcM
 refine zaZ (ρ':=[oS (.int p),oS (d7 br k ws gJ gU gL gK B S h),oS (.int x),oS (.str "i"),oS (.str "a"),oS (.int (h+1)),none]) [oS (.int p),oS (d7 br k ws gJ gU gL gK B S h),oS (.int x),none,none,none,none] rfl ?_
 exact (zaD (d:=.str "i") (zaA (zhE (a:=.tup [.str "i",br]) (l:=B) (by kernel_rfl) rfl) rfl (by kernel_rfl))).trans ((zaD (d:=.str "a") (zaA (zhE (a:=.tup [.str "a",k,ws]) (l:=S) (by kernel_rfl) rfl) rfl (by kernel_rfl))).trans ((zaD (d:=.int (h+1)) (by kernel_rfl)).trans ((zbo h6).trans ((zbo h0).trans ((zbo h1).trans (zaY (za6 rfl hm)))))))
theorem zsK:∃ d,d∈LJ (.int h)/\zaH [.int 2,.str "i",.str "a",.int h,.int x]=some d:=by
 obtain ⟨d,hd,he⟩:=zoX (l:=LJ (.int h)) (x:=x) (M:=12) (by decide) rfl
 refine ⟨d,hd,?_⟩
 unfold zaH zbE
 refine zaZ (ρ':=[oS (.int 2),oS (.str "i"),oS (.str "a"),oS (.int h),oS (.int x),oS (.lst ((LJ (.int h)).take 9))]) [oS (.int 2),oS (.str "i"),oS (.str "a"),oS (.int h),oS (.int x),none] rfl ?_
 refine zbV (zaU (b:=true) (by kernel_rfl)) ?_
 exact (zg1 (ds:=(LJ (.int h)).take 4) (by kernel_rfl)).trans ((zc0 rfl).trans ((zaD (d:=.lst ((LJ (.int h)).take 7)) (by kernel_rfl)).trans ((zaD (d:=.lst ((LJ (.int h)).take 9)) (by kernel_rfl)).trans (zaY (zaA (x:=.lst (LJ (.int h))) (by kernel_rfl) (zaA rfl rfl (zbp (by decide))) he)))))
theorem zsJ:∃ d,d∈LU (.int h)/\zaH [.int 3,.str "i",.str "a",.int h,.int x]=some d:=by
 obtain ⟨d,hd,he⟩:=zoX (l:=LU (.int h)) (x:=x) (M:=9) (by decide) rfl
 refine ⟨d,hd,?_⟩
 unfold zaH zbE
 refine zaZ (ρ':=[oS (.int 3),oS (.str "i"),oS (.str "a"),oS (.int h),oS (.int x),oS (.lst ((LU (.int h)).take 5))]) [oS (.int 3),oS (.str "i"),oS (.str "a"),oS (.int h),oS (.int x),none] rfl ?_
 refine (zbo (zaU (b:=false) (by kernel_rfl))).trans (zbV (zaU (b:=true) (by kernel_rfl)) ?_)
 exact (zg1 (ds:=(LU (.int h)).take 4) (by kernel_rfl)).trans ((zcF (ρ1:=[oS (.int 3),oS (.str "i"),oS (.str "a"),oS (.int h),oS (.int x),some (.own ((LU (.int h)).take 5))]) (by kernel_rfl)).trans ((zc0 rfl).trans (zaY (zaA (x:=.lst (LU (.int h))) (by kernel_rfl) (zaA rfl rfl (zbp (by decide))) he))))
theorem zsI:∃ d,d∈LL/\zaH [.int 4,.str "i",.str "a",.int h,.int x]=some d:=by
 obtain ⟨d,hd,he⟩:=zoX (l:=LL) (x:=x) (M:=7) (by decide) rfl
 refine ⟨d,hd,?_⟩
 unfold zaH zbE
 refine zaZ (ρ':=[oS (.int 4),oS (.str "i"),oS (.str "a"),oS (.int h),oS (.int x),oS (.lst LL)]) [oS (.int 4),oS (.str "i"),oS (.str "a"),oS (.int h),oS (.int x),none] rfl ?_
 refine (zbo (zaU (b:=false) (by kernel_rfl))).trans ((zbo (zaU (b:=false) (by kernel_rfl))).trans (zbV (zaU (b:=true) (by kernel_rfl)) ?_))
 exact (zg1 (ds:=LL) (by kernel_rfl)).trans ((zc0 rfl).trans (zaY (zaA (x:=.lst LL) (by kernel_rfl) (zaA rfl rfl (zbp (by decide))) he)))
theorem zsH:∃ d,d∈LK/\zaH [.int 5,.str "i",.str "a",.int h,.int x]=some d:=by
 obtain ⟨d,hd,he⟩:=zoX (l:=LK) (x:=x) (M:=14) (by decide) rfl
 refine ⟨d,hd,?_⟩
 unfold zaH zbE
 refine zaZ (ρ':=[oS (.int 5),oS (.str "i"),oS (.str "a"),oS (.int h),oS (.int x),oS (.lst (LK.take 11))]) [oS (.int 5),oS (.str "i"),oS (.str "a"),oS (.int h),oS (.int x),none] rfl ?_
 refine (zbo (zaU (b:=false) (by kernel_rfl))).trans ((zbo (zaU (b:=false) (by kernel_rfl))).trans ((zbo (zaU (b:=false) (by kernel_rfl))).trans ?_))
 exact (zg1 (ds:=LK.take 5) (by kernel_rfl)).trans ((zc0 rfl).trans ((zaD (d:=.lst (LK.take 8)) (by kernel_rfl)).trans ((zg1 (ds:=LK.take 10) (by kernel_rfl)).trans ((zcF (ρ1:=[oS (.int 5),oS (.str "i"),oS (.str "a"),oS (.int h),oS (.int x),some (.own (LK.take 11))]) (by kernel_rfl)).trans ((zc0 rfl).trans (zaY (zaA (x:=.lst LK) (by kernel_rfl) (zaA rfl rfl (zbp (by decide))) he)))))))
end
end Law
end
section
namespace Law
open PySem L2
def zti (nb n:Nat) (h:Int):Nat->D->Prop
 | 0,d=>zaX [d,.int h]=some (.bl false)
 | 1,d=>zbg [d,nB nb,.int h]=some (.bl false)
 | 2,d=>zbr [d,nS n,.int h]=some (.bl false)
 | 3,d=>za4 [d,nB nb,.int h]=some (.bl false)
 | 4,d=>zbh [d,nS n,.int h]=some (.bl false)
 | 5,d=>zbd [d,nS n]=some (.bl false)
 | _,d=>zak [d,.int 1,.int 1000000]=some (.bl false)
theorem ztd {r f d:D} (h:d∈LB r f):d=.tup [r]\/d∈LB .non f:=by
 have e:LB r f=(LB .non f).take 2++.tup [r]::(LB .non f).drop 3:=rfl
 rw [e] at h
 rcases List.mem_append.mp h with h | h
 ·exact .inr (List.mem_of_mem_take h)
 ·rcases List.mem_cons.mp h with h | h
  ·exact .inl h
  ·exact .inr (List.mem_of_mem_drop h)
theorem ztx:∀ l:List (Int×Int),zfl 7 (l.map dIv)=true
 | []=>rfl
 | p::l=>by
  show (zcV 7 (dIv p) && zfl 7 (l.map dIv))=true
  rw [ztx l];rfl
theorem zcZ {l:List D} {f:D->Bool} (h:l.all f=true) {d:D} (hd:d∈l):f d=true:=List.all_eq_true.mp h d hd
theorem zck {l:List Nat} {f:Nat->Bool} (h:l.all f=true) {d:Nat} (hd:d∈l):f d=true:=List.all_eq_true.mp h d hd
section
variable {k ws gJ gU gL gK:D} {B S:List D} {h x:Int} {nb n hn:Nat} {br:List (Int×Int)}
theorem zrV (hb:1<=nb/\nb<=3) (hs:1<=n/\n<=10) (hm:hn∈hzs) (e:h=(hn:Int)) (hr:br.length<=3):∀ i:Nat,i < 7->∃ d,zaP [.int (i:Int),d7 (.lst (br.map dIv)) k ws gJ gU gL gK B S h,.int x]=some d/\zti nb n h i d/\zcV 7 d=true:=by
 have mb:nb - 1∈List.range 3:=List.mem_range.mpr (by omega)
 have ms:n - 1∈List.range 10:=List.mem_range.mpr (by omega)
 have eb:1+(nb - 1)=nb:=by omega
 have es:1+(n - 1)=n:=by omega
 intro i hi
 subst e
 match i,hi with
 | 0,_ =>
  obtain ⟨d,hd,hf⟩:=zue (br:=.lst (br.map dIv)) (k:=k) (ws:=ws) (gJ:=gJ) (gU:=gU) (gL:=gL) (gK:=gK) (B:=B) (S:=S) (h:=(hn:Int)) (x:=x)
  refine ⟨d,hf,?_⟩
  rcases ztd hd with rfl | hd
  ·refine ⟨by show zaX [_,_]=_;kernel_rfl,?_⟩
   show ((((br.map dIv).length != 7) && zfl 7 (br.map dIv)) && true && true)=true
   rw [ztx,qe]
   simp only [Bool.and_true,bne_iff_ne,ne_eq]
   omega
  ·exact ⟨zf6 (zcZ (zck zul hm) hd),zcZ (f:=zcV 7) (l:=LB .non (.int ((hn:Int)+1))) (by kernel_rfl) hd⟩
 | 1,_ =>
  obtain ⟨d,hd,hf⟩:=zud (br:=.lst (br.map dIv)) (k:=k) (ws:=ws) (gJ:=gJ) (gU:=gU) (gL:=gL) (gK:=gK) (B:=B) (S:=S) (h:=(hn:Int)) (x:=x)
  have a:=zck (zck zug mb) hm
  rw [eb] at a
  exact ⟨d,hf,zf6 (zcZ a hd),zcZ (f:=zcV 7) (l:=LS (.int ((hn:Int)+1))) (by kernel_rfl) hd⟩
 | 2,_ =>
  obtain ⟨d,hd,hf⟩:=zsK (h:=(hn:Int)+1) (x:=x)
  have a:=zck (zck zuj ms) hm
  rw [es] at a
  exact ⟨d,zj9 (p:=2) (by kernel_rfl) (by kernel_rfl) (by kernel_rfl) hf,zf6 (zcZ a hd),zcZ (f:=zcV 7) (l:=LJ (.int ((hn:Int)+1))) (by kernel_rfl) hd⟩
 | 3,_ =>
  obtain ⟨d,hd,hf⟩:=zsJ (h:=(hn:Int)+1) (x:=x)
  have a:=zck (zck zuf mb) hm
  rw [eb] at a
  exact ⟨d,zj9 (p:=3) (by kernel_rfl) (by kernel_rfl) (by kernel_rfl) hf,zf6 (zcZ a hd),zcZ (f:=zcV 7) (l:=LU (.int ((hn:Int)+1))) (by kernel_rfl) hd⟩
 | 4,_ =>
  obtain ⟨d,hd,hf⟩:=zsI (h:=(hn:Int)+1) (x:=x)
  have a:=zck (zck zuh ms) hm
  rw [es] at a
  exact ⟨d,zj9 (p:=4) (by kernel_rfl) (by kernel_rfl) (by kernel_rfl) hf,zf6 (zcZ a hd),zcZ (f:=zcV 7) (l:=LL) (by kernel_rfl) hd⟩
 | 5,_ =>
  obtain ⟨d,hd,hf⟩:=zsH (h:=(hn:Int)+1) (x:=x)
  have a:=zck zui ms
  rw [es] at a
  exact ⟨d,zj9 (p:=5) (by kernel_rfl) (by kernel_rfl) (by kernel_rfl) hf,zf6 (zcZ a hd),zcZ (f:=zcV 7) (l:=LK) (by kernel_rfl) hd⟩
 | 6,_ =>
  obtain ⟨d,hd,hf⟩:=zuc (br:=.lst (br.map dIv)) (k:=k) (ws:=ws) (gJ:=gJ) (gU:=gU) (gL:=gL) (gK:=gK) (B:=B) (S:=S) (h:=(hn:Int)) (x:=x)
  exact ⟨d,hf,zf6 (zcZ zuk hd),zcZ (f:=zcV 7) (l:=LH) (by kernel_rfl) hd⟩
end
theorem zem {A:FE} {ρ:za5} (h:A ρ=some (.bl false)):zcc (toB A) ρ=some true:=by unfold zcc toB;rw [h];rfl
def zhl (s:Nat->Bool):Str:=if s 6 then "horizon" else if s 0 then "benches" else if s 1 then "steps" else if s 2 then "jobs" else if s 3 then "setups" else if s 4 then "links" else "stocks"
section
variable {bs:List BenchT} {ss:List StepT} {js:List JobT} {us:List SetT} {ls:List LinkT} {ks:List StockT} {h:Int} {nb n:Nat} {x0 x1 x2 x3 x4 x5 x6:D}
theorem q6 (hb:zak [x6,.int 1,.int 1000000]=some (.bl false)):zaB [x0,x1,x2,x3,x4,x5,x6]=some (.str "horizon") :=
 zaZ [oS x0,oS x1,oS x2,oS x3,oS x4,oS x5,oS x6,none,none] rfl (zbV (zem hb) (zaY rfl))
variable (g:Good bs ss js us ls ks h) (ml:(js.flatMap (·.ms)).length<=300) (eb:bs.map (·.nm)=bnE.take nb) (es:ss.map (·.nm)=snE.take n)
include g
theorem wi:zak [.int h,.int 1,.int 1000000]=some (.bl true):=zbq h 1 1000000 g.hh
theorem zq5:zaX [.lst (bs.map zaJ),.int h]=some (.bl true):=zhe g.bl.1 g.bl.2 g.b g.bn
theorem q0 (hb:zaX [x0,.int h]=some (.bl false)):zaB [x0,x1,x2,x3,x4,x5,.int h]=some (.str "benches") :=
 zaZ [oS x0,oS x1,oS x2,oS x3,oS x4,oS x5,oS (.int h),none,none] rfl ((zbz (wi g)).trans (zbV (zem hb) (zaY rfl)))
include eb
theorem zr5:zbg [.lst (ss.map zaW),nB nb,.int h]=some (.bl true):=by
 unfold nB;rw [← eb]
 exact zjC g.bnn g.sl.1 g.sl.2 g.s g.sn
theorem ztw:za4 [.lst (us.map zc9),nB nb,.int h]=some (.bl true):=by
 unfold nB;rw [← eb]
 exact zh8 g.bnn g.ul g.u g.un
theorem n1:zax (za0 (itF (vSh 0)) (za3 0) tT (b2 ixD (vSh 0) (vC (.int 0))) [none]) [oS (.lst (bs.map zaJ)),oS x1,oS x2,oS x3,oS x4,oS x5,oS (.int h),none,none]=some (nB nb):=by
 unfold nB;rw [← eb]
 exact zcq (f:=zaJ) (nm:=(·.nm)) (xs:=bs) (fun x=>⟨_,rfl⟩) rfl (szN g.bl.2 (by decide)) rfl
theorem q1 (hb:zbg [x1,nB nb,.int h]=some (.bl false)):zaB [.lst (bs.map zaJ),x1,x2,x3,x4,x5,.int h]=some (.str "steps") :=
 zaZ [oS (.lst (bs.map zaJ)),oS x1,oS x2,oS x3,oS x4,oS x5,oS (.int h),none,none] rfl ((zbz (wi g)).trans ((zbz (zq5 g)).trans ((zaD (n1 g eb)).trans (zbV (zem hb) (zaY rfl)))))
include es
omit eb in
theorem n2 {z:Option Slot}:zax (za0 (itF (vSh 1)) (za3 0) tT (b2 ixD (vSh 0) (vC (.int 0))) [none]) [oS (.lst (bs.map zaJ)),oS (.lst (ss.map zaW)),oS x2,oS x3,oS x4,oS x5,oS (.int h),z,none]=some (nS n):=by
 unfold nS;rw [← es]
 exact zcq (f:=zaW) (nm:=(·.nm)) (xs:=ss) (fun x=>⟨_,rfl⟩) rfl (szN g.sl.2 (by decide)) rfl
omit eb in
theorem zt1:zbh [.lst (ls.map zb3),nS n,.int h]=some (.bl true):=by
 unfold nS;rw [← es]
 exact zjR g.snn g.ll g.l g.ln
theorem q2 (hb:zbr [x2,nS n,.int h]=some (.bl false)):zaB [.lst (bs.map zaJ),.lst (ss.map zaW),x2,x3,x4,x5,.int h]=some (.str "jobs") :=
 zaZ [oS (.lst (bs.map zaJ)),oS (.lst (ss.map zaW)),oS x2,oS x3,oS x4,oS x5,oS (.int h),none,none] rfl ((zbz (wi g)).trans ((zbz (zq5 g)).trans ((zaD (n1 g eb)).trans ((zbz (zr5 g eb)).trans ((zaD (n2 g es)).trans (zbV (zem hb) (zaY rfl)))))))
include ml
omit eb in
theorem zsF:zbr [.lst (js.map zbZ),nS n,.int h]=some (.bl true):=by
 unfold nS;rw [← es]
 exact zlO g.snn (by rw [qe];exact g.sl.2) g.jl g.j g.jn g.jm ml
theorem q3 (hb:za4 [x3,nB nb,.int h]=some (.bl false)):zaB [.lst (bs.map zaJ),.lst (ss.map zaW),.lst (js.map zbZ),x3,x4,x5,.int h]=some (.str "setups") :=
 zaZ [oS (.lst (bs.map zaJ)),oS (.lst (ss.map zaW)),oS (.lst (js.map zbZ)),oS x3,oS x4,oS x5,oS (.int h),none,none] rfl ((zbz (wi g)).trans ((zbz (zq5 g)).trans ((zaD (n1 g eb)).trans ((zbz (zr5 g eb)).trans ((zaD (n2 g es)).trans ((zbz (zsF g ml es)).trans (zbV (zem hb) (zaY rfl))))))))
theorem q4 (hb:zbh [x4,nS n,.int h]=some (.bl false)):zaB [.lst (bs.map zaJ),.lst (ss.map zaW),.lst (js.map zbZ),.lst (us.map zc9),x4,x5,.int h]=some (.str "links") :=
 zaZ [oS (.lst (bs.map zaJ)),oS (.lst (ss.map zaW)),oS (.lst (js.map zbZ)),oS (.lst (us.map zc9)),oS x4,oS x5,oS (.int h),none,none] rfl ((zbz (wi g)).trans ((zbz (zq5 g)).trans ((zaD (n1 g eb)).trans ((zbz (zr5 g eb)).trans ((zaD (n2 g es)).trans ((zbz (zsF g ml es)).trans ((zbz (ztw g eb)).trans (zbV (zem hb) (zaY rfl)))))))))
theorem q5 (hb:zbd [x5,nS n]=some (.bl false)):zaB [.lst (bs.map zaJ),.lst (ss.map zaW),.lst (js.map zbZ),.lst (us.map zc9),.lst (ls.map zb3),x5,.int h]=some (.str "stocks") :=
 zaZ [oS (.lst (bs.map zaJ)),oS (.lst (ss.map zaW)),oS (.lst (js.map zbZ)),oS (.lst (us.map zc9)),oS (.lst (ls.map zb3)),oS x5,oS (.int h),none,none] rfl ((zbz (wi g)).trans ((zbz (zq5 g)).trans ((zaD (n1 g eb)).trans ((zbz (zr5 g eb)).trans ((zaD (n2 g es)).trans ((zbz (zsF g ml es)).trans ((zbz (ztw g eb)).trans ((zbz (zt1 g es)).trans (zbV (zem hb) (zaY rfl))))))))))
def zpy (bs:List BenchT) (ss:List StepT) (js:List JobT) (us:List SetT) (ls:List LinkT) (ks:List StockT) (h:Int):Nat->D
 | 0=>.lst (bs.map zaJ)
 | 1=>.lst (ss.map zaW)
 | 2=>.lst (js.map zbZ)
 | 3=>.lst (us.map zc9)
 | 4=>.lst (ls.map zb3)
 | 5=>.lst (ks.map zbA)
 | _=>.int h
theorem ztJ {f:Nat->D} {s:Nat->Bool} (hs:∀ i < 7,(s i=true->zti nb n h i (f i))/\(s i=false->f i=zpy bs ss js us ls ks h i)) (ha:∃ i,i < 7/\s i=true):zaB [f 0,f 1,f 2,f 3,f 4,f 5,f 6]=some (.str (zhl s)):=by
 unfold zhl
 cases e6:s 6 with
 | true=>exact q6 ((hs 6 (by decide)).1 e6)
 | false =>
 rw [(hs 6 (by decide)).2 e6]
 cases e0:s 0 with
 | true=>exact q0 g ((hs 0 (by decide)).1 e0)
 | false =>
 rw [(hs 0 (by decide)).2 e0]
 cases e1:s 1 with
 | true=>exact q1 g eb ((hs 1 (by decide)).1 e1)
 | false =>
 rw [(hs 1 (by decide)).2 e1]
 cases e2:s 2 with
 | true=>exact q2 g eb es ((hs 2 (by decide)).1 e2)
 | false =>
 rw [(hs 2 (by decide)).2 e2]
 cases e3:s 3 with
 | true=>exact q3 g ml eb es ((hs 3 (by decide)).1 e3)
 | false =>
 rw [(hs 3 (by decide)).2 e3]
 cases e4:s 4 with
 | true=>exact q4 g ml eb es ((hs 4 (by decide)).1 e4)
 | false =>
 rw [(hs 4 (by decide)).2 e4]
 cases e5:s 5 with
 | true=>exact q5 g ml eb es ((hs 5 (by decide)).1 e5)
 | false =>
  obtain ⟨i,hi,e⟩:=ha
  match i,hi with
  | 0,_=>rw [e0] at e;cases e
  | 1,_=>rw [e1] at e;cases e
  | 2,_=>rw [e2] at e;cases e
  | 3,_=>rw [e3] at e;cases e
  | 4,_=>rw [e4] at e;cases e
  | 5,_=>rw [e5] at e;cases e
  | 6,_=>rw [e6] at e;cases e
end
end Law
end
section
namespace Law
open PySem L2
def zsc:List Str:=["benches","steps","jobs","setups","links","stocks","horizon"]
def dW7:D:=.lst (zsc.map D.str)
def zr8:FS:=zfQ 6 (vSh 7) (cF zaP (zab (vSh 7) (zab (vSh 2) (zab (b2 zcJ (vSh 4) (vC (.int 98))) zag))))
def zqa:FE:=b2 ixD (vSh 3) (b2 zk4 (cF zq9 (zab (zax (za0 (itF (vSh 5)) (za3 0) tT (b2 zbF (b2 zbe (vSh 0) (vC (.int 1))) (vC (.int 7))) [none])) zag)) (vC (.int 1)))
def zo7:FE:=slF (zax (szF (zab (b2 zbF (vSh 4) (vC (.int 7))) (zab (b2 zbF (b2 zcJ (vSh 4) (vC (.int 7))) (vC (.int 7))) zag)))) pN (pS (b2 zbe (vC (.int 1)) (b2 zbF (b2 zcJ (vSh 4) (vC (.int 49))) (vC (.int 2)))))
def lB:FS:=zaG (zbn 5 zo7) (zaG (zeB 6 (zlH (vSh 2))) (zaG (zeh (itF (vSh 5)) (za3 7) zr8) (zaG (zbn 8 zqa) (sIf (bwT 6 (toB (b2 neA (cF zaT (zab (vSh 6) zag)) (vSh 8)))) (zbk (vC (.bl false))) zca))))
theorem zog {fi:FA} {gg:FG} {body:FS} {ρ:za5} {xs:List D} {R:Option (Fl×za5)} (h1:fi ρ=some xs) (h2:zjZ gg body xs ρ=R):zeh fi gg body ρ=R:=by unfold zeh;rw [h1];exact h2
def isS (s:Str):Option D->Bool
 | some (.str x)=>decide (x=s)
 | _=>false
theorem zrp {s:Str} {x:Option D} (h:isS s x=true):x=some (.str s):=by
 unfold isS at h
 split at h
 ·rw [of_decide_eq_true h]
 ·cases h
def dPs (ps:List Nat):D:=.lst (ps.map fun p:Nat=>D.int (p:Int))
def sOf (ps:List Nat):Nat->Bool:=fun i=>decide (i∈ps)
theorem zub:((List.range 7).all fun p=>isS (zhl (sOf [p])) (zqa [none,none,none,oS dW7,none,oS (dPs [p])]))=true:=by decide +kernel
theorem zua:((List.range 7).all fun p=>(List.range 7).all fun q=>isS (zhl (sOf [p,q])) (zqa [none,none,none,oS dW7,none,oS (dPs [p,q])]))=true:=by decide +kernel
theorem zrC {a b c d e f g:Option Slot} {P:D}:zqa [a,b,c,oS dW7,d,oS P,e,f,g]=zqa [none,none,none,oS dW7,none,oS P]:=rfl
theorem zpq {i:Nat} {fk f:FE} {ρ:za5} {ds:List D} {d:D} {p:Nat} (h1:ρ[i]?=some (some (.own ds))) (h2:f (ρ.set i (oS (.lst ds)))=some d) (h3:fk ρ=some (.int (p:Int))) (h4:p < ds.length) (h5:zcV ds.length d=true):zfQ i fk f ρ=some (.nx,ρ.set i (some (.own (ds.set p d)))):=by
 unfold zfQ
 rw [h1]
 simp only [h2,h3,qa]
 have e:zsO ds.length (.int (p:Int))=some (p,(p:Int)):=by
  have e2:ixN ds.length (p:Int)=some p:=by
   unfold ixN
   rw [qX (by omega),qX (by omega)]
   rfl
  show (ixN ds.length (p:Int)).map _=_
  rw [e2]
  rfl
 rw [e,qa,qX h5]
theorem ziV {f:Nat->D} {n p:Nat} {v:D}:((List.range n).map f).set p v=(List.range n).map fun i=>if i=p then v else f i:=by
 apply List.ext_getElem?
 intro i
 rw [List.getElem?_set,qj,qj]
 by_cases hi:i < n
 ·rw [List.getElem?_range hi]
  by_cases hp:p=i
  ·subst hp;simp [hi]
  ·have hp':¬ i=p:=fun z=>hp z.symm
   simp [hp,hp']
 ·rw [List.getElem?_eq_none (l:=List.range n) (by simpa using hi)]
  by_cases hp:p=i
  ·subst hp;simp [hi]
  ·simp [hp]
section
variable {S0:Option Slot} {L:D} {h c:Int} {bad:Nat->D} {dd:Option Slot}
theorem zlg (hb:∀ i:Nat,i < 7->zaP [.int (i:Int),L,.int (c / 98)]=some (bad i)/\zcV 7 (bad i)=true):∀ (ps:List Nat),(∀ p∈ps,p < 7)->∀ (P:Option Slot) (f:Nat->D) (a:Option Slot),∃ (f':Nat->D) (a':Option Slot),
  zjZ (za3 7) zr8 (ps.map fun p:Nat=>D.int (p:Int)) [S0,oS (.int h),oS L,oS dW7,oS (.int c),P,some (.own ((List.range 7).map f)),a,dd]=some (.nx,[S0,oS (.int h),oS L,oS dW7,oS (.int c),P,some (.own ((List.range 7).map f')),a',dd])/\∀ i,f' i=if i∈ps then bad i else f i
 | [],_,P,f,a=>⟨f,a,rfl,fun i=>by simp⟩
 | p::ps,hp,P,f,a=>by
  obtain ⟨f',a',e,hf⟩:=zlg hb ps (fun q hq=>hp q (qg _ hq)) P (fun i=>if i=p then bad p else f i) (oS (.int (p:Int)))
  obtain ⟨h1,h2⟩:=hb p (hp p qf)
  refine ⟨f',a',?_,fun i=>?_⟩
  ·show ((some [S0,oS (.int h),oS L,oS dW7,oS (.int c),P,some (.own ((List.range 7).map f)),oS (.int (p:Int)),dd]).bind fun ρ1=>(zr8 ρ1).bind fun r=>_)=_
   have e1:zr8 [S0,oS (.int h),oS L,oS dW7,oS (.int c),P,some (.own ((List.range 7).map f)),oS (.int (p:Int)),dd]=some (.nx,[S0,oS (.int h),oS L,oS dW7,oS (.int c),P,some (.own (((List.range 7).map f).set p (bad p))),oS (.int (p:Int)),dd]) :=
    zpq (i:=6) (ds:=(List.range 7).map f) rfl (za6 (zap rfl (zap rfl (zap (zaA rfl rfl (zel (by decide))) zaM))) h1) rfl (by rw [qe,qS];exact hp p qf) (by rw [qe,qS];exact h2)
   rw [qa,e1,ziV]
   exact e
  ·rw [hf i]
   by_cases hi:i∈ps
   ·simp [hi]
   ·by_cases hq:i=p
    ·subst hq;simp [hi]
    ·simp [hi,hq]
end
theorem ztV:(1+1<=sizeLine)=True:=by simp [sizeLine]
theorem znS {f g:FE} {ρ:za5} {x y:D} (h1:f ρ=some x) (h2:g ρ=some y):zax (szF (zab f (zab g zag))) ρ=some (.lst [x,y]):=by
 simp only [zax,szF,zab,zag,h1,h2,qa,qd,qh,qk,Nat.zero_add,ztV,if_true]
theorem zrL {f e:FE} {ρ:za5} {l:List D} {m:Int} (h1:f ρ=some (.lst l)) (h2:e ρ=some (.int m)):slF f pN (pS e) ρ=some (.lst (zfG l none (some m))):=by
 unfold slF pN pS
 rw [h1,h2]
 rfl
theorem zo6 {a b w e f g q k:Option Slot} {c:Int}:∃ ps:List Nat,(∀ p∈ps,p < 7)/\(∃ i,i < 7/\sOf ps i=true)/\zo7 [a,b,w,q,oS (.int c),e,f,g,k]=some (dPs ps)/\isS (zhl (sOf ps)) (zqa [none,none,none,oS dW7,none,oS (dPs ps)])=true:=by
 obtain ⟨x,hx⟩:∃ x:Nat,c % 7=(x:Int):=⟨(c % 7).toNat,by omega⟩
 obtain ⟨y,hy⟩:∃ y:Nat,c / 7 % 7=(y:Int):=⟨(c / 7 % 7).toNat,by omega⟩
 have mx:x∈List.range 7:=List.mem_range.mpr (by omega)
 have my:y∈List.range 7:=List.mem_range.mpr (by omega)
 have e1:zo7 [a,b,w,q,oS (.int c),e,f,g,k]=some (.lst (zfG [.int (x:Int),.int (y:Int)] none (some (1+c / 49 % 2)))) :=
  zrL (znS (zaA rfl rfl ((zbp (by decide)).trans (by rw [hx]))) (zaA (zaA rfl rfl (zel (by decide))) rfl ((zbp (by decide)).trans (by rw [hy])))) (zaA rfl (zaA (zaA rfl rfl (zel (by decide))) rfl (zbp (by decide))) rfl)
 have hm:c / 49 % 2=0\/c / 49 % 2=1:=by omega
 rcases hm with hm | hm
 ·refine ⟨[x],fun p hp=>by rw [List.mem_singleton.mp hp];exact List.mem_range.mp mx,⟨x,List.mem_range.mp mx,by unfold sOf;simp⟩,?_,zck zub mx⟩
  rw [e1,hm];rfl
 ·refine ⟨[x,y],fun p hp=>?_,⟨x,List.mem_range.mp mx,by unfold sOf;simp⟩,?_,zck (zck zua mx) my⟩
  ·rcases List.mem_cons.mp hp with hp | hp
   ·rw [hp];exact List.mem_range.mp mx
   ·rw [List.mem_singleton.mp hp];exact List.mem_range.mp my
  ·rw [e1,hm];rfl
theorem zmM (s:Nat->Bool):(zhl s).length<=1000:=by
 unfold zhl
 repeat' split
 all_goals decide +kernel
theorem zq6 {ft:FT} {A:FS} {ρ:za5} (h:ft ρ=some false):sIf ft A zca ρ=some (.nx,ρ):=by unfold sIf;rw [h];rfl
section
variable {bs:List BenchT} {ss:List StepT} {js:List JobT} {us:List SetT} {ls:List LinkT} {ks:List StockT} {h:Int} {nb n hn:Nat} {S0:Option Slot}
theorem zsL (g:Good bs ss js us ls ks h) (ml:(js.flatMap (·.ms)).length<=300) (eb:bs.map (·.nm)=bnE.take nb) (es:ss.map (·.nm)=snE.take n) (hb:1<=nb/\nb<=3) (hs:1<=n/\n<=10) (hm:hn∈hzs) (e:h=(hn:Int)) (hr:∀ x∈bs,x.br.length<=3) (c:Int) (a b w d:Option Slot) :
  ∃ a' b' w' d',lB [S0,oS (.int h),oS (zcT bs ss js us ls ks h),oS dW7,oS (.int c),a,b,w,d]=some (.nx,[S0,oS (.int h),oS (zcT bs ss js us ls ks h),oS dW7,oS (.int c),a',b',w',d']):=by
 obtain ⟨ps,p7,pa,e1,e2⟩:=zo6 (a:=S0) (b:=oS (.int h)) (w:=oS (zcT bs ss js us ls ks h)) (q:=oS dW7) (e:=a) (f:=b) (g:=w) (k:=d) (c:=c)
 have hbad:∀ i:Nat,i < 7->∃ d,zaP [.int (i:Int),zcT bs ss js us ls ks h,.int (c / 98)]=some d/\zti nb n h i d/\zcV 7 d=true:=by
  match bs,ss,g,eb,es,hr with
  | b::bs,s::ss,g,eb,es,hr =>
   have n1:b.nm="i":=by
    have:(b.nm::bs.map (·.nm))[0]?=(bnE.take nb)[0]?:=congrArg (·[0]?) eb
    rw [List.getElem?_take,qX (by omega)] at this
    exact qF this
   have n2:s.nm="a":=by
    have:(s.nm::ss.map (·.nm))[0]?=(snE.take n)[0]?:=congrArg (·[0]?) es
    rw [List.getElem?_take,qX (by omega)] at this
    exact qF this
   have ed:zcT (b::bs) (s::ss) js us ls ks h=d7 (.lst (b.br.map dIv)) (.str s.kd) (.lst (s.ws.map dW)) (.lst (js.map zbZ)) (.lst (us.map zc9)) (.lst (ls.map zb3)) (.lst (ks.map zbA)) (bs.map zaJ) (ss.map zaW) h:=by
    show D.lst [.lst (.tup [.str b.nm,_]::_),.lst (.tup [.str s.nm,_,_]::_),_,_,_,_,_]=_
    rw [n1,n2]
    rfl
   rw [ed]
   exact zrV hb hs hm e (hr b qf)
  | [],_,g,_,_,_=>exact absurd g.bl.1 (by simp)
  | _::_,[],g,_,_,_=>exact absurd g.sl.1 (by simp)
 obtain ⟨f',a',e3,hf⟩:=zlg (S0:=S0) (L:=zcT bs ss js us ls ks h) (h:=h) (c:=c) (bad:=fun i=>(zaP [.int (i:Int),zcT bs ss js us ls ks h,.int (c / 98)]).getD .non) (dd:=d) (fun i hi=>by
  obtain ⟨d,h1,_,h2⟩:=hbad i hi
  rw [h1]
  exact ⟨rfl,h2⟩) ps p7 (oS (dPs ps)) (zpy bs ss js us ls ks h) w
 have ht:=ztJ g ml eb es (f:=f') (s:=sOf ps) (fun i hi=>by
  obtain ⟨d,h1,h2,_⟩:=hbad i hi
  rw [hf i]
  refine ⟨fun z=>?_,fun z=>?_⟩
  ·rw [qX (of_decide_eq_true z),h1];exact h2
  ·rw [qY (of_decide_eq_false z)]) pa
 have hrf:=zm8 ht (zmM _)
 refine ⟨oS (dPs ps),some (.own ((List.range 7).map f')),a',oS (.str (zhl (sOf ps))),?_⟩
 unfold lB
 refine (zaD e1).trans ((zg1 (ds:=(List.range 7).map (zpy bs ss js us ls ks h)) rfl).trans ((zcF (zog rfl e3)).trans ((zaD (d:=.str (zhl (sOf ps))) (zrC.trans (zrp e2))).trans (zq6 ?_))))
 show toB _ _=_
 refine zaU (zaA (za6 (ds:=[.lst [f' 0,f' 1,f' 2,f' 3,f' 4,f' 5,f' 6]]) rfl hrf) rfl ?_)
 rw [zi7]
 simp
end
end Law
end
section
namespace Law
open PySem L2
theorem zs6:((List.range 4).all fun n=>decide (((List.range n).map fun j=>nm (60+j))=bnE.take n))=true:=by decide +kernel
theorem zsm:((List.range 11).all fun n=>decide (((List.range n).map nm)=snE.take n))=true:=by decide +kernel
section
variable {bs:List BenchT} {ss:List StepT} {js:List JobT} {us:List SetT} {ls:List LinkT} {ks:List StockT} {h:Int} {nb n hn:Nat} {S0:Option Slot}
theorem zlE (g:Good bs ss js us ls ks h) (ml:(js.flatMap (·.ms)).length<=300) (eb:bs.map (·.nm)=bnE.take nb) (es:ss.map (·.nm)=snE.take n) (hb:1<=nb/\nb<=3) (hs:1<=n/\n<=10) (hm:hn∈hzs) (e:h=(hn:Int)) (hr:∀ x∈bs,x.br.length<=3):∀ (cs:List Int) (z a b w d:Option Slot),
  ∃ z' a' b' w' d',zjZ (za3 4) lB (cs.map D.int) [S0,oS (.int h),oS (zcT bs ss js us ls ks h),oS dW7,z,a,b,w,d]=some (.nx,[S0,oS (.int h),oS (zcT bs ss js us ls ks h),oS dW7,z',a',b',w',d'])
 | [],z,a,b,w,d=>⟨z,a,b,w,d,rfl⟩
 | c::cs,z,a,b,w,d=>by
  obtain ⟨a1,b1,w1,d1,h1⟩:=zsL (S0:=S0) g ml eb es hb hs hm e hr c a b w d
  obtain ⟨z',a',b',w',d',hl⟩:=zlE g ml eb es hb hs hm e hr cs (oS (.int c)) a1 b1 w1 d1
  refine ⟨z',a',b',w',d',?_⟩
  show ((some [S0,oS (.int h),oS (zcT bs ss js us ls ks h),oS dW7,oS (.int c),a,b,w,d]).bind fun ρ1=>(lB ρ1).bind fun r=>_)=_
  rw [qa,h1]
  exact hl
end
theorem zrz:eqD (.str "none") (.str "none")=some (.bl true):=by kernel_rfl
def ziT (ns:List Int):Int:=if ns.getD 21 0 % 4=0 then 9 else if ns.getD 21 0 % 4=1 then 40 else if ns.getD 21 0 % 4=2 then 1000000 else 1+ns.getD 20 0 % 30
theorem zsT (ns:List Int):∃ hn,hn∈hzs/\ziT ns=(hn:Int):=by
 unfold ziT
 split
 ·exact ⟨9,by decide,rfl⟩
 ·split
  ·exact ⟨40,by decide,rfl⟩
  ·split
   ·exact ⟨1000000,by decide,rfl⟩
   ·refine ⟨1+(ns.getD 20 0 % 30).toNat,List.mem_append_left _ (List.mem_map.mpr ⟨(ns.getD 20 0 % 30).toNat,List.mem_range.mpr (by omega),rfl⟩),by omega⟩
theorem ztU:(1+1+1+1<=sizeLine)=True:=by simp [sizeLine]
theorem zpE {f g e k:FE} {ρ:za5} {x y z w:D} (h1:f ρ=some x) (h2:g ρ=some y) (h3:e ρ=some z) (h4:k ρ=some w):zax (szF (zab f (zab g (zab e (zab k zag))))) ρ=some (.lst [x,y,z,w]):=by
 simp only [zax,szF,zab,zag,h1,h2,h3,h4,qa,qd,qh,qk,Nat.zero_add,ztU,if_true]
theorem zsS (ns:List Int):ixD (.lst [.int 9,.int 40,.int 1000000,.int (1+ns.getD 20 0 % 30)]) (.int (ns.getD 21 0 % 4))=some (.int (ziT ns)):=by
 have hm:ns.getD 21 0 % 4=0\/ns.getD 21 0 % 4=1\/ns.getD 21 0 % 4=2\/ns.getD 21 0 % 4=3:=by omega
 unfold ziT
 rcases hm with hm | hm | hm | hm <;> rw [hm] <;> rfl
theorem znl (ns:List Int) (hlen:ns.length<=63):zp2 [.scr ns]=some (.bl true):=by
 unfold zp2 zrW
 obtain ⟨hn,hm,eh⟩:=zsT ns
 obtain ⟨n,en⟩:∃ n:Nat,1+ns.getD 22 0 % 10=(n:Int):=⟨(1+ns.getD 22 0 % 10).toNat,by omega⟩
 have hs:1<=n/\n<=10:=by omega
 have hh:1<=ziT ns/\ziT ns<=1000000:=by unfold ziT;split <;> (try split) <;> (try split) <;> omega
 obtain ⟨bs,ss,js,us,ls,ks,el,g,j3,⟨nb,nb1,nb3,enb⟩,ens,hr⟩:=znk ns n (ziT ns) 7 hs hh (by decide)
 have eb:bs.map (·.nm)=bnE.take nb:=enb.trans (of_decide_eq_true (zck zs6 (List.mem_range.mpr (by omega))))
 have es:ss.map (·.nm)=snE.take n:=ens.trans (of_decide_eq_true (zck zsm (List.mem_range.mpr (by omega))))
 have ml:(js.flatMap (·.ms)).length<=300:=by
  have h1:(js.flatMap (·.ms)).length<=js.length*40:=zhH fun j hj=>by
   have h2:=(g.j j hj).ln
   rw [qe] at h2
   have:=g.sl.2
   omega
  omega
 obtain ⟨z',a',b',w',d',hb⟩:=zlE (S0:=oS (.scr ns)) g ml eb es ⟨nb1,nb3⟩ hs hm eh hr (zfG ns (some 23) (some 53)++[0,6]) none none none none none
 have hcut:(zfG ns (some 23) (some 53)).length<=63:=by
  unfold zfG
  rw [qC,List.length_drop]
  omega
 have hi:itF (b2 zbe (slF (vSh 0) (pS (vC (.int 23))) (pS (vC (.int 53)))) (zax (szF (zab (vC (.int 0)) (zab (vC (.int 6)) zag))))) [oS (.scr ns),oS (.int (ziT ns)),oS (zcT bs ss js us ls ks (ziT ns)),oS dW7,none,none,none,none,none]=some ((zfG ns (some 23) (some 53)++[0,6]).map D.int):=by
  have ha:b2 zbe (slF (vSh 0) (pS (vC (.int 23))) (pS (vC (.int 53)))) (zax (szF (zab (vC (.int 0)) (zab (vC (.int 6)) zag)))) [oS (.scr ns),oS (.int (ziT ns)),oS (zcT bs ss js us ls ks (ziT ns)),oS dW7,none,none,none,none,none]=some (.lst ((zfG ns (some 23) (some 53)++[0,6]).map D.int)):=by
   rw [List.map_append]
   exact zaA (x:=.lst ((zfG ns (some 23) (some 53)).map D.int)) (y:=.lst [.int 0,.int 6]) rfl (znS rfl rfl) (qX (by rw [qe];simp only [sizeLine,qh,qk];omega))
  unfold itF
  rw [ha]
  rfl
 refine zaZ (ρ':=[oS (.scr ns),oS (.int (ziT ns)),oS (zcT bs ss js us ls ks (ziT ns)),oS dW7,z',a',b',w',d']) [oS (.scr ns),none,none,none,none,none,none,none,none] rfl ?_
 refine (zaD (d:=.int (ziT ns)) (zaA (zpE rfl rfl (by kernel_rfl) (zaA rfl (zaA (za6 (zap rfl (zap rfl zaM)) (zdO ns 20)) rfl (zbp (by decide))) rfl)) (zaA (za6 (zap rfl (zap rfl zaM)) (zdO ns 21)) rfl (zbp (by decide))) (zsS ns))).trans ?_
 refine (zaD (d:=zcT bs ss js us ls ks (ziT ns)) (za6 (zap rfl (zap (d:=.int (n:Int)) (zaA rfl (zaA (za6 (zap rfl (zap rfl zaM)) (zdO ns 22)) rfl (zbp (by decide))) (by rw [← en];rfl)) (zap rfl (zap rfl zaM)))) el)).trans ?_
 refine (zaD (d:=dW7) (by kernel_rfl)).trans ?_
 refine (zcF (zog hi hb)).trans ?_
 exact zaY (zaA (za6 rfl (zoF g ml)) rfl zrz)
end Law
end
section
namespace Law
open PySem L2 PySem.Spec PyProof.Rows
def Gam (C_Shop:Addr):Cn:=⟨fun c=>if c="Shop" then some C_Shop else none,none⟩
def zoA (K:PySem.W.Frag):Sp:=fun vs H Q _=>∃ (a:Addr) (ns:List Int),vs=[.ref a]/\SqL K H a (ns.map V.int)/\ns.length<=63/\∀ H',Q (.bl true) H'
theorem all_mk {l:PySem.W.OpenLaw} {w:World} {K:PySem.W.Frag} {h:Heap} {mg:Str->Option Value} {fa:Addr} (X:K.In h) (G:h.Ns mainGlobals mg) (hfa:mg "law"=some (.ref fa))
  {C_Shop:Addr} (aC_Shop:PySem.W.nsIn K mainGlobals "Shop"=some (some (.ref C_Shop)))
  (d0:Dfn K mg "_law_cell" zef)
  (d1:Dfn K mg "_law_digits" zdr)
  (d2:Dfn K mg "_law_spans" zdF)
  (d3:Dfn K mg "_law_name" zed)
  (d4:Dfn K mg "_law_benches" zc4)
  (d5:Dfn K mg "_law_steps" zdE)
  (d6:Dfn K mg "_law_jobs" zee)
  (d7:Dfn K mg "_law_setups" zdq)
  (d8:Dfn K mg "_law_links" zdH)
  (d9:Dfn K mg "_law_stocks" zdp)
  (d10:Dfn K mg "_law_lists" zdG)
  (d11:Dfn K mg "_law_bad_more" zcO)
  (d12:Dfn K mg "_law_bad" ze2)
  (d13:Dfn K mg "is_whole" zeU)
  (d14:Dfn K mg "is_within" zd7)
  (d15:Dfn K mg "is_tuple" zeV)
  (d16:Dfn K mg "is_break" zeY)
  (d17:Dfn K mg "is_list" zfO)
  (d18:Dfn K mg "are_breaks" zdD)
  (d19:Dfn K mg "is_name" zfN)
  (d20:Dfn K mg "is_bench" zeZ)
  (d21:Dfn K mg "are_unlike" zdA)
  (d22:Dfn K mg "are_benches" zdn)
  (d23:Dfn K mg "is_one_of" zd8)
  (d24:Dfn K mg "is_way" zht)
  (d25:Dfn K mg "are_ways" ze0)
  (d26:Dfn K mg "is_step" zfM)
  (d27:Dfn K mg "are_steps" zea)
  (d28:Dfn K mg "is_job" zhu)
  (d29:Dfn K mg "are_jobs" ze1)
  (d30:Dfn K mg "is_setup" zeX)
  (d31:Dfn K mg "are_setups" zdC)
  (d32:Dfn K mg "is_link" zfP)
  (d33:Dfn K mg "are_links" zeb)
  (d34:Dfn K mg "is_amount" zd9)
  (d35:Dfn K mg "are_amounts" zdo)
  (d36:Dfn K mg "is_stock" zeW)
  (d37:Dfn K mg "are_stocks" zdB)
  (d38:Dfn K mg "first_bad_part" zcD)
  (d39:Dfn K mg "fresh" zi3)
  (d40:DfnM K C_Shop "Shop" "__init__" "Shop.__init__" zcP)
  (d41:Dfn K mg "_law_shop" zec)
  (d42:Dfn K mg "_law_refused" zc3)
  (a43:PySem.W.nsIn K mainGlobals "law"=some (some (.ref f43))) (l43:K.lookup f43=some ⟨oc43,od43,.func (PySem.W.fnOf "law" "law" (zcS zfL) (zbW zfL) (zao zfL) .none kV43 dc43 pm43 an43 cd43 ct43),sl43⟩) (c43:PySem.W.codeIn K cd43 "law"=true) (k43:PySem.W.keepIn K (.ref f43)=true)
  (pg_Shop:PySem.W.plainGet K C_Shop Str.empty=true) (hd_Shop:PySem.W.hasDictIn K C_Shop=true) (po_Shop:PySem.W.plainOver K C_Shop=true) (sa_Shop:PySem.W.findIn K (.ref C_Shop) "__setattr__"=some (some (.builtin "object.__setattr__"))) (mk_Shop:PySem.W.makesIn K C_Shop=true) (kc_Shop:PySem.W.keepIn K (.ref C_Shop)=true)
  (n0_Shop:PySem.W.findIn K (.ref C_Shop) "benches"=some none)
  (n1_Shop:PySem.W.findIn K (.ref C_Shop) "steps"=some none)
  (n2_Shop:PySem.W.findIn K (.ref C_Shop) "jobs"=some none)
  (n3_Shop:PySem.W.findIn K (.ref C_Shop) "setups"=some none)
  (n4_Shop:PySem.W.findIn K (.ref C_Shop) "links"=some none)
  (n5_Shop:PySem.W.findIn K (.ref C_Shop) "stocks"=some none)
  (n6_Shop:PySem.W.findIn K (.ref C_Shop) "horizon"=some none)
  (n7_Shop:PySem.W.findIn K (.ref C_Shop) "bench_by_name"=some none)
  (n8_Shop:PySem.W.findIn K (.ref C_Shop) "step_by_name"=some none)
  (n9_Shop:PySem.W.findIn K (.ref C_Shop) "setup_by_names"=some none)
  (n10_Shop:PySem.W.findIn K (.ref C_Shop) "job_by_step"=some none)
  {CN:Addr} (aCN:PySem.W.nsIn K mainGlobals "NoShop"=some (some (.ref CN)))
  {CS:Addr} (aCS:PySem.W.nsIn K mainGlobals "ShopError"=some (some (.ref CS)))
  {CP:Addr} (aCP:PySem.W.nsIn K mainGlobals "NoPlan"=some (some (.ref CP)))
  {CR:Addr} (aCR:PySem.W.nsIn K mainGlobals "NoRow"=some (some (.ref CR)))
  {CY:Addr} (aCY:PySem.W.nsIn K mainGlobals "NoSay"=some (some (.ref CY)))
  (dN:DfnM K CN "NoShop" "__init__" "NoShop.__init__" zcy)
  {ddN:Option Addr} {cdN:ClassData} {q0 q1 q2 q3 q5:Option Value} (lkN:K.lookup CN=some ⟨.type "type",ddN,.cls cdN,#[q0,q1,q2,q3,some (.builtin "ValueError.__new__"),q5]⟩)
  (hmN:cdN.mro=.ref CN::.ref CS::zmF)
  (hdN:cdN.hasDel=false)
  (hhN:cdN.hasDict=true)
  (xe:PySem.W.excIn K CS [.type "ValueError",.type "Exception",.type "BaseException",.type "object"] "ValueError.__new__"=true)
  (saN:PySem.W.findIn K (.ref CN) "__setattr__"=some (some (.builtin "object.__setattr__")))
  (obN:PySem.W.mroIn K CN (.type "object")=some true)
  (noN:PySem.W.findIn K (.ref CN) "part"=some none)
  (kpN:PySem.W.keepIn K (.ref CN)=true)
  (hspS:PySem.W.specialIn K (.ref CS) "__getattribute__"=some (some (.builtin "type.__getattribute__")))
  (rdS:PySem.W.readsIn K CS (.type "type")=true)
  (fcS:PySem.W.findCls K (.ref CS) (.type "type") "__init__"=some (.val (.builtin "ValueError.__init__")))
  (xm1:PySem.W.exmOne K (.ref CN) (.ref CS)=some true)
  (x2:PySem.W.kitOne K (.ref CN) (.type "ValueError")=some true)
  (x3:PySem.W.kitAny K (.ref CN) [.ref CP,.ref CR,.ref CY]=some false)
  (xc:PySem.W.isClsIn K CN=true)
  (xga:PySem.W.findIn K (.ref CN) "__getattribute__"=some (some (.builtin "BaseException.__getattribute__")))
  (xno:PySem.W.findIn K (.ref CN) "__getattr__"=some none)
  (xlk:PySem.W.findIn K (.ref CN) "__class__"=some (some (.builtin "object.__class__")))
  (xgs:PySem.W.specialIn K (.builtin "object.__class__") "__get__"=some (some (.builtin "getset_descriptor.__get__")))
  (xtk:PySem.W.takesIn K (.builtin "object.__class__")=some true)
  (xsu:PySem.W.subIn K (.ref CN) (.type "BaseException")=some true)
  (xhd:PySem.W.hasDictIn K CN=true)
  (z_ValueError:PySem.W.nsIn K mainGlobals "ValueError"=some none)
  (z_abs:PySem.W.nsIn K mainGlobals "abs"=some none)
  (z_all:PySem.W.nsIn K mainGlobals "all"=some none)
  (z_bool:PySem.W.nsIn K mainGlobals "bool"=some none)
  (z_dict:PySem.W.nsIn K mainGlobals "dict"=some none)
  (z_enumerate:PySem.W.nsIn K mainGlobals "enumerate"=some none)
  (z_int:PySem.W.nsIn K mainGlobals "int"=some none)
  (z_isinstance:PySem.W.nsIn K mainGlobals "isinstance"=some none)
  (z_len:PySem.W.nsIn K mainGlobals "len"=some none)
  (z_list:PySem.W.nsIn K mainGlobals "list"=some none)
  (z_max:PySem.W.nsIn K mainGlobals "max"=some none)
  (z_min:PySem.W.nsIn K mainGlobals "min"=some none)
  (z_range:PySem.W.nsIn K mainGlobals "range"=some none)
  (z_set:PySem.W.nsIn K mainGlobals "set"=some none)
  (z_str:PySem.W.nsIn K mainGlobals "str"=some none)
  (z_tuple:PySem.W.nsIn K mainGlobals "tuple"=some none)
  {tk_LONGEST_NAME:Tok} (z_LONGEST_NAME:PySem.W.nsIn K mainGlobals "LONGEST_NAME"=some (some (.int 8 tk_LONGEST_NAME)))
  {tk_MOST_AMOUNT:Tok} (z_MOST_AMOUNT:PySem.W.nsIn K mainGlobals "MOST_AMOUNT"=some (some (.int 1000000 tk_MOST_AMOUNT)))
  {tk_MOST_BENCHES:Tok} (z_MOST_BENCHES:PySem.W.nsIn K mainGlobals "MOST_BENCHES"=some (some (.int 8 tk_MOST_BENCHES)))
  {tk_MOST_BREAKS:Tok} (z_MOST_BREAKS:PySem.W.nsIn K mainGlobals "MOST_BREAKS"=some (some (.int 10 tk_MOST_BREAKS)))
  {tk_MOST_HORIZON:Tok} (z_MOST_HORIZON:PySem.W.nsIn K mainGlobals "MOST_HORIZON"=some (some (.int 1000000 tk_MOST_HORIZON)))
  {tk_MOST_JOBS:Tok} (z_MOST_JOBS:PySem.W.nsIn K mainGlobals "MOST_JOBS"=some (some (.int 40 tk_MOST_JOBS)))
  {tk_MOST_LINKS:Tok} (z_MOST_LINKS:PySem.W.nsIn K mainGlobals "MOST_LINKS"=some (some (.int 100 tk_MOST_LINKS)))
  {tk_MOST_SETUPS:Tok} (z_MOST_SETUPS:PySem.W.nsIn K mainGlobals "MOST_SETUPS"=some (some (.int 100 tk_MOST_SETUPS)))
  {tk_MOST_STEPS:Tok} (z_MOST_STEPS:PySem.W.nsIn K mainGlobals "MOST_STEPS"=some (some (.int 40 tk_MOST_STEPS)))
  {tk_MOST_STOCKS:Tok} (z_MOST_STOCKS:PySem.W.nsIn K mainGlobals "MOST_STOCKS"=some (some (.int 6 tk_MOST_STOCKS)))
  {tk_MOST_WAYS:Tok} (z_MOST_WAYS:PySem.W.nsIn K mainGlobals "MOST_WAYS"=some (some (.int 4 tk_MOST_WAYS)))
  : ∃ fd:FuncData,(∀ (s:Shared) (v:Value),BindsTo s fd ⟨[v],[]⟩ [("_law_script",v)])/\∀ base:Heap,K.In base->base.Ns mainGlobals mg->FnOk l.prog w K mg base CX0 13 fa fd ["_law_script"] (zoA K):=by
 have e:=hfa.symm.trans (PySem.W.mg_of X G a43)
 have e2:=Value.ref.inj (qF e)
 subst e2
 have B:Bn mg:=⟨PySem.W.mg_none_of X G z_ValueError,PySem.W.mg_none_of X G z_abs,PySem.W.mg_none_of X G z_all,PySem.W.mg_none_of X G z_bool,PySem.W.mg_none_of X G z_dict,PySem.W.mg_none_of X G z_enumerate,PySem.W.mg_none_of X G z_int,PySem.W.mg_none_of X G z_isinstance,PySem.W.mg_none_of X G z_len,PySem.W.mg_none_of X G z_list,PySem.W.mg_none_of X G z_max,PySem.W.mg_none_of X G z_min,PySem.W.mg_none_of X G z_range,PySem.W.mg_none_of X G z_set,PySem.W.mg_none_of X G z_str,PySem.W.mg_none_of X G z_tuple,by have q:=PySem.W.mg_of X G z_LONGEST_NAME;rw [q];unfold zd1;rw [q],by have q:=PySem.W.mg_of X G z_MOST_AMOUNT;rw [q];unfold zex;rw [q],by have q:=PySem.W.mg_of X G z_MOST_BENCHES;rw [q];unfold zd0;rw [q],by have q:=PySem.W.mg_of X G z_MOST_BREAKS;rw [q];unfold zew;rw [q],by have q:=PySem.W.mg_of X G z_MOST_HORIZON;rw [q];unfold zdZ;rw [q],by have q:=PySem.W.mg_of X G z_MOST_JOBS;rw [q];unfold zfJ;rw [q],by have q:=PySem.W.mg_of X G z_MOST_LINKS;rw [q];unfold zfi;rw [q],by have q:=PySem.W.mg_of X G z_MOST_SETUPS;rw [q];unfold zev;rw [q],by have q:=PySem.W.mg_of X G z_MOST_STEPS;rw [q];unfold zfh;rw [q],by have q:=PySem.W.mg_of X G z_MOST_STOCKS;rw [q];unfold zeu;rw [q],by have q:=PySem.W.mg_of X G z_MOST_WAYS;rw [q];unfold zfI;rw [q]⟩
 have O_Shop:ClsOk (Gam C_Shop) K mg "Shop" C_Shop:=⟨by unfold Gam;rfl,⟨pg_Shop,hd_Shop,po_Shop,sa_Shop⟩,PySem.W.mg_of X G aC_Shop,mk_Shop,kc_Shop⟩
 have cf_Shop:CF (Gam C_Shop) K "Shop" zmA:=O_Shop.cf (List.forall_mem_cons.mpr ⟨n0_Shop,(List.forall_mem_cons.mpr ⟨n1_Shop,(List.forall_mem_cons.mpr ⟨n2_Shop,(List.forall_mem_cons.mpr ⟨n3_Shop,(List.forall_mem_cons.mpr ⟨n4_Shop,(List.forall_mem_cons.mpr ⟨n5_Shop,(List.forall_mem_cons.mpr ⟨n6_Shop,(List.forall_mem_cons.mpr ⟨n7_Shop,(List.forall_mem_cons.mpr ⟨n8_Shop,(List.forall_mem_cons.mpr ⟨n9_Shop,(List.forall_mem_cons.mpr ⟨n10_Shop,(List.forall_mem_nil _)⟩)⟩)⟩)⟩)⟩)⟩)⟩)⟩)⟩)⟩)⟩)
 refine ⟨PySem.W.fnOf "law" "law" (zcS zfL) (zbW zfL) (zao zfL) .none kV43 dc43 pm43 an43 cd43 ct43,fun s v=>.of_eq rfl,fun base KB _=>?_⟩
 obtain ⟨fI,fdN,FunN,fiN,isN⟩:=dN.ex
 have ZN:XCls K base CN CS fI "part":=zoq KB lkN hmN hdN hhN xe saN obN noN fiN isN kpN
 have FN:FnOk l.prog w K mg base CX0 1 fI fdN ["self","part"] (zp5 CN "part"):=zeo FunN ZN (PySem.W.mg_of X G aCS) hspS rdS fcS
 have hbN:zcL K fdN ["self","part"] []:=FunN.binds (fun _ _ _ _ _ _ us hl=>match us,hl with | [_,_],_=>rfl)
 have RK:RefZK K mg CN CS CP CR CY:=⟨PySem.W.mg_of X G aCN,PySem.W.mg_of X G aCS,PySem.W.mg_of X G aCP,PySem.W.mg_of X G aCR,PySem.W.mg_of X G aCY,xm1,x2,x3,⟨Option.isSome_iff_exists.mp xc,xga,xno,xlk,xgs,xtk,obN,xsu⟩,xhd,noN⟩
 have C__law_cell:Cal (Gam C_Shop) l.prog w K mg base "_law_cell" 2 1 zaF:=zhY d0 B
 have C__law_digits:Cal (Gam C_Shop) l.prog w K mg base "_law_digits" 3 1 zaj:=zgk d1 B
 have C__law_spans:Cal (Gam C_Shop) l.prog w K mg base "_law_spans" 2 1 zbu:=zgK d2 B
 have C__law_name:Cal (Gam C_Shop) l.prog w K mg base "_law_name" 1 1 zat:=zhW d3 B
 have C__law_benches:Cal (Gam C_Shop) l.prog w K mg base "_law_benches" 2 2 zbm:=zfD d4 B C__law_digits C__law_spans C__law_name
 have C__law_steps:Cal (Gam C_Shop) l.prog w K mg base "_law_steps" 4 2 zbH:=zgJ d5 B C__law_digits C__law_name
 have C__law_jobs:Cal (Gam C_Shop) l.prog w K mg base "_law_jobs" 3 2 zbY:=zhX d6 B C__law_digits C__law_name
 have C__law_setups:Cal (Gam C_Shop) l.prog w K mg base "_law_setups" 3 2 zbv:=zgj d7 B C__law_digits
 have C__law_links:Cal (Gam C_Shop) l.prog w K mg base "_law_links" 3 2 zbJ:=zgM d8 B C__law_digits
 have C__law_stocks:Cal (Gam C_Shop) l.prog w K mg base "_law_stocks" 2 2 zbt:=zgi d9 B C__law_digits C__law_name
 have C__law_lists:Cal (Gam C_Shop) l.prog w K mg base "_law_lists" 4 3 zbI:=zgL d10 B C__law_cell C__law_benches C__law_steps C__law_jobs C__law_setups C__law_links C__law_stocks
 have C__law_bad_more:Cal (Gam C_Shop) l.prog w K mg base "_law_bad_more" 5 1 zaH:=ze7 d11 B
 have C__law_bad:Cal (Gam C_Shop) l.prog w K mg base "_law_bad" 3 2 zaP:=ziM d12 B C__law_bad_more
 have C_is_whole:Cal (Gam C_Shop) l.prog w K mg base "is_whole" 1 1 zb4:=ziE d13 B
 have C_is_within:Cal (Gam C_Shop) l.prog w K mg base "is_within" 3 2 zak:=zhQ d14 B C_is_whole
 have C_is_tuple:Cal (Gam C_Shop) l.prog w K mg base "is_tuple" 2 1 zal:=ziF d15 B
 have C_is_break:Cal (Gam C_Shop) l.prog w K mg base "is_break" 2 3 zb7:=ziI d16 B C_is_within C_is_tuple
 have C_is_list:Cal (Gam C_Shop) l.prog w K mg base "is_list" 3 1 zan:=zjp d17 B
 have C_are_breaks:Cal (Gam C_Shop) l.prog w K mg base "are_breaks" 2 4 zbG:=zgI d18 B C_is_break C_is_list
 have C_is_name:Cal (Gam C_Shop) l.prog w K mg base "is_name" 1 1 zaz:=zjo d19 B
 have C_is_bench:Cal (Gam C_Shop) l.prog w K mg base "is_bench" 2 5 zb8:=ziJ d20 B C_are_breaks C_is_name C_is_tuple
 have C_are_unlike:Cal (Gam C_Shop) l.prog w K mg base "are_unlike" 1 1 zah:=zgF d21 B
 have C_are_benches:Cal (Gam C_Shop) l.prog w K mg base "are_benches" 2 6 zaX:=zgg d22 B C_is_bench C_is_list C_are_unlike
 have C_is_one_of:Cal (Gam C_Shop) l.prog w K mg base "is_one_of" 2 2 zau:=zhR d23 B C_is_name
 have C_is_way:Cal (Gam C_Shop) l.prog w K mg base "is_way" 3 3 zcK:=zkK d24 B C_is_within C_is_one_of C_is_tuple
 have C_are_ways:Cal (Gam C_Shop) l.prog w K mg base "are_ways" 3 4 zco:=ziK d25 B C_is_way C_is_list C_are_unlike
 have C_is_step:Cal (Gam C_Shop) l.prog w K mg base "is_step" 3 5 zcv:=zjn d26 B C_is_name C_is_tuple C_are_ways
 have C_are_steps:Cal (Gam C_Shop) l.prog w K mg base "are_steps" 3 6 zbg:=zhT d27 B C_is_step C_is_list C_are_unlike
 have C_is_job:Cal (Gam C_Shop) l.prog w K mg base "is_job" 3 3 zc2:=zkL d28 B C_is_name C_is_tuple C_is_within C_is_one_of C_is_list
 have C_are_jobs:Cal (Gam C_Shop) l.prog w K mg base "are_jobs" 3 4 zbr:=ziL d29 B C_is_job C_is_list C_are_unlike
 have C_is_setup:Cal (Gam C_Shop) l.prog w K mg base "is_setup" 3 3 zb6:=ziH d30 B C_is_one_of C_is_tuple C_is_within C_is_name
 have C_are_setups:Cal (Gam C_Shop) l.prog w K mg base "are_setups" 3 4 za4:=zgH d31 B C_is_setup C_is_list C_are_unlike
 have C_is_link:Cal (Gam C_Shop) l.prog w K mg base "is_link" 3 3 zcw:=zjq d32 B C_is_one_of C_is_tuple C_is_within
 have C_are_links:Cal (Gam C_Shop) l.prog w K mg base "are_links" 3 4 zbh:=zhU d33 B C_is_link C_is_list C_are_unlike
 have C_is_amount:Cal (Gam C_Shop) l.prog w K mg base "is_amount" 2 3 zbO:=zhS d34 B C_is_within C_is_one_of C_is_tuple
 have C_are_amounts:Cal (Gam C_Shop) l.prog w K mg base "are_amounts" 2 4 zbl:=zgh d35 B C_is_amount C_is_list C_are_unlike
 have C_is_stock:Cal (Gam C_Shop) l.prog w K mg base "is_stock" 2 5 zb5:=ziG d36 B C_is_name C_is_tuple C_is_within C_are_amounts
 have C_are_stocks:Cal (Gam C_Shop) l.prog w K mg base "are_stocks" 2 6 zbd:=zgG d37 B C_is_stock C_is_list C_are_unlike
 have C_first_bad_part:Cal (Gam C_Shop) l.prog w K mg base "first_bad_part" 7 7 zaB:=zeM d38 B C_is_within C_are_benches C_are_steps C_are_jobs C_are_setups C_are_links C_are_stocks
 have C_fresh:∀ n,Cal (Gam C_Shop) l.prog w K mg base "fresh" 1 n (zda n):=fun n=>by
  induction n with
  | zero=>exact Dfn.none (ps:=["thing"]) d39 (fun _ _ _ _ _ _ us hl=>match us,hl with | [_],_=>rfl)
  | succ n ih=>exact zms d39 B ih
 replace C_fresh:Cal (Gam C_Shop) l.prog w K mg base "fresh" 1 8 zbP:=C_fresh 8
 have C_Shop___init__:CalIY (Gam C_Shop) l.prog w K mg base "Shop" CN "part" 7 9 zaS:=ze8 FN ZN hbN (PySem.W.mg_of X G aCN) O_Shop d40 B C_first_bad_part C_fresh cf_Shop
 have C__law_shop:CalSY (Gam C_Shop) l.prog w K mg base "_law_shop" CN "part" 1 11 zbi:=zhV d41 B C_Shop___init__
 have C__law_refused:Cal (Gam C_Shop) l.prog w K mg base "_law_refused" 1 12 zaT:=zfC d42 B RK C__law_shop
 have FL:=zlX (st:=zfL) l43 c43 k43
 have ok:FnOk l.prog w K mg base CX0 13 fa _ ["_law_script"] (spF (Gam C_Shop) K 1 zp2):=FL.okD (k:=12) zez (zpV B C__law_cell C__law_lists C__law_bad C__law_refused fa)
 refine ok.imp fun vs H Q E hq=>?_
 obtain ⟨a,ns,rfl,hS,hlen,k⟩:=hq
 exact ⟨H,[.scr ns],.bl true,zbT.refl H,.cons (.scr hS) .nil,rfl,znl ns hlen,fun v G' H' _ r=>by rw [r.bl_inv];exact k H'⟩
theorem walk {l:PySem.W.OpenLaw} {q:Program} {loose:List Str} {XP:(Str->Option Value)->Heap->Prop} {YP:World->Heap->Prop} {d:DefRec} {K:Params->PySem.W.Frag} (hn:l.most=some 63) (hdf:d.params.defaults=[])
  (hY:∀ (w:World) (h:Heap),YP w h->(K w.params).In h)
  (F:∀ (w:World) (mg:Str->Option Value) (fa:Addr) (h:Heap),(K w.params).In h->h.Ns mainGlobals mg->mg d.name=some (.ref fa) ->
   ∃ fd:FuncData,(∀ (s:Shared) (u:Value),BindsTo s fd ⟨[u],[]⟩ [("_law_script",u)])/\∀ base:Heap,(K w.params).In base->base.Ns mainGlobals mg->FnOk l.prog w (K w.params) mg base CX0 13 fa fd ["_law_script"] (zoA (K w.params))) :
  PySem.W.WalkO q loose XP YP l.row.toRowW d [] (fun f vs=>PySem.call f vs) :=
 L2.walk_of (n:=63) (k:=13) (x:="_law_script") (CX:=fun _=>CX0) (sp:=fun w=>zoA (K w.params)) hn (by decide) hdf ⟨rfl,by decide,by decide⟩ hY F (fun _ _ a ns hl _ hS=>⟨a,ns,rfl,hS,hl,fun _=>rfl⟩) fun _ _ _ _ _ z=>z
end Law
def PySem.W.Fast.tw3544511368727580235:Unit:=()
def PySem.W.Fast.tw5180850887141423424:Unit:=()
def PySem.W.Fast.tw14883179466986062225:Unit:=()
def PySem.W.Fast.tw4155489762402170590:Unit:=()
def PySem.W.Fast.tw454003872597817797:Unit:=()
def PySem.W.Fast.tw13498535999302800436:Unit:=()
def PySem.W.Fast.tw16676169586228489151:Unit:=()
def PySem.W.Fast.tw12753716135456262628:Unit:=()
def PySem.W.Fast.tw990448591871829147:Unit:=()
def PySem.W.Fast.tw9817734743392913881:Unit:=()
def PySem.W.Fast.tw17362966700400701391:Unit:=()
def PySem.W.Fast.tw6502599090076265841:Unit:=()
def PySem.W.Fast.tw8684418004762030542:Unit:=()
def PySem.W.Fast.tw1814540502897684064:Unit:=()
def PySem.W.Fast.tw13767401319654142540:Unit:=()
def PySem.W.Fast.tw14049052946543407096:Unit:=()
def PySem.W.Fast.tw4447939103490985403:Unit:=()
def PySem.W.Fast.tw15134239657260440671:Unit:=()
def PySem.W.Fast.tw15863214480658978571:Unit:=()
def PySem.W.Fast.tw4169288117438872887:Unit:=()
def PySem.W.Fast.tw2098034943385246894:Unit:=()
def PySem.W.Fast.tw12424161786573765149:Unit:=()
def PySem.W.Fast.tw2515334047212762027:Unit:=()
def PySem.W.Fast.tw7871432569693902515:Unit:=()
def PySem.W.Fast.tw753739444624465259:Unit:=()
def PySem.W.Fast.tw15290127906514040479:Unit:=()
def PySem.W.Fast.tw1485978023008503125:Unit:=()
def PySem.W.Fast.tw4917026823889675807:Unit:=()
def PySem.W.Fast.tw13346520393410547186:Unit:=()
def PySem.W.Fast.tw15537550775169169290:Unit:=()
def PySem.W.Fast.tw5092244734910981636:Unit:=()
def PySem.W.Fast.tw4226173883247325817:Unit:=()
def PySem.W.Fast.tw1432932464389785851:Unit:=()
def PySem.W.Fast.tw767051393032068723:Unit:=()
def PySem.W.Fast.tw1514669575355888486:Unit:=()
def PySem.W.Fast.tw13404983003493061946:Unit:=()
def PySem.W.Fast.tw3772791884914158336:Unit:=()
def PySem.W.Fast.tw1487406289491547241:Unit:=()
def PySem.W.Fast.tw6835583627000491120:Unit:=()
def PySem.W.Fast.tw3598121371267946936:Unit:=()
def PySem.W.Fast.tw17312789141126075382:Unit:=()
def PySem.W.Fast.tw17889638818045456518:Unit:=()
def PySem.W.Fast.tw12847223194118337362:Unit:=()
def PySem.W.Fast.tw658596507383805196:Unit:=()
def PySem.W.Fast.tw17608653206154701832:Unit:=()
open PySem PySem.W PyProof.Rows L2
set_option maxRecDepth 100000 in
set_option maxHeartbeats 0 in
theorem PySem.Challenge.cw_shopbound_k03_no_shop_holds : PySem.Challenge.rw_shopbound_k03_no_shop.Holds := by
 w_on;o_law;k_head;(case hw=>w_witness2)
 k_fill
 refine Law.walk (l:=PySem.Challenge.rw_shopbound_k03_no_shop) rfl rfl (fun w h Y=>PySem.W.kIn_of Y) ?F
 case F =>
  intro w mg fa h KX G hmg
  refine' Law.all_mk KX G hmg ?aC_Shop ?d0 ?d1 ?d2 ?d3 ?d4 ?d5 ?d6 ?d7 ?d8 ?d9 ?d10 ?d11 ?d12 ?d13 ?d14 ?d15 ?d16 ?d17 ?d18 ?d19 ?d20 ?d21 ?d22 ?d23 ?d24 ?d25 ?d26 ?d27 ?d28 ?d29 ?d30 ?d31 ?d32 ?d33 ?d34 ?d35 ?d36 ?d37 ?d38 ?d39 ?d40 ?d41 ?d42 ?a43 ?l43 ?c43 ?k43 ?pg_Shop ?hd_Shop ?po_Shop ?sa_Shop ?mk_Shop ?kc_Shop ?n0_Shop ?n1_Shop ?n2_Shop ?n3_Shop ?n4_Shop ?n5_Shop ?n6_Shop ?n7_Shop ?n8_Shop ?n9_Shop ?n10_Shop ?aCN ?aCS ?aCP ?aCR ?aCY ?dN ?lkN ?hmN ?hdN ?hhN ?xe ?saN ?obN ?noN ?kpN ?hspS ?rdS ?fcS ?xm1 ?x2 ?x3 ?xc ?xga ?xno ?xlk ?xgs ?xtk ?xsu ?xhd ?z_ValueError ?z_abs ?z_all ?z_bool ?z_dict ?z_enumerate ?z_int ?z_isinstance ?z_len ?z_list ?z_max ?z_min ?z_range ?z_set ?z_str ?z_tuple ?z_LONGEST_NAME ?z_MOST_AMOUNT ?z_MOST_BENCHES ?z_MOST_BREAKS ?z_MOST_HORIZON ?z_MOST_JOBS ?z_MOST_LINKS ?z_MOST_SETUPS ?z_MOST_STEPS ?z_MOST_STOCKS ?z_MOST_WAYS
  (case aC_Shop=>k_is)
  (case d0=>refine' Dfn.mk' KX G ?a ?l ?c ?k;(case a=>k_is);(case l=>k_is);(case c=>k_is);(case k=>k_is))
  (case d1=>refine' Dfn.mk' KX G ?a ?l ?c ?k;(case a=>k_is);(case l=>k_is);(case c=>k_is);(case k=>k_is))
  (case d2=>refine' Dfn.mk' KX G ?a ?l ?c ?k;(case a=>k_is);(case l=>k_is);(case c=>k_is);(case k=>k_is))
  (case d3=>refine' Dfn.mk' KX G ?a ?l ?c ?k;(case a=>k_is);(case l=>k_is);(case c=>k_is);(case k=>k_is))
  (case d4=>refine' Dfn.mk' KX G ?a ?l ?c ?k;(case a=>k_is);(case l=>k_is);(case c=>k_is);(case k=>k_is))
  (case d5=>refine' Dfn.mk' KX G ?a ?l ?c ?k;(case a=>k_is);(case l=>k_is);(case c=>k_is);(case k=>k_is))
  (case d6=>refine' Dfn.mk' KX G ?a ?l ?c ?k;(case a=>k_is);(case l=>k_is);(case c=>k_is);(case k=>k_is))
  (case d7=>refine' Dfn.mk' KX G ?a ?l ?c ?k;(case a=>k_is);(case l=>k_is);(case c=>k_is);(case k=>k_is))
  (case d8=>refine' Dfn.mk' KX G ?a ?l ?c ?k;(case a=>k_is);(case l=>k_is);(case c=>k_is);(case k=>k_is))
  (case d9=>refine' Dfn.mk' KX G ?a ?l ?c ?k;(case a=>k_is);(case l=>k_is);(case c=>k_is);(case k=>k_is))
  (case d10=>refine' Dfn.mk' KX G ?a ?l ?c ?k;(case a=>k_is);(case l=>k_is);(case c=>k_is);(case k=>k_is))
  (case d11=>refine' Dfn.mk' KX G ?a ?l ?c ?k;(case a=>k_is);(case l=>k_is);(case c=>k_is);(case k=>k_is))
  (case d12=>refine' Dfn.mk' KX G ?a ?l ?c ?k;(case a=>k_is);(case l=>k_is);(case c=>k_is);(case k=>k_is))
  (case d13=>refine' Dfn.mk' KX G ?a ?l ?c ?k;(case a=>k_is);(case l=>k_is);(case c=>k_is);(case k=>k_is))
  (case d14=>refine' Dfn.mk' KX G ?a ?l ?c ?k;(case a=>k_is);(case l=>k_is);(case c=>k_is);(case k=>k_is))
  (case d15=>refine' Dfn.mk' KX G ?a ?l ?c ?k;(case a=>k_is);(case l=>k_is);(case c=>k_is);(case k=>k_is))
  (case d16=>refine' Dfn.mk' KX G ?a ?l ?c ?k;(case a=>k_is);(case l=>k_is);(case c=>k_is);(case k=>k_is))
  (case d17=>refine' Dfn.mk' KX G ?a ?l ?c ?k;(case a=>k_is);(case l=>k_is);(case c=>k_is);(case k=>k_is))
  (case d18=>refine' Dfn.mk' KX G ?a ?l ?c ?k;(case a=>k_is);(case l=>k_is);(case c=>k_is);(case k=>k_is))
  (case d19=>refine' Dfn.mk' KX G ?a ?l ?c ?k;(case a=>k_is);(case l=>k_is);(case c=>k_is);(case k=>k_is))
  (case d20=>refine' Dfn.mk' KX G ?a ?l ?c ?k;(case a=>k_is);(case l=>k_is);(case c=>k_is);(case k=>k_is))
  (case d21=>refine' Dfn.mk' KX G ?a ?l ?c ?k;(case a=>k_is);(case l=>k_is);(case c=>k_is);(case k=>k_is))
  (case d22=>refine' Dfn.mk' KX G ?a ?l ?c ?k;(case a=>k_is);(case l=>k_is);(case c=>k_is);(case k=>k_is))
  (case d23=>refine' Dfn.mk' KX G ?a ?l ?c ?k;(case a=>k_is);(case l=>k_is);(case c=>k_is);(case k=>k_is))
  (case d24=>refine' Dfn.mk' KX G ?a ?l ?c ?k;(case a=>k_is);(case l=>k_is);(case c=>k_is);(case k=>k_is))
  (case d25=>refine' Dfn.mk' KX G ?a ?l ?c ?k;(case a=>k_is);(case l=>k_is);(case c=>k_is);(case k=>k_is))
  (case d26=>refine' Dfn.mk' KX G ?a ?l ?c ?k;(case a=>k_is);(case l=>k_is);(case c=>k_is);(case k=>k_is))
  (case d27=>refine' Dfn.mk' KX G ?a ?l ?c ?k;(case a=>k_is);(case l=>k_is);(case c=>k_is);(case k=>k_is))
  (case d28=>refine' Dfn.mk' KX G ?a ?l ?c ?k;(case a=>k_is);(case l=>k_is);(case c=>k_is);(case k=>k_is))
  (case d29=>refine' Dfn.mk' KX G ?a ?l ?c ?k;(case a=>k_is);(case l=>k_is);(case c=>k_is);(case k=>k_is))
  (case d30=>refine' Dfn.mk' KX G ?a ?l ?c ?k;(case a=>k_is);(case l=>k_is);(case c=>k_is);(case k=>k_is))
  (case d31=>refine' Dfn.mk' KX G ?a ?l ?c ?k;(case a=>k_is);(case l=>k_is);(case c=>k_is);(case k=>k_is))
  (case d32=>refine' Dfn.mk' KX G ?a ?l ?c ?k;(case a=>k_is);(case l=>k_is);(case c=>k_is);(case k=>k_is))
  (case d33=>refine' Dfn.mk' KX G ?a ?l ?c ?k;(case a=>k_is);(case l=>k_is);(case c=>k_is);(case k=>k_is))
  (case d34=>refine' Dfn.mk' KX G ?a ?l ?c ?k;(case a=>k_is);(case l=>k_is);(case c=>k_is);(case k=>k_is))
  (case d35=>refine' Dfn.mk' KX G ?a ?l ?c ?k;(case a=>k_is);(case l=>k_is);(case c=>k_is);(case k=>k_is))
  (case d36=>refine' Dfn.mk' KX G ?a ?l ?c ?k;(case a=>k_is);(case l=>k_is);(case c=>k_is);(case k=>k_is))
  (case d37=>refine' Dfn.mk' KX G ?a ?l ?c ?k;(case a=>k_is);(case l=>k_is);(case c=>k_is);(case k=>k_is))
  (case d38=>refine' Dfn.mk' KX G ?a ?l ?c ?k;(case a=>k_is);(case l=>k_is);(case c=>k_is);(case k=>k_is))
  (case d39=>refine' Dfn.mk' KX G ?a ?l ?c ?k;(case a=>k_is);(case l=>k_is);(case c=>k_is);(case k=>k_is))
  (case d40=>refine' DfnM.mk' ?a ?i ?l ?c ?k;(case a=>k_is);(case i=>k_is);(case l=>k_is);(case c=>k_is);(case k=>k_is))
  (case d41=>refine' Dfn.mk' KX G ?a ?l ?c ?k;(case a=>k_is);(case l=>k_is);(case c=>k_is);(case k=>k_is))
  (case d42=>refine' Dfn.mk' KX G ?a ?l ?c ?k;(case a=>k_is);(case l=>k_is);(case c=>k_is);(case k=>k_is))
  (case a43=>k_is)
  (case l43=>k_is)
  (case c43=>k_is)
  (case k43=>k_is)
  (case pg_Shop=>k_is)
  (case hd_Shop=>k_is)
  (case po_Shop=>k_is)
  (case sa_Shop=>k_is)
  (case mk_Shop=>k_is)
  (case kc_Shop=>k_is)
  (case n0_Shop=>k_is)
  (case n1_Shop=>k_is)
  (case n2_Shop=>k_is)
  (case n3_Shop=>k_is)
  (case n4_Shop=>k_is)
  (case n5_Shop=>k_is)
  (case n6_Shop=>k_is)
  (case n7_Shop=>k_is)
  (case n8_Shop=>k_is)
  (case n9_Shop=>k_is)
  (case n10_Shop=>k_is)
  (case aCN=>k_is)
  (case aCS=>k_is)
  (case aCP=>k_is)
  (case aCR=>k_is)
  (case aCY=>k_is)
  (case dN=>refine' DfnM.mk' ?a ?i ?l ?c ?k;(case a=>k_is);(case i=>k_is);(case l=>k_is);(case c=>k_is);(case k=>k_is))
  (case lkN=>k_is)
  (case hmN=>rfl)
  (case hdN=>rfl)
  (case hhN=>rfl)
  (case xe=>k_exc)
  (case saN=>k_is)
  (case obN=>k_is)
  (case noN=>k_is)
  (case kpN=>k_is)
  (case hspS=>k_is)
  (case rdS=>k_is)
  (case fcS=>k_is)
  (case xm1=>kts_exm)
  (case x2=>kit_is)
  (case x3=>kit_is)
  (case xc=>k_is)
  (case xga=>k_is)
  (case xno=>k_is)
  (case xlk=>k_is)
  (case xgs=>k_is)
  (case xtk=>k_is)
  (case xsu=>k_is)
  (case xhd=>k_is)
  (case z_ValueError=>k_is)
  (case z_abs=>k_is)
  (case z_all=>k_is)
  (case z_bool=>k_is)
  (case z_dict=>k_is)
  (case z_enumerate=>k_is)
  (case z_int=>k_is)
  (case z_isinstance=>k_is)
  (case z_len=>k_is)
  (case z_list=>k_is)
  (case z_max=>k_is)
  (case z_min=>k_is)
  (case z_range=>k_is)
  (case z_set=>k_is)
  (case z_str=>k_is)
  (case z_tuple=>k_is)
  (case z_LONGEST_NAME=>k_is)
  (case z_MOST_AMOUNT=>k_is)
  (case z_MOST_BENCHES=>k_is)
  (case z_MOST_BREAKS=>k_is)
  (case z_MOST_HORIZON=>k_is)
  (case z_MOST_JOBS=>k_is)
  (case z_MOST_LINKS=>k_is)
  (case z_MOST_SETUPS=>k_is)
  (case z_MOST_STEPS=>k_is)
  (case z_MOST_STOCKS=>k_is)
  (case z_MOST_WAYS=>k_is)
end
end
