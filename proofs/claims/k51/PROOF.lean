import PyProof.Rows.All
import Wide.All
import OpenK.AllK
import Wide.FinOn
import Lean
import PyProof.EqAt
import PyProof.EqKinds
import PyProof.TupleCall
import KE.KDictOf
import PyProof.AttrMiss
import PyProof.IsiH_list
import PySem.SetOps
import KE.KEqDict
import KE.KItemsList
import KE.KDictSum
import KE.KRevSl
import PyProof.Rows.SortStr
import PyProof.Rows.SortWalk
import PyProof.DictWalks
import PyProof.StrLawsTight
import KE.KIntText
import PyProof.Rows.StrIntSpec
import PyProof.StrLawsJoin
import KE.KTryMore
import PyProof.NsDelKeeps
import PyProof.ExcAttrAll.ValueError
import PyProof.StrReplace2
import PyProof.ReprStr
import PyProof.Rows.RuleU_int
import KE.RegKIsAll
import KE.RegKTryMore
import PyProof.InstStoreFacts
import PyProof.ExcInit
import KE.KMinBuiltin
import PyProof.MinMaxWalk
import PyProof.Rows.CallKwBuiltin
import PyProof.WalkInts
import PySem.Challenge.RW_shopbound_k51_trees_of_a_shop
set_option Elab.async false
set_option linter.all false
set_option maxRecDepth 100000
theorem oBd {α:Type u} {β:Type v} {o:Option α} {f:α->Option β} {b:β} (h:o.bind f=some b):∃ a,o=some a/\f a=some b:=Option.bind_eq_some_iff.mp h
theorem oMd {α:Type u} {β:Type v} {o:Option α} {f:α->β} {b:β} (h:o.map f=some b):∃ a,o=some a/\f a=b:=Option.map_eq_some_iff.mp h
noncomputable section
section
open PySem PySem.Spec PyProof.Rows
def qa:=@Option.bind_some
def qb:=@List.getElem?_cons_zero
def qc:=@List.getElem?_cons_succ
def qd:=@Option.map_some
def qe:=@List.length_map
def qf:=@List.mem_cons_self
def qg:=@List.mem_cons_of_mem
def qh:=@List.length_cons
def qi:=@List.length_append
def qj:=@List.getElem?_map
def qk:=@List.length_nil
def ql:=@List.map_cons
def qm:=@List.cons_append
def qo:=@Bool.false_eq_true
def qp:=@Bool.false_ne_true
def qq:=@Heap.get?_push_of_some
def qr:=@Heap.lt_size
def qt:=@Nat.le_refl
def qu:=@wpAny_bind
def qv:=@List.getElem?_set_ne
def qw:=@List.getElem?_append_left
def qx:=@wpAny_pure
def qy:=@List.size_toArray
def qz:=@Nat.ne_of_lt
def qA:=@List.length_take
def qB:=@Nat.lt_of_lt_of_le
def qC:=@Heap.get?_push_size
def qD:=@Option.some.inj
def qE:=@Array.getElem?_toList
def qF:=@List.not_mem_nil
def qG:=@List.mem_cons
def qH:=@Nat.le_trans
def qI:=@decide_eq_false
def qJ:=@List.map_nil
def qK:=@List.mem_of_getElem?
def qL:=@List.mem_append_right
def qM:=@List.nil_append
def qN:=@decide_eq_true
def qO:=@List.length_range
def qP:=@List.length_singleton
def qQ:=@List.mem_map_of_mem
def qR:=@if_pos
def qS:=@if_neg
end
section
namespace L2
open PySem PySem.Spec PyProof.Rows
abbrev Key:=Sum Int Str
def zmC:Key->Value->Bool
 | .inl k,v=>Value.isInt k v
 | .inr x,v=>Value.isStrOf x v
def zwg (w:World):Key->Int
 | .inl k=>hashInt k
 | .inr x=>hashStr w x
theorem zbV:∀ {k:Key} {v:Value},zmC k v=true->(∃ i t,k=Sum.inl i/\v=Value.int i t)\/(∃ x t,k=Sum.inr x/\v=Value.str x t)
 | .inl i,v,h=>by
  obtain ⟨t,e⟩:=Value.isInt_shape (k:=i) (v:=v) h
  exact .inl ⟨i,t,rfl,e⟩
 | .inr x,v,h=>by
  obtain ⟨t,e⟩:=Value.isStrOf_shape (x:=x) (v:=v) h
  exact .inr ⟨x,t,rfl,e⟩
theorem zn5 (i:Int) (t:Tok):zmC (.inl i) (.int i t)=true:=by simp [zmC,Value.isInt]
theorem zn4 (x:Str) (t:Tok):zmC (.inr x) (.str x t)=true:=by simp [zmC,Value.isStrOf]
theorem ztS (a b:Int):decide ((Sum.inl a:Key)=Sum.inl b)=(a==b):=by
 by_cases e:a=b
 ·subst e;simp
 ·have h:¬ (Sum.inl a:Key)=Sum.inl b:=fun q=>e (Sum.inl.inj q)
  rw [qI h]
  exact (beq_eq_false_iff_ne.mpr e).symm
theorem ztP (a b:Str):decide ((Sum.inr a:Key)=Sum.inr b)=decide (a=b):=by
 by_cases e:a=b
 ·subst e;simp
 ·have h:¬ (Sum.inr a:Key)=Sum.inr b:=fun q=>e (Sum.inr.inj q)
  rw [qI h,qI e]
theorem ztR (a:Int) (b:Str):decide ((Sum.inl a:Key)=Sum.inr b)=false:=qI (fun q=>nomatch q)
theorem ztQ (a:Str) (b:Int):decide ((Sum.inr a:Key)=Sum.inl b)=false:=qI (fun q=>nomatch q)
def zby (prog:Program) (w:World):PySem.KeyKind prog w Key where
 is:=zmC
 hash:=zwg w
 inj:=fun v a b ha hb=>by
  rcases zbV ha with ⟨i,t,rfl,rfl⟩ | ⟨x,t,rfl,rfl⟩
  ·rcases zbV hb with ⟨j,u,rfl,e⟩ | ⟨y,u,rfl,e⟩
   ·injection e with e1 _;rw [e1]
   ·exact nomatch e
  ·rcases zbV hb with ⟨j,u,rfl,e⟩ | ⟨y,u,rfl,e⟩
   ·exact nomatch e
   ·injection e with e1 _;rw [e1]
 byValue:=fun k v h=>by
  rcases zbV h with ⟨i,t,rfl,rfl⟩ | ⟨x,t,rfl,rfl⟩ <;> rfl
 pyHash:=fun hv h=>by
  rcases zbV hv with ⟨i,t,rfl,rfl⟩ | ⟨x,t,rfl,rfl⟩
  ·exact wpAny_pyHash_int h
  ·exact wpAny_pyHash_str h
 eqBool:=fun hu hv h=>by
  rcases zbV hu with ⟨i,t,rfl,rfl⟩ | ⟨x,t,rfl,rfl⟩
  ·rcases zbV hv with ⟨j,u,rfl,rfl⟩ | ⟨y,u,rfl,rfl⟩
   ·rw [ztS] at h;exact wpAny_eqBool_int h
   ·rw [ztR] at h;exact SeqAt.EqAt.int_str i t y u _ _ _ _ h
  ·rcases zbV hv with ⟨j,u,rfl,rfl⟩ | ⟨y,u,rfl,rfl⟩
   ·rw [ztQ] at h;exact SeqAt.EqAt.str_int x t j u _ _ _ _ h
   ·rw [ztP] at h;exact wpAny_eqBool_str h
 «strs»:=fun k x t v h=>by
  rcases zbV h with ⟨i,u,rfl,e⟩ | ⟨y,u,rfl,e⟩
  ·exact nomatch e
  ·injection e with e1 _
   subst e1
   cases v <;> rfl
theorem zk1 (prog:Program) (w:World) (i:Int) (t:Tok):(zby prog w).is (.inl i) (.int i t)=true:=zn5 i t
theorem zk0 (prog:Program) (w:World) (x:Str) (t:Tok):(zby prog w).is (.inr x) (.str x t)=true:=zn4 x t
end L2
namespace L2
open PySem PySem.Spec PyProof.Rows
inductive V where
 | non | bl (b:Bool) | int (i:Int) | str (x:Str) | byt (b:Array UInt8) | flt (b:UInt64) | ref (a:Addr) | ty (n:String)
 deriving DecidableEq
def zcN:V->Value->Prop
 | .non,u=>u=Value.none
 | .bl b,u=>u=Value.bool b
 | .int i,u=>∃ t,u=Value.int i t
 | .str x,u=>∃ t,u=Value.str x t
 | .byt b,u=>∃ t,u=Value.bytes b t
 | .flt b,u=>∃ t,u=Value.float b t
 | .ref a,u=>u=Value.ref a
 | .ty n,u=>u=Value.type n
abbrev zcb:List V->List Value->Prop:=Paired zcN
theorem zcb.length {xs:List V} {us:List Value} (r:zcb xs us):xs.length=us.length:=Paired.length r
theorem zcb.get:∀ {xs:List V} {us:List Value} {i:Nat} {x:V},zcb xs us->xs[i]?=some x->∃ u,us[i]?=some u/\zcN x u
 | _,_,_,_,.nil,e=>by simp at e
 | _,_,0,_,.cons r _,e=>by simp at e;subst e;exact ⟨_,rfl,r⟩
 | _,_,i+1,x,.cons _ t,e=>by
  obtain ⟨u,h1,h2⟩:=zcb.get (i:=i) (x:=x) t (by simpa using e)
  exact ⟨u,by simpa using h1,h2⟩
theorem zcb.set {x:V} {u:Value} (r:zcN x u):∀ {xs:List V} {us:List Value} (i:Nat),zcb xs us->zcb (xs.set i x) (us.set i u)
 | _,_,_,.nil=>.nil
 | _,_,0,.cons _ t=>.cons r t
 | _,_,i+1,.cons q t=>.cons q (zcb.set r i t)
theorem zcb.append:∀ {xs ys:List V} {us ws:List Value},zcb xs us->zcb ys ws->zcb (xs++ys) (us++ws)
 | _,_,_,_,.nil,s=>s
 | _,_,_,_,.cons r t,s=>.cons r (zcb.append t s)
theorem zcb.take:∀ {xs:List V} {us:List Value} (n:Nat),zcb xs us->zcb (xs.take n) (us.take n)
 | _,_,0,_=>.nil
 | _,_,_+1,.nil=>.nil
 | _,_,n+1,.cons r t=>.cons r (zcb.take n t)
theorem zcb.drop:∀ {xs:List V} {us:List Value} (n:Nat),zcb xs us->zcb (xs.drop n) (us.drop n)
 | _,_,0,r=>r
 | _,_,_+1,.nil=>.nil
 | _,_,n+1,.cons _ t=>zcb.drop n t
def zmQ:Option V->Option Value->Prop
 | some v,some u=>zcN v u
 | none,none=>True
 | _,_=>False
def KV {κ:Type}:List (κ×V)->List (κ×Value)->Prop:=Paired fun (p:κ×V) (q:κ×Value)=>p.1=q.1/\zcN p.2 q.2
def kV:Key->V
 | .inl i=>.int i
 | .inr x=>.str x
inductive HO where
 | lst (xs:List V)
 | tup (xs:List V)
 | dK (kvs:List (Key×V)) | dT (kvs:List (List Key×V))
 | set (S:Int->Bool) (n:Nat)
 | ins (C dx:Addr) (fs:List (Str×V))
 | own (x:Addr)
 | xd (fs:List (Str×V))
 | met (f x:Addr)
 | rng (lo hi:Int)
 | frz (o:Obj) (u:HO)
 | tbl (ps:Array Value)
 | ext (φ:Heap->Prop)
abbrev Hp:=Addr->Option HO
def upd (H:Hp) (a:Addr) (o:HO):Hp:=fun b=>if b=a then some o else H b
theorem zaL {H:Hp} {a:Addr} {o:HO}:upd H a o a=some o:=by unfold upd;rw [qR rfl]
theorem zaF {H:Hp} {a b:Addr} {o:HO} (h:b≠a):upd H a o b=H b:=by unfold upd;rw [qS h]
theorem zii {H:Hp} {a b:Addr} {o u:HO} (h:H a=some o) (h':H b=some u) (d:o≠u):a≠b:=by
 intro e;subst e;rw [h] at h';exact d (qD h')
theorem zaC {H:Hp} {a b:Addr} {o:HO} (h:H a=some o) (h':H b=none):a≠b:=by
 intro e;subst e;rw [h] at h';cases h'
section
variable (P:Program) (w:World)
def zdb (H:Hp) (h:Heap) (a:Addr):HO->Prop
 | .lst xs=>xs.length<=sizeLine/\∃ (its:List Value) (n:Nat),zcb xs its/\h.get? a=some { cls:=.type "list",data:=.seq its.toArray n }
 | .tup xs=>xs.length<=sizeLine/\∃ its:List Value,zcb xs its/\IsTup h a its.toArray
 | .dK kvs=>kvs.length<=sizeLine/\(a==sysModules)=false/\∃ vs,KV kvs vs/\h.DictOf (zby P w) a vs
 | .dT kvs=>kvs.length<=sizeLine/\(a==sysModules)=false/\∃ xs:List (List Key×Addr×Value),
   Paired (fun (p:List Key×V) (q:List Key×Addr×Value)=>p.1=q.1/\H q.2.1=some (.tup (p.1.map kV))/\zcN p.2 q.2.2) kvs xs /\
   ∃ o es ep,h.get? a=some o/\o.ExactDict/\o.data=.dict es ep/\es.toList=xs.map (entryOfKey (tupleKind (zby P w)))/\(xs.map (·.1)).Nodup
 | .set S n=>h.SetOf (intKind P w) a S n
 | .ins C dx fs=>H dx=some (.own a)/\fs.length<=1000/\dx≠a/\h.get? a=some (PySem.W.instObj C dx) /\
   ∃ mA,h.Ns1 dx mA/\(∀ f,zmQ (fs.lookup f) (mA f))/\PySem.Within mA (fs.map (·.1))
 | .own _=>∃ o,h.get? a=some o
 | .xd fs=>∃ mA,h.Ns1 a mA/\∀ f,zmQ (fs.lookup f) (mA f)
 | .rng lo hi=>∃ t u v,h.get? a=some { cls:=.type "range",data:=.fields #[.int lo t,.int hi u,.int 1 v] }
 | .frz o u=>h.get? a=some o/\zdb H h a u
 | .tbl ps=>h.get? a=some { cls:=.none,data:=.fields ps }
 | .met f x=>h.get? a=some (PySem.W.methodObj (.ref f) (.ref x))
 | .ext φ=>φ h/\(∃ o,h.get? a=some o)/\∀ h1 h2:Heap,φ h1->(∀ o,h1.get? a=some o->h2.get? a=some o)->φ h2
def HOk (H:Hp) (h:Heap):Prop:=∀ a o,H a=some o->zdb P w H h a o
end
section
variable {P:Program} {w:World} {H H':Hp} {h h':Heap} {a:Addr} {o:HO}
theorem zdb.lt (x:zdb P w H h a o):a < h.objs.size:=by
 cases o with
 | lst xs=>obtain ⟨_,_,_,_,e⟩:=x;exact qr e
 | tup xs=>obtain ⟨_,_,_,p⟩:=x;exact p.lt
 | dK kvs=>obtain ⟨_,_,_,_,o,_,_,e,_⟩:=x;exact qr e
 | dT kvs=>obtain ⟨_,_,_,_,o,_,_,e,_⟩:=x;exact qr e
 | set S n=>obtain ⟨o,_,_,_,e,_⟩:=x;exact qr e
 | ins C dx fs=>obtain ⟨_,_,_,e,_⟩:=x;exact qr e
 | own y=>obtain ⟨_,e⟩:=x;exact qr e
 | xd fs=>obtain ⟨_,⟨_,_,_,e,_⟩,_⟩:=x;exact qr e
 | rng lo hi=>obtain ⟨_,_,_,e⟩:=x;exact qr e
 | frz ob u=>obtain ⟨e,_⟩:=x;exact qr e
 | tbl ps=>exact qr (show h.get? a=some _ from x)
 | met f y=>exact qr (show h.get? a=some _ from x)
 | ext φ=>obtain ⟨_,⟨_,e⟩,_⟩:=x;exact qr e
theorem Paired.mapP {α β:Type} {F G:α->β->Prop}:∀ {l₁:List α} {l₂:List β},Paired F l₁ l₂->(∀ a b,F a b->G a b)->Paired G l₁ l₂
 | _,_,.nil,_=>.nil
 | _,_,.cons r t,f=>.cons (f _ _ r) (Paired.mapP t f)
theorem zdb.stay (x:zdb P w H h a o) (k:∀ b u,(b=a\/H b=some (.own a))->h.get? b=some u->h'.get? b=some u)
  (ho:∀ b,H b=some (.own a)->H' b=some (.own a)) (ht:∀ b xs,H b=some (.tup xs)->H' b=some (.tup xs)):zdb P w H' h' a o:=by
 induction o with
 | lst xs=>obtain ⟨z,its,n,r,e⟩:=x;exact ⟨z,its,n,r,k _ _ (.inl rfl) e⟩
 | tup xs=>obtain ⟨z,its,r,ob,e,c⟩:=x;exact ⟨z,its,r,ob,k _ _ (.inl rfl) e,c⟩
 | dK kvs=>obtain ⟨z,y,vs,r,ob,es,ep,e,c⟩:=x;exact ⟨z,y,vs,r,ob,es,ep,k _ _ (.inl rfl) e,c⟩
 | dT kvs =>
  obtain ⟨z,y,xs,r,ob,es,ep,e,c⟩:=x
  exact ⟨z,y,xs,Paired.mapP r fun p q z=>⟨z.1,ht _ _ z.2.1,z.2.2⟩,ob,es,ep,k _ _ (.inl rfl) e,c⟩
 | set S n=>obtain ⟨ob,es,ep,t,e,c⟩:=x;exact ⟨ob,es,ep,t,k _ _ (.inl rfl) e,c⟩
 | ins C dx fs =>
  obtain ⟨d,z,ne,e,mA,⟨od,es,ep,e2,c⟩,r⟩:=x
  exact ⟨ho _ d,z,ne,k _ _ (.inl rfl) e,mA,⟨od,es,ep,k _ _ (.inr d) e2,c⟩,r⟩
 | own y=>obtain ⟨ob,e⟩:=x;exact ⟨ob,k _ _ (.inl rfl) e⟩
 | xd fs=>obtain ⟨mA,⟨od,es,ep,e,c⟩,r⟩:=x;exact ⟨mA,⟨od,es,ep,k _ _ (.inl rfl) e,c⟩,r⟩
 | rng lo hi=>obtain ⟨t,u,v,e⟩:=x;exact ⟨t,u,v,k _ _ (.inl rfl) e⟩
 | frz ob u ih=>obtain ⟨e,q⟩:=x;exact ⟨k _ _ (.inl rfl) e,ih q⟩
 | tbl ps =>
  have e:h.get? a=some { cls:=.none,data:=.fields ps }:=x
  show h'.get? a=some { cls:=.none,data:=.fields ps }
  exact k a _ (.inl rfl) e
 | met f y =>
  have e:h.get? a=some (PySem.W.methodObj (.ref f) (.ref y)):=x
  show h'.get? a=some (PySem.W.methodObj (.ref f) (.ref y))
  exact k a _ (.inl rfl) e
 | ext φ=>obtain ⟨p,⟨o,e⟩,st⟩:=x;exact ⟨st _ _ p fun o q=>k _ _ (.inl rfl) q,⟨o,k _ _ (.inl rfl) e⟩,st⟩
theorem HOk.lt (x:HOk P w H h) (e:H a=some o):a < h.objs.size:=(x a o e).lt
theorem HOk.fresh (x:HOk P w H h) (e:h.objs.size<=a):H a=none:=by
 cases q:H a with
 | none=>rfl
 | some u=>exact absurd (qB (x.lt q) e) (Nat.lt_irrefl _)
theorem HOk.kept (x:HOk P w H h) (k:∀ b u,h.get? b=some u->h'.get? b=some u):HOk P w H h':=fun a o e =>
 (x a o e).stay (fun b u _ q=>k b u q) (fun _ q=>q) fun _ _ q=>q
theorem HOk.laid (x:HOk P w H h) (k:∀ b u,h.get? b=some u->h'.get? b=some u) (hp:h.objs.size<=a) (new:zdb P w (upd H a o) h' a o):HOk P w (upd H a o) h':=fun b u e=>by
 have hn:=x.fresh hp
 by_cases hb:b=a
 ·subst hb;rw [zaL] at e;cases e;exact new
 ·rw [zaF hb] at e
  exact (x b u e).stay (fun c v _ q=>k c v q) (fun c q=>by rw [zaF (zaC q hn)];exact q) fun c xs q=>by rw [zaF (zaC q hn)];exact q
end
def Rd (H:Hp) (a:Addr) (u:HO):Prop:=H a=some u\/∃ o,H a=some (.frz o u)
theorem Rd.ok {P:Program} {w:World} {H:Hp} {h:Heap} {a:Addr} {u:HO} (r:Rd H a u) (x:HOk P w H h):zdb P w H h a u:=by
 rcases r with r | ⟨o,r⟩
 ·exact x a u r
 ·obtain ⟨_,q⟩:=x a _ r
  exact q
def Mut:Option HO->Prop
 | some (.lst _)=>True
 | some (.dK _)=>True
 | some (.dT _)=>True
 | some (.set _ _)=>True
 | some (.ins _ _ _)=>True
 | some (.ext _)=>True
 | _=>False
section
variable {P:Program} {w:World} {H:Hp} {h h':Heap} {x e:Addr} {o':HO}
theorem HOk.write (ok:HOk P w H h) (mu:Mut (H x)) (he:e=x\/H e=some (.own x)) (k:∀ b u,b≠e->h.get? b=some u->h'.get? b=some u) (heo:∃ u,h'.get? e=some u)
  (new:zdb P w (upd H x o') h' x o'):HOk P w (upd H x o') h':=fun b u q=>by
 have nown:∀ c y,H c=some (.own y)->c≠x:=fun c y r z=>by subst z;rw [r] at mu;exact mu
 have ntup:∀ c xs,H c=some (.tup xs)->c≠x:=fun c xs r z=>by subst z;rw [r] at mu;exact mu
 by_cases hb:b=x
 ·subst hb;rw [zaL] at q;cases q;exact new
 ·rw [zaF hb] at q
  by_cases hbe:b=e
  ·have q':H b=some (.own x):=by
    rcases he with z | z
    ·exact absurd (hbe.trans z) hb
    ·rw [hbe];exact z
   rw [q] at q';cases q'
   obtain ⟨v,hv⟩:=heo
   exact ⟨v,by rw [hbe];exact hv⟩
  ·refine (ok b u q).stay (fun c v hc r=>k c v ?_ r) (fun c r=>by rw [zaF (nown c b r)];exact r) fun c xs r=>by rw [zaF (ntup c xs r)];exact r
   rcases hc with rfl | hc
   ·exact hbe
   ·rintro rfl
    rcases he with z | z
    ·exact nown c b hc z
    ·rw [hc] at z;cases z;exact hb rfl
end
structure Un (fs ex:List Addr) (H H':Hp) (h h':Heap):Prop where
 keep:∀ b o,h.get? b=some o->H b=none->b∉fs->b∉ex->h'.get? b=some o
 slot:∀ b o,h.get? b=some o->H b=none->b∈fs->b∉ex->∃ sl,h'.get? b=some { o with slots:=sl }
 free:∀ b o,h.get? b=some o->H b=none->b∉ex->H' b=none
 there:∀ b o,h.get? b=some o->b∉ex->∃ o',h'.get? b=some o'
 tups:∀ b xs,H b=some (.tup xs)->H' b=some (.tup xs)
 frzs:∀ b o u,H b=some (.frz o u)->H' b=some (.frz o u)
 tbls:∀ b ps,H b=some (.tbl ps)->∃ more,H' b=some (.tbl (ps++more))
section
variable {fs fs' ex ex':List Addr} {H H1 H2:Hp} {h h1 h2 h':Heap} {a x e:Addr} {o:HO}
theorem Un.any (u:Un fs ex H H1 h h1) {b:Addr} {ob:Obj} (q:h.get? b=some ob) (n:H b=none) (hx:b∉ex):∃ sl,h1.get? b=some { ob with slots:=sl }:=by
 by_cases hb:b∈fs
 ·exact u.slot b ob q n hb hx
 ·exact ⟨ob.slots,u.keep b ob q n hb hx⟩
theorem Un.kept (k:∀ b u,h.get? b=some u->h'.get? b=some u):Un fs ex H H h h' :=
 ⟨fun b ob q _ _ _=>k b ob q,fun b ob q _ _ _=>⟨ob.slots,k b ob q⟩,fun _ _ _ n _=>n,fun b ob q _=>⟨ob,k b ob q⟩,fun _ _ q=>q,fun _ _ _ q=>q,fun _ ps q=>⟨#[],by rw [q];simp⟩⟩
theorem Un.refl:Un fs ex H H h h:=Un.kept fun _ _ q=>q
theorem Un.laid (k:∀ b u,h.get? b=some u->h'.get? b=some u) (hp:h.objs.size<=a) (hn:H a=none):Un fs ex H (upd H a o) h h' where
 keep:=fun b u q _ _ _=>k b u q
 slot:=fun b u q _ _ _=>⟨u.slots,k b u q⟩
 free:=fun b u q n _=>by rw [zaF (qz (qB (qr q) hp))];exact n
 there:=fun b u q _=>⟨u,k b u q⟩
 tups:=fun b xs q=>by rw [zaF (zaC q hn)];exact q
 frzs:=fun b u xs q=>by rw [zaF (zaC q hn)];exact q
 tbls:=fun b ps q=>⟨#[],by rw [zaF (zaC q hn),q];simp⟩
theorem Un.write (mu:Mut (H x)) (he:e=x\/H e=some (.own x)) (k:∀ b u,b≠e->h.get? b=some u->h'.get? b=some u) (heo:∃ u,h'.get? e=some u):Un fs ex H (upd H x o) h h':=by
 have hx:∀ b,H b=none->b≠x:=fun b n z=>by subst z;rw [n] at mu;exact mu
 have hb:∀ b,H b=none->b≠e:=fun b n z=>by
  subst z
  rcases he with r | r
  ·exact hx b n r
  ·rw [n] at r;cases r
 have hm:∀ b u,H b=some u->¬ Mut (some u)->b≠x:=fun b u q nm z=>by subst z;rw [q] at mu;exact nm mu
 refine ⟨fun b u q n _ _=>k b u (hb b n) q,fun b u q n _ _=>⟨u.slots,k b u (hb b n) q⟩,fun b u q n _=>by rw [zaF (hx b n)];exact n,fun b u q _=>?_,
  fun b xs q=>by rw [zaF (hm b _ q fun z=>z)];exact q,fun b u xs q=>by rw [zaF (hm b _ q fun z=>z)];exact q,fun b ps q=>⟨#[],by rw [zaF (hm b _ q fun z=>z),q];simp⟩⟩
 by_cases hbe:b=e
 ·subst hbe;exact heo
 ·exact ⟨u,k b u hbe q⟩
end
def trk (h:Heap) (H:Hp):List Addr:=(List.range h.objs.size).filter fun a=>(H a).isSome
def zpL (h:Heap) (H:Hp):Heap:=PySem.W.hideAll h (trk h H)
theorem zoc (h:Heap) (H:Hp):(zpL h H).objs.size=h.objs.size:=PySem.W.hideAll_size _ _
theorem zpK {h:Heap} {H:Hp} {b:Addr} {o:Obj} (e:h.get? b=some o) (n:H b=none):(zpL h H).get? b=some o :=
 PySem.W.hideAll_get _ e fun hm=>by
  have q:(H b).isSome=true:=(List.mem_filter.mp hm).2
  rw [n] at q;simp at q
theorem zry {h:Heap} {H:Hp} {b:Addr} {o:Obj} (e:(zpL h H).get? b=some o):h.get? b=some o/\H b=none:=by
 have e':h.get? b=some o:=PySem.W.of_hideAll (trk h H) e
 refine ⟨e',?_⟩
 cases q:H b with
 | none=>rfl
 | some x =>
  have hm:b∈trk h H:=List.mem_filter.mpr ⟨List.mem_range.mpr (qr e'),by simp [q]⟩
  have z:(zpL h H).get? b=none:=PySem.W.hideAll_none (trk h H) hm
  rw [z] at e;cases e
def zsm (g h:Heap) (L:Addr):List (Addr×Obj):=(List.range h.objs.size).filterMap fun a=>if a=L\/(g.get? a).isSome=true then none else (h.get? a).map fun o=>(a,o)
def zc2 (g h:Heap) (L d:Addr):List (Addr×Obj):=(zsm g h L).filter fun p=>decide (p.1≠d)
end L2
namespace L2
open PySem PySem.Spec PyProof.Rows
structure Mod (K:PySem.W.Frag) (mg:Str->Option Value) (base:Heap):Prop where
 kin:K.In base
 glob:base.Ns mainGlobals mg
 blt:∃ mb,base.Ns builtinsNs mb/\∀ x:Str,x≠"__name__"->mb x=bootBuiltins x
 nolimit:base.NoLimit
structure Cx where
 prog:Program
 w:World
 K:PySem.W.Frag
 mg:Str->Option Value
 base:Heap
 A:Around
 N:List Str
 s₀:Shared
 H₀:Hp
 env:Env
 outer:List Env
 stack:List Env
 ex:List Addr
 fn:Str->Bool
 calm:Bool
 pn:List (Addr×Obj)
 xe:Value->Shared->Prop
def frs (l:List Env):List Addr:=l.filterMap (·.frame)
abbrev Cx.fs (X:Cx):List Addr:=frs X.outer
def Vis (sc:Scope) (x:Str):Prop:=sc.names.lookup x=some .local\/sc.names.lookup x=some .cell\/sc.names.lookup x=some .free
def Loc (sc:Scope) (x:Str):Prop:=sc.names.lookup x=some .local\/sc.names.lookup x=some .cell
def zwq (env:Env) (h:Heap) (m:Str->Option Value) (x:Str) (u:Value):Prop :=
 (env.kindOf x=some .local/\m x=some u)\/((env.kindOf x=some .cell\/env.kindOf x=some .free)/\∃ c,env.cells.lookup x=some c/\h.IsCell c (some u))
structure Cx.Ok (X:Cx):Prop where
 mod:Mod X.K X.mg X.base
 kind:X.env.scope.kind=.function
 glob:X.env.globals=mainGlobals
 blt:X.env.builtins=builtinsNs
 above:X.s₀.heap.objs.size<=X.env.locals
 inj:∀ x y c,X.env.cells.lookup x=some c->X.env.cells.lookup y=some c->x=y
 has:∀ x,(X.env.kindOf x=some .cell\/X.env.kindOf x=some .free)->∃ c,X.env.cells.lookup x=some c
 cab:∀ x c,X.fn x=true->X.env.cells.lookup x=some c->X.s₀.heap.objs.size<=c
 hd:X.calm=true->X.A.handled=none
 frames:X.A.frames=some X.stack
 stk:X.stack=X.outer\/(X.stack=X.env::X.outer/\X.env.frame=some X.env.locals)
 exf:∀ b∈X.ex,b≠X.env.locals/\∀ x c,X.env.cells.lookup x=some c->c≠b
 bs:∀ b o,X.base.get? b=some o->X.s₀.heap.get? b=some o/\X.H₀ b=none
 bsz:X.base.objs.size<=X.s₀.heap.objs.size
 noex:∀ b o,X.base.get? b=some o->b∉X.ex
 exfs:∀ b∈X.ex,b∉X.fs
 funs:X.s₀.heap.FunFrames X.base X.outer
 frf:∀ b∈X.fs,X.H₀ b=none
structure Inv (X:Cx) (pins:List (Addr×Obj)) (σ:List (Option V)) (H:Hp) (s:Shared):Prop where
 ok:X.Ok
 os:s.os=X.s₀.os
 bare:AllBare s.gens
 base:Un X.fs X.ex X.H₀ H X.s₀.heap s.heap
 loc:∃ m,s.heap.Ns X.env.locals m/\∀ (i:Nat) (x:Str) (v:V),X.N[i]?=some x->σ[i]?=some (some v)->Vis X.env.scope x->∃ u,zcN v u/\zwq X.env s.heap m x u
 cell:∀ x c,X.env.cells.lookup x=some c->∃ v,s.heap.IsCell c v
 free:H X.env.locals=none
 freeC:∀ x c,X.env.cells.lookup x=some c->H c=none
 pin:∀ p∈X.pn++pins,s.heap.get? p.1=some p.2/\H p.1=none/\p.1≠X.env.locals/\p.1∉X.fs/\∀ v,p.2.data≠.cell v
 hok:HOk X.prog X.w H s.heap
 len:σ.length=X.N.length
section
variable {X:Cx} {pins:List (Addr×Obj)} {σ:List (Option V)} {H H':Hp} {s:Shared} {h':Heap}
theorem Cx.Ok.nofr (ok:X.Ok) {b:Addr} {o:Obj} (e:X.base.get? b=some o):b∉X.fs:=fun hb=>by
 have:=(ok.funs.mem hb).1
 rw [e] at this;cases this
theorem Inv.bs (I:Inv X pins σ H s):∀ b o,X.base.get? b=some o->s.heap.get? b=some o/\H b=none:=fun b o e =>
 ⟨I.base.keep b o (I.ok.bs b o e).1 (I.ok.bs b o e).2 (I.ok.nofr e) (I.ok.noex b o e),I.base.free b o (I.ok.bs b o e).1 (I.ok.bs b o e).2 (I.ok.noex b o e)⟩
theorem Inv.bk (I:Inv X pins σ H s):∀ b o,X.base.get? b=some o->s.heap.get? b=some o:=fun b o e=>(I.bs b o e).1
theorem Inv.mod (I:Inv X pins σ H s):Mod X.K X.mg X.base:=I.ok.mod
theorem Inv.kIn (I:Inv X pins σ H s):X.K.In s.heap:=I.ok.mod.kin.keeps I.bk
theorem Inv.lt (I:Inv X pins σ H s):X.env.locals < s.heap.objs.size:=let ⟨_,hn,_⟩:=I.loc;hn.lt
theorem Inv.sz (I:Inv X pins σ H s):X.s₀.heap.objs.size<=s.heap.objs.size:=qH I.ok.above (Nat.le_of_lt I.lt)
theorem Inv.nofs (I:Inv X pins σ H s) {a:Addr} (h:s.heap.objs.size<=a):a∉X.fs:=fun hb=>by
 obtain ⟨_,o,ho,_⟩:=I.ok.funs.mem hb
 exact absurd (qB (qr ho) (qH I.sz h)) (Nat.lt_irrefl _)
theorem Inv.cne (I:Inv X pins σ H s):∀ x c,X.env.cells.lookup x=some c->c≠X.env.locals:=fun x c e z=>by
 obtain ⟨v,o,ho,hd⟩:=I.cell x c e
 obtain ⟨m,⟨o',es,ep,ho',hd',_⟩,_⟩:=I.loc
 rw [z,ho'] at ho;cases ho;rw [hd'] at hd;cases hd
theorem Inv.funs (I:Inv X pins σ H s):s.heap.FunFrames X.base X.outer:=by
 have all:∀ (l:List Env),(∀ b∈frs l,b∈X.fs)->X.s₀.heap.FunFrames X.base l->s.heap.FunFrames X.base l:=by
  intro l
  induction l with
  | nil=>intro _ _;trivial
  | cons env r ih =>
   intro hs hl
   obtain ⟨hk,⟨L,o,hf,hn,ho,hd⟩,hr⟩:=hl
   have hL:L∈X.fs:=hs L (by unfold frs;rw [List.filterMap_cons,hf];exact qf)
   obtain ⟨sl,e⟩:=I.base.slot L o ho (I.ok.frf L hL) hL fun z=>I.ok.exfs L z hL
   exact ⟨hk,⟨L,_,hf,hn,e,hd⟩,ih (fun b hb=>hs b (by unfold frs;rw [List.filterMap_cons,hf];exact qg _ hb)) hr⟩
 exact all X.outer (fun _ hb=>hb) I.ok.funs
theorem Inv.stack (I:Inv X pins σ H s):s.heap.FunFrames X.base X.stack:=by
 rcases I.ok.stk with e | ⟨e,hf⟩
 ·rw [e];exact I.funs
 ·rw [e]
  obtain ⟨m,hn,_⟩:=I.loc
  refine .cons (by rw [I.ok.kind];decide) hf hn ?_ I.funs
  exact Heap.get?_none_of_le (qH I.ok.bsz I.ok.above)
theorem Inv.stkSub (I:Inv X pins σ H s):∀ b∈frs X.stack,b∈X.env.locals::X.fs:=fun b hb=>by
 rcases I.ok.stk with e | ⟨e,hf⟩
 ·rw [e] at hb;exact qg _ hb
 ·rw [e] at hb
  unfold frs at hb
  rw [List.filterMap_cons,hf] at hb
  exact hb
theorem Inv.stkFree (I:Inv X pins σ H s):∀ b∈frs X.stack,H b=none:=fun b hb=>by
 rcases List.mem_cons.mp (I.stkSub b hb) with e | hb
 ·rw [e];exact I.free
 ·obtain ⟨_,o,ho,_⟩:=I.ok.funs.mem hb
  exact I.base.free b o ho (I.ok.frf b hb) fun z=>I.ok.exfs b z hb
theorem Inv.step {g':Array GenState} {t':Nat} {d':Drawn} {ch:List Addr} (I:Inv X pins σ H s)
  (hch:∀ b∈ch,(b∈X.ex\/X.s₀.heap.objs.size<=b)/\b≠X.env.locals/\(∀ x c,X.env.cells.lookup x=some c->c≠b)/\∀ p∈X.pn++pins,p.1≠b)
  (keep:∀ b o,b≠X.env.locals->b∉X.fs->b∉ch->s.heap.get? b=some o->H b=none->h'.get? b=some o)
  (slot:∀ b o,b≠X.env.locals->b∈X.fs->b∉ch->s.heap.get? b=some o->H b=none->∃ sl,h'.get? b=some { o with slots:=sl }) (free:∀ b o,b∉ch->s.heap.get? b=some o->H b=none->H' b=none)
  (there:∀ b o,b∉ch->s.heap.get? b=some o->∃ o',h'.get? b=some o')
  (tups:∀ b xs,H b=some (.tup xs)->H' b=some (.tup xs)) (frzs:∀ b o u,H b=some (.frz o u)->H' b=some (.frz o u)) (tbls:∀ b ps,H b=some (.tbl ps)->∃ more,H' b=some (.tbl (ps++more)))
  (ns:∀ m,s.heap.Ns X.env.locals m->h'.Ns X.env.locals m) (hok:HOk X.prog X.w H' h') (hg:AllBare g') :
  Inv X pins σ H' { s with heap:=h',gens:=g',drawn:=d',toks:=t' }:=by
 have neL:∀ b o,X.s₀.heap.get? b=some o->b≠X.env.locals:=fun b o e=>qz (qB (qr e) I.ok.above)
 have neC:∀ b o,X.s₀.heap.get? b=some o->b∉X.ex->b∉ch:=fun b o e hx hb=>by
  rcases (hch b hb).1 with z | z
  ·exact hx z
  ·exact absurd (qB (qr e) z) (Nat.lt_irrefl _)
 have cellK:∀ x c,X.env.cells.lookup x=some c->∀ v,s.heap.IsCell c v->h'.IsCell c v:=fun x c e v ⟨o,ho,hd⟩=>by
  have nch:c∉ch:=fun z=>(hch c z).2.2.1 x c e rfl
  by_cases hc:c∈X.fs
  ·obtain ⟨sl,q⟩:=slot c o (I.cne x c e) hc nch ho (I.freeC x c e)
   exact ⟨_,q,hd⟩
  ·exact ⟨o,keep c o (I.cne x c e) hc nch ho (I.freeC x c e),hd⟩
 refine ⟨I.ok,I.os,hg,⟨fun b o e n hb hx=>?_,fun b o e n hb hx=>?_,fun b o e n hx=>?_,fun b o e hx=>?_,fun b xs e=>tups b xs (I.base.tups b xs e),fun b o xs e=>frzs b o xs (I.base.frzs b o xs e),fun b ps e=>?_⟩,?_,fun x c e=>?_,?_,fun x c e=>?_,fun p hp=>?_,hok,I.len⟩
 ·exact keep b o (neL b o e) hb (neC b o e hx) (I.base.keep b o e n hb hx) (I.base.free b o e n hx)
 ·obtain ⟨sl,e1⟩:=I.base.slot b o e n hb hx
  obtain ⟨sl',e2⟩:=slot b _ (neL b o e) hb (neC b o e hx) e1 (I.base.free b o e n hx)
  exact ⟨sl',e2⟩
 ·obtain ⟨o',e1⟩:=I.base.there b o e hx
  exact free b o' (neC b o e hx) e1 (I.base.free b o e n hx)
 ·obtain ⟨o',e1⟩:=I.base.there b o e hx
  exact there b o' (neC b o e hx) e1
 ·obtain ⟨m1,e1⟩:=I.base.tbls b ps e
  obtain ⟨m2,e2⟩:=tbls b _ e1
  exact ⟨m1++m2,by rw [e2,Array.append_assoc]⟩
 ·obtain ⟨m,hn,hl⟩:=I.loc
  refine ⟨m,ns m hn,fun i x v e1 e2 e3=>?_⟩
  obtain ⟨u,r,l⟩:=hl i x v e1 e2 e3
  refine ⟨u,r,?_⟩
  rcases l with l | ⟨k,c,e,z⟩
  ·exact .inl l
  ·exact .inr ⟨k,c,e,cellK x c e _ z⟩
 ·obtain ⟨v,z⟩:=I.cell x c e
  exact ⟨v,cellK x c e v z⟩
 ·obtain ⟨m,⟨o,_,_,ho,_⟩,_⟩:=I.loc
  exact free _ o (fun z=>(hch _ z).2.1 rfl) ho I.free
 ·obtain ⟨v,o,ho,hd⟩:=I.cell x c e
  exact free c o (fun z=>(hch c z).2.2.1 x c e rfl) ho (I.freeC x c e)
 ·obtain ⟨e,n,ne,nf,d⟩:=I.pin p hp
  have nch:p.1∉ch:=fun z=>(hch p.1 z).2.2.2 p hp rfl
  exact ⟨keep p.1 p.2 ne nf nch e n,free p.1 p.2 nch e n,ne,nf,d⟩
theorem Inv.un {t':Nat} (I:Inv X pins σ H s) (u:Un X.fs [] H H' s.heap h') (hok:HOk X.prog X.w H' h'):Inv X pins σ H' { s with heap:=h',toks:=t' }:=by
 obtain ⟨m,⟨o,es,ep,ho,r⟩,_⟩:=id I.loc
 obtain ⟨sl,hL⟩:=u.any ho I.free (by simp)
 exact I.step (g':=s.gens) (d':=s.drawn) (ch:=[]) (fun _ z=>nomatch z) (fun b o _ hb _ e n=>u.keep b o e n hb (by simp)) (fun b o _ hb _ e n=>u.slot b o e n hb (by simp)) (fun b o _ e n=>u.free b o e n (by simp)) (fun b o _ e=>u.there b o e (by simp)) u.tups u.frzs u.tbls (fun m' hm=>by
  obtain ⟨o',es',ep',ho',r'⟩:=hm
  rw [ho] at ho';cases ho'
  exact ⟨_,es',ep',hL,r'⟩) hok I.bare
theorem Inv.call {g':Array GenState} {t':Nat} {d':Drawn} {ch:List Addr} (I:Inv X pins σ H s) (u:Un (frs X.stack) ch H H' s.heap h') (hok:HOk X.prog X.w H' h') (hg:AllBare g')
  (hch:∀ b∈ch,(b∈X.ex\/X.s₀.heap.objs.size<=b)/\b≠X.env.locals/\(∀ x c,X.env.cells.lookup x=some c->c≠b)/\∀ p∈X.pn++pins,p.1≠b) :
  Inv X pins σ H' { s with heap:=h',gens:=g',drawn:=d',toks:=t' }:=by
 obtain ⟨m,⟨o,es,ep,ho,r⟩,_⟩:=id I.loc
 obtain ⟨sl,hL⟩:=u.any ho I.free fun z=>(hch _ z).2.1 rfl
 exact I.step (ch:=ch) hch (fun b o hL hb hc e n=>u.keep b o e n (fun z=>(List.mem_cons.mp (I.stkSub b z)).elim hL hb) hc) (fun b o _ _ hc e n=>u.any e n hc) (fun b o hc e n=>u.free b o e n hc) (fun b o hc e=>u.there b o e hc) u.tups u.frzs u.tbls (fun m' hm=>by
  obtain ⟨o',es',ep',ho',r'⟩:=hm
  rw [ho] at ho';cases ho'
  exact ⟨_,es',ep',hL,r'⟩) hok hg
theorem Inv.turned {t':Nat} {it:Addr} (I:Inv X pins σ H s) (k:∀ b o,b≠it->s.heap.get? b=some o->h'.get? b=some o) (hn:H it=none) (hL:it≠X.env.locals)
  (h1:it∈X.ex\/X.s₀.heap.objs.size<=it) (h2:∀ x c,X.env.cells.lookup x=some c->c≠it) (h3:∀ p∈X.pn++pins,p.1≠it):Inv X pins σ H { s with heap:=h',toks:=t' }:=by
 have nit:∀ b u,H b=some u->b≠it:=fun b u e z=>by rw [z,hn] at e;cases e
 refine I.step (g':=s.gens) (d':=s.drawn) (ch:=[it]) (fun b hb=>?_) (fun b o _ _ hc e _=>k b o (fun z=>hc (by simp [z])) e) (fun b o _ _ hc e _=>⟨o.slots,k b o (fun z=>hc (by simp [z])) e⟩) (fun _ _ _ _ n=>n)
  (fun b o hc e=>⟨o,k b o (fun z=>hc (by simp [z])) e⟩) (fun _ _ e=>e) (fun _ _ _ e=>e) (fun b ps e=>⟨#[],by rw [e];simp⟩) (fun m hm=>?_) (fun b u e=>?_) I.bare
 ·have e:b=it:=by simpa using hb
  subst e
  exact ⟨h1,hL,h2,h3⟩
 ·obtain ⟨o,es,ep,ho,r⟩:=hm
  exact ⟨o,es,ep,k _ o (Ne.symm hL) ho,r⟩
 ·refine (I.hok b u e).stay (fun c v hc q=>k c v ?_ q) (fun _ q=>q) fun _ _ q=>q
  rcases hc with z | z
  ·rw [z];exact nit b u e
  ·exact nit c _ z
theorem Inv.tok (I:Inv X pins σ H s) (t:Nat):Inv X pins σ H { s with toks:=t }:=I.un (h':=s.heap) (t':=t) Un.refl I.hok
theorem Inv.kept {t':Nat} (I:Inv X pins σ H s) (k:∀ b u,s.heap.get? b=some u->h'.get? b=some u):Inv X pins σ H { s with heap:=h',toks:=t' }:=I.un (Un.kept k) (I.hok.kept k)
theorem Inv.laid {a:Addr} {o:HO} {t':Nat} (I:Inv X pins σ H s) (k:∀ b u,s.heap.get? b=some u->h'.get? b=some u) (hp:s.heap.objs.size<=a) (new:zdb X.prog X.w (upd H a o) h' a o) :
  Inv X pins σ (upd H a o) { s with heap:=h',toks:=t' }:=I.un (Un.laid k hp (I.hok.fresh hp)) (I.hok.laid k hp new)
theorem Inv.write {x e:Addr} {o:HO} {t':Nat} (I:Inv X pins σ H s) (mu:Mut (H x)) (he:e=x\/H e=some (.own x)) (k:∀ b u,b≠e->s.heap.get? b=some u->h'.get? b=some u) (heo:∃ u,h'.get? e=some u)
  (new:zdb X.prog X.w (upd H x o) h' x o):Inv X pins σ (upd H x o) { s with heap:=h',toks:=t' }:=I.un (Un.write mu he k heo) (I.hok.write mu he k heo new)
theorem Inv.pins_of {pins':List (Addr×Obj)} (I:Inv X pins σ H s) (h:∀ p∈pins',s.heap.get? p.1=some p.2/\H p.1=none/\p.1≠X.env.locals/\p.1∉X.fs/\∀ v,p.2.data≠.cell v):Inv X pins' σ H s :=
 ⟨I.ok,I.os,I.bare,I.base,I.loc,I.cell,I.free,I.freeC,fun p hp=>(List.mem_append.mp hp).elim (fun z=>I.pin p (List.mem_append_left _ z)) (h p),I.hok,I.len⟩
theorem zlN {N:List Str} (hN:N.Nodup) {i j:Nat} {x:Str} (a:N[i]?=some x) (b:N[j]?=some x):i=j:=by
 obtain ⟨h1,e1⟩:=List.getElem?_eq_some_iff.mp a
 obtain ⟨h2,e2⟩:=List.getElem?_eq_some_iff.mp b
 exact (List.getElem_inj hN).mp (e1.trans e2.symm)
theorem zjO {M:Model} {A:Around} {E:Value->Shared->Prop} {i:Nat} {x:Str} {v:V} {u:Value} {Q:Unit->Shared->Prop} (I:Inv X pins σ H s) (hN:X.N.Nodup) (hi:X.N[i]?=some x) (hx:Loc X.env.scope x) (r:zcN v u)
  (h:∀ s',Inv X pins (σ.set i (some v)) H s'->(∃ a,Heap.SameBut a s.heap s'.heap/\(a=X.env.locals\/X.env.cells.lookup x=some a))->Q () s') (hf:X.fn x=true\/X.env.scope.names.lookup x=some .local:=by first | exact .inl rfl | exact .inr rfl | assumption):wpAny M A (storeName X.env x u) Q E s:=by
 obtain ⟨m,hn,hl⟩:=id I.loc
 have hcls:(X.env.scope.kind==.class || (X.env.scope.kind==.module && X.env.locals != X.env.globals))=false:=by rw [I.ok.kind];rfl
 have hiσ:i < σ.length:=by rw [I.len];exact (List.getElem?_eq_some_iff.mp hi).1
 have cne:=I.cne
 have tracked:∀ {a:Addr} {h':Heap},(∃ o,s.heap.get? a=some o/\H a=none)->Heap.SameBut a s.heap h'->HOk X.prog X.w H h':=fun {a h'} ha hs b ob e=>by
  obtain ⟨_,_,hfree⟩:=ha
  refine (I.hok b ob e).stay (fun c w' hc q=>(hs.2 c ?_).trans q) (fun _ q=>q) fun _ _ q=>q
  rintro rfl
  rcases hc with rfl | hc
  ·rw [hfree] at e;cases e
  ·rw [hfree] at hc;cases hc
 rcases hx with hk | hk
 ·refine wpAny_storeName_local hk hn (fun h' hn' hs=>?_) hcls
  obtain ⟨oL,_,_,hoL,_⟩:=id hn
  refine h _ ⟨I.ok,I.os,I.bare,⟨fun b o e n hb hx=>?_,fun b o e n hb hx=>?_,I.base.free,fun b o e hx=>?_,I.base.tups,I.base.frzs,I.base.tbls⟩,⟨_,hn',fun j y v' e1 e2 e3=>?_⟩,fun y c e=>?_,I.free,I.freeC,fun p hp=>?_,tracked ⟨oL,hoL,I.free⟩ hs,by simpa using I.len⟩ ⟨_,hs,.inl rfl⟩
  ·exact (hs.2 b (qz (qB (qr e) I.ok.above))).trans (I.base.keep b o e n hb hx)
  ·obtain ⟨sl,e1⟩:=I.base.slot b o e n hb hx
   exact ⟨sl,(hs.2 b (qz (qB (qr e) I.ok.above))).trans e1⟩
  ·obtain ⟨o',e1⟩:=I.base.there b o e hx
   exact ⟨o',(hs.2 b (qz (qB (qr e) I.ok.above))).trans e1⟩
  ·by_cases hj:j=i
   ·subst hj
    rw [hi] at e1;cases e1
    rw [List.getElem?_set_self hiσ] at e2
    cases e2
    exact ⟨u,r,.inl ⟨hk,by simp⟩⟩
   ·rw [qv (Ne.symm hj)] at e2
    obtain ⟨u',r',q⟩:=hl j y v' e1 e2 e3
    refine ⟨u',r',?_⟩
    rcases q with ⟨k,e⟩ | ⟨k,c,e,z⟩
    ·refine .inl ⟨k,?_⟩
     have:y≠x:=fun e=>hj (zlN hN e1 (e▸hi))
     simp [this,e]
    ·exact .inr ⟨k,c,e,z.sameBut hs (cne y c e)⟩
  ·obtain ⟨w',z⟩:=I.cell y c e
   exact ⟨w',z.sameBut hs (cne y c e)⟩
  ·obtain ⟨e,n,ne,nf,d⟩:=I.pin p hp
   exact ⟨(hs.2 p.1 ne).trans e,n,ne,nf,d⟩
 ·have hfn:X.fn x=true:=by
   rcases hf with z | z
   ·exact z
   ·rw [z] at hk;cases hk
  obtain ⟨c,hc⟩:=I.ok.has x (.inl hk)
  obtain ⟨w',z⟩:=I.cell x c hc
  refine wpAny_storeName_cell I.ok.kind hk hc z (fun h' hc' hs=>?_)
  obtain ⟨oc,hoc,hocd⟩:=id z
  refine h { s with heap:=h' } ⟨I.ok,I.os,I.bare,⟨fun b o e n hb hx=>?_,fun b o e n hb hx=>?_,I.base.free,fun b o e hx=>?_,I.base.tups,I.base.frzs,I.base.tbls⟩,⟨m,hn.sameBut hs (Ne.symm (cne x c hc)),fun j y v' e1 e2 e3=>?_⟩,fun y c' e=>?_,I.free,I.freeC,fun p hp=>?_,tracked ⟨oc,hoc,I.freeC x c hc⟩ hs,by simpa using I.len⟩ ⟨c,hs,.inr hc⟩
  ·exact (hs.2 b (qz (qB (qr e) (I.ok.cab x c hfn hc)))).trans (I.base.keep b o e n hb hx)
  ·obtain ⟨sl,e1⟩:=I.base.slot b o e n hb hx
   exact ⟨sl,(hs.2 b (qz (qB (qr e) (I.ok.cab x c hfn hc)))).trans e1⟩
  ·obtain ⟨o',e1⟩:=I.base.there b o e hx
   exact ⟨o',(hs.2 b (qz (qB (qr e) (I.ok.cab x c hfn hc)))).trans e1⟩
  ·by_cases hj:j=i
   ·subst hj
    rw [hi] at e1;cases e1
    rw [List.getElem?_set_self hiσ] at e2
    cases e2
    exact ⟨u,r,.inr ⟨.inl hk,c,hc,hc'⟩⟩
   ·rw [qv (Ne.symm hj)] at e2
    obtain ⟨u',r',q⟩:=hl j y v' e1 e2 e3
    refine ⟨u',r',?_⟩
    rcases q with q | ⟨k,c',e,z'⟩
    ·exact .inl q
    ·refine .inr ⟨k,c',e,z'.sameBut hs ?_⟩
     rintro rfl
     exact hj (zlN hN e1 (I.ok.inj _ _ _ e hc▸hi))
  ·by_cases hcc:c'=c
   ·subst hcc;exact ⟨_,hc'⟩
   ·obtain ⟨w2,z2⟩:=I.cell y c' e
    exact ⟨w2,z2.sameBut hs hcc⟩
  ·obtain ⟨e,n,ne,nf,d⟩:=I.pin p hp
   refine ⟨(hs.2 p.1 ?_).trans e,n,ne,nf,d⟩
   intro q
   rw [q,hoc] at e
   have q':oc=p.2:=qD e
   exact d w' (by rw [← q'];exact hocd)
theorem zlw {M:Model} {A:Around} {E:Value->Shared->Prop} {i:Nat} {x:Str} {v:V} {u:Value} {Q:Unit->Shared->Prop} (I:Inv X pins σ H s) (hN:X.N.Nodup) (hi:X.N[i]?=some x) (hx:Loc X.env.scope x) (r:zcN v u)
  (h:∀ s',Inv X pins (σ.set i (some v)) H s'->Q () s') (hf:X.fn x=true\/X.env.scope.names.lookup x=some .local:=by first | exact .inl rfl | exact .inr rfl | assumption):wpAny M A (storeName X.env x u) Q E s :=
 zjO I hN hi hx r (fun s' I' _=>h s' I') hf
theorem Inv.call' {s':Shared} {ch:List Addr} (I:Inv X pins σ H s) (ho:s'.os=s.os) (u:Un (frs X.stack) ch H H' s.heap s'.heap) (hok:HOk X.prog X.w H' s'.heap) (hg:AllBare s'.gens)
  (hch:∀ b∈ch,(b∈X.ex\/X.s₀.heap.objs.size<=b)/\b≠X.env.locals/\(∀ x c,X.env.cells.lookup x=some c->c≠b)/\∀ p∈X.pn++pins,p.1≠b):Inv X pins σ H' s':=by
 obtain ⟨h',g',d',t',o'⟩:=s'
 have e:o'=s.os:=ho
 subst e
 exact I.call (g':=g') (t':=t') (d':=d') u hok hg hch
end
abbrev XK:=Value->Option Addr->Hp->Prop
abbrev St:=List (Option V)
abbrev VK:=V->Hp->Prop
abbrev TE:=St->Hp->VK->Prop
abbrev TT:=St->Hp->(Bool->Hp->Prop)->Prop
abbrev TA:=St->Hp->(List V->Hp->Prop)->Prop
structure Ends where
 nx:St->Hp->Prop
 rt:VK
 bk:St->Hp->Prop:=fun _ _=>False
 ct:St->Hp->Prop:=fun _ _=>False
abbrev TS:=Ends->St->Hp->Prop
def EP (X:Cx) (pins:List (Addr×Obj)) (σ:St) (Q:VK) (u:Value) (s':Shared):Prop:=∃ v H',Inv X pins σ H' s'/\zcN v u/\Q v H'
def TP (X:Cx) (pins:List (Addr×Obj)) (σ:St) (Q:Bool->Hp->Prop) (b:Bool) (s':Shared):Prop:=∃ H',Inv X pins σ H' s'/\Q b H'
def AP (X:Cx) (pins:List (Addr×Obj)) (σ:St) (Q:List V->Hp->Prop) (us:List Value) (s':Shared):Prop:=∃ vs H',Inv X pins σ H' s'/\zcb vs us/\Q vs H'
def SP (X:Cx) (pins:List (Addr×Obj)) (D:Ends) (f:Flow) (s':Shared):Prop :=
 match f with
 | .next=>∃ σ' H',Inv X pins σ' H' s'/\D.nx σ' H'
 | .brk=>∃ σ' H',Inv X pins σ' H' s'/\D.bk σ' H'
 | .cont=>∃ σ' H',Inv X pins σ' H' s'/\D.ct σ' H'
 | .ret u=>∃ v σ' H',Inv X pins σ' H' s'/\zcN v u/\D.rt v H'
def PE (X:Cx) (e:Expr) (t:TE):Prop :=
 ∀ (pins:List (Addr×Obj)) (s:Shared) (σ:St) (H:Hp) (Q:VK),Inv X pins σ H s->t σ H Q->wpAny (model X.prog X.w) X.A (eval e X.env) (EP X pins σ Q) X.xe s
def PT (X:Cx) (e:Expr) (t:TT):Prop :=
 ∀ (pins:List (Addr×Obj)) (s:Shared) (σ:St) (H:Hp) (Q:Bool->Hp->Prop),Inv X pins σ H s->t σ H Q->wpAny (model X.prog X.w) X.A (isTrue e X.env (eval e X.env)) (TP X pins σ Q) X.xe s
def PW (X:Cx) (e:Expr) (t:TT):Prop :=
 ∀ (whole:Sem Value) (pins:List (Addr×Obj)) (s:Shared) (σ:St) (H:Hp) (Q:Bool->Hp->Prop),Inv X pins σ H s->t σ H Q->wpAny (model X.prog X.w) X.A (isTrue e X.env whole) (TP X pins σ Q) X.xe s
theorem PW.pt {X:Cx} {e:Expr} {t:TT} (h:PW X e t):PT X e t:=h _
def PA (X:Cx) (es:List Expr) (t:TA):Prop :=
 ∀ (pos:Pos) (pins:List (Addr×Obj)) (s:Shared) (σ:St) (H:Hp) (Q:List V->Hp->Prop),Inv X pins σ H s->t σ H Q->wpAny (model X.prog X.w) X.A (spliced (backTo pos (starEach es X.env))) (AP X pins σ Q) X.xe s
def PS (X:Cx) (st:Stmt) (t:TS):Prop :=
 ∀ (pins:List (Addr×Obj)) (s:Shared) (σ:St) (H:Hp) (D:Ends),Inv X pins σ H s->t D σ H->wpAny (model X.prog X.w) X.A (exec st X.env) (SP X pins D) X.xe s
def PSs (X:Cx) (st:List Stmt) (t:TS):Prop :=
 ∀ (pins:List (Addr×Obj)) (s:Shared) (σ:St) (H:Hp) (D:Ends),Inv X pins σ H s->t D σ H->wpAny (model X.prog X.w) X.A (execs st X.env) (SP X pins D) X.xe s
theorem thn {α:Type} {t:Sem α} {Q Q':α->Shared->Prop} {M:Model} {A:Around} {E:Value->Shared->Prop} {s:Shared} (h:wpAny M A t Q E s) (hQ:∀ a s,Q a s->Q' a s):wpAny M A t Q' E s:=wpAny_mono h hQ fun _ _ x=>x
end L2
namespace L2
open PySem PySem.Spec PyProof.Rows
section
variable {X:Cx}
theorem bin {a b:Expr} {ta tb:TE} (ha:PE X a ta) (hb:PE X b tb) {pins:List (Addr×Obj)} {s:Shared} {σ:St} {H:Hp} {R:V->V->Hp->Prop} (I:Inv X pins σ H s) (h:ta σ H fun x H1=>tb σ H1 fun y H2=>R x y H2)
  {α:Type} {Q:α->Shared->Prop} {f:Value->Value->Sem α}
  (hf:∀ v u s2 x y H2,Inv X pins σ H2 s2->zcN x v->zcN y u->R x y H2->wpAny (model X.prog X.w) X.A (f v u) Q X.xe s2) :
  wpAny (model X.prog X.w) X.A (eval a X.env) (fun v s₁=>wpAny (model X.prog X.w) X.A (eval b X.env) (fun u s₂=>wpAny (model X.prog X.w) X.A (f v u) Q X.xe s₂) X.xe s₁) X.xe s:=by
 refine thn (ha pins s σ H _ I h) fun v s1 ⟨x,H1,I1,r1,q1⟩=>?_
 refine thn (hb pins s1 σ H1 _ I1 q1) fun u s2 ⟨y,H2,I2,r2,q2⟩=>?_
 exact hf v u s2 x y H2 I2 r1 r2 q2
def zvW (i:Nat):TE:=fun σ H Q=>∃ v,σ[i]?=some (some v)/\Q v H
def tC (v:V):TE:=fun _ H Q=>Q v H
theorem zen {i:Nat} {x:Str} {pos:Pos} (hN:X.N[i]?=some x) (hv:Vis X.env.scope x) (hd:(x==("__debug__":Str))=false:=by decide) (hcd:(x==("__classdict__":Str))=false:=by decide):PE X (.Name x pos) (zvW i):=by
 intro pins s σ H Q I h
 obtain ⟨v,e,h⟩:=h
 obtain ⟨m,hn,hl⟩:=I.loc
 obtain ⟨u,r,l⟩:=hl i x v hN e hv
 have fin:EP X pins σ Q u s:=⟨v,H,I,r,h⟩
 rcases l with ⟨hk,hm⟩ | ⟨hk,c,hc,hcell⟩
 ·exact wpAny_Name (wpAny_loadName_local I.ok.kind hk hn hm fin) hd
 ·rcases hk with hk | hk
  ·exact wpAny_Name (wpAny_loadName_cell I.ok.kind hk hc hcell fin) hd
  ·exact wpAny_Name (wpAny_loadName_free I.ok.kind hk hc hcell fin hcd) hd
theorem zj2 {i j pos}:PE X (.Constant (.int i) j pos) (tC (.int i)):=fun _ _ _ H _ I h=>wpAny_Constant_int ⟨.int i,H,I.tok _,⟨_,rfl⟩,h⟩
theorem zuZ {b j pos}:PE X (.Constant (.bool b) j pos) (tC (.bl b)):=fun _ _ _ H _ I h=>Constant_bool ⟨.bl b,H,I,rfl,h⟩
theorem ztp {j pos}:PE X (.Constant .none j pos) (tC .non):=fun _ _ _ H _ I h=>Constant_none ⟨.non,H,I,rfl,h⟩
theorem ztl {x j pos}:PE X (.Constant (.str x) j pos) (tC (.str x)):=fun _ _ _ H _ I h=>Calls.Constant_str ⟨.str x,H,I.tok _,⟨_,rfl⟩,h⟩
def Gl (X:Cx) (x:Str):Prop:=X.env.kindOf x=some .globalImplicit
theorem zk2 {E:Value->Shared->Prop} {pins:List (Addr×Obj)} {s:Shared} {σ:St} {H:Hp} {x:Str} {u:Value} {pos:Pos} {Q:Value->Shared->Prop} (I:Inv X pins σ H s) (hg:Gl X x) (hm:X.mg x=some u) (h:Q u s)
  (hd:(x==("__debug__":Str))=false:=by decide):wpAny (model X.prog X.w) X.A (eval (.Name x pos) X.env) Q E s :=
 Calls.Name_function_global I.ok.kind hg (Calls.loadGlobal_global (by rw [I.ok.glob];exact I.mod.glob.keeps I.bk) hm h) hd
theorem zj9 {E:Value->Shared->Prop} {pins:List (Addr×Obj)} {s:Shared} {σ:St} {H:Hp} {x:Str} {u:Value} {pos:Pos} {Q:Value->Shared->Prop} (I:Inv X pins σ H s) (hg:Gl X x) (hm:X.mg x=none) (hv:bootBuiltins x=some u) (h:Q u s)
  (hn:x≠"__name__":=by decide) (hd:(x==("__debug__":Str))=false:=by decide):wpAny (model X.prog X.w) X.A (eval (.Name x pos) X.env) Q E s:=by
 obtain ⟨mb,h1,h2⟩:=I.mod.blt
 exact Calls.Name_function_global I.ok.kind hg (Calls.loadGlobal_builtin (by rw [I.ok.glob];exact I.mod.glob.keeps I.bk) hm (by rw [I.ok.blt];exact h1.keeps I.bk) ((h2 x hn).trans hv) h) hd
theorem zrr {x:Str} {v:V} {u:Value} {pos:Pos} (hg:Gl X x) (hm:X.mg x=some u) (r:zcN v u) (hd:(x==("__debug__":Str))=false:=by decide):PE X (.Name x pos) (tC v) :=
 fun _ _ _ H _ I h=>zk2 I hg hm ⟨v,H,I,r,h⟩ hd
theorem zrt {x:Str} {v:V} {u:Value} {pos:Pos} (hg:Gl X x) (hm:X.mg x=none) (hv:bootBuiltins x=some u) (r:zcN v u) (hn:x≠"__name__":=by decide) (hd:(x==("__debug__":Str))=false:=by decide):PE X (.Name x pos) (tC v) :=
 fun _ _ _ H _ I h=>zj9 I hg hm hv ⟨v,H,I,r,h⟩ hn hd
variable {a b:Expr} {ta tb:TE} {pos:Pos}
def PC (X:Cx) (op:CmpOp) (a b:Expr) (t:TE):Prop :=
 ∀ (pins:List (Addr×Obj)) (s:Shared) (σ:St) (H:Hp) (Q:VK),Inv X pins σ H s->t σ H Q ->
  wpAny (model X.prog X.w) X.A (eval a X.env) (fun v s₁=>wpAny (model X.prog X.w) X.A (eval b X.env) (fun u s₂=>wpAny (model X.prog X.w) X.A (compareOp op v u) (EP X pins σ Q) X.xe s₂) X.xe s₁) X.xe s
theorem zpu (b:Expr) {op:CmpOp} (h:op≠.In) (h2:op≠.NotIn):behindInMarks op b=false:=by
 have e1:(op==CmpOp.In)=false:=by cases op <;> first | rfl | exact absurd rfl h
 have e2:(op==CmpOp.NotIn)=false:=by cases op <;> first | rfl | exact absurd rfl h2
 cases b <;> simp [behindInMarks,e1,e2]
def tB (t:TE):TT:=fun σ H Q=>t σ H fun x H1=>∃ c,x=.bl c/\Q c H1
theorem zvG {op:CmpOp} {t:TE} (h:PC X op a b t) (h1:behindInMarks op b=false:=by first | exact zpu _ (by decide) (by decide) | rfl):PT X (.Compare a [op] [b] pos) (tB t):=by
 intro pins s σ H Q I hw
 refine wpAny_isTrue_Compare1 (thn (h pins s σ H _ I hw) fun v s1 h1=>thn h1 fun u s2 h2=>thn h2 fun c s3 ⟨x,H1,I1,r1,q1⟩=>?_) h1
 obtain ⟨d,rfl,q⟩:=q1
 cases r1
 exact wpAny_truthy_bool ⟨H1,I1,q⟩
theorem ztc {e:Expr} {t:TE} (h:PE X e t) (he:∀ whole,isTrue e X.env whole=(do let v ← whole;standAt e.pos;holding [v] (truthy v)):=by intro _;rfl):PT X e (tB t):=by
 intro pins s σ H Q I hw
 refine isTrue_plain (thn (h pins s σ H _ I hw) fun v s1 ⟨x,H1,I1,r1,q1⟩=>?_) (he _)
 obtain ⟨d,rfl,q⟩:=q1
 cases r1
 exact wpAny_truthy_bool ⟨H1,I1,q⟩
variable {tA tB':TT} {zc2:List Expr}
def zv5 (t u:TT):TT:=fun σ H Q=>t σ H fun c H1=>if c=true then u σ H1 Q else Q false H1
def tOr (t u:TT):TT:=fun σ H Q=>t σ H fun c H1=>if c=true then Q true H1 else u σ H1 Q
def zv0 (t:TT):TT:=fun σ H Q=>t σ H fun c H1=>Q (!c) H1
theorem znt (ha:PT X a tA):PW X (.BoolOp .And [a] pos) tA:=by
 intro wh pins s σ H Q I h
 refine isTrue_and (thn (ha pins s σ H Q I h) fun c s1 e=>?_)
 cases c with
 | true=>exact isTrue_and_nil e
 | false=>exact e
theorem zql (ha:PT X a tA):PW X (.BoolOp .Or [a] pos) tA:=by
 intro wh pins s σ H Q I h
 refine isTrue_or (thn (ha pins s σ H Q I h) fun c s1 e=>?_)
 cases c with
 | false=>exact isTrue_or_nil e
 | true=>exact e
theorem zqm (ha:PT X a tA) (hb:PW X (.BoolOp .And (b::zc2) pos) tB'):PW X (.BoolOp .And (a::b::zc2) pos) (zv5 tA tB'):=by
 intro wh pins s σ H Q I h
 refine isTrue_and (thn (ha pins s σ H _ I h) fun c s1 ⟨H1,I1,q1⟩=>?_)
 cases c with
 | true=>exact hb wh pins s1 σ H1 Q I1 q1
 | false=>exact ⟨H1,I1,q1⟩
theorem zta (ha:PT X a tA) (hb:PW X (.BoolOp .Or (b::zc2) pos) tB'):PW X (.BoolOp .Or (a::b::zc2) pos) (tOr tA tB'):=by
 intro wh pins s σ H Q I h
 refine isTrue_or (thn (ha pins s σ H _ I h) fun c s1 ⟨H1,I1,q1⟩=>?_)
 cases c with
 | true=>exact ⟨H1,I1,q1⟩
 | false=>exact hb wh pins s1 σ H1 Q I1 q1
theorem ztd (ha:PT X a tA):PT X (.UnaryOp .Not a pos) (zv0 tA):=by
 intro pins s σ H Q I h
 exact isTrue_not (ha pins s σ H (fun c H1=>Q (!c) H1) I h)
def zuM (ta tb:TE):TE:=fun σ H Q=>ta σ H fun x H1=>∃ c,x=.bl c/\if c=true then tb σ H1 Q else Q (.bl false) H1
def zuG (ta:TE):TE:=fun σ H Q=>ta σ H fun x H1=>∃ c,x=.bl c/\Q (.bl (!c)) H1
theorem ztn {op} {t:TE} (h:PE X a t):PE X (.BoolOp op [a] pos) t:=fun pins s σ H Q I hw=>BoolOp_one (h pins s σ H Q I hw)
theorem ztr (ha:PE X a ta) (hb:PE X (.BoolOp .And (b::zc2) pos) tb):PE X (.BoolOp .And (a::b::zc2) pos) (zuM ta tb):=by
 intro pins s σ H Q I h
 refine BoolOp_and (thn (ha pins s σ H _ I h) fun v s1 ⟨x,H1,I1,r1,q1⟩=>?_)
 obtain ⟨c,rfl,q1⟩:=q1
 cases r1
 refine wpAny_truthy_bool ?_
 cases c with
 | true=>exact hb pins s1 σ H1 Q I1 q1
 | false=>exact ⟨.bl false,H1,I1,rfl,q1⟩
theorem zto (ha:PE X a ta):PE X (.UnaryOp .Not a pos) (zuG ta):=by
 intro pins s σ H Q I h
 refine UnaryOp_ (thn (ha pins s σ H _ I h) fun v s1 ⟨x,H1,I1,r1,q1⟩=>?_)
 obtain ⟨c,rfl,q1⟩:=q1
 cases r1
 exact not_of (wpAny_truthy_bool ⟨.bl (!c),H1,I1,rfl,q1⟩)
end
end L2
namespace L2
open PySem PySem.Spec PyProof.Rows
def SqL (K:PySem.W.Frag) (H:Hp) (a:Addr) (xs:List V):Prop :=
 Rd H a (.lst xs) \/
  ∃ (o:Obj) (its:Array Value) (n:Nat),K.lookup a=some o/\o.cls=.type "list"/\o.dict=none/\o.data=.seq its n/\its.size<=sizeLine/\zcb xs its.toList
def SqT (K:PySem.W.Frag) (H:Hp) (a:Addr) (xs:List V):Prop :=
 Rd H a (.tup xs) \/
  ∃ (o:Obj) (its:Array Value) (n:Nat),K.lookup a=some o/\o.cls=.type "tuple"/\o.data=.seq its n/\its.size<=sizeLine/\zcb xs its.toList
def zwn:Value->Option V
 | .none=>some .non
 | .bool b=>some (.bl b)
 | .int i _=>some (.int i)
 | .str x _=>some (.str x)
 | .bytes b _=>some (.byt b)
 | .float b _=>some (.flt b)
 | .ref a=>some (.ref a)
 | .type n=>some (.ty n)
 | _=>none
theorem zcN.abs {x:V} {u:Value} (r:zcN x u):zwn u=some x:=by
 cases x with
 | non=>cases r;rfl
 | bl _=>cases r;rfl
 | int _=>obtain ⟨t,rfl⟩:=r;rfl
 | str _=>obtain ⟨t,rfl⟩:=r;rfl
 | byt _=>obtain ⟨t,rfl⟩:=r;rfl
 | flt _=>obtain ⟨t,rfl⟩:=r;rfl
 | ref _=>cases r;rfl
 | ty _=>cases r;rfl
theorem zcN.inj {x y:V} {u:Value} (r:zcN x u) (q:zcN y u):x=y:=qD (r.abs.symm.trans q.abs)
theorem zcb.inj:∀ {xs ys:List V} {us:List Value},zcb xs us->zcb ys us->xs=ys
 | _,_,_,.nil,.nil=>rfl
 | _,_,_,.cons r t,.cons r' t'=>by rw [r.inj r',zcb.inj t t']
section
variable {X:Cx} {pins:List (Addr×Obj)} {σ:St} {H:Hp} {s:Shared} {a:Addr} {xs ys:List V}
theorem Inv.list (I:Inv X pins σ H s) (h:SqL X.K H a xs):∃ its:List Value,zcb xs its/\PlainL s.heap a its.toArray/\xs.length<=sizeLine:=by
 rcases h with h | ⟨o,its,n,hk,hc,hd,hs,hz,r⟩
 ·obtain ⟨z,its,n,r,e⟩:=h.ok I.hok
  exact ⟨its,r,⟨_,n,e,rfl,rfl,rfl⟩,z⟩
 ·refine ⟨its.toList,r,⟨o,n,I.kIn a o hk,hc,hd,by simpa using hs⟩,?_⟩
  have e:=r.length
  simp only [Array.length_toList] at e
  omega
theorem Inv.tuple (I:Inv X pins σ H s) (h:SqT X.K H a xs):∃ its:List Value,zcb xs its/\IsTup s.heap a its.toArray/\xs.length<=sizeLine:=by
 rcases h with h | ⟨o,its,n,hk,hc,hs,hz,r⟩
 ·obtain ⟨z,its,r,p⟩:=h.ok I.hok
  exact ⟨its,r,p,z⟩
 ·refine ⟨its.toList,r,⟨o,I.kIn a o hk,hc,n,by simpa using hs⟩,?_⟩
  have e:=r.length
  simp only [Array.length_toList] at e
  omega
theorem Inv.list_inj (I:Inv X pins σ H s) (h:SqL X.K H a xs) (h':SqL X.K H a ys):xs=ys:=by
 obtain ⟨its,r,⟨o,n,e,_,_,d⟩,_⟩:=I.list h
 obtain ⟨its',r',⟨o',n',e',_,_,d'⟩,_⟩:=I.list h'
 rw [e] at e';cases e'
 rw [d] at d'
 injection d' with d1 _
 have:its=its':=by simpa using congrArg Array.toList d1
 subst this
 exact r.inj r'
theorem Inv.tuple_inj (I:Inv X pins σ H s) (h:SqT X.K H a xs) (h':SqT X.K H a ys):xs=ys:=by
 obtain ⟨its,r,⟨o,e,_,n,d⟩,_⟩:=I.tuple h
 obtain ⟨its',r',⟨o',e',_,n',d'⟩,_⟩:=I.tuple h'
 rw [e] at e';cases e'
 rw [d] at d'
 injection d' with d1 _
 have:its=its':=by simpa using congrArg Array.toList d1
 subst this
 exact r.inj r'
end
abbrev Cx.wish (X:Cx) (E:Value->Shared->Prop):Cx:={ X with xe:=E }
abbrev Cx.nox (X:Cx):Cx:=X.wish fun _ _=>False
theorem Cx.Ok.wish {X:Cx} (ok:X.Ok) (E:Value->Shared->Prop):(X.wish E).Ok :=
 ⟨ok.mod,ok.kind,ok.glob,ok.blt,ok.above,ok.inj,ok.has,ok.cab,ok.hd,ok.frames,ok.stk,ok.exf,ok.bs,ok.bsz,ok.noex,ok.exfs,ok.funs,ok.frf⟩
theorem Cx.Ok.unwish {X:Cx} {E:Value->Shared->Prop} (ok:(X.wish E).Ok):X.Ok :=
 ⟨ok.mod,ok.kind,ok.glob,ok.blt,ok.above,ok.inj,ok.has,ok.cab,ok.hd,ok.frames,ok.stk,ok.exf,ok.bs,ok.bsz,ok.noex,ok.exfs,ok.funs,ok.frf⟩
section
variable {X:Cx} {pins:List (Addr×Obj)} {σ:St} {H:Hp} {s:Shared} {E:Value->Shared->Prop}
theorem Inv.wish (I:Inv X pins σ H s) (E:Value->Shared->Prop):Inv (X.wish E) pins σ H s:=⟨I.ok.wish E,I.os,I.bare,I.base,I.loc,I.cell,I.free,I.freeC,I.pin,I.hok,I.len⟩
theorem Inv.unwish (I:Inv (X.wish E) pins σ H s):Inv X pins σ H s:=⟨I.ok.unwish,I.os,I.bare,I.base,I.loc,I.cell,I.free,I.freeC,I.pin,I.hok,I.len⟩
theorem SP.unwish {D:Ends} {f:Flow} {s':Shared} (h:SP (X.wish E) pins D f s'):SP X pins D f s':=by
 cases f with
 | next=>obtain ⟨σ',H',I,q⟩:=h;exact ⟨σ',H',I.unwish,q⟩
 | brk=>obtain ⟨σ',H',I,q⟩:=h;exact ⟨σ',H',I.unwish,q⟩
 | cont=>obtain ⟨σ',H',I,q⟩:=h;exact ⟨σ',H',I.unwish,q⟩
 | ret u=>obtain ⟨v,σ',H',I,r,q⟩:=h;exact ⟨v,σ',H',I.unwish,r,q⟩
theorem PSs.nox {st:List Stmt} {t:TS} (h:PSs X.nox st t):PSs X st t:=fun pins s σ H D I hw =>
 wpAny_mono (h pins s σ H D (I.wish _) hw) (fun _ _ q=>q.unwish) fun _ _ z=>False.elim z
end
section
variable {X:Cx} {st:Stmt} {zc2:List Stmt} {t u:TS} {e:Expr} {te:TE} {pos:Pos}
def zuH:TS:=fun D σ H=>D.nx σ H
def zvY (t u:TS):TS:=fun D σ H=>t { D with nx:=u D } σ H
theorem znx:PSs X [] zuH:=fun _ _ σ H _ I h=>wpAny_execs_nil ⟨σ,H,I,h⟩
theorem zlF (h1:PS X st t) (h2:PSs X zc2 u):PSs X (st::zc2) (zvY t u):=by
 intro pins s σ H D I h
 refine wpAny_execs_cons (thn (h1 pins s σ H { D with nx:=u D } I h) fun f s1 q=>?_)
 cases f with
 | next =>
  obtain ⟨σ',H',I',q⟩:=q
  exact h2 pins s1 σ' H' D I' q
 | ret v=>exact q
 | brk=>exact q
 | cont=>exact q
theorem znw (h1:PS X st t):PSs X [st] t:=by
 intro pins s σ H D I h
 refine wpAny_execs_cons (thn (h1 pins s σ H D I h) fun f s1 q=>?_)
 cases f with
 | next=>exact wpAny_execs_nil q
 | ret v=>exact q
 | brk=>exact q
 | cont=>exact q
theorem Inv.quiet {pins:List (Addr×Obj)} {σ:St} {H:Hp} {s:Shared} (I:Inv X pins σ H s):interactive X.env=false:=by simp [interactive,I.ok.kind]
def zuJ (te:TE):TS:=fun D σ H=>te σ H fun _ H1=>D.nx σ H1
theorem zkV (he:PE X e te) (hs:swapsWith e none pos.line X.env=pure false:=by rfl):PS X (.Expr e pos) (zuJ te):=by
 intro pins s σ H D I h
 exact wpAny_Expr_any (thn (he pins s σ H _ I h) fun v s1 ⟨x,H1,I1,r1,q1⟩=>⟨σ,H1,I1,q1⟩) I.quiet hs
def zvZ (te:TE):TS:=fun D σ H=>te σ H D.rt
theorem zny (he:PE X e te):PS X (.Return (some e) pos) (zvZ te):=by
 intro pins s σ H D I h
 exact wpAny_Return_some (thn (he pins s σ H _ I h) fun v s1 ⟨x,H1,I1,r1,q1⟩=>⟨x,σ,H1,I1,r1,q1⟩)
def zv2 (c:TT) (t u:TS):TS:=fun D σ H=>c σ H fun b H1=>if b=true then t D σ H1 else u D σ H1
theorem ztf {c:Expr} {a b:List Stmt} {tc:TT} (hc:PT X c tc) (ha:PSs X a t) (hb:PSs X b u):PS X (.If c a b pos) (zv2 tc t u):=by
 intro pins s σ H D I h
 refine wpAny_If (thn (hc pins s σ H _ I h) fun d s1 ⟨H1,I1,q1⟩=>?_)
 cases d with
 | true=>exact ha pins s1 σ H1 D I1 q1
 | false=>exact hb pins s1 σ H1 D I1 q1
end
abbrev TG:=V->St->Hp->(St->Hp->Prop)->Prop
abbrev TGs:=List V->St->Hp->(St->Hp->Prop)->Prop
def PG (X:Cx) (target:Expr) (t:TG):Prop :=
 ∀ (pins:List (Addr×Obj)) (s:Shared) (σ:St) (H:Hp) (v:V) (u:Value) (Q:St->Hp->Prop),Inv X pins σ H s->zcN v u->t v σ H Q ->
  wpAny (model X.prog X.w) X.A (assign target X.env u) (fun _ s'=>∃ σ' H',Inv X pins σ' H' s'/\Q σ' H') X.xe s
def PGs (X:Cx) (ts:List Expr) (t:TGs):Prop :=
 ∀ (pins:List (Addr×Obj)) (s:Shared) (σ:St) (H:Hp) (vs:List V) (us:List Value) (Q:St->Hp->Prop),Inv X pins σ H s->zcb vs us->t vs σ H Q ->
  wpAny (model X.prog X.w) X.A (assignInOrder ((assignEach ts X.env).map (·.2)) us) (fun _ s'=>∃ σ' H',Inv X pins σ' H' s'/\Q σ' H') X.xe s
abbrev zvs:=V->V->V->Hp->(Hp->Prop)->Prop
def zvT (X:Cx) (t:zvs):Prop :=
 ∀ (pins:List (Addr×Obj)) (s:Shared) (σ:St) (H:Hp) (o i v:V) (ov iv u:Value) (Q:Hp->Prop),Inv X pins σ H s->zcN o ov->zcN i iv->zcN v u->t o i v H Q ->
  wpAny (model X.prog X.w) X.A (setItem ov iv u) (fun _ s'=>∃ H',Inv X pins σ H' s'/\Q H') X.xe s
section
variable {X:Cx} {pos:Pos}
def zkc (i:Nat):TG:=fun v σ H Q=>Q (σ.set i (some v)) H
theorem zrp {i:Nat} {x:Str} (hN:X.N.Nodup) (hi:X.N[i]?=some x) (hx:Loc X.env.scope x) (hf:X.fn x=true\/X.env.scope.names.lookup x=some .local:=by first | exact .inl rfl | exact .inr rfl | assumption):PG X (.Name x pos) (zkc i):=by
 intro pins s σ H v u Q I r h
 exact wpAny_assign_Name (zlw I hN hi hx r (fun s' I'=>⟨_,H,I',h⟩) hf)
def zwl:TGs:=fun vs σ H Q=>vs=[]/\Q σ H
def zve (t:TG) (u:TGs):TGs:=fun vs σ H Q=>∃ v r,vs=v::r/\t v σ H fun σ' H'=>u r σ' H' Q
theorem zro:PGs X [] zwl:=by
 intro pins s σ H vs us Q I r h
 obtain ⟨e,h⟩:=h
 subst e
 cases r
 exact assignInOrder_nil ⟨σ,H,I,h⟩
theorem zpo {e:Expr} {es:List Expr} {t:TG} {u:TGs} (h1:PG X e t) (h2:PGs X es u)
  (hs:(assignEach (e::es) X.env).map (·.2)=assign e X.env::(assignEach es X.env).map (·.2):=by rfl):PGs X (e::es) (zve t u):=by
 intro pins s σ H vs us Q I r h
 obtain ⟨v,vr,e1,h⟩:=h
 subst e1
 cases r with
 | cons r rr =>
  rw [hs]
  refine assignInOrder_cons (thn (h1 pins s σ H _ _ _ I r h) fun _ s1 ⟨σ1,H1,I1,q1⟩=>?_)
  exact h2 pins s1 σ1 H1 _ _ Q I1 rr q1
def zwj (K:PySem.W.Frag) (n:Nat) (t:TGs):TG:=fun v σ H Q=>∃ a xs,v=.ref a/\SqT K H a xs/\xs.length=n/\t xs σ H Q
theorem ztj {es:List Expr} {k:Nat} {t:TGs} {n:Nat} (hc:X.calm=true) (h:PGs X es t)
  (hn:(assignEach es X.env).length=n:=by rfl) (hst:(assignEach es X.env).findIdx? (·.1)=none:=by rfl):PG X (.Tuple es k pos) (zwj X.K n t):=by
 intro pins s σ H v u Q I r hw
 obtain ⟨a,xs,e1,hq,hl,hw⟩:=hw
 subst e1
 cases r
 obtain ⟨its,rv,ht,hz⟩:=I.tuple hq
 refine assign_Tuple_tuple (I.ok.hd hc) ht (by simp [hn,← hl,rv.length]) hst fun h' hx=>?_
 have I1:Inv X pins σ H { s with heap:=h' }:=I.kept (t':=s.toks) fun b o e=>hx b o (qz (qr e)) e
 exact h pins _ σ H xs _ Q I1 (by simpa using rv) hw
def zwk (to ti:TE) (t:zvs):TG:=fun v σ H Q=>to σ H fun o H1=>ti σ H1 fun i H2=>t o i v H2 fun H3=>Q σ H3
theorem ztk {o i:Expr} {to ti:TE} {t:zvs} (ho:PE X o to) (hi:PE X i ti) (hs:zvT X t)
  (ha:∀ v,assign (.Subscript o i pos) X.env v=(do
   let ov ← holding [v] (eval o X.env)
   let iv ← holding [v,ov] (eval i X.env)
   standAt pos
   holding [v,ov,iv] (setItem ov iv v)
   release [v,ov,iv] []):=by intro _;rfl):PG X (.Subscript o i pos) (zwk to ti t):=by
 intro pins s σ H v u Q I r h
 rw [ha]
 refine qu (wpAny_holding (thn (ho pins s σ H _ I h) fun ov s1 ⟨x,H1,I1,r1,q1⟩=>?_))
 refine qu (wpAny_holding (thn (hi pins s1 σ H1 _ I1 q1) fun iv s2 ⟨y,H2,I2,r2,q2⟩=>?_))
 refine qu (wpAny_standAt (qu (wpAny_holding (thn (hs pins s2 σ H2 x y v ov iv u _ I2 r1 r2 r q2) fun _ s3 ⟨H3,I3,q3⟩=>?_))))
 exact wpAny_release ⟨σ,H3,I3,q3⟩
def zp9 (te:TE) (g:TG):TS:=fun D σ H=>te σ H fun x H1=>g x σ H1 D.nx
theorem zqp {tg e:Expr} {te:TE} {g:TG} (he:PE X e te) (hg:PG X tg g) (hs:swapsWithSole [tg] e pos.line X.env=pure false:=by rfl) (hw:swappedStores [tg] e X.env=pure none:=by rfl)
  (h1:(assignEach [tg] X.env).map (·.2)=[assign tg X.env]:=by rfl):PS X (.Assign [tg] e pos) (zp9 te g):=by
 intro pins s σ H D I h
 refine wpAny_Assign_stores (thn (he pins s σ H _ I h) fun v s1 ⟨x,H1,I1,r1,q1⟩=>?_) hs hw
 rw [h1]
 exact thn (hg pins s1 σ H1 x v _ I1 r1 q1) fun _ s2 q=>q
theorem zlG {i:Nat} {x:Str} {e:Expr} {te:TE} {pos':Pos} (hN:X.N.Nodup) (hi:X.N[i]?=some x) (hx:Loc X.env.scope x) (he:PE X e te) (hs:swapsWith e (some (.Name x pos')) pos.line X.env=pure false:=by rfl) (hf:X.fn x=true\/X.env.scope.names.lookup x=some .local:=by first | exact .inl rfl | exact .inr rfl | assumption) :
  PS X (.Assign [.Name x pos'] e pos) (zp9 te (zkc i)):=by
 intro pins s σ H D I h
 refine wpAny_Assign_Name (thn (he pins s σ H _ I h) fun v s1 ⟨y,H1,I1,r1,q1⟩=>?_) hs
 exact zlw I1 hN hi hx r1 (fun s2 I2=>⟨_,H1,I2,q1⟩) hf
end
section
variable {X:Cx} {pos:Pos}
def zsI (c:TT) (tb:TS):TS:=fun D σ H=>∃ W:Nat->St->Hp->Prop,(∃ m,W m σ H)/\∀ m σ H,W m σ H ->
 c σ H fun b H1=>if b=true then ∃ N:St->Hp->Prop,(∀ σ' H',N σ' H'->∃ m',m' < m/\W m' σ' H')/\tb { D with nx:=N,ct:=N,bk:=D.nx } σ H1 else D.nx σ H1
theorem zpl {c:Expr} {body:List Stmt} {tc:TT} {tb:TS} (hp:PassesOwn (model X.prog X.w) X.A X.env X.xe) (hc:PT X c tc) (hb:PSs X body tb):PS X (.While c body [] pos) (zsI tc tb):=by
 intro pins s σ H D I h
 obtain ⟨W,⟨m0,w0⟩,turn⟩:=h
 refine wpAny_While (codeAny_whileLoop (fun n s'=>∃ σ' H',Inv X pins σ' H' s'/\W n σ' H') ?_ m0 ⟨σ,H,I,w0⟩)
 rintro n s1 ⟨σ1,H1,I1,w1⟩
 refine wpAny_passesOwn hp (thn (hc pins s1 σ1 H1 _ I1 (turn n σ1 H1 w1)) fun b s2 ⟨H2,I2,q2⟩=>?_)
 cases b with
 | true =>
  obtain ⟨N,hN,q2⟩:=q2
  rw [qR rfl]
  refine wpAny_passesOwn hp (thn (hb pins s2 σ1 H2 _ I2 q2) fun f s3 q3=>?_)
  cases f with
  | next =>
   obtain ⟨σ3,H3,I3,n3⟩:=q3
   obtain ⟨m',hm,w3⟩:=hN σ3 H3 n3
   exact ⟨m',hm,σ3,H3,I3,w3⟩
  | cont =>
   obtain ⟨σ3,H3,I3,n3⟩:=q3
   obtain ⟨m',hm,w3⟩:=hN σ3 H3 n3
   exact ⟨m',hm,σ3,H3,I3,w3⟩
  | brk=>exact q3
  | ret v=>exact q3
 | false =>
  rw [qS qp]
  exact wpAny_execs_nil ⟨σ1,H2,I2,q2⟩
end
structure It where
 go:Nat->Hp->Prop
 yld:Nat->Hp->V->Hp->Prop
 stop:Nat->Hp->Prop
def zmR (X:Cx) (pins:List (Addr×Obj)) (H:Hp) (b:Addr):Prop :=
 H b=none/\b≠X.env.locals/\b∉X.fs/\(b∈X.ex\/X.s₀.heap.objs.size<=b)/\(∀ x c,X.env.cells.lookup x=some c->c≠b)/\∀ p∈X.pn++pins,p.1≠b
theorem Inv.fpOk {X:Cx} {pins:List (Addr×Obj)} {σ:St} {H H':Hp} {s:Shared} {b:Addr} (I:Inv X pins σ H s) (hb:s.heap.objs.size<=b) (hn:H' b=none):zmR X pins H' b:=by
 refine ⟨hn,Nat.ne_of_gt (qB I.lt hb),I.nofs hb,.inr (qH I.sz hb),fun x c e z=>?_,fun p hp z=>?_⟩
 ·obtain ⟨v,q⟩:=I.cell x c e
  exact absurd (qB q.lt (by rw [z];exact hb)) (Nat.lt_irrefl _)
 ·exact absurd (qB (qr (I.pin p hp).1) (by rw [z];exact hb)) (Nat.lt_irrefl _)
structure Turn (P:Program) (w:World) (K:PySem.W.Frag) (tg:Expr) (J:It) (fp:List Addr) (it:Addr) (tn:Nat->Heap->Prop):Prop where
 mem:it∈fp
 obj:∀ i h,tn i h->∀ b∈fp,∃ o,h.get? b=some o/\∀ v,o.data≠.cell v
 keep:∀ i h h',tn i h->(∀ b∈fp,∀ o,h.get? b=some o->h'.get? b=some o)->tn i h'
 item:∀ (X:Cx),X.prog=P->X.w=w->X.K=K->X.calm=true->∀ (i:Nat) (pins:List (Addr×Obj)) (s:Shared) (σ:St) (H:Hp) (E:Value->Shared->Prop),Inv X pins σ H s->(∀ b∈fp,zmR X pins H b)->tn i s.heap->J.go i H ->
  wpAny (model P w) X.A (pyNext (.ref it)) (fun r s1=>∃ u,r=some u /\
   wpAny (model P w) X.A (letOwnedTupleGo tg (.ref it) u) (fun _ s2=>∃ x H',Inv X pins σ H' s2/\zcN x u/\J.yld i H x H'/\tn (i+1) s2.heap/\∀ b∈fp,H' b=none) E s1) E s
 done:∀ (X:Cx),X.prog=P->X.w=w->X.K=K->X.calm=true->∀ (i:Nat) (pins:List (Addr×Obj)) (s:Shared) (σ:St) (H:Hp) (E:Value->Shared->Prop),Inv X pins σ H s->(∀ b∈fp,zmR X pins H b)->tn i s.heap->J.stop i H ->
  wpAny (model P w) X.A (pyNext (.ref it)) (fun r s1=>r=none/\Inv X pins σ H s1) E s
 self:∀ (A:Around) (i:Nat) (s:Shared) (Q:Value->Shared->Prop) (E:Value->Shared->Prop),tn i s.heap->Q (.ref it) s->wpAny (model P w) A (pyIter (.ref it)) Q E s
abbrev TI:=St->Hp->(It->Hp->Prop)->Prop
def PIE (X:Cx) (pins:List (Addr×Obj)) (σ:St) (tg:Expr) (R:It->Hp->Prop) (itv:Value) (s2:Shared):Prop :=
 ∃ (it:Addr) (fp:List Addr) (tn:Nat->Heap->Prop) (J:It) (H':Hp),itv=.ref it/\Inv X pins σ H' s2/\Turn X.prog X.w X.K tg J fp it tn/\tn 0 s2.heap/\(∀ b∈fp,zmR X pins H' b)/\R J H'
def PI (X:Cx) (tg iter:Expr) (wi:TI):Prop :=
 ∀ (pins:List (Addr×Obj)) (s:Shared) (σ:St) (H:Hp) (R:It->Hp->Prop),Inv X pins σ H s->wi σ H R ->
  wpAny (model X.prog X.w) X.A (eval iter X.env) (fun v s1=>wpAny (model X.prog X.w) X.A (pyIter v) (PIE X pins σ tg R) X.xe s1) X.xe s
theorem zrW {M:Model} {A:Around} {E:Value->Shared->Prop} {s:Shared} {tg:Expr} {it:Addr} {u:Value} {o:Obj} {n:String} {vs:Array Value} {Q:Unit->Shared->Prop} (ho:s.heap.get? it=some o) (hc:o.cls=.type n) (hd:o.data=.fields vs)
  (hn:["enumerate","zip","dict_itemiterator","dict_reverseitemiterator","odict_iterator","itertools.zip_longest","itertools.pairwise"].contains n=false) (hQ:Q () s):wpAny M A (letOwnedTupleGo tg (.ref it) u) Q E s:=by
 unfold letOwnedTupleGo
 cases tg <;> first
  | exact qx hQ
  | (cases u <;> first
    | exact qx hQ
    | (refine qu (wpAny_load ho ?_);rw [hc,hd];show wpAny M A (if (["enumerate","zip","dict_itemiterator","dict_reverseitemiterator","odict_iterator","itertools.zip_longest","itertools.pairwise"].contains n && vs[0]?==some (rawInt _))=true then _ else _) Q E s;rw [qS (by intro h;rw [hn,Bool.false_and] at h;cases h)];exact qx hQ))
def Itl (K:PySem.W.Frag) (a:Addr):It :=
 ⟨fun i H=>∃ xs x,SqL K H a xs/\xs[i]?=some x,fun i H x H'=>H'=H/\∀ xs,SqL K H a xs->xs[i]?=some x,fun i H=>∃ xs,SqL K H a xs/\xs.length<=i⟩
def Itt (K:PySem.W.Frag) (a:Addr):It :=
 ⟨fun i H=>∃ xs x,SqT K H a xs/\xs[i]?=some x,fun i H x H'=>H'=H/\∀ xs,SqT K H a xs->xs[i]?=some x,fun i H=>∃ xs,SqT K H a xs/\xs.length<=i⟩
def Itr (lo:Int) (n:Nat):It:=⟨fun i _=>i < n,fun i H x H'=>H'=H/\x=.int (lo+i),fun i _=>n<=i⟩
theorem zmY {P:Program} {w:World} {K:PySem.W.Frag} {tg:Expr} (a it:Addr):Turn P w K tg (Itl K a) [it] it (fun i h=>h.IsListIter it a i) where
 mem:=by simp
 obj:=fun i h st b hb=>by
  have e:b=it:=by simpa using hb
  subst e
  obtain ⟨o,e,c,d⟩:=st
  exact ⟨o,e,fun v z=>by rw [d] at z;cases z⟩
 keep:=fun i h h' st k=>st.at fun o e=>k it (by simp) o e
 item:=by
  intro X hP hw hK hc i pins s σ H E I hf st hg
  subst hP hw hK
  obtain ⟨xs,x,hq,hx⟩:=hg
  obtain ⟨its,rv,p,hz⟩:=I.list hq
  obtain ⟨u,hu,ru⟩:=rv.get hx
  obtain ⟨f0,f1,f2,f3,f4,f5⟩:=hf it (by simp)
  refine wpAny_pyNext_list_item st p.isList (x:=u) (by simpa using hu) fun h' st' sb=>?_
  have I1:Inv X pins σ H { s with heap:=h' }:=I.turned (t':=s.toks) (fun b o hb e=>(sb.2 b hb).trans e) f0 f1 f3 f4 f5
  obtain ⟨o,e,c,d⟩:=id st'
  exact ⟨u,rfl,zrW (s:={ s with heap:=h' }) e c d (by decide) ⟨x,H,I1,ru,⟨rfl,fun ys hy=>by rw [I.list_inj hy hq];exact hx⟩,st',fun b hb=>(hf b hb).1⟩⟩
 done:=by
  intro X hP hw hK hc i pins s σ H E I hf st hg
  subst hP hw hK
  obtain ⟨xs,hq,hx⟩:=hg
  obtain ⟨its,rv,p,hz⟩:=I.list hq
  obtain ⟨f0,f1,f2,f3,f4,f5⟩:=hf it (by simp)
  have hl:=rv.length
  exact wpAny_pyNext_list_end (I.ok.hd hc) st p.isList (by simp;omega) fun h' eb=>⟨rfl,I.turned (t':=s.toks) (fun b o hb e=>eb b o hb e) f0 f1 f3 f4 f5⟩
 self:=fun _ _ _ _ _ st h=>wpAny_pyIter_listiter st h
theorem zmg {P:Program} {w:World} {K:PySem.W.Frag} {tg:Expr} (a it:Addr):Turn P w K tg (Itt K a) [it] it (fun i h=>h.IsTupleIter it a i) where
 mem:=by simp
 obj:=fun i h st b hb=>by
  have e:b=it:=by simpa using hb
  subst e
  obtain ⟨o,e,c,d⟩:=st
  exact ⟨o,e,fun v z=>by rw [d] at z;cases z⟩
 keep:=fun i h h' st k=>st.at fun o e=>k it (by simp) o e
 item:=by
  intro X hP hw hK hc i pins s σ H E I hf st hg
  subst hP hw hK
  obtain ⟨xs,x,hq,hx⟩:=hg
  obtain ⟨its,rv,p,hz⟩:=I.tuple hq
  obtain ⟨u,hu,ru⟩:=rv.get hx
  obtain ⟨f0,f1,f2,f3,f4,f5⟩:=hf it (by simp)
  refine wpAny_pyNext_tuple_item st (show s.heap.IsTuple a its.toArray from p) (x:=u) (by simpa using hu) fun h' st' sb=>?_
  have I1:Inv X pins σ H { s with heap:=h' }:=I.turned (t':=s.toks) (fun b o hb e=>(sb.2 b hb).trans e) f0 f1 f3 f4 f5
  obtain ⟨o,e,c,d⟩:=id st'
  exact ⟨u,rfl,zrW (s:={ s with heap:=h' }) e c d (by decide) ⟨x,H,I1,ru,⟨rfl,fun ys hy=>by rw [I.tuple_inj hy hq];exact hx⟩,st',fun b hb=>(hf b hb).1⟩⟩
 done:=by
  intro X hP hw hK hc i pins s σ H E I hf st hg
  subst hP hw hK
  obtain ⟨xs,hq,hx⟩:=hg
  obtain ⟨its,rv,p,hz⟩:=I.tuple hq
  obtain ⟨f0,f1,f2,f3,f4,f5⟩:=hf it (by simp)
  have hl:=rv.length
  exact wpAny_pyNext_tuple_end (I.ok.hd hc) st (show s.heap.IsTuple a its.toArray from p) (by simp;omega) fun h' eb=>⟨rfl,I.turned (t':=s.toks) (fun b o hb e=>eb b o hb e) f0 f1 f3 f4 f5⟩
 self:=fun _ _ _ _ _ st h=>wpAny_pyIter_tupleiter st h
theorem zmh {P:Program} {w:World} {K:PySem.W.Frag} {tg:Expr} (it:Addr) (lo:Int) (n:Nat):Turn P w K tg (Itr lo n) [it] it (fun i h=>IsRangeIter h it (lo+(i:Nat)*1) ((n:Int) - (i:Nat)) 1) where
 mem:=by simp
 obj:=fun i h st b hb=>by
  have e:b=it:=by simpa using hb
  subst e
  exact ⟨_,st,fun v z=>by
   have z':Data.fields _=Data.cell v:=z
   cases z'⟩
 keep:=fun i h h' st k=>k it (by simp) _ st
 item:=by
  intro X hP hw hK hc i pins s σ H E I hf st hg
  subst hP hw hK
  obtain ⟨f0,f1,f2,f3,f4,f5⟩:=hf it (by simp)
  have W:=Walks.range (prog:=X.prog) (w:=X.w) (I.ok.hd hc) it lo 1 n
  refine W.item i s _ _ hg st fun v h' tk hv st' kk=>?_
  obtain ⟨t,rfl⟩:=hv
  have I1:Inv X pins σ H { s with heap:=h',toks:=tk }:=I.turned (fun b o hb e=>kk b o (by simpa using hb) e) f0 f1 f3 f4 f5
  refine ⟨_,rfl,zrW (s:={ s with heap:=h',toks:=tk }) (n:="range_iterator") st' rfl rfl (by decide) ⟨.int (lo+i),H,I1,⟨t,?_⟩,⟨rfl,rfl⟩,st',fun b hb=>(hf b hb).1⟩⟩
  rw [Int.mul_one]
 done:=by
  intro X hP hw hK hc i pins s σ H E I hf st hg
  subst hP hw hK
  obtain ⟨f0,f1,f2,f3,f4,f5⟩:=hf it (by simp)
  exact wpAny_pyNext_range_end (I.ok.hd hc) st (by have:n<=i:=hg;omega) fun h' eb=>⟨rfl,I.turned (t':=s.toks) (fun b o hb e=>eb b o hb e) f0 f1 f3 f4 f5⟩
 self:=fun _ _ _ _ _ st h=>wpAny_pyIter_rangeiter st h
end L2
namespace L2
open PySem PySem.Spec PyProof.Rows
section
variable {X:Cx} {tg:Expr}
theorem zlE {pins:List (Addr×Obj)} {σ:St} {H:Hp} {s:Shared} {R:It->Hp->Prop} {E:Value->Shared->Prop} {lo hi:Int} {t u v:Tok} {tk:Nat} (I:Inv X pins σ H s) (h1 : -(2 ^ 62)<=lo) (h2:lo < 2 ^ 62) (h3 : -(2 ^ 62)<=hi) (h4:hi < 2 ^ 62)
  (q:R (Itr lo (hi - lo).toNat) H):wpAny (model X.prog X.w) X.A (pyIter (.ref s.heap.objs.size)) (PIE X pins σ tg R) E { s with heap:=s.heap.push { cls:=.type "range",data:=.fields #[.int lo t,.int hi u,.int 1 v] },toks:=tk }:=by
 refine wpAny_pyIter_range (IsRange.new ..) (small_one h1 h2 h3 h4) ?_
 have I1:Inv X pins σ H { s with heap:=s.heap.push { cls:=.type "range",data:=.fields #[.int lo t,.int hi u,.int 1 v] },toks:=tk }:=I.kept fun b o e=>qq _ e
 refine ⟨(s.heap.push { cls:=.type "range",data:=.fields #[.int lo t,.int hi u,.int 1 v] }).objs.size,[(s.heap.push { cls:=.type "range",data:=.fields #[.int lo t,.int hi u,.int 1 v] }).objs.size],_,_,H,rfl,
  I1.kept (t':=tk) fun b o e=>qq _ e,zmh _ lo (hi - lo).toNat,?_,fun b hb=>?_,q⟩
 ·have e1:lo+((0:Nat):Int)*1=lo:=by simp
  have e2:(((hi - lo).toNat:Nat):Int) - ((0:Nat):Int)=Builtin.Range.rangeSize lo hi 1:=by rw [rangeSize_one];split <;> omega
  show IsRangeIter _ _ (lo+((0:Nat):Int)*1) ((((hi - lo).toNat:Nat):Int) - ((0:Nat):Int)) 1
  rw [e1,e2]
  exact qC _ rfl
 ·have e:b=(s.heap.push { cls:=.type "range",data:=.fields #[.int lo t,.int hi u,.int 1 v] }).objs.size:=by simpa using hb
  subst e
  exact I1.fpOk (qt _) (I1.hok.fresh (qt _))
def zvd (ta:TA):TI:=fun σ H R=>ta σ H fun vs H1=>∃ j:Int,vs=[.int j] /\ -(2 ^ 62)<=j/\j < 2 ^ 62/\R (Itr 0 j.toNat) H1
def zvc (ta:TA):TI:=fun σ H R=>ta σ H fun vs H1=>∃ i j:Int,vs=[.int i,.int j]/\(-(2 ^ 62)<=i/\i < 2 ^ 62 /\ -(2 ^ 62)<=j/\j < 2 ^ 62)/\R (Itr i (j - i).toNat) H1
theorem zj1 {a:Expr} {ta:TA} {p pos:Pos} (hg:Gl X "range") (hm:X.mg "range"=none) (ha:PA X [a] ta) (hs:starEach [a] X.env=[(false,eval a X.env)]:=by rfl):PI X tg (.Call (.Name "range" p) [a] [] pos) (zvd ta):=by
 intro pins s σ H R I h
 refine Call_ (zj9 I hg hm boot_range (PyProof.Rows.callWith_type1 (thn (ha pos pins s σ H _ I h) fun us s1 ⟨vs,H1,I1,r1,q1⟩=>?_) hs rfl))
 obtain ⟨j,e,q1,q2,q⟩:=q1
 subst e
 cases r1 with
 | cons r rr =>
  cases rr
  obtain ⟨t,rfl⟩:=r
  exact call_range_1 (zlE I1 (by omega) (by omega) q1 q2 (by simpa using q))
theorem znD {a b:Expr} {ta:TA} {p pos:Pos} (hg:Gl X "range") (hm:X.mg "range"=none) (ha:PA X [a,b] ta) (hs:starEach [a,b] X.env=[(false,eval a X.env),(false,eval b X.env)]:=by rfl) (hs2:starEach [b] X.env=[(false,eval b X.env)]:=by rfl) :
  PI X tg (.Call (.Name "range" p) [a,b] [] pos) (zvc ta):=by
 intro pins s σ H R I h
 refine Call_ (zj9 I hg hm boot_range (PyProof.Rows.callWith_type1 (thn (ha pos pins s σ H _ I h) fun us s1 ⟨vs,H1,I1,r1,q1⟩=>?_) (by rw [hs,hs2]) (by rw [hs2];rfl)))
 obtain ⟨i,j,e,⟨q1,q2,q3,q4⟩,q⟩:=q1
 subst e
 cases r1 with
 | cons r rr =>
  cases rr with
  | cons r' rr =>
   cases rr
   obtain ⟨t,rfl⟩:=r
   obtain ⟨t',rfl⟩:=r'
   exact call_range_2 (zlE I1 q1 q2 q3 q4 q)
def zv3 (wi:TI) (g:TG) (tb:TS):TS:=fun D σ H=>wi σ H fun J H1=>∃ W:Nat->Nat->St->Hp->Prop,(∃ m,W 0 m σ H1)/\∀ i m σ H,W i m σ H ->
 (J.stop i H/\D.nx σ H)\/(J.go i H/\∃ N:St->Hp->Prop,(∀ σ' H',N σ' H'->∃ m',m' < m/\W (i+1) m' σ' H')/\∀ x H',J.yld i H x H'->g x σ H' fun σ2 H2=>tb { D with nx:=N,ct:=N,bk:=D.nx } σ2 H2)
def zj0 (fp:List Addr) (h:Heap):List (Addr×Obj):=fp.filterMap fun b=>(h.get? b).map fun o=>(b,o)
theorem zeV {fp:List Addr} {h:Heap} {b:Addr} {o:Obj} (hb:b∈fp) (e:h.get? b=some o):(b,o)∈zj0 fp h:=List.mem_filterMap.mpr ⟨b,hb,by rw [e];rfl⟩
theorem znP {fp:List Addr} {h:Heap} {p:Addr×Obj} (hp:p∈zj0 fp h):p.1∈fp/\h.get? p.1=some p.2:=by
 obtain ⟨b,hb,e⟩:=List.mem_filterMap.mp hp
 cases q:h.get? b with
 | none=>rw [q] at e;cases e
 | some o =>
  rw [q] at e
  have e':(b,o)=p:=qD e
  subst e'
  exact ⟨hb,q⟩
theorem Inv.pinned {pins:List (Addr×Obj)} {σ:St} {H:Hp} {s:Shared} {fp:List Addr} (I:Inv X pins σ H s) (hf:∀ b∈fp,zmR X pins H b) (ho:∀ b∈fp,∃ o,s.heap.get? b=some o/\∀ v,o.data≠.cell v):Inv X (pins++zj0 fp s.heap) σ H s :=
 I.pins_of fun p hp=>(List.mem_append.mp hp).elim (fun z=>I.pin p (qL _ z)) fun z=>by
  obtain ⟨hb,e⟩:=znP z
  obtain ⟨f0,f1,f2,_⟩:=hf p.1 hb
  obtain ⟨o,e',d⟩:=ho p.1 hb
  rw [e] at e';cases e'
  exact ⟨e,f0,f1,f2,d⟩
theorem Inv.unpinned {pins pl:List (Addr×Obj)} {σ:St} {H:Hp} {s:Shared} (I:Inv X (pins++pl) σ H s):Inv X pins σ H s:=I.pins_of fun p hp=>I.pin p (qL _ (List.mem_append_left _ hp))
theorem zqn {iter:Expr} {body:List Stmt} {wi:TI} {g:TG} {tb:TS} {pos:Pos} (hp:PassesOwn (model X.prog X.w) X.A X.env X.xe) (hc:X.calm=true) (hi:PI X tg iter wi) (hg:PG X tg g) (hb:PSs X body tb)
  (hs:∀ x,foldedSetIterable iter X.env x=pure x:=by intro _;rfl):PS X (.For tg iter body [] pos) (zv3 wi g tb):=by
 intro pins s σ H D I h
 refine wpAny_For (thn (hi pins s σ H _ I h) fun v s1 h1=>thn h1 fun itv s2 h2=>?_) hs
 obtain ⟨it,fp,tn,J,H2,e,I2,T,st2,f2,W,⟨m0,w0⟩,turn⟩:=h2
 subst e
 have stat:∀ {H':Hp},(∀ b∈fp,H' b=none)->∀ b∈fp,zmR X pins H' b:=fun hn b hb=>⟨hn b hb,(f2 b hb).2⟩
 refine codeAny_forLoop_any (fun n s'=>∃ i σ' H',Inv X pins σ' H' s'/\tn i s'.heap/\(∀ b∈fp,H' b=none)/\W i n σ' H') ?_ m0 ⟨0,σ,H2,I2,st2,fun b hb=>(f2 b hb).1,w0⟩
 rintro n s3 ⟨i,σ3,H3,I3,st3,fr3,w3⟩
 rcases turn i n σ3 H3 w3 with ⟨stop,qn⟩ | ⟨go,N,hN,step⟩
 ·refine wpAny_passesOwn hp (thn (T.done X rfl rfl rfl hc i pins s3 σ3 H3 X.xe I3 (stat fr3) st3 stop) fun r s4 ⟨hr,I4⟩=>?_)
  subst hr
  exact wpAny_execs_nil ⟨σ3,H3,I4,qn⟩
 ·refine wpAny_passesOwn hp (thn (T.item X rfl rfl rfl hc i pins s3 σ3 H3 X.xe I3 (stat fr3) st3 go) fun r s4 ⟨u,hr,h4⟩=>?_)
  subst hr
  refine wpAny_passesOwn hp (thn h4 fun _ s5 ⟨x,H5,I5,r5,y5,st5,fr5⟩=>?_)
  have I5':=I5.pinned (stat fr5) (T.obj _ _ st5)
  refine wpAny_passesOwn hp (thn (hg _ s5 σ3 H5 x u _ I5' r5 (step x H5 y5)) fun _ s6 ⟨σ6,H6,I6,q6⟩=>?_)
  refine wpAny_passesOwn hp (thn (hb _ s6 σ6 H6 _ I6 q6) fun f s7 q7=>?_)
  have again:∀ {σ7:St} {H7:Hp},Inv X (pins++zj0 fp s5.heap) σ7 H7 s7->N σ7 H7->∃ m,m < n/\∃ i σ' H',Inv X pins σ' H' s7/\tn i s7.heap/\(∀ b∈fp,H' b=none)/\W i m σ' H':=fun {σ7 H7} I7 n7=>by
   obtain ⟨m',hm,w7⟩:=hN σ7 H7 n7
   refine ⟨m',hm,i+1,σ7,H7,I7.unpinned,T.keep _ _ _ st5 fun b hb o e=>(I7.pin (b,o) (qL _ (qL _ (zeV hb e)))).1,fun b hb=>?_,w7⟩
   obtain ⟨o,e,d⟩:=T.obj _ _ st5 b hb
   exact (I7.pin (b,o) (qL _ (qL _ (zeV hb e)))).2.1
  cases f with
  | next=>obtain ⟨σ7,H7,I7,n7⟩:=q7;exact again I7 n7
  | cont=>obtain ⟨σ7,H7,I7,n7⟩:=q7;exact again I7 n7
  | brk=>obtain ⟨σ7,H7,I7,q7⟩:=q7;exact ⟨σ7,H7,I7.unpinned,q7⟩
  | ret v=>obtain ⟨x7,σ7,H7,I7,r7,q7⟩:=q7;exact ⟨x7,σ7,H7,I7.unpinned,r7,q7⟩
end
end L2
namespace L2
open PySem PySem.Spec PyProof.Rows
abbrev R2:=V->V->Hp->VK->Prop
def OpR (X:Cx) (f:Value->Value->Sem Value) (r:R2):Prop :=
 ∀ (pins:List (Addr×Obj)) (s:Shared) (σ:St) (H:Hp) (x y:V) (v u:Value) (Q:VK),Inv X pins σ H s->zcN x v->zcN y u->r x y H Q ->
  wpAny (model X.prog X.w) X.A (f v u) (EP X pins σ Q) X.xe s
def UnR (X:Cx) (f:Value->Sem Value) (r:V->Hp->VK->Prop):Prop :=
 ∀ (pins:List (Addr×Obj)) (s:Shared) (σ:St) (H:Hp) (x:V) (v:Value) (Q:VK),Inv X pins σ H s->zcN x v->r x H Q ->
  wpAny (model X.prog X.w) X.A (f v) (EP X pins σ Q) X.xe s
def zhf (X:Cx) (f:Value) (r:List V->Hp->VK->Prop):Prop :=
 ∀ (pins:List (Addr×Obj)) (s:Shared) (σ:St) (H:Hp) (xs:List V) (us:List Value) (Q:VK),Inv X pins σ H s->zcb xs us->r xs H Q ->
  wpAny (model X.prog X.w) X.A (call f us) (EP X pins σ Q) X.xe s
def tOp (r:R2) (ta tb:TE):TE:=fun σ H Q=>ta σ H fun x H1=>tb σ H1 fun y H2=>r x y H2 Q
def tUn (r:V->Hp->VK->Prop) (ta:TE):TE:=fun σ H Q=>ta σ H fun x H1=>r x H1 Q
def rI (C:Int->Int->Prop) (g:Int->Int->V):R2:=fun x y H Q=>∃ i j,x=.int i/\y=.int j/\C i j/\Q (g i j) H
def rI0 (g:Int->Int->V):R2:=fun x y H Q=>∃ i j,x=.int i/\y=.int j/\Q (g i j) H
def rU (g:Int->V):V->Hp->VK->Prop:=fun x H Q=>∃ i,x=.int i/\Q (g i) H
section
variable {X:Cx} {a b c:Expr} {ta tb tc:TE} {pos:Pos}
theorem zvo (ha:PE X a ta) (hb:PE X b tb) {pins:List (Addr×Obj)} {s:Shared} {σ:St} {H:Hp} {R:V->V->Hp->Prop} (I:Inv X pins σ H s)
  (h:ta σ H fun x H1=>tb σ H1 fun y H2=>R x y H2) {Q:Value->Shared->Prop} {f:Value->Value->Sem Value}
  (hf:∀ v u s2 x y H2,Inv X pins σ H2 s2->zcN x v->zcN y u->R x y H2->wpAny (model X.prog X.w) X.A (f v u) Q X.xe s2) :
  wpAny (model X.prog X.w) X.A (eval a X.env) (fun v s₁=>wpAny (model X.prog X.w) X.A (eval b X.env) (fun u s₂=>wpAny (model X.prog X.w) X.A (f v u) Q X.xe s₂) X.xe s₁) X.xe s:=by
 refine thn (ha pins s σ H _ I h) fun v s1 ⟨x,H1,I1,r1,q1⟩=>?_
 refine thn (hb pins s1 σ H1 _ I1 q1) fun u s2 ⟨y,H2,I2,r2,q2⟩=>?_
 exact hf v u s2 x y H2 I2 r1 r2 q2
theorem ztm {op:Operator} {r:R2} (ho:OpR X (binaryOp op) r) (ha:PE X a ta) (hb:PE X b tb):PE X (.BinOp a op b pos) (tOp r ta tb):=by
 intro pins s σ H Q I h
 exact wpAny_BinOp (zvo ha hb I h fun v u s2 x y H2 I2 rx ry q=>ho pins s2 σ H2 x y v u Q I2 rx ry q)
theorem zuY {op:UnaryOp} {r:V->Hp->VK->Prop} (ho:UnR X (unaryOp op) r) (ha:PE X a ta):PE X (.UnaryOp op a pos) (tUn r ta):=by
 intro pins s σ H Q I h
 exact UnaryOp_ (thn (ha pins s σ H _ I h) fun v s1 ⟨x,H1,I1,r1,q1⟩=>ho pins s1 σ H1 x v Q I1 r1 q1)
theorem opI {f:Value->Value->Sem Value} {C:Int->Int->Prop} {g:Int->Int->Int}
  (rule:∀ (i j:Int) (t u:Tok) (s:Shared) (Q:Value->Shared->Prop) (E:Value->Shared->Prop),C i j->Q (.int (g i j) s.toks) { s with toks:=s.toks+1 }->wpAny (model X.prog X.w) X.A (f (.int i t) (.int j u)) Q E s) :
  OpR X f (rI C fun i j=>.int (g i j)):=by
 intro pins s σ H x y v u Q I rx ry h
 obtain ⟨i,j,rfl,rfl,hc,q⟩:=h
 obtain ⟨t,rfl⟩:=rx
 obtain ⟨t',rfl⟩:=ry
 exact rule i j t t' s _ _ hc ⟨.int (g i j),H,I.tok _,⟨_,rfl⟩,q⟩
theorem zvH {f:Value->Value->Sem Value} {g:Int->Int->Int}
  (rule:∀ (i j:Int) (t u:Tok) (s:Shared) (Q:Value->Shared->Prop) (E:Value->Shared->Prop),Q (.int (g i j) s.toks) { s with toks:=s.toks+1 }->wpAny (model X.prog X.w) X.A (f (.int i t) (.int j u)) Q E s) :
  OpR X f (rI0 fun i j=>.int (g i j)):=by
 intro pins s σ H x y v u Q I rx ry h
 obtain ⟨i,j,rfl,rfl,q⟩:=h
 obtain ⟨t,rfl⟩:=rx
 obtain ⟨t',rfl⟩:=ry
 exact rule i j t t' s _ _ ⟨.int (g i j),H,I.tok _,⟨_,rfl⟩,q⟩
theorem zuu {f:Value->Value->Sem Value} {g:Int->Int->Bool}
  (rule:∀ (i j:Int) (t u:Tok) (s:Shared) (Q:Value->Shared->Prop) (E:Value->Shared->Prop),Q (.bool (g i j)) s->wpAny (model X.prog X.w) X.A (f (.int i t) (.int j u)) Q E s) :
  OpR X f (rI0 fun i j=>.bl (g i j)):=by
 intro pins s σ H x y v u Q I rx ry h
 obtain ⟨i,j,rfl,rfl,q⟩:=h
 obtain ⟨t,rfl⟩:=rx
 obtain ⟨t',rfl⟩:=ry
 exact rule i j t t' s _ _ ⟨.bl (g i j),H,I,rfl,q⟩
def zwu (i j:Int):Prop:=0 < j/\j < 1073741824
def zwt (i j:Int):Prop:=0<=j/\j<=1000000/\i.natAbs < 2 ^ 64
def zuB (i j:Int):Prop:=(-(2 ^ 64) < i/\i < 2 ^ 64)\/(-(2 ^ 64) < j/\j < 2 ^ 64)
theorem zuB.ok {i j:Int} (h:zuB i j):IntMulOk i j:=by
 rcases h with ⟨h1,h2⟩ | ⟨h1,h2⟩
 ·exact .of_left (intBits_le_64 h1 h2)
 ·exact .of_right (intBits_le_64 h1 h2)
theorem ztE:OpR X (binaryOp .Add) (rI0 fun i j=>.int (i+j)):=zvH fun _ _ _ _ _ _ _ q=>add_int q
theorem zqu:OpR X (binaryOp .Sub) (rI0 fun i j=>.int (i - j)):=zvH fun _ _ _ _ _ _ _ q=>sub_int q
theorem ztA:OpR X (binaryOp .Mult) (rI zuB fun i j=>.int (i*j)):=opI fun _ _ _ _ _ _ _ hc q=>mul_int q hc.ok
theorem znM:OpR X (binaryOp .FloorDiv) (rI zwu fun i j=>.int (i / j)):=opI fun i j _ _ _ _ _ hc q=>by
 have h1:(0:Int) < j:=hc.1
 have h2:j < 1073741824:=hc.2
 exact floordiv_int (by omega) (by rw [Int.fdiv_eq_ediv_of_nonneg i (by omega)];exact q) (.inl (PyProof.noPylong_small (by omega)))
theorem zqv:OpR X (binaryOp .Mod) (rI (fun _ j=>0 < j) fun i j=>.int (i % j)):=opI fun i j _ _ _ _ _ hc q=>by
 have h1:(0:Int) < j:=hc
 exact mod_int' (by omega) (by rw [Int.fmod_eq_emod_of_nonneg i (by omega)];exact q)
theorem zty:OpR X (binaryOp .Pow) (rI zwt fun i j=>.int (i ^ j.toNat)):=opI fun _ _ _ _ _ _ _ hc q=>pow_int_small hc.1 hc.2.1 hc.2.2 q
theorem unI {f:Value->Sem Value} {g:Int->Int}
  (rule:∀ (i:Int) (t:Tok) (s:Shared) (Q:Value->Shared->Prop) (E:Value->Shared->Prop),Q (.int (g i) s.toks) { s with toks:=s.toks+1 }->wpAny (model X.prog X.w) X.A (f (.int i t)) Q E s) :
  UnR X f (rU fun i=>.int (g i)):=by
 intro pins s σ H x v Q I rx h
 obtain ⟨i,rfl,q⟩:=h
 obtain ⟨t,rfl⟩:=rx
 exact rule i t s _ _ ⟨.int (g i),H,I.tok _,⟨_,rfl⟩,q⟩
theorem zsG:UnR X (unaryOp .USub) (rU fun i=>.int (-i)):=unI fun _ _ _ _ _ q=>neg_int q
end
def zuO:V->V->Bool
 | .non,.non=>true | .non,.int _=>true | .int _,.non=>true | .non,.bl _=>true | .bl _,.non=>true | .non,.str _=>true | .str _,.non=>true
 | .int _,.int _=>true | .bl _,.bl _=>true | .str _,.str _=>true | .byt _,.byt _=>true
 | .int _,.str _=>true | .str _,.int _=>true | .bl _,.str _=>true | .str _,.bl _=>true
 | _,_=>false
def rEq:R2:=fun x y H Q=>zuO x y=true/\Q (.bl (decide (x=y))) H
def rNe:R2:=fun x y H Q=>zuO x y=true/\Q (.bl (!decide (x=y))) H
theorem zow {i j:Int}:decide (V.int i=V.int j)=(i==j):=by
 rw [Bool.eq_iff_iff]
 simp
theorem zqK {i j:Bool}:decide (V.bl i=V.bl j)=(i==j):=by
 rw [Bool.eq_iff_iff]
 simp
theorem zov {i j:Str}:decide (V.str i=V.str j)=(i==j):=by
 rw [Bool.eq_iff_iff]
 simp
theorem zox {i j:Array UInt8}:decide (V.byt i=V.byt j)=(i.toList==j.toList):=by
 rw [Bool.eq_iff_iff]
 cases i
 cases j
 simp
section
variable {X:Cx} {a b c:Expr} {ta tb tc:TE} {pos:Pos}
theorem zbA {pins:List (Addr×Obj)} {σ:St} {H:Hp} {s:Shared} {Q:VK} {k k':Bool} (I:Inv X pins σ H s) (q:Q (.bl k) H) (e:k=k'):EP X pins σ Q (.bool k') s:=by
 subst e
 exact ⟨.bl k,H,I,rfl,q⟩
theorem zu6:OpR X (compareOp .Eq) rEq:=by
 intro pins s σ H x y v u Q I rx ry h
 obtain ⟨hs,q⟩:=h
 cases x with
 | non =>
  cases rx
  cases y with
  | non=>cases ry;exact PySem.EqNone.eq_none_none (zbA I q (by simp))
  | bl j=>cases ry;exact PySem.EqNone.eq_none_bool (zbA I q (by simp))
  | int j=>obtain ⟨t',rfl⟩:=ry;exact PySem.EqNone.eq_none_int (zbA I q (by simp))
  | str j=>obtain ⟨t',rfl⟩:=ry;exact PySem.EqNone.eq_none_str (zbA I q (by simp))
  | _=>exact absurd (show false=true from hs) qp
 | bl i =>
  cases rx
  cases y with
  | non=>cases ry;exact PySem.EqNone.eq_bool_none (zbA I q (by simp))
  | bl j=>cases ry;exact eq_bool (zbA I q zqK)
  | str j=>obtain ⟨t',rfl⟩:=ry;exact PySem.EqMixed.eq_bool_str (zbA I q (by simp))
  | _=>exact absurd (show false=true from hs) qp
 | int i =>
  obtain ⟨t,rfl⟩:=rx
  cases y with
  | non=>cases ry;exact PySem.EqNone.eq_int_none (zbA I q (by simp))
  | int j=>obtain ⟨t',rfl⟩:=ry;exact eq_int (zbA I q zow)
  | str j=>obtain ⟨t',rfl⟩:=ry;exact PySem.EqMixed.eq_int_str (zbA I q (by simp))
  | _=>exact absurd (show false=true from hs) qp
 | str i =>
  obtain ⟨t,rfl⟩:=rx
  cases y with
  | non=>cases ry;exact PySem.EqNone.eq_str_none (zbA I q (by simp))
  | bl j=>cases ry;exact PySem.EqMixed.eq_str_bool (zbA I q (by simp))
  | int j=>obtain ⟨t',rfl⟩:=ry;exact PySem.EqMixed.eq_str_int (zbA I q (by simp))
  | str j=>obtain ⟨t',rfl⟩:=ry;exact eq_str (zbA I q zov)
  | _=>exact absurd (show false=true from hs) qp
 | byt i =>
  obtain ⟨t,rfl⟩:=rx
  cases y with
  | byt j=>obtain ⟨t',rfl⟩:=ry;exact PySem.W.eq_bytes (zbA I q zox)
  | _=>exact absurd (show false=true from hs) qp
 | _=>cases y <;> exact absurd (show false=true from hs) qp
theorem zu1:OpR X (compareOp .NotEq) rNe:=by
 intro pins s σ H x y v u Q I rx ry h
 obtain ⟨hs,q⟩:=h
 cases x with
 | non =>
  cases rx
  cases y with
  | non=>cases ry;exact PySem.EqNone.ne_none_none (zbA I q (by simp))
  | bl j=>cases ry;exact PySem.EqNone.ne_none_bool (zbA I q (by simp))
  | int j=>obtain ⟨t',rfl⟩:=ry;exact PySem.EqNone.ne_none_int (zbA I q (by simp))
  | str j=>obtain ⟨t',rfl⟩:=ry;exact PySem.EqNone.ne_none_str (zbA I q (by simp))
  | _=>exact absurd (show false=true from hs) qp
 | bl i =>
  cases rx
  cases y with
  | non=>cases ry;exact PySem.EqNone.ne_bool_none (zbA I q (by simp))
  | bl j=>cases ry;exact ne_bool (zbA I q (congrArg not zqK))
  | str j=>obtain ⟨t',rfl⟩:=ry;exact PySem.EqMixed.ne_bool_str (zbA I q (by simp))
  | _=>exact absurd (show false=true from hs) qp
 | int i =>
  obtain ⟨t,rfl⟩:=rx
  cases y with
  | non=>cases ry;exact PySem.EqNone.ne_int_none (zbA I q (by simp))
  | int j=>obtain ⟨t',rfl⟩:=ry;exact ne_int (zbA I q (congrArg not zow))
  | str j=>obtain ⟨t',rfl⟩:=ry;exact PySem.EqMixed.ne_int_str (zbA I q (by simp))
  | _=>exact absurd (show false=true from hs) qp
 | str i =>
  obtain ⟨t,rfl⟩:=rx
  cases y with
  | non=>cases ry;exact PySem.EqNone.ne_str_none (zbA I q (by simp))
  | bl j=>cases ry;exact PySem.EqMixed.ne_str_bool (zbA I q (by simp))
  | int j=>obtain ⟨t',rfl⟩:=ry;exact PySem.EqMixed.ne_str_int (zbA I q (by simp))
  | str j=>obtain ⟨t',rfl⟩:=ry;exact ne_str (zbA I q (congrArg not zov))
  | _=>exact absurd (show false=true from hs) qp
 | byt i =>
  obtain ⟨t,rfl⟩:=rx
  cases y with
  | byt j=>obtain ⟨t',rfl⟩:=ry;exact PySem.W.ne_bytes (zbA I q (congrArg not zox))
  | _=>exact absurd (show false=true from hs) qp
 | _=>cases y <;> exact absurd (show false=true from hs) qp
theorem zu2:OpR X (compareOp .Lt) (rI0 fun i j=>.bl (decide (i < j))):=zuu fun _ _ _ _ _ _ _ q=>lt_int q
theorem zu3:OpR X (compareOp .LtE) (rI0 fun i j=>.bl (decide (i<=j))):=zuu fun _ _ _ _ _ _ _ q=>le_int q
theorem zu4:OpR X (compareOp .Gt) (rI0 fun i j=>.bl (decide (j < i))):=zuu fun _ _ _ _ _ _ _ q=>gt_int q
theorem zu5:OpR X (compareOp .GtE) (rI0 fun i j=>.bl (decide (j<=i))):=zuu fun _ _ _ _ _ _ _ q=>ge_int q
theorem znK:OpR X (compareOp .Lt) (fun x y H Q=>∃ i j,x=.str i/\y=.str j/\Q (.bl (decide (i.cps.toList < j.cps.toList))) H):=by
 intro pins s σ H x y v u Q I rx ry h
 obtain ⟨i,j,rfl,rfl,q⟩:=h
 obtain ⟨t,rfl⟩:=rx
 obtain ⟨t',rfl⟩:=ry
 exact lt_str (zbA I q rfl)
theorem zrv:OpR X (compareOp .IsNot) (fun x y H Q=>y=.non/\Q (.bl (!decide (x=.non))) H):=by
 intro pins s σ H x y v u Q I rx ry h
 obtain ⟨rfl,q⟩:=h
 cases ry
 refine isnot_none_gen (zbA I q ?_)
 cases x <;> first
  | (cases rx;rfl)
  | (obtain ⟨t,rfl⟩:=rx;rfl)
theorem OpR.or {f:Value->Value->Sem Value} {r r':R2} (h:OpR X f r) (h':OpR X f r'):OpR X f (fun x y H Q=>r x y H Q\/r' x y H Q):=by
 intro pins s σ H x y v u Q I rx ry q
 rcases q with q | q
 ·exact h pins s σ H x y v u Q I rx ry q
 ·exact h' pins s σ H x y v u Q I rx ry q
theorem zaR (b:Expr) {op:CmpOp} (h:op≠.In:=by decide) (h2:op≠.NotIn:=by decide):behindInMarks op b=false:=by
 have e1:(op==CmpOp.In)=false:=by cases op <;> first | rfl | exact absurd rfl h
 have e2:(op==CmpOp.NotIn)=false:=by cases op <;> first | rfl | exact absurd rfl h2
 cases b <;> simp [behindInMarks,e1,e2]
theorem znG {op:CmpOp} {r:R2} (ho:OpR X (compareOp op) r) (ha:PE X a ta) (hb:PE X b tb) (hm:behindInMarks op b=false):PE X (.Compare a [op] [b] pos) (tOp r ta tb):=by
 intro pins s σ H Q I h
 exact wpAny_Compare1 (zvo ha hb I h fun v u s2 x y H2 I2 rx ry q=>ho pins s2 σ H2 x y v u Q I2 rx ry q) hm
def zsJ (t:TE):TT:=fun σ H Q=>t σ H fun x H'=>∃ k,x=.bl k/\Q k H'
theorem znv {op:CmpOp} {r:R2} (ho:OpR X (compareOp op) r) (ha:PE X a ta) (hb:PE X b tb) (hm:behindInMarks op b=false):PT X (.Compare a [op] [b] pos) (zsJ (tOp r ta tb)):=by
 intro pins s σ H Q I h
 refine wpAny_isTrue_Compare1 (thn (ha pins s σ H _ I h) fun v s1 ⟨x,H1,I1,r1,q1⟩=>thn (hb pins s1 σ H1 _ I1 q1) fun u s2 ⟨y,H2,I2,r2,q2⟩ =>
  thn (ho pins s2 σ H2 x y v u _ I2 r1 r2 q2) fun c s3 ⟨z,H3,I3,r3,k,e,q3⟩=>?_) hm
 subst e
 cases r3
 exact wpAny_truthy_bool ⟨H3,I3,q3⟩
def zm1 (r r':R2) (ta tb tc:TE):TE:=fun σ H Q=>ta σ H fun x H1=>tb σ H1 fun y H2=>r x y H2 fun z H3=>∃ k,z=.bl k /\
 (if k=true then tc σ H3 fun w' H4=>r' y w' H4 Q else Q (.bl false) H3)
theorem zps {op op':CmpOp} {r r':R2} (ho:OpR X (compareOp op) r) (ho':OpR X (compareOp op') r') (ha:PE X a ta) (hb:PE X b tb) (hc:PE X c tc)
  (hm:lastMarks [op,op'] [b,c]=false:=by with_unfolding_all rfl):PE X (.Compare a [op,op'] [b,c] pos) (zm1 r r' ta tb tc):=by
 intro pins s σ H Q I h
 refine Compare_chain (thn (ha pins s σ H _ I h) fun v s1 ⟨x,H1,I1,r1,q1⟩=>chain_link (thn (hb pins s1 σ H1 _ I1 q1) fun u s2 ⟨y,H2,I2,r2,q2⟩ =>
  thn (ho pins s2 σ H2 x y v u _ I2 r1 r2 q2) fun d s3 ⟨z,H3,I3,r3,k,e,q3⟩=>?_)) hm
 subst e
 cases r3
 refine wpAny_truthy_bool ?_
 cases k with
 | false=>exact ite_ff ⟨.bl false,H3,I3,rfl,q3⟩
 | true=>exact ite_tt (chain_last (thn (hc pins s3 σ H3 _ I3 q3) fun w' s4 ⟨z',H4,I4,r4,q4⟩=>ho' pins s4 σ H4 y z' u w' Q I4 r2 r4 q4))
theorem zpk {op op':CmpOp} {r r':R2} (ho:OpR X (compareOp op) r) (ho':OpR X (compareOp op') r') (ha:PE X a ta) (hb:PE X b tb) (hc:PE X c tc)
  (hm:lastMarks [op,op'] [b,c]=false:=by with_unfolding_all rfl):PT X (.Compare a [op,op'] [b,c] pos) (zsJ (zm1 r r' ta tb tc)):=by
 intro pins s σ H Q I h
 refine isTrue_chain (thn (ha pins s σ H _ I h) fun v s1 ⟨x,H1,I1,r1,q1⟩=>test_link (thn (hb pins s1 σ H1 _ I1 q1) fun u s2 ⟨y,H2,I2,r2,q2⟩ =>
  thn (ho pins s2 σ H2 x y v u _ I2 r1 r2 q2) fun d s3 ⟨z,H3,I3,r3,k,e,q3⟩=>?_)) hm
 subst e
 cases r3
 refine wpAny_truthy_bool ?_
 cases k with
 | false =>
  obtain ⟨k',e',q'⟩:=q3
  cases e'
  exact ite_ff ⟨H3,I3,q'⟩
 | true =>
  refine ite_tt (test_last (thn (hc pins s3 σ H3 _ I3 q3) fun w' s4 ⟨z',H4,I4,r4,q4⟩=>thn (ho' pins s4 σ H4 y z' u w' _ I4 r2 r4 q4) fun d' s5 ⟨z2,H5,I5,r5,k2,e2,q5⟩=>?_))
  subst e2
  cases r5
  exact wpAny_truthy_bool ⟨H5,I5,q5⟩
theorem zj8:(sizeLine:Nat) < 2 ^ 63:=by rw [sizeLine_eq];decide
theorem zmw:OpR X (binaryOp .Add) (fun x y H Q=>∃ i j,x=.str i/\y=.str j/\i.length+j.length<=sizeLine/\Q (.str (i++j)) H):=by
 intro pins s σ H x y v u Q I rx ry h
 obtain ⟨i,j,rfl,rfl,hz,q⟩:=h
 obtain ⟨t,rfl⟩:=rx
 obtain ⟨t',rfl⟩:=ry
 exact add_str (fun t' tk=>⟨.str (i++j),H,I.tok _,⟨_,rfl⟩,q⟩) hz
theorem zjM {x:V} {us:List Value} (r:zcb [x] us):∃ u,us=[u]/\zcN x u:=by
 cases r with
 | cons r1 r2=>cases r2;exact ⟨_,rfl,r1⟩
theorem zsE {x y:V} {us:List Value} (r:zcb [x,y] us):∃ u w',us=[u,w']/\zcN x u/\zcN y w':=by
 cases r with
 | cons r1 r2 =>
  cases r2 with
  | cons r3 r4=>cases r4;exact ⟨_,_,rfl,r1,r3⟩
theorem zoH (hc:X.calm=true):zhf X (.builtin "min") (fun xs H Q=>∃ i j,xs=[.int i,.int j]/\Q (.int (if j < i then j else i)) H):=by
 intro pins s σ H xs us Q I r h
 obtain ⟨i,j,rfl,q⟩:=h
 obtain ⟨u,w',rfl,⟨t,rfl⟩,⟨t',rfl⟩⟩:=zsE r
 refine min_two_ints (I.ok.hd hc) fun h' tk k=>⟨_,H,I.kept k,?_,q⟩
 by_cases hj:j < i
 ·rw [qR hj,qR hj];exact ⟨_,rfl⟩
 ·rw [qS hj,qS hj];exact ⟨_,rfl⟩
def zwr (K:PySem.W.Frag) (x:V) (H:Hp) (n:Nat):Prop :=
 match x with
 | .str y=>y.length<=sizeLine/\n=y.length
 | .byt y=>y.size<=sizeLine/\n=y.size
 | .ref p=>(∃ xs,SqL K H p xs/\n=xs.length)\/∃ xs,SqT K H p xs/\n=xs.length
 | _=>False
theorem zp0:zhf X (.builtin "len") (fun xs H Q=>∃ x n,xs=[x]/\zwr X.K x H n/\Q (.int n) H):=by
 intro pins s σ H xs us Q I r h
 obtain ⟨x,n,rfl,e,q⟩:=h
 obtain ⟨u,rfl,rx⟩:=zjM r
 have hl:=zj8
 have hs:sizeLine=16777216:=sizeLine_eq
 cases x with
 | str y =>
  obtain ⟨t,rfl⟩:=rx
  obtain ⟨hy,e'⟩:y.length<=sizeLine/\n=y.length:=e
  subst e'
  exact len_str (by omega) ⟨.int _,H,I.tok _,⟨_,rfl⟩,q⟩
 | byt y =>
  obtain ⟨t,rfl⟩:=rx
  obtain ⟨hy,e'⟩:y.size<=sizeLine/\n=y.size:=e
  subst e'
  exact PySem.W.len_bytes (by omega) ⟨.int _,H,I.tok _,⟨_,rfl⟩,q⟩
 | ref p =>
  cases rx
  have e':(∃ xs,SqL X.K H p xs/\n=xs.length)\/∃ xs,SqT X.K H p xs/\n=xs.length:=e
  rcases e' with ⟨xs,hx,e'⟩ | ⟨xs,hx,e'⟩
  ·subst e'
   obtain ⟨its,r',pl,hz⟩:=I.list hx
   have hlen:=r'.length
   exact Calls.call_len_list pl.isList (by simp only [qy];omega) ⟨.int xs.length,H,I.tok _,⟨_,by simp only [qy];rw [hlen]⟩,q⟩
  ·subst e'
   obtain ⟨its,r',pl,hz⟩:=I.tuple hx
   have hlen:=r'.length
   exact len_tuple pl (by simp only [qy];omega) ⟨.int xs.length,H,I.tok _,⟨_,by simp only [qy];rw [hlen]⟩,q⟩
 | _=>exact (show False from e).elim
end
end L2
namespace L2
open PySem PySem.Spec PyProof.Rows
structure ObjM (h:Heap) (x dx C:Addr) (mA:Str->Option Value):Prop where
 obj:h.get? x=some (PySem.W.instObj C dx)
 ns:h.Ns1 dx mA
 ne:dx≠x
theorem znY {h:Heap} {dx:Addr} {mA:Str->Option Value} (n:h.Ns1 dx mA):∃ od,h.get? dx=some od/\∀ name,PySem.W.lookIn name od=some (mA name):=by
 obtain ⟨o,es,ep,ho,hd,hk,_,hm⟩:=n
 refine ⟨o,ho,fun name=>?_⟩
 have e:=hm name
 unfold nsFind findBy at e
 rw [← Array.find?_toList] at e
 unfold PySem.W.lookIn
 rw [hd]
 dsimp only
 split
 ·rename_i y q
  rw [q] at e
  exact congrArg some e
 ·rename_i q
  rw [q] at e
  have a:es.toList.any (·.refKey)=false:=by
   rw [List.any_eq_false]
   intro y hy
   obtain ⟨z,t,hkey⟩:=hk y (Array.mem_toList_iff.mp hy)
   simp [DictEntry.refKey,hkey]
  have a':¬ es.toList.any (·.refKey)=true:=by rw [a];exact qp
  rw [qS a']
  exact congrArg some e
theorem ObjM.look {h:Heap} {x dx C:Addr} {mA:Str->Option Value} (I:ObjM h x dx C mA):∃ od,PySem.W.InstAt h x (PySem.W.instObj C dx) C (some od)/\∀ name,PySem.W.lookIn name od=some (mA name) :=
 let ⟨od,ho,hl⟩:=znY I.ns
 ⟨od,⟨I.obj,rfl,rfl,ho⟩,hl⟩
section
variable {prog:Program} {w:World} {A:Around} {E:Value->Shared->Prop} {s:Shared} {K:PySem.W.Frag} {x dx C f:Addr} {mA:Str->Option Value} {name:Str} {v:Value}
theorem zrY {expr:Bool} {Q:Value->Shared->Prop} (X:K.In s.heap) (I:ObjM s.heap x dx C mA) (hg:PySem.W.plainGet K C name=true) (hh:PySem.W.hasDictIn K C=true)
  (ha:PySem.W.findIn K (.ref C) name=some none) (hv:mA name=some v) (hv':PySem.W.handedIn v=true) (h:Q v { s with toks:=s.toks+1 }) :
  wpAny (model prog w) A (getAttr (.ref x) name expr) Q E s:=by
 obtain ⟨od,J,hl⟩:=I.look
 exact PySem.W.get_value X J (PySem.W.plainGet_of hg).1 (PySem.W.findObj_own hh ha rfl (by rw [hl,hv])) hv' h
theorem zpM {pl:Sem Bool} {Q:Value×List Value->Shared->Prop} (X:K.In s.heap) (I:ObjM s.heap x dx C mA) (hg:PySem.W.plainGet K C name=true)
  (hf:PySem.W.findIn K (.ref C) name=some (some (.ref f))) (ht:PySem.W.isFn K (.ref f)=true) (hv:mA name=none) (h:Q (.ref f,[.ref x]) s) :
  wpAny (model prog w) A (getMethod (.ref x) name pl) Q E s:=by
 obtain ⟨od,J,hl⟩:=I.look
 exact PySem.W.method_fn X J (PySem.W.plainGet_of hg).1 (PySem.W.plainGet_of hg).2 hf (beq_iff_eq.mp ht) (by show (PySem.W.lookIn name od).map (·.isSome)=some false;rw [hl,hv];rfl) h
theorem zq5 {ns:List Str} {Q:Unit->Shared->Prop} (X:K.In s.heap) (I:ObjM s.heap x dx C mA)
  (hs:PySem.W.findIn K (.ref C) "__setattr__"=some (some (.builtin "object.__setattr__"))) (hp:PySem.W.plainOver K C=true) (ht:PySem.W.takerIn K C name=some none) (hh:PySem.W.hasDictIn K C=true)
  (hw:PySem.Within mA ns) (hsz:ns.length<=sizeLine)
  (h:∀ h',ObjM h' x dx C (fun y=>if y=name then some v else mA y)->Heap.SameBut dx s.heap h'->Q () { s with heap:=h',toks:=s.toks+2 }) :
  wpAny (model prog w) A (setAttr (.ref x) name v) Q E s:=by
 obtain ⟨od,J,hl⟩:=I.look
 refine PySem.W.set_plain X J hs (PySem.W.osa_open (s:={ s with toks:=s.toks+1 }) (r:=none) X J hp ht fun b=>?_)
 obtain ⟨cd,hc,hd'⟩:=PySem.W.any_some hh
 have hx:s.heap.get? x=some ⟨.ref C,some dx,.plain,#[]⟩:=I.obj
 refine qu (qx (qu (qu (wpAny_loadPart hx (qu (PySem.W.Looks.here (s:={ s with toks:=s.toks+1 }) (PySem.W.looks_clsIn X hc) ?_))))))
 rw [hd']
 refine qx (a:=some dx) (qu (qx (qu ?_)))
 refine wpAny_nsSet1 (s:={ s with toks:=s.toks+1 }) I.ns fun h' hn2 hs2=>?_
 obtain ⟨oD,esD,epD,hoD,hdD,hcD⟩:=hn2.count (PySem.Within.cons name v hw)
 refine qu (wpAny_lookBehind hoD (by rw [hdD];exact pastItsLine_dict (qH hcD (by rw [qh];omega))) ?_)
 exact qx (h _ ⟨(hs2.2 _ (Ne.symm I.ne)).trans I.obj,hn2,I.ne⟩ hs2)
theorem zpy {R:Result->Shared->Prop} {vs:List Value} {kw:List (Str×Value)} (X:K.In s.heap) (hm:PySem.W.makesIn K C=true)
  (hi:PySem.W.findIn K (.ref C) "__init__"=some (some (.ref f))) (hf:PySem.W.typeIn K (.ref f)=some (.type "function"))
  (h:codeAny (model prog w) (A.under (.builtin "type.__call__" ⟨.ref C::vs,kw⟩)) (.call (.ref f) ⟨.ref (s.heap.objs.size+1)::vs,kw⟩) (PySem.W.InitBack (s.heap.objs.size+1) R)
   { s with heap:=(s.heap.push PySem.W.emptyDict).push (PySem.W.instObj C s.heap.objs.size) }) :
  codeAny (model prog w) A (.call (.ref C) ⟨vs,kw⟩) R s:=by
 obtain ⟨hh,g,d,t,os⟩:=s
 exact PySem.W.make_core (PySem.W.makes_of X hm) (PySem.W.looks_findIn X hi) (fun self=>PySem.W.bind_fn X self hf) (.inl rfl) h
end
def zjI (f:Str) (v:V):List (Str×V)->List (Str×V)
 | []=>[(f,v)]
 | (g,x)::r=>if g=f then (g,v)::r else (g,x)::zjI f v r
theorem zhH (f g:Str) (v:V):∀ fs:List (Str×V),(zjI f v fs).lookup g=if g=f then some v else fs.lookup g
 | []=>by
  show List.lookup g [(f,v)]=_
  by_cases h:g=f
  ·have hb:(g==f)=true:=beq_iff_eq.mpr h
   simp only [List.lookup,hb,qR h]
  ·have hb:(g==f)=false:=beq_eq_false_iff_ne.mpr h
   simp only [List.lookup,hb,qS h]
 | (k,x)::r=>by
  have ih:=zhH f g v r
  rw [show zjI f v ((k,x)::r)=(if k=f then (k,v)::r else (k,x)::zjI f v r) from rfl]
  by_cases hk:k=f
  ·rw [qR hk]
   by_cases h:g=k
   ·have hb:(g==k)=true:=beq_iff_eq.mpr h
    simp only [List.lookup,hb,qR (h.trans hk)]
   ·have hb:(g==k)=false:=beq_eq_false_iff_ne.mpr h
    simp only [List.lookup,hb,qS (fun e:g=f=>h (e.trans hk.symm))]
  ·rw [qS hk]
   by_cases h:g=k
   ·have hb:(g==k)=true:=beq_iff_eq.mpr h
    simp only [List.lookup,hb,qS (fun e:g=f=>hk (h.symm.trans e))]
   ·have hb:(g==k)=false:=beq_eq_false_iff_ne.mpr h
    simp only [List.lookup,hb]
    exact ih
theorem zhL (f:Str) (v:V):∀ fs:List (Str×V),f∈(zjI f v fs).map (·.1)/\∀ g,g∈fs.map (·.1)->g∈(zjI f v fs).map (·.1)
 | []=>⟨by simp [zjI],fun g h=>by simp at h⟩
 | (k,x)::r=>by
  obtain ⟨i1,i2⟩:=zhL f v r
  rw [show zjI f v ((k,x)::r)=(if k=f then (k,v)::r else (k,x)::zjI f v r) from rfl]
  by_cases hk:k=f
  ·rw [qR hk]
   subst hk
   exact ⟨by simp,fun g h=>by simpa using h⟩
  ·rw [qS hk]
   refine ⟨?_,fun g h=>?_⟩
   ·rw [ql]
    exact qg _ i1
   ·rw [ql] at h ⊢
    rcases List.mem_cons.mp h with e | e
    ·exact List.mem_cons.mpr (.inl e)
    ·exact qg _ (i2 g e)
theorem zhK (f:Str) (v:V):∀ fs:List (Str×V),(zjI f v fs).length<=fs.length+1
 | []=>by simp [zjI]
 | (k,x)::r=>by
  have ih:=zhK f v r
  rw [show zjI f v ((k,x)::r)=(if k=f then (k,v)::r else (k,x)::zjI f v r) from rfl]
  by_cases hk:k=f
  ·rw [qR hk,qh,qh];omega
  ·rw [qS hk,qh,qh];omega
theorem zmQ.some_of {v:V} {o:Option Value} (r:zmQ (some v) o):∃ u,o=some u/\zcN v u:=by
 cases o with
 | none=>exact (show False from r).elim
 | some u=>exact ⟨u,rfl,r⟩
theorem zmQ.none_of {o:Option Value} (r:zmQ none o):o=none:=by
 cases o with
 | none=>rfl
 | some u=>exact (show False from r).elim
theorem zod {v:V} {u:Value} (r:zcN v u):PySem.W.handedIn u=true:=by
 cases v with
 | non=>cases (show u=Value.none from r);rfl
 | bl b=>cases (show u=Value.bool b from r);rfl
 | int i=>obtain ⟨t,e⟩:=(show ∃ t,u=Value.int i t from r);cases e;rfl
 | str x=>obtain ⟨t,e⟩:=(show ∃ t,u=Value.str x t from r);cases e;rfl
 | byt b=>obtain ⟨t,e⟩:=(show ∃ t,u=Value.bytes b t from r);cases e;rfl
 | flt b=>obtain ⟨t,e⟩:=(show ∃ t,u=Value.float b t from r);cases e;rfl
 | ref a=>cases (show u=Value.ref a from r);rfl
 | ty n=>cases (show u=Value.type n from r);rfl
section
variable {P:Program} {w:World} {H H':Hp} {h h':Heap} {a C dx:Addr} {fs fs':List (Str×V)}
theorem zjh (hok:HOk P w H h) (e:H a=some (.ins C dx fs)):∃ mA,ObjM h a dx C mA/\(∀ f,zmQ (fs.lookup f) (mA f))/\PySem.Within mA (fs.map (·.1))/\fs.length<=1000/\H dx=some (.own a):=by
 obtain ⟨d,z,ne,ob,mA,n,r,q⟩:=(show zdb P w H h a (.ins C dx fs) from hok a _ e)
 exact ⟨mA,⟨ob,n,ne⟩,r,q,z,d⟩
end
structure Cls (K:PySem.W.Frag) (C:Addr):Prop where
 pg:PySem.W.plainGet K C Str.empty=true
 hd:PySem.W.hasDictIn K C=true
 po:PySem.W.plainOver K C=true
 sa:PySem.W.findIn K (.ref C) "__setattr__"=some (some (.builtin "object.__setattr__"))
theorem Cls.get {K:PySem.W.Frag} {C:Addr} (c:Cls K C) (f:Str):PySem.W.plainGet K C f=true:=c.pg
def zfd (K:PySem.W.Frag) (C:Addr) (f:Str):Prop:=PySem.W.findIn K (.ref C) f=some none
theorem zfd.taker {K:PySem.W.Frag} {C:Addr} {f:Str} (n:zfd K C f):PySem.W.takerIn K C f=some none:=by
 unfold PySem.W.takerIn
 rw [show PySem.W.findIn K (.ref C) f=some none from n]
 rfl
structure Con (K:PySem.W.Frag) (C:Addr) (f:Str) (v:V) (u:Value):Prop where
 at_:PySem.W.findIn K (.ref C) f=some (some u)
 rel:zcN v u
 get:PySem.W.specialIn K u "__get__"=some none
 cp:PySem.W.copiedNames.contains f=false
structure Meth (K:PySem.W.Frag) (C:Addr) (m:Str) (f:Addr):Prop where
 at_:PySem.W.findIn K (.ref C) m=some (some (.ref f))
 fn:PySem.W.isFn K (.ref f)=true
 kp:PySem.W.keepIn K (.ref f)=true
section
variable {X:Cx} {pins:List (Addr×Obj)} {σ:St} {H:Hp} {s:Shared} {a C dx:Addr} {fs:List (Str×V)} {f:Str} {v:V} {A:Around} {E:Value->Shared->Prop}
theorem zmD {b:Bool} {Q:Value->Shared->Prop} (I:Inv X pins σ H s) (e:H a=some (.ins C dx fs)) (c:Cls X.K C) (n:zfd X.K C f) (l:fs.lookup f=some v)
  (h:∀ u s',Inv X pins σ H s'->zcN v u->Q u s'):wpAny (model X.prog X.w) A (getAttr (.ref a) f b) Q E s:=by
 obtain ⟨mA,O,r,_,_,_⟩:=zjh I.hok e
 obtain ⟨u,hu,ru⟩:=zmQ.some_of (v:=v) (o:=mA f) (by rw [← l];exact r f)
 exact zrY I.kIn O (c.get f) c.hd n hu (zod ru) (h u _ (I.tok _) ru)
theorem zgw {m:Str} {g:Addr} {pl:Sem Bool} {Q:Value×List Value->Shared->Prop} (I:Inv X pins σ H s) (e:H a=some (.ins C dx fs)) (c:Cls X.K C) (k:Meth X.K C m g) (l:fs.lookup m=none)
  (h:Q (.ref g,[.ref a]) s):wpAny (model X.prog X.w) A (getMethod (.ref a) m pl) Q E s:=by
 obtain ⟨mA,O,r,_,_,_⟩:=zjh I.hok e
 have hn:mA m=none:=zmQ.none_of (by rw [← l];exact r m)
 exact zpM I.kIn O (c.get m) k.at_ k.fn hn h
theorem zmj {y:V} {u:Value} {Q:Unit->Shared->Prop} (I:Inv X pins σ H s) (e:H a=some (.ins C dx fs)) (c:Cls X.K C) (n:zfd X.K C f) (hl:fs.length < 1000) (ry:zcN y u)
  (h:∀ s',Inv X pins σ (upd H a (.ins C dx (zjI f y fs))) s'->Q () s'):wpAny (model X.prog X.w) A (setAttr (.ref a) f u) Q E s:=by
 obtain ⟨mA,O,r,wi,_,ho⟩:=zjh I.hok e
 have hz:(fs.map (·.1)).length<=sizeLine:=by rw [qe,sizeLine_eq];omega
 refine zq5 I.kIn O c.sa c.po n.taker c.hd wi hz fun h' O' sb=>h _ ?_
 have hd:∃ o,h'.get? dx=some o:=let ⟨o,_,_,e',_⟩:=O'.ns;⟨o,e'⟩
 refine I.write (x:=a) (e:=dx) (by rw [e];exact True.intro) (.inr ho) (fun b q hb z=>(sb.2 b hb).trans z) hd ?_
 refine ⟨by rw [zaF O.ne];exact ho,?_,O.ne,O'.obj,_,O'.ns,fun g=>?_,fun g hg=>?_⟩
 ·have:=zhK f y fs;omega
 ·show zmQ ((zjI f y fs).lookup g) (if g=f then some u else mA g)
  rw [zhH]
  by_cases q:g=f
  ·rw [qR q,qR q];exact ry
  ·rw [qS q,qS q];exact r g
 ·by_cases q:g=f
  ·rw [q];exact (zhL f y fs).1
  ·refine (zhL f y fs).2 g (wi g fun z=>hg ?_)
   show (if g=f then some u else mA g)=none
   rw [qS q];exact z
theorem Inv.made (I:Inv X pins σ H s):Inv X pins σ (upd (upd H s.heap.objs.size (.own (s.heap.objs.size+1))) (s.heap.objs.size+1) (.ins C s.heap.objs.size []))
  { s with heap:=(s.heap.push PySem.W.emptyDict).push (PySem.W.instObj C s.heap.objs.size) }:=by
 have e1:(s.heap.push PySem.W.emptyDict).get? s.heap.objs.size=some PySem.W.emptyDict:=qC s.heap rfl
 have e2:((s.heap.push PySem.W.emptyDict).push (PySem.W.instObj C s.heap.objs.size)).get? (s.heap.objs.size+1)=some (PySem.W.instObj C s.heap.objs.size):=by
  have:=qC (s.heap.push PySem.W.emptyDict) (o:=PySem.W.instObj C s.heap.objs.size) rfl
  rwa [Heap.size_push] at this
 have e3:(s.heap.push PySem.W.emptyDict).Ns s.heap.objs.size (fun _=>none):=⟨PySem.W.emptyDict,#[],_,e1,rfl,(fun e he=>absurd he (by simp)),fun _=>rfl⟩
 have I1:=I.laid (a:=s.heap.objs.size) (o:=.own (s.heap.objs.size+1)) (h':=s.heap.push PySem.W.emptyDict) (t':=s.toks) (fun b u q=>qq _ q) (qt _) ⟨_,e1⟩
 refine I1.laid (a:=s.heap.objs.size+1) (o:=.ins C s.heap.objs.size []) (t':=s.toks) (fun b u q=>qq _ q) (Nat.le_of_eq (Heap.size_push _ _)) ?_
 have ne:s.heap.objs.size≠s.heap.objs.size+1:=qz (Nat.lt_succ_self _)
 refine ⟨by rw [zaF ne,zaL],Nat.zero_le _,ne,e2,fun _=>none,(Heap.Ns1.of_empty e3).at fun o q=>qq _ q,fun _=>True.intro,fun y hy=>absurd rfl hy⟩
theorem zsk {prog:Program} {w:World} {env:Env} {e:Expr} {f:Str} {pos:Pos} {s:Shared} {Q:Value->Shared->Prop} (hb:attributeBase e f env (eval e env)=eval e env)
  (h:wpAny (model prog w) A (eval e env) (fun o s₁=>wpAny (model prog w) A (getAttr o f true) Q E s₁) E s):wpAny (model prog w) A (eval (.Attribute e f pos) env) Q E s :=
 Attribute_any_ h (by rw [arm_eval_Attribute,hb])
end
def zv4 (K:PySem.W.Frag) (ta:TE) (f:Str):TE:=fun σ H Q=>ta σ H fun x H1=>∃ a C dx fs v,x=.ref a/\H1 a=some (.ins C dx fs)/\Cls K C/\zfd K C f/\fs.lookup f=some v/\Q v H1
def zv9 (K:PySem.W.Frag) (ta tv:TE) (f:Str):TS:=fun D σ H=>tv σ H fun y H1=>ta σ H1 fun x H2=>∃ a C dx fs,x=.ref a/\H2 a=some (.ins C dx fs)/\Cls K C/\zfd K C f/\fs.length < 1000 /\
 D.nx σ (upd H2 a (.ins C dx (zjI f y fs)))
section
variable {X:Cx} {o e value:Expr} {f:Str} {pos pos' tpos:Pos} {ta tv:TE}
theorem znF (he:PE X e ta) (hb:attributeBase e f X.env (eval e X.env)=eval e X.env):PE X (.Attribute e f pos) (zv4 X.K ta f):=by
 intro pins s σ H Q I h
 refine zsk hb (thn (he pins s σ H _ I h) fun u s1 ⟨x,H1,I1,rx,a,C,dx,fs,v,ex,ea,c,n,l,q⟩=>?_)
 subst ex
 obtain rfl:u=Value.ref a:=rx
 exact zmD I1 ea c n l fun u' s2 I2 ru=>⟨v,H1,I2,ru,q⟩
theorem zqo (ha:PE X o ta) (hv:PE X value tv) (hs:swapsWith value (some (.Attribute o f pos')) pos.line X.env=pure false):PS X (.Assign [.Attribute o f pos'] value pos) (zv9 X.K ta tv f):=by
 intro pins s σ H D I h
 refine plainObj_wpAny_Assign_Attribute (thn (hv pins s σ H _ I h) fun u s1 ⟨y,H1,I1,ry,q⟩=>thn (ha pins s1 σ H1 _ I1 q) fun ov s2 ⟨x,H2,I2,rx,a,C,dx,fs,ex,ea,c,n,l,q2⟩=>?_) hs
 subst ex
 obtain rfl:ov=Value.ref a:=rx
 exact zmj I2 ea c n l ry fun s3 I3=>⟨σ,_,I3,q2⟩
theorem zrH {pl:Sem Bool} {m:Str} {apos:Pos} {args:List Expr} {pins:List (Addr×Obj)} {s:Shared} {σ:St} {H:Hp} {Q:Value->Shared->Prop} {te:TE} (he:PE X e te) (I:Inv X pins σ H s)
  (h:te σ H fun x H1=>∃ a C dx fs g,x=.ref a/\H1 a=some (.ins C dx fs)/\Cls X.K C/\Meth X.K C m g/\fs.lookup m=none /\
   ∀ s1,Inv X pins σ H1 s1->wpAny (model X.prog X.w) X.A (callWith pos (.ref g) [.ref a] (backTo pos (starEach args X.env)) (backToKw pos (keywordEach [] X.env))) Q X.xe s1)
  (ht:eval (.Call (.Attribute e m apos) args [] pos) X.env=(do
   let ov ← eval e X.env
   standAt apos.atName
   let (f,first) ← holding [ov] (getMethod ov m pl)
   callWith pos f first (backTo pos (starEach args X.env)) (backToKw pos (keywordEach [] X.env)))) :
  wpAny (model X.prog X.w) X.A (eval (.Call (.Attribute e m apos) args [] pos) X.env) Q X.xe s:=by
 refine PySem.W.methodCall_KW (pl:=pl) (thn (he pins s σ H _ I h) fun u s1 ⟨x,H1,I1,rx,a,C,dx,fs,g,ex,ea,c,k,l,q⟩=>?_) ht
 subst ex
 obtain rfl:u=Value.ref a:=rx
 exact zgw I1 ea c k l (q s1 I1)
end
section
variable {X:Cx} {pins:List (Addr×Obj)} {σ:St} {H:Hp} {s:Shared} {A:Around} {E:Value->Shared->Prop} {Q:Value->Shared->Prop} {c:Value} {b:Bool}
inductive TyOf (K:PySem.W.Frag) (H:Hp):V->Value->Prop where
 | non:TyOf K H .non (.type "NoneType")
 | bl (x:Bool):TyOf K H (.bl x) (.type "bool")
 | int (i:Int):TyOf K H (.int i) (.type "int")
 | str (x:Str):TyOf K H (.str x) (.type "str")
 | flt (x:UInt64):TyOf K H (.flt x) (.type "float")
 | lst {a:Addr} {xs:List V} (e:H a=some (.lst xs)):TyOf K H (.ref a) (.type "list")
 | frz {a:Addr} {o:Obj} {xs:List V} (e:H a=some (.frz o (.lst xs))):TyOf K H (.ref a) (.type "list")
 | tup {a:Addr} {xs:List V} (e:H a=some (.tup xs)):TyOf K H (.ref a) (.type "tuple")
 | dK {a:Addr} {kvs:List (Key×V)} (e:H a=some (.dK kvs)):TyOf K H (.ref a) (.type "dict")
 | dT {a:Addr} {kvs:List (List Key×V)} (e:H a=some (.dT kvs)):TyOf K H (.ref a) (.type "dict")
 | ins {a C dx:Addr} {fs:List (Str×V)} (e:H a=some (.ins C dx fs)) (cl:Cls K C) (ha:PySem.W.findIn K (.ref C) "__class__"=some (some (.builtin "object.__class__")))
   (hn:PySem.W.specialIn K (.builtin "object.__class__") "__get__"=some (some (.builtin "getset_descriptor.__get__"))) (htk:PySem.W.takesIn K (.builtin "object.__class__")=some true)
   (hm:PySem.W.mroIn K C (.type "object")=some true):TyOf K H (.ref a) (.ref C)
theorem zoa {x:V} {u t:Value} (I:Inv X pins σ H s) (rx:zcN x u) (ty:TyOf X.K H x t) (e:PySem.W.kitOne X.K t c=some b) (h:∀ tk,Q (.bool b) { s with toks:=tk }) :
  wpAny (model X.prog X.w) A (call (.builtin "isinstance") [u,c]) Q E s:=by
 cases ty with
 | non=>cases (show u=Value.none from rx);exact PySem.W.kia_one PySem.W.kitx_none I.kIn True.intro e (fun z=>nomatch z) h
 | bl y=>cases (show u=Value.bool y from rx);exact PySem.W.kia_one PySem.W.kitx_bool I.kIn True.intro e (fun z=>nomatch z) h
 | int i=>obtain ⟨t,q⟩:=(show ∃ t,u=Value.int i t from rx);cases q;exact PySem.W.kia_one PySem.W.kitx_int I.kIn True.intro e (fun z=>nomatch z) h
 | str y=>obtain ⟨t,q⟩:=(show ∃ t,u=Value.str y t from rx);cases q;exact PySem.W.kia_one PySem.W.kitx_str I.kIn True.intro e (fun z=>nomatch z) h
 | flt y=>obtain ⟨t,q⟩:=(show ∃ t,u=Value.float y t from rx);cases q;exact PySem.W.kia_one PySem.W.kitx_float I.kIn True.intro e (fun z=>nomatch z) h
 | @lst a xs ea =>
  cases (show u=Value.ref a from rx)
  obtain ⟨_,_,n,_,h1⟩:=(show zdb X.prog X.w H s.heap a (.lst xs) from I.hok a _ ea)
  exact PySem.W.kia_one PySem.W.kitx_list I.kIn ⟨_,h1,rfl⟩ e (fun z=>nomatch z) h
 | @frz a ob xs ea =>
  cases (show u=Value.ref a from rx)
  obtain ⟨_,_,_,n,_,h1⟩:=(show zdb X.prog X.w H s.heap a (.frz ob (.lst xs)) from I.hok a _ ea)
  exact PySem.W.kia_one PySem.W.kitx_list I.kIn ⟨_,h1,rfl⟩ e (fun z=>nomatch z) h
 | @tup a xs ea =>
  cases (show u=Value.ref a from rx)
  obtain ⟨_,_,_,p⟩:=(show zdb X.prog X.w H s.heap a (.tup xs) from I.hok a _ ea)
  obtain ⟨o,h1,h2,_⟩:=p
  exact PySem.W.kia_one PySem.W.kitx_tuple I.kIn ⟨o,h1,h2⟩ e (fun z=>nomatch z) h
 | @dK a kvs ea =>
  cases (show u=Value.ref a from rx)
  obtain ⟨_,_,vs,_,p⟩:=(show zdb X.prog X.w H s.heap a (.dK kvs) from I.hok a _ ea)
  obtain ⟨o,es,ep,h1,h2,_⟩:=p
  exact PySem.W.kia_one PySem.W.kitx_dict I.kIn ⟨o,h1,h2.1⟩ e (fun z=>nomatch z) h
 | @dT a kvs ea =>
  cases (show u=Value.ref a from rx)
  obtain ⟨_,_,xs,_,o,es,ep,h1,h2,_⟩:=(show zdb X.prog X.w H s.heap a (.dT kvs) from I.hok a _ ea)
  exact PySem.W.kia_one PySem.W.kitx_dict I.kIn ⟨o,h1,h2.1⟩ e (fun z=>nomatch z) h
 | @ins a C dx fs ea cl ha hn htk hm =>
  cases (show u=Value.ref a from rx)
  obtain ⟨mA,O,_⟩:=zjh I.hok ea
  obtain ⟨od,J,_⟩:=O.look
  exact PySem.W.kia_one (PySem.W.kitx_own (cl.get _) cl.hd ha hn htk hm) I.kIn J e (fun z=>nomatch z) h
end
end L2
namespace L2
open PySem PySem.Spec PyProof.Rows
structure Room (k:Nat) (A:Around):Prop where
 hd:A.handled=none
 dp:A.depth+3*k+5 < recursionLimit
 un:A.units+16*k+200 < cLine
theorem Room.mono {j k:Nat} {A:Around} (r:Room k A) (h:j<=k):Room j A:=⟨r.hd,by have:=r.dp;omega,by have:=r.un;omega⟩
theorem Room.deeper {k:Nat} {A:Around} (r:Room (k+1) A) (env:Env):Room k (A.deeper env) :=
 ⟨r.hd,by have:=r.dp;show A.depth+1+3*k+5 < _;omega,by have:=r.un;show A.units+3+16*k+200 < _;omega⟩
theorem zmA {A:Around} {C:Addr} {us:List Value} {kw:List (Str×Value)}:(A.under (.builtin "type.__call__" ⟨.ref C::us,kw⟩)).depth=A.depth+1:=by
 first | rfl | simp [Around.under,Code.weight,Code.isCreation,Code.isGuard,Code.isCaller,Code.frames,Code.isFrame,guardIds]
theorem zmz {A:Around} {C:Addr} {us:List Value} {kw:List (Str×Value)}:(A.under (.builtin "type.__call__" ⟨.ref C::us,kw⟩)).units=A.units+1:=by
 first | rfl | simp [Around.under,Code.cUnits,Code.frames,Code.isFrame]
theorem Room.make {k:Nat} {A:Around} (r:Room (k+1) A) (C:Addr) (us:List Value) (kw:List (Str×Value)):Room k (A.under (.builtin "type.__call__" ⟨.ref C::us,kw⟩)) :=
 ⟨r.hd,by have:=r.dp;rw [zmA];omega,by have:=r.un;rw [zmz];omega⟩
theorem Room.depth {k:Nat} {A:Around} (r:Room k A):A.depth < recursionLimit:=by have:=r.dp;omega
def zvB:TA:=fun _ H Q=>Q [] H
def zuK (ta:TE) (tr:TA):TA:=fun σ H Q=>ta σ H fun x H1=>tr σ H1 fun xs H2=>Q (x::xs) H2
section
variable {X:Cx} {e:Expr} {es:List Expr} {te:TE} {t:TA} {pos:Pos}
theorem ziJ:PA X [] zvB:=fun _ _ _ _ H Q I h=>Calls.spliced_nil ⟨[],H,I,.nil,h⟩
theorem zeH (ha:PE X e te) (hr:PA X es t) (hs:starEach (e::es) X.env=(false,eval e X.env)::starEach es X.env:=by rfl):PA X (e::es) (zuK te t):=by
 intro pos pins s σ H Q I h
 rw [hs]
 show wpAny _ _ (spliced ((false,eval e X.env)::backTo pos (starEach es X.env))) _ _ s
 refine Calls.spliced_cons (thn (ha pins s σ H _ I h) fun u s1 ⟨x,H1,I1,r1,q1⟩=>?_)
 exact thn (hr pos pins s1 σ H1 _ I1 q1) fun us s2 ⟨xs,H2,I2,r2,q2⟩=>⟨x::xs,H2,I2,.cons r1 r2,q2⟩
def zvX (t:TA):TE:=fun σ H Q=>t σ H fun xs H1=>xs.length<=sizeLine/\∀ p,H1 p=none->Q (.ref p) (upd H1 p (.tup xs))
def zv1 (t:TA):TE:=fun σ H Q=>t σ H fun xs H1=>xs.length<=sizeLine/\∀ p,H1 p=none->Q (.ref p) (upd H1 p (.lst xs))
theorem zqs {x1} (h:PA X es t):PE X (.Tuple es x1 pos) (zvX t):=by
 intro pins s σ H Q I hq
 refine wpAny_Tuple_spliced (thn (h pos pins s σ H _ I hq) fun us s1 ⟨xs,H1,I1,r,z,q⟩=>⟨by rw [← r.length];exact z,?_⟩)
 have hf:H1 s1.heap.objs.size=none:=I1.hok.fresh (qt _)
 refine ⟨.ref s1.heap.objs.size,upd H1 s1.heap.objs.size (.tup xs),I1.laid (t':=s1.toks) (fun b u e=>qq _ e) (qt _) ?_,rfl,q _ hf⟩
 exact ⟨z,us,r,⟨_,qC _ rfl,rfl,_,rfl⟩⟩
theorem zqt (h:PA X es t):PE X (.List es pos) (zv1 t):=by
 intro pins s σ H Q I hq
 refine wpAny_List_spliced (thn (h pos pins s σ H _ I hq) fun us s1 ⟨xs,H1,I1,r,z,q⟩=>⟨by rw [← r.length];exact z,?_⟩)
 have hf:H1 s1.heap.objs.size=none:=I1.hok.fresh (qt _)
 refine ⟨.ref s1.heap.objs.size,upd H1 s1.heap.objs.size (.lst xs),I1.laid (t':=s1.toks) (fun b u e=>qq _ e) (qt _) ?_,rfl,q _ hf⟩
 exact ⟨z,us,0,r,qC _ rfl⟩
end
abbrev Sp:=List V->Hp->VK->XK->Prop
abbrev CXT:=List Env->Hp->Shared->XK->Value->Shared->Prop
structure Env0 (P:Program) (w:World) (K:PySem.W.Frag) (mg:Str->Option Value) (base:Heap) (A:Around) (outer:List Env) (s:Shared) (H:Hp):Prop where
 frames:A.frames=some outer
 mod:Mod K mg base
 bs:∀ b o,base.get? b=some o->s.heap.get? b=some o/\H b=none
 bsz:base.objs.size<=s.heap.objs.size
 funs:s.heap.FunFrames base outer
 frf:∀ b∈frs outer,H b=none
 hok:HOk P w H s.heap
 bare:AllBare s.gens
def CE (outer:List Env) (P:Program) (w:World) (H:Hp) (s:Shared) (Q:VK) (u:Value) (s':Shared):Prop :=
 ∃ v H',s'.os=s.os/\AllBare s'.gens/\Un (frs outer) [] H H' s.heap s'.heap/\HOk P w H' s'.heap/\zcN v u/\Q v H'
def CR (CX:CXT) (outer:List Env) (P:Program) (w:World) (H:Hp) (s:Shared) (Q:VK) (E:XK) (r:Result) (s':Shared):Prop :=
 match r with
 | .ok (.ret u)=>CE outer P w H s Q u s'
 | .ok _=>False
 | .error e=>CX outer H s E e s'
structure FnOk (P:Program) (w:World) (K:PySem.W.Frag) (mg:Str->Option Value) (base:Heap) (CX:CXT) (k:Nat) (f:Addr) (fd:FuncData) (ps:List Str) (sp:Sp):Prop where
 len:∀ vs H Q E,sp vs H Q E->vs.length=ps.length
 run:∀ (A:Around) (outer:List Env) (s:Shared) (H:Hp) (args:Args) (us:List Value) (vs:List V) (Q:VK) (E:XK),Room k A->Env0 P w K mg base A outer s H->BindsTo s fd args (ps.zip us)->zcb vs us->sp vs H Q E ->
  codeAny (model P w) A (.call (.ref f) args) (CR CX outer P w H s Q E) s
theorem FnOk.imp {P:Program} {w:World} {K:PySem.W.Frag} {mg:Str->Option Value} {base:Heap} {CX:CXT} {k:Nat} {f:Addr} {fd:FuncData} {ps:List Str} {sp sp':Sp} (F:FnOk P w K mg base CX k f fd ps sp)
  (h:∀ vs H Q E,sp' vs H Q E->sp vs H Q E):FnOk P w K mg base CX k f fd ps sp' :=
 ⟨fun vs H Q E q=>F.len vs H Q E (h _ _ _ _ q),fun A outer s H args us vs Q E hr he hb hv hs=>F.run A outer s H args us vs Q E hr he hb hv (h _ _ _ _ hs)⟩
theorem Env0.make {P:Program} {w:World} {K:PySem.W.Frag} {mg:Str->Option Value} {base:Heap} {A:Around} {outer:List Env} {s:Shared} {H:Hp} (e:Env0 P w K mg base A outer s H) (C:Addr) (us:List Value) (kw:List (Str×Value)) :
  Env0 P w K mg base (A.under (.builtin "type.__call__" ⟨.ref C::us,kw⟩)) outer s H:=⟨by first | exact e.frames | (simpa [Around.under,Code.envs,Code.isFrame,pushEnvs] using e.frames),e.mod,e.bs,e.bsz,e.funs,e.frf,e.hok,e.bare⟩
section
variable {X:Cx} {pins:List (Addr×Obj)} {σ:St} {H:Hp} {s s':Shared}
theorem Inv.env0 (I:Inv X pins σ H s):Env0 X.prog X.w X.K X.mg X.base X.A X.stack s H :=
 ⟨I.ok.frames,I.ok.mod,I.bs,qH I.ok.bsz I.sz,I.stack,I.stkFree,I.hok,I.bare⟩
theorem Inv.after {Q:VK} {u:Value} (I:Inv X pins σ H s) (h:CE X.stack X.prog X.w H s Q u s'):EP X pins σ Q u s':=by
 obtain ⟨v,H',os,bare,un,hok,r,q⟩:=h
 obtain ⟨hh,g,d,t,os'⟩:=s'
 obtain rfl:os'=s.os:=os
 exact ⟨v,H',I.call (h':=hh) (g':=g) (d':=d) (t':=t) (ch:=[]) un hok bare (fun b z=>absurd z (by simp)),r,q⟩
end
def zuL (sp:Sp) (dvs:List V) (E:XK) (t:TA):TE:=fun σ H Q=>t σ H fun vs H1=>sp (vs++dvs) H1 Q E
def zsK (C:Addr) (m:Str) (sp:Sp) (dvs:List V) (E:XK) (ta:TE) (t:TA):TE:=fun σ H Q=>ta σ H fun x H1=>∃ a dx fs,x=.ref a/\H1 a=some (.ins C dx fs)/\fs.lookup m=none /\
 t σ H1 fun vs H2=>sp (x::(vs++dvs)) H2 Q E
def zuI (C:Addr) (sp:Sp) (dvs:List V) (E:XK) (t:TA):TE:=fun σ H Q=>t σ H fun vs H1=>∀ x dx,H1 x=none->H1 dx=none->dx≠x ->
 sp (.ref x::(vs++dvs)) (upd (upd H1 dx (.own x)) x (.ins C dx [])) (fun v H2=>v=.non/\Q (.ref x) H2) E
def zdG (K:PySem.W.Frag) (fd:FuncData) (ps:List Str) (ds:List Value):Prop :=
 ∀ (s:Shared) (us:List Value),K.In s.heap->(us++ds).length=ps.length->BindsTo s fd ⟨us,[]⟩ (ps.zip (us++ds))
theorem zdG.all {K:PySem.W.Frag} {fd:FuncData} {ps:List Str} (h:∀ us:List Value,us.length=ps.length->bindArgs fd ⟨us,[]⟩=pure (ps.zip us)):zdG K fd ps []:=fun s us _ hl=>by
 rw [List.append_nil] at hl ⊢
 exact .of_eq (h us hl)
def zh3 (CX:CXT) (X:Cx) (E:XK):Prop:=∀ (pins:List (Addr×Obj)) (σ:St) (H:Hp) (s:Shared) (e:Value) (s':Shared),Inv X pins σ H s->CX X.stack H s E e s'->X.xe e s'
section
variable {X:Cx} {CX:CXT} {k:Nat} {f C:Addr} {fd:FuncData} {ps:List Str} {sp:Sp} {dvs:List V} {ds:List Value} {E:XK} {x m:Str} {p pos apos:Pos} {e o:Expr} {es:List Expr} {ta:TE} {t:TA}
theorem znn {pins:List (Addr×Obj)} {σ:St} {H:Hp} {s:Shared} {Q:VK} {us:List Value} {vs:List V} (F:FnOk X.prog X.w X.K X.mg X.base CX k f fd ps sp) (hr:Room k X.A) (hb:zdG X.K fd ps ds) (hd:zcb dvs ds) (hx:zh3 CX X E)
  (I:Inv X pins σ H s) (r:zcb vs us) (h:sp (vs++dvs) H Q E):wpAny (model X.prog X.w) X.A (call (.ref f) us) (EP X pins σ Q) X.xe s:=by
 have r2:zcb (vs++dvs) (us++ds):=r.append hd
 have hl:(us++ds).length=ps.length:=by rw [← r2.length];exact F.len _ _ _ _ h
 refine wpAny_call (codeAny_mono (F.run X.A X.stack s H ⟨us,[]⟩ (us++ds) (vs++dvs) Q E hr I.env0 (hb s us I.kIn hl) r2 h) fun r s' hq=>?_)
 cases r with
 | error e=>exact hx pins σ H s e s' I hq
 | ok fl =>
  cases fl with
  | ret u=>exact I.after hq
  | next=>exact False.elim hq
  | brk=>exact False.elim hq
  | cont=>exact False.elim hq
theorem zkX (F:FnOk X.prog X.w X.K X.mg X.base CX k f fd ps sp) (hr:Room k X.A) (hg:Gl X x) (hm:X.mg x=some (.ref f)) (hk:PySem.W.keepIn X.K (.ref f)=true) (hb:zdG X.K fd ps ds) (hd:zcb dvs ds) (hx:zh3 CX X E)
  (ha:PA X (e::es) t) (hdb:(x==("__debug__":Str))=false:=by decide) (he:starEach (e::es) X.env=(false,eval e X.env)::starEach es X.env:=by rfl) (hpl:(backTo pos (starEach es X.env)).any (·.1)=false:=by rfl) :
  PE X (.Call (.Name x p) (e::es) [] pos) (zuL sp dvs E t):=by
 intro pins s σ H Q I h
 refine wpAny_Call_Name_kw (zk2 I hg hm ?_ hdb)
 refine PySem.W.callWith_K (h₀:=X.base) I.ok.mod.kin hk (thn (ha pos pins s σ H _ I h) fun us s1 ⟨vs,H1,I1,r,q⟩=>⟨I1.kIn,?_⟩) he hpl
 exact znn F hr hb hd hx I1 r q
theorem zrq {pl:Sem Bool} (he:PE X o ta) (c:Cls X.K C) (hm:Meth X.K C m f) (F:FnOk X.prog X.w X.K X.mg X.base CX k f fd ps sp) (hr:Room k X.A) (hb:zdG X.K fd ps ds) (hd:zcb dvs ds) (hx:zh3 CX X E) (ha:PA X (e::es) t)
  (hst:starEach (e::es) X.env=(false,eval e X.env)::starEach es X.env:=by rfl) (hpl:(backTo pos (starEach es X.env)).any (·.1)=false:=by rfl)
  (ht:eval (.Call (.Attribute o m apos) (e::es) [] pos) X.env=(do
   let ov ← eval o X.env
   standAt apos.atName
   let (f,first) ← holding [ov] (getMethod ov m pl)
   callWith pos f first (backTo pos (starEach (e::es) X.env)) (backToKw pos (keywordEach [] X.env))):=by rfl) :
  PE X (.Call (.Attribute o m apos) (e::es) [] pos) (zsK C m sp dvs E ta t):=by
 intro pins s σ H Q I h
 refine PySem.W.methodCall_KW (pl:=pl) (thn (he pins s σ H _ I h) fun u s1 ⟨x,H1,I1,rx,a,dx,fs,ex,ea,l,q⟩=>?_) ht
 subst ex
 obtain rfl:u=Value.ref a:=rx
 refine zgw I1 ea c hm l ?_
 refine PySem.W.callWith_K (first:=[.ref a]) (h₀:=X.base) I.ok.mod.kin hm.kp (thn (ha pos pins s1 σ H1 _ I1 q) fun us s2 ⟨vs,H2,I2,r,q2⟩=>⟨I2.kIn,?_⟩) hst hpl
 exact znn (us:=.ref a::us) (vs:=.ref a::vs) F hr hb hd hx I2 (.cons rfl r) q2
theorem zpp {pl:Sem Bool} (he:PE X o ta) (c:Cls X.K C) (hm:Meth X.K C m f) (F:FnOk X.prog X.w X.K X.mg X.base CX k f fd ps sp) (hr:Room k X.A) (hb:zdG X.K fd ps ds) (hd:zcb dvs ds) (hx:zh3 CX X E)
  (ht:eval (.Call (.Attribute o m apos) [] [] pos) X.env=(do
   let ov ← eval o X.env
   standAt apos.atName
   let (f,first) ← holding [ov] (getMethod ov m pl)
   callWith pos f first (backTo pos (starEach [] X.env)) (backToKw pos (keywordEach [] X.env))):=by rfl) :
  PE X (.Call (.Attribute o m apos) [] [] pos) (zsK C m sp dvs E ta zvB):=by
 intro pins s σ H Q I h
 refine PySem.W.methodCall_KW (pl:=pl) (thn (he pins s σ H _ I h) fun u s1 ⟨x,H1,I1,rx,a,dx,fs,ex,ea,l,q⟩=>?_) ht
 subst ex
 obtain rfl:u=Value.ref a:=rx
 refine zgw I1 ea c hm l ?_
 exact PySem.W.callWith_K0 (first:=[.ref a]) I1.kIn hm.kp (znn (us:=[.ref a]) (vs:=[.ref a]) F hr hb hd hx I1 (.cons rfl .nil) q)
structure Mk (K:PySem.W.Frag) (C f:Addr):Prop where
 makes:PySem.W.makesIn K C=true
 init:PySem.W.findIn K (.ref C) "__init__"=some (some (.ref f))
 fn:PySem.W.isFn K (.ref f)=true
 kp:PySem.W.keepIn K (.ref C)=true
theorem zpf {pins:List (Addr×Obj)} {σ:St} {H:Hp} {s:Shared} {Q:VK} {us:List Value} {vs:List V} (M:Mk X.K C f) (F:FnOk X.prog X.w X.K X.mg X.base CX k f fd ps sp) (hr:Room (k+1) X.A) (hb:zdG X.K fd ps ds) (hd:zcb dvs ds)
  (hx:zh3 CX X E) (I:Inv X pins σ H s) (r:zcb vs us)
  (h:∀ x dx,H x=none->H dx=none->dx≠x->sp (.ref x::(vs++dvs)) (upd (upd H dx (.own x)) x (.ins C dx [])) (fun v H2=>v=.non/\Q (.ref x) H2) E) :
  wpAny (model X.prog X.w) X.A (call (.ref C) us) (EP X pins σ Q) X.xe s:=by
 have hq:=h (s.heap.objs.size+1) s.heap.objs.size (I.hok.fresh (Nat.le_succ _)) (I.hok.fresh (qt _)) (qz (Nat.lt_succ_self _))
 have I2:=Inv.made (C:=C) I
 have r2:zcb (V.ref (s.heap.objs.size+1)::(vs++dvs)) (Value.ref (s.heap.objs.size+1)::(us++ds)):=.cons rfl (r.append hd)
 have hl:(Value.ref (s.heap.objs.size+1)::us++ds).length=ps.length:=by
  have e:=r2.length
  rw [F.len _ _ _ _ hq] at e
  exact e.symm
 refine wpAny_call (zpy (f:=f) I.kIn M.makes M.init (beq_iff_eq.mp M.fn) (codeAny_mono (F.run _ X.stack _ _ ⟨Value.ref (s.heap.objs.size+1)::us,[]⟩ (Value.ref (s.heap.objs.size+1)::(us++ds)) _ _ E (hr.make C us [])
  (I2.env0.make C us []) (hb _ (Value.ref (s.heap.objs.size+1)::us) I2.kIn hl) r2 hq) fun r s' hq'=>?_))
 cases r with
 | error e=>exact hx pins σ _ _ e s' I2 hq'
 | ok fl =>
  cases fl with
  | ret u =>
   obtain ⟨v,H',I3,rv,ev,q3⟩:=I2.after hq'
   subst ev
   exact ⟨rv,⟨V.ref (s.heap.objs.size+1),H',I3,rfl,q3⟩⟩
  | next=>exact False.elim hq'
  | brk=>exact False.elim hq'
  | cont=>exact False.elim hq'
theorem znE (M:Mk X.K C f) (F:FnOk X.prog X.w X.K X.mg X.base CX k f fd ps sp) (hr:Room (k+1) X.A) (hg:Gl X x) (hm:X.mg x=some (.ref C)) (hb:zdG X.K fd ps ds) (hd:zcb dvs ds) (hx:zh3 CX X E)
  (ha:PA X (e::es) t) (hdb:(x==("__debug__":Str))=false:=by decide) (he:starEach (e::es) X.env=(false,eval e X.env)::starEach es X.env:=by rfl) (hpl:(backTo pos (starEach es X.env)).any (·.1)=false:=by rfl) :
  PE X (.Call (.Name x p) (e::es) [] pos) (zuI C sp dvs E t):=by
 intro pins s σ H Q I h
 refine wpAny_Call_Name_kw (zk2 I hg hm ?_ hdb)
 refine PySem.W.callWith_K (h₀:=X.base) I.ok.mod.kin M.kp (thn (ha pos pins s σ H _ I h) fun us s1 ⟨vs,H1,I1,r,q⟩=>⟨I1.kIn,?_⟩) he hpl
 exact zpf M F hr hb hd hx I1 r q
end
section
variable {X:Cx} {CX:CXT} {k:Nat} {f C:Addr} {fd:FuncData} {ps ks:List Str} {sp:Sp} {E:XK} {x m:Str} {p pos apos kpos:Pos} {e o:Expr} {es:List Expr} {kws:List Keyword} {te ta:TE} {t tk:TA} {nm:Option Str}
structure KBinds (K:PySem.W.Frag) (fd:FuncData) (ps ks:List Str) (g:List Value->List Value->List Value) (gV:List V->List V->List V):Prop where
 to:∀ (s:Shared) (us ws:List Value),K.In s.heap->(g us ws).length=ps.length->BindsTo s fd ⟨us,ks.zip ws⟩ (ps.zip (g us ws))
 rel:∀ {vs:List V} {us:List Value} {zs:List V} {ws:List Value},zcb vs us->zcb zs ws->zcb (gV vs zs) (g us ws)
variable {g:List Value->List Value->List Value} {gV:List V->List V->List V}
end
structure FnScope (N P:List Str) (sc:Scope):Prop where
 kind:sc.kind=.function
 co:sc.isCoroutine=false
 gen:sc.isGenerator=false
 nd:N.Nodup
 pre:N.take P.length=P
 par:∀ x∈P,sc.names.lookup x=some .local\/sc.names.lookup x=some .cell
 nofree:∀ y∈sc.names,y.2≠.free
theorem zkC {kindOf:Str->Option NameKind} {x:Str}:∀ {binds:List (Str×Value)} {m:Str->Option Value},(∀ v,(x,v)∉binds)->bindL kindOf binds m x=m x
 | [],_,_=>rfl
 | (n,v)::r,m,h=>by
  unfold bindL
  rw [zkC fun w hw=>h w (qg _ hw)]
  split
  ·have:x≠n:=by rintro rfl;exact h v qf
   simp [this]
  ·rfl
theorem zkE {kindOf:Str->Option NameKind} {x:Str}:∀ {binds:List (Str×Value)} {m:Str->Option Value},(∀ v,(x,v)∉binds)->bindC kindOf binds m x=m x
 | [],_,_=>rfl
 | (n,v)::r,m,h=>by
  unfold bindC
  rw [zkE fun w hw=>h w (qg _ hw)]
  split
  ·rfl
  ·have:x≠n:=by rintro rfl;exact h v qf
   simp [this]
theorem zkD {kindOf:Str->Option NameKind} {x:Str} {v:Value}:∀ {P:List Str} {vs:List Value} {i:Nat} {m:Str->Option Value},P.Nodup->P[i]?=some x->vs[i]?=some v->kindOf x=some .local ->
  bindL kindOf (P.zip vs) m x=some v
 | [],_,_,_,_,h,_,_=>by simp at h
 | _::_,[],_,_,_,_,h,_=>by simp at h
 | p::P,w::vs,0,m,nd,h1,h2,hk=>by
  simp at h1 h2;subst h1;subst h2
  show bindL kindOf ((p,w)::P.zip vs) m p=_
  unfold bindL
  rw [zkC fun v hv=>(List.nodup_cons.mp nd).1 (List.of_mem_zip hv).1,qR hk]
  simp
 | p::P,w::vs,i+1,m,nd,h1,h2,hk=>by
  show bindL kindOf ((p,w)::P.zip vs) m x=_
  unfold bindL
  exact zkD (i:=i) (List.nodup_cons.mp nd).2 (by simpa using h1) (by simpa using h2) hk
theorem zkF {kindOf:Str->Option NameKind} {x:Str} {v:Value}:∀ {P:List Str} {vs:List Value} {i:Nat} {m:Str->Option Value},P.Nodup->P[i]?=some x->vs[i]?=some v->kindOf x≠some .local ->
  bindC kindOf (P.zip vs) m x=some v
 | [],_,_,_,_,h,_,_=>by simp at h
 | _::_,[],_,_,_,_,h,_=>by simp at h
 | p::P,w::vs,0,m,nd,h1,h2,hk=>by
  simp at h1 h2;subst h1;subst h2
  show bindC kindOf ((p,w)::P.zip vs) m p=_
  unfold bindC
  rw [zkE fun v hv=>(List.nodup_cons.mp nd).1 (List.of_mem_zip hv).1,qS hk]
  simp
 | p::P,w::vs,i+1,m,nd,h1,h2,hk=>by
  show bindC kindOf ((p,w)::P.zip vs) m x=_
  unfold bindC
  exact zkF (i:=i) (List.nodup_cons.mp nd).2 (by simpa using h1) (by simpa using h2) hk
def zeq (N:List Str) (vs:List V):St:=vs.map some++List.replicate (N.length - vs.length) none
def zkI (CX:CXT) (P:Program) (w:World) (K:PySem.W.Frag) (mg:Str->Option Value) (base:Heap) (N:List Str) (qual:Str) (scope:Scope) (f:Addr) (cd:Value) (A:Around) (outer:List Env) (s:Shared) (H:Hp) (E:XK):Cx where
 prog:=P
 w:=w
 K:=K
 mg:=mg
 base:=base
 A:=A.deeper (envOfC qual scope s.heap.objs.size f cd)
 N:=N
 s₀:=s
 H₀:=H
 env:=envOfC qual scope s.heap.objs.size f cd
 outer:=outer
 stack:=envOfC qual scope s.heap.objs.size f cd::outer
 ex:=[]
 calm:=true
 fn:=fun _=>true
 pn:=[]
 xe:=fun e s'=>wpAny (model P w) (A.deeper (envOfC qual scope s.heap.objs.size f cd)) (leaving (envOfC qual scope s.heap.objs.size f cd) e) (fun _ s''=>CX outer H s E e s'') (fun e' s''=>CX outer H s E e' s'') s'
theorem zl9 {sc:Scope} {n:Nat} {x:Str} (h:sc.names.lookup x=some .cell):∃ c,(cellsFrom n sc.names []).lookup x=some c:=by
 have q:=PySem.W.cellsFrom_some sc.names n [] (.inl h)
 exact Option.isSome_iff_exists.mp q
theorem zob {CX:CXT} {P:Program} {w:World} {K:PySem.W.Frag} {mg:Str->Option Value} {base:Heap} {N ps:List Str} {qual:Str} {scope:Scope} {f:Addr} {cd:Value} {A:Around} {outer:List Env} {s s1:Shared} {H:Hp} {E:XK} {us:List Value} {vs:List V}
  (S:FnScope N ps scope) (hd:A.handled=none) (e0:Env0 P w K mg base A outer s H) (hl:vs.length=ps.length) (r:zcb vs us)
  (x:InCallC s s.heap.objs.size (bindL (envOfC qual scope s.heap.objs.size f cd).kindOf (ps.zip us) fun _=>none) (cellsFrom (s.heap.objs.size+1) scope.names []) (bindC (envOfC qual scope s.heap.objs.size f cd).kindOf (ps.zip us) fun _=>none) s1) :
  Inv (zkI CX P w K mg base N qual scope f cd A outer s H E) [] (zeq N vs) H s1:=by
 have hpl:ps.length<=N.length:=by have:=congrArg List.length S.pre;rw [qA] at this;omega
 obtain ⟨h1,tk,rfl,hk⟩:=x.done
 have noA:∀ b:Addr,b∉(zkI CX P w K mg base N qual scope f cd A outer s H E).ex:=fun b z=>absurd (show b∈([]:List Addr) from z) (by simp)
 refine ⟨⟨e0.mod,S.kind,rfl,rfl,qt _,fun y z c h1 h2=>?_,fun y hy=>?_,fun y c _ h=>?_,fun _=>hd,Around.frames_deeper e0.frames,.inr ⟨rfl,rfl⟩,fun b z=>absurd z (noA b),e0.bs,e0.bsz,fun b _ _=>noA b,fun b z=>absurd z (noA b),e0.funs,e0.frf⟩,
  rfl,e0.bare,Un.kept hk,⟨_,x.toInCall.ns,fun i y v h1 h2 h3=>?_⟩,fun y c h=>⟨_,x.cell y c h⟩,e0.hok.fresh (qt _),fun y c h=>?_,fun p hp=>absurd (show p∈([]:List (Addr×Obj)) from hp) (by simp),e0.hok.kept hk,?_⟩
 ·exact name_of_addr x.apart (PySem.mem_of_lookup h1) (PySem.mem_of_lookup h2)
 ·have hy:scope.names.lookup y=some .cell\/scope.names.lookup y=some .free:=hy
  rcases hy with hy | hy
  ·exact zl9 hy
  ·exact absurd rfl (S.nofree _ (PySem.mem_of_lookup hy))
 ·exact Nat.le_of_lt (x.above y c (PySem.mem_of_lookup h))
 ·have hi:i < vs.length:=by
   unfold zeq at h2
   by_cases hi:i < vs.length
   ·exact hi
   ·rw [List.getElem?_append_right (by simpa using hi)] at h2
    rw [List.getElem?_replicate] at h2
    split at h2 <;> cases h2
  have ha:vs[i]?=some v:=by
   unfold zeq at h2
   rw [qw (by simpa using hi),qj] at h2
   cases e:vs[i]? with
   | none=>rw [e] at h2;cases h2
   | some a=>rw [e] at h2;cases h2;rfl
  obtain ⟨u,hu,rv⟩:=r.get ha
  have hp:ps[i]?=some y:=by
   rw [← S.pre,List.getElem?_take_of_lt (by omega)];exact h1
  have ndP:ps.Nodup:=by rw [← S.pre];exact S.nd.sublist (List.take_sublist _ _)
  refine ⟨u,rv,?_⟩
  rcases S.par y (qK hp) with k | k
  ·exact .inl ⟨k,zkD ndP hp hu k⟩
  ·obtain ⟨c,e⟩:=zl9 (n:=s.heap.objs.size+1) k
   refine .inr ⟨.inl k,c,e,?_⟩
   have q:=x.cell y c e
   rw [zkF ndP hp hu (by show scope.names.lookup y≠_;rw [k];decide)] at q
   exact q
 ·exact e0.hok.fresh (Nat.le_of_lt (x.above y c (PySem.mem_of_lookup h)))
 ·unfold zeq
  show _=N.length
  rw [qi,qe,List.length_replicate]
  omega
theorem zvf {CX:CXT} {P:Program} {w:World} {K:PySem.W.Frag} {mg:Str->Option Value} {base:Heap} {k:Nat} {f:Addr} {name qual:Str} {params:Arguments} {body:List Stmt} {scope:Scope} {dV kV doc pm cdv ct oc:Value} {an od:Option Addr}
  {osl:Array (Option Value)} {N ps:List Str} {sp:Sp} (lk:K.lookup f=some ⟨oc,od,.func (PySem.W.fnOf name qual params body scope dV kV doc pm an cdv ct),osl⟩) (hcd:PySem.W.codeIn K cdv qual=true) (S:FnScope N ps scope)
  (len:∀ vs H Q E,sp vs H Q E->vs.length=ps.length)
  (hbody:∀ (A:Around) (outer:List Env) (s:Shared) (H:Hp) (vs:List V) (Q:VK) (E:XK),Room k (A.deeper (envOfC qual scope s.heap.objs.size f cdv))->sp vs H Q E ->
   ∃ t,PSs (zkI CX P w K mg base N qual scope f cdv A outer s H E) body t/\t { nx:=fun _ H'=>Q .non H',rt:=Q } (zeq N vs) H) :
  FnOk P w K mg base CX (k+1) f (PySem.W.fnOf name qual params body scope dV kV doc pm an cdv ct) ps sp:=by
 refine ⟨len,fun A outer s H args us vs Q E hr e0 hb r hsp=>?_⟩
 have hl:=len _ _ _ _ hsp
 have KX:K.In s.heap:=e0.mod.kin.keeps fun b o e=>(e0.bs b o e).1
 have lim:s.heap.NoLimit:=e0.mod.nolimit.keeps fun b o e=>(e0.bs b o e).1
 have hkind:∀ y∈ps.zip us,scope.names.lookup y.1=some .local\/(scope.names.lookup y.1=some .cell/\((cellsFrom (s.heap.objs.size+1) scope.names []).lookup y.1).isSome=true):=fun ⟨n,v⟩ hy=>by
  rcases S.par n (List.of_mem_zip hy).1 with q | q
  ·exact .inl q
  ·exact .inr ⟨q,PySem.W.cellsFrom_some _ _ _ (.inl q)⟩
 refine codeAny_call_function hr.depth (KX _ _ lk) rfl S.co S.gen rfl (PySem.W.codeRec_of KX hcd) (hb _ _ _ _ ?_)
 refine wpAny_newFunctionEnv_cells S.kind hkind fun env he s1 x=>?_
 subst he
 refine ⟨lim.keeps x.toInCall.keep,codeAny_func ?_⟩
 obtain ⟨t,ht,hq⟩:=hbody A outer s H vs Q E (hr.deeper _) hsp
 have I:Inv (zkI CX P w K mg base N qual scope f cdv A outer s H E) [] (zeq N vs) H s1:=zob S hr.hd e0 hl r x
 refine wpAny_mono (ht [] s1 (zeq N vs) H _ I hq) (fun fl s' hs=>?_) fun e s' hs=>hs
 have fin:∀ {σ':St} {H':Hp} {v:V} {u:Value},Inv (zkI CX P w K mg base N qual scope f cdv A outer s H E) [] σ' H' s'->zcN v u->Q v H'->CE outer P w H s Q u s' :=
  fun {σ' H' v u} J rv q=>⟨v,H',J.os,J.bare,J.base,J.hok,rv,q⟩
 cases fl with
 | ret u =>
  obtain ⟨v,σ',H',J,rv,q⟩:=hs
  exact fin J rv q
 | next =>
  obtain ⟨σ',H',J,q⟩:=hs
  exact fin (v:=V.non) (u:=Value.none) J rfl q
 | brk =>
  obtain ⟨_,_,_,q⟩:=hs
  exact False.elim q
 | cont =>
  obtain ⟨_,_,_,q⟩:=hs
  exact False.elim q
end L2
namespace L2
open PySem PySem.Spec PyProof.Rows
section
variable {X:Cx} {x:Str} {p pos:Pos} {e:Expr} {es:List Expr} {t:TA} {id T:String} {r:List V->Hp->VK->Prop}
def tCB (r:List V->Hp->VK->Prop) (t:TA):TE:=fun σ H Q=>t σ H fun vs H1=>r vs H1 Q
theorem zlJ (hc:zhf X (.builtin id) r) (hg:Gl X x) (hm:X.mg x=none) (hv:bootBuiltins x=some (.builtin id)) (ha:PA X (e::es) t) (hn:x≠"__name__":=by decide) (hdb:(x==("__debug__":Str))=false:=by decide)
  (he:starEach (e::es) X.env=(false,eval e X.env)::starEach es X.env:=by rfl) (hpl:(backTo pos (starEach es X.env)).any (·.1)=false:=by rfl):PE X (.Call (.Name x p) (e::es) [] pos) (tCB r t):=by
 intro pins s σ H Q I h
 refine wpAny_Call_Name_kw (zj9 I hg hm hv ?_ hn hdb)
 exact PyProof.Rows.callWith_builtin1 (thn (ha pos pins s σ H _ I h) fun us s1 ⟨vs,H1,I1,r1,q1⟩=>hc pins s1 σ H1 vs us Q I1 r1 q1) he hpl
theorem zj3 (hc:zhf X (.type T) r) (hg:Gl X x) (hm:X.mg x=none) (hv:bootBuiltins x=some (.type T)) (ha:PA X (e::es) t) (hn:x≠"__name__":=by decide) (hdb:(x==("__debug__":Str))=false:=by decide)
  (he:starEach (e::es) X.env=(false,eval e X.env)::starEach es X.env:=by rfl) (hpl:(backTo pos (starEach es X.env)).any (·.1)=false:=by rfl):PE X (.Call (.Name x p) (e::es) [] pos) (tCB r t):=by
 intro pins s σ H Q I h
 refine wpAny_Call_Name_kw (zj9 I hg hm hv ?_ hn hdb)
 exact PyProof.Rows.callWith_type1 (thn (ha pos pins s σ H _ I h) fun us s1 ⟨vs,H1,I1,r1,q1⟩=>hc pins s1 σ H1 vs us Q I1 r1 q1) he hpl
end
end L2
end
section
namespace HT
open PySem PyProof.Rows
section
open PySem.SeqAt
open PySem.AutoSeq1 (wpAny_loadPart')
open PySem.MeetsSeq PySem.MeetsSeq2 PySem.MeetsSeq3
end
section
variable {prog:Program} {w:World} {A:Around} {E:Value->Shared->Prop} {s:Shared}
def sIx (n d:Nat):Option Int->Nat
 | none=>d
 | some v=>if v < 0 then (v+(n:Int)).toNat else min v.toNat n
theorem zsW (n d:Nat) (hd:d<=n) (o:Option Int):sIx n d o<=n:=by
 cases o with
 | none=>exact hd
 | some v =>
  show (if v < 0 then (v+(n:Int)).toNat else min v.toNat n)<=n
  by_cases hv:v < 0
  ·rw [qR hv];omega
  ·rw [qS hv];exact Nat.min_le_right _ _
theorem zoG (v:Int) (n d:Nat):(if v < 0 then max (v+(n:Int)) 0 else min v (n:Int))=((sIx n d (some v):Nat):Int):=by
 show (if v < 0 then max (v+(n:Int)) 0 else min v (n:Int))=(((if v < 0 then (v+(n:Int)).toNat else min v.toNat n):Nat):Int)
 by_cases hv:v < 0
 ·simp only [qR hv];omega
 ·simp only [qS hv];omega
theorem zmP (lo hi:Option Int) (n:Nat):Builtin.Slice.sliceAdjust lo hi 1 (n:Int)=(((sIx n 0 lo:Nat):Int),((sIx n n hi:Nat):Int)):=by
 have h1:¬ ((1:Int) < 0):=by omega
 unfold Builtin.Slice.sliceAdjust
 simp only [h1,if_false]
 refine Prod.ext ?_ ?_
 ·cases lo with
  | none=>rfl
  | some v=>exact zoG v n 0
 ·cases hi with
  | none=>rfl
  | some v=>exact zoG v n n
theorem zmv (i j:Nat):Builtin.Slice.slicePlaces (i:Int) (j:Int) 1=j - i:=by
 unfold Builtin.Slice.slicePlaces
 have h1:(1:Int) > 0:=by omega
 simp only [h1,if_true,Int.ediv_one]
 split <;> omega
theorem ziz {v:Value} {o:Option Int} {Q:Option Int->Shared->Prop} (p:IsPart v o) (h:Q o s):wpAny (model prog w) A (Builtin.Slice.slicePartIndex v) Q E s:=by
 cases p with
 | none=>exact slicePart_none h
 | int i t=>exact slicePart_int h
theorem zg6 {sl:Addr} {vl vu:Value} {lo hi:Option Int} {n:Nat} {Q:Int×Int×Nat->Shared->Prop} (hs:s.heap.IsSliceOf sl vl vu .none) (pl:IsPart vl lo) (pu:IsPart vu hi)
  (h:Q (((sIx n 0 lo:Nat):Int),1,sIx n n hi - sIx n 0 lo) s):wpAny (model prog w) A (Builtin.Slice.sliceApplied (.ref sl) (pure (n:Int))) Q E s:=by
 obtain ⟨os,hos,hcs,hds⟩:=id hs
 unfold Builtin.Slice.sliceApplied Builtin.Slice.sliceFields
 refine qu (qu (wpAny_field hos hds (x:=vl) rfl (qu (wpAny_field hos hds (x:=vu) rfl (qu (wpAny_field hos hds (x:=.none) rfl (qx ?_)))))))
 refine qu (slicePart_none ?_)
 show wpAny _ _ (if ((1:Int)==0)=true then _ else _) _ _ s
 rw [qS (by decide)]
 refine qu (ziz pl (qu (ziz pu (qu (qx ?_)))))
 show wpAny _ _ (match Builtin.Slice.sliceAdjust lo hi 1 (n:Int) with | (lo,hi)=>pure (lo,(1:Int),Builtin.Slice.slicePlaces lo hi 1)) _ _ s
 rw [zmP lo hi n]
 show wpAny _ _ (pure (((sIx n 0 lo:Nat):Int),(1:Int),Builtin.Slice.slicePlaces ((sIx n 0 lo:Nat):Int) ((sIx n n hi:Nat):Int) 1)) _ _ s
 rw [zmv]
 exact qx h
theorem zpn (xs:Array Value) (i k:Nat):((List.range k).filterMap fun (m:Nat)=>xs[((i:Int)+(m:Int)*1).toNat]?).toArray=((xs.toList.drop i).take k).toArray:=by
 have e:(fun (m:Nat)=>xs[((i:Int)+(m:Int)*1).toNat]?)=fun m=>xs[i+m]?:=by
  funext m
  have:((i:Int)+(m:Int)*1).toNat=i+m:=by omega
  rw [this]
 rw [e]
 have:=pick_run xs i k
 rw [List.filterMap_map] at this
 have e2:((fun x=>xs[x]?) ∘ fun x=>i+x)=fun m=>xs[i+m]?:=rfl
 rw [e2] at this
 rw [this]
theorem getItem_tuple_cut {t sl:Addr} {items:Array Value} {vl vu:Value} {lo hi:Option Int} {Q:Value->Shared->Prop} (ht:IsTup s.heap t items) (hs:s.heap.IsSliceOf sl vl vu .none) (pl:IsPart vl lo) (pu:IsPart vu hi)
  (hw:¬ (sIx items.size 0 lo=0/\sIx items.size items.size hi=items.size))
  (h:Q (.ref s.heap.objs.size) { s with heap:=s.heap.push { cls:=.type "tuple",data:=.seq ((items.toList.drop (sIx items.size 0 lo)).take (sIx items.size items.size hi - sIx items.size 0 lo)).toArray } })
  (hsz:items.size<=sizeLine):wpAny (model prog w) A (getItem (.ref t) (.ref sl)) Q E s:=by
 have htake:sizeOk (.seq ((items.toList.drop (sIx items.size 0 lo)).take (sIx items.size items.size hi - sIx items.size 0 lo)).toArray):=by
  show ((items.toList.drop (sIx items.size 0 lo)).take (sIx items.size items.size hi - sIx items.size 0 lo)).toArray.size<=sizeLine
  rw [qy,qA,List.length_drop,Array.length_toList]
  omega
 have hj:sIx items.size items.size hi<=items.size:=zsW _ _ (qt _) hi
 obtain ⟨os,hos,hcs,hds⟩:=id hs
 have hTs:s.TypeIs (.ref sl) "slice":=⟨os,hos,hcs⟩
 unfold getItem
 try with_reducible refine wpAny_holding ?_
 first | refine qu (qx ?_) | skip
 refine qu (wpAny_sequenceKey ht.typeIs (by decide) ?_)
 refine qu (wpAny_callSpecial?_slot (name:=Str.ofString "__getitem__") ht.typeIs PyProof.Rows.slot_tuple_getitem
  (wpAny_call_entry PyProof.Rows.slot_tuple_getitem ht.typeIs entry_tuple_getitem ?_ (args_tuple_getitem _ _)))
 show wpAny _ _ (Builtin.Tuple.tupleItemsOf (.ref t) >>= _) _ _ s
 refine qu (tupleItemsOf_ ht ?_)
 refine qu (wpAny_typeOf hTs ?_)
 rw [qR (by decide)]
 refine qu (zg6 hs pl pu ?_)
 have hno:¬ ((((sIx items.size 0 lo:Nat):Int)==0 && (1:Int)==1 && (sIx items.size items.size hi - sIx items.size 0 lo)==items.size)=true):=by
  intro q
  rw [Bool.and_eq_true,Bool.and_eq_true] at q
  have q1:((sIx items.size 0 lo:Nat):Int)=0:=eq_of_beq q.1.1
  have q2:sIx items.size items.size hi - sIx items.size 0 lo=items.size:=eq_of_beq q.2
  exact hw ⟨by omega,by omega⟩
 show wpAny _ _ (if (((sIx items.size 0 lo:Nat):Int)==0 && (1:Int)==1 && (sIx items.size items.size hi - sIx items.size 0 lo)==items.size)=true then _ else _) _ _ s
 rw [qS hno,zpn]
 first
  | exact qu (m:=Builtin.Tuple.tupleExact _) (wpAny_newObj_type (qx ⟨_,rfl,qx h⟩) htake)
  | exact qu (m:=Builtin.Tuple.tupleExact _) (wpAny_newObj_type (qu (qx (qx ⟨_,rfl,qx h⟩))) htake)
  | exact qu (qu (m:=Builtin.Tuple.tupleExact _) (wpAny_newObj_type (qx (qx ⟨_,rfl,qx h⟩)) htake))
  | exact qu (qu (m:=Builtin.Tuple.tupleExact _) (wpAny_newObj_type (qx ⟨_,rfl,qx h⟩) htake))
end
end HT
namespace L2
open PySem PySem.Spec PyProof.Rows
abbrev TO:=St->Hp->(Option Int->Hp->Prop)->Prop
def PO (X:Cx) (e:Option Expr) (t:TO):Prop :=
 ∀ (pins:List (Addr×Obj)) (s:Shared) (σ:St) (H:Hp) (Q:Option Int->Hp->Prop),Inv X pins σ H s->t σ H Q ->
  wpAny (model X.prog X.w) X.A (evalPart e X.env) (fun u s'=>∃ o H',Inv X pins σ H' s'/\IsPart u o/\Q o H') X.xe s
def zqX:TO:=fun _ H Q=>Q none H
def zuF (t:TE):TO:=fun σ H Q=>t σ H fun x H1=>∃ i,x=.int i/\Q (some i) H1
section
variable {X:Cx} {e:Expr} {te:TE} {lo hi:Option Expr} {tl th:TO} {pos p2:Pos}
theorem znC:PO X none zqX:=by
 intro pins s σ H Q I h
 rw [evalPart_none]
 exact qx ⟨none,H,I,.none,h⟩
theorem znB (h:PE X e te):PO X (some e) (zuF te):=by
 intro pins s σ H Q I hw
 rw [evalPart_some]
 refine thn (h pins s σ H _ I hw) fun u s1 ⟨x,H1,I1,r1,q1⟩=>?_
 obtain ⟨i,rfl,q⟩:=q1
 obtain ⟨t,rfl⟩:=r1
 exact ⟨some i,H1,I1,.int i t,q⟩
def SlR (X:Cx) (r:V->Option Int->Option Int->Hp->VK->Prop):Prop :=
 ∀ (pins:List (Addr×Obj)) (s:Shared) (σ:St) (H:Hp) (x:V) (v vl vu:Value) (lo hi:Option Int) (sl:Addr) (Q:VK),Inv X pins σ H s->zcN x v->s.heap.IsSliceOf sl vl vu .none->IsPart vl lo->IsPart vu hi->r x lo hi H Q ->
  ∃ T id,typeLookup (.type T) "__getitem__"=pure (some (.builtin id))/\s.TypeIs v T/\wpAny (model X.prog X.w) X.A (getItem v (.ref sl)) (EP X pins σ Q) X.xe s
theorem SlR.or {r r':V->Option Int->Option Int->Hp->VK->Prop} (h:SlR X r) (h':SlR X r'):SlR X (fun x lo hi H Q=>r x lo hi H Q\/r' x lo hi H Q):=by
 intro pins s σ H x v vl vu lo hi sl Q I rx hs pl pu q
 rcases q with q | q
 ·exact h pins s σ H x v vl vu lo hi sl Q I rx hs pl pu q
 ·exact h' pins s σ H x v vl vu lo hi sl Q I rx hs pl pu q
def tSl (r:V->Option Int->Option Int->Hp->VK->Prop) (te:TE) (tl th:TO):TE:=fun σ H Q=>te σ H fun x H1=>tl σ H1 fun l H2=>th σ H2 fun u H3=>r x l u H3 Q
theorem zlI {r:V->Option Int->Option Int->Hp->VK->Prop} (hr:SlR X r) (he:PE X e te) (hl:PO X lo tl) (hu:PO X hi th):PE X (.Subscript e (.Slice lo hi none p2) pos) (tSl r te tl th):=by
 intro pins s σ H Q I h
 refine Subscript_ (thn (he pins s σ H _ I h) fun v s1 ⟨x,H1,I1,r1,q1⟩=>?_)
 refine wpAny_Slice (thn (hl pins s1 σ H1 _ I1 q1) fun vl s2 ⟨l,H2,I2,pl,q2⟩=>thn (hu pins s2 σ H2 _ I2 q2) fun vu s3 ⟨u,H3,I3,pu,q3⟩=>?_)
 rw [evalPart_none]
 refine qx ?_
 have I4:Inv X pins σ H3 { s3 with heap:=s3.heap.push { cls:=.type "slice",data:=.fields #[vl,vu,.none] } }:=I3.kept (t':=s3.toks) fun b ob q=>qq _ q
 obtain ⟨T,id,hT,ht,hg⟩:=hr pins { s3 with heap:=s3.heap.push { cls:=.type "slice",data:=.fields #[vl,vu,.none] } } σ H3 x v vl vu l u s3.heap.objs.size Q I4 r1 (Heap.IsSliceOf.new ..) pl pu q3
 show wpAny (model X.prog X.w) X.A (subscriptTail e (.Slice lo hi none p2) v (.ref s3.heap.objs.size)) (EP X pins σ Q) X.xe { s3 with heap:=s3.heap.push { cls:=.type "slice",data:=.fields #[vl,vu,.none] } }
 exact tail_any (ops:=[.ref s3.heap.objs.size,v]) ht hT hg (by with_unfolding_all rfl)
def zqN (xs:List V) (lo hi:Option Int):List V:=(xs.drop (HT.sIx xs.length 0 lo)).take (HT.sIx xs.length xs.length hi - HT.sIx xs.length 0 lo)
theorem zhT (xs:List V) (lo hi:Option Int):(zqN xs lo hi).length<=xs.length:=by
 unfold zqN
 rw [qA,List.length_drop]
 omega
def zwa (K:PySem.W.Frag):V->Option Int->Option Int->Hp->VK->Prop:=fun x lo hi H Q=>∃ a xs,x=.ref a/\SqT K H a xs /\
 ¬ (HT.sIx xs.length 0 lo=0/\HT.sIx xs.length xs.length hi=xs.length)/\∀ p,H p=none->Q (.ref p) (upd H p (.tup (zqN xs lo hi)))
theorem zsS:SlR X (zwa X.K):=by
 intro pins s σ H x v vl vu lo hi sl Q I rx hs pl pu h
 obtain ⟨a,xs,rfl,hx,hw,q⟩:=h
 cases rx
 obtain ⟨its,r,ht,hz⟩:=I.tuple hx
 have hlen:its.toArray.size=xs.length:=by rw [qy];exact r.length.symm
 refine ⟨"tuple",_,PyProof.Rows.slot_tuple_getitem.lookup,ht.typeIs,?_⟩
 refine HT.getItem_tuple_cut ht hs pl pu (by rw [hlen];exact hw) ?_ (by rw [hlen];exact hz)
 rw [hlen]
 refine ⟨.ref s.heap.objs.size,_,I.laid (t':=s.toks) (o:=.tup (zqN xs lo hi)) (fun b ob q=>qq _ q) (qt _) ?_,rfl,q _ (I.hok.fresh (qt _))⟩
 exact ⟨qH (zhT xs lo hi) hz,_,(r.drop (HT.sIx xs.length 0 lo)).take (HT.sIx xs.length xs.length hi - HT.sIx xs.length 0 lo),IsTup.new _ _⟩
end
end L2
namespace L2
open PySem PySem.Spec PyProof.Rows
def ixN (n:Nat) (i:Int):Option Nat:=if 0<=i then (if i < n then some i.toNat else none) else if -(n:Int)<=i then some (i+n).toNat else none
def atI {α:Type} (xs:List α) (i:Int):Option α:=(ixN xs.length i).bind fun j=>xs[j]?
theorem zn7 {n:Nat} {i:Int} {j:Nat} (h:ixN n i=some j):seqIndex? i n=some j/\j < n /\ -(n:Int)<=i/\i < n:=by
 unfold ixN at h
 by_cases h0:0<=i
 ·rw [qR h0] at h
  by_cases h1:i < n
  ·rw [qR h1] at h
   have e:i.toNat=j:=qD h
   exact ⟨by rw [seqIndex_of h0 h1,e],by omega,by omega,h1⟩
  ·rw [qS h1] at h;cases h
 ·rw [qS h0] at h
  by_cases h1 : -(n:Int)<=i
  ·rw [qR h1] at h
   have e:(i+n).toNat=j:=qD h
   exact ⟨by rw [seqIndex_neg (by omega) h1,e],by omega,h1,by omega⟩
  ·rw [qS h1] at h;cases h
theorem zlr {α:Type} {xs:List α} {i:Int} {v:α} (h:atI xs i=some v):∃ j,seqIndex? i xs.length=some j/\xs[j]?=some v/\j < xs.length /\ -(xs.length:Int)<=i/\i < xs.length:=by
 unfold atI at h
 cases e:ixN xs.length i with
 | none=>rw [e] at h;cases h
 | some j =>
  rw [e] at h
  obtain ⟨h1,h2,h3,h4⟩:=zn7 e
  exact ⟨j,h1,h,h2,h3,h4⟩
theorem zeN {α:Type} {xs:List α} {j:Nat} {v:α} (h:xs[j]?=some v):atI xs (j:Int)=some v:=by
 have hj:j < xs.length:=(List.getElem?_eq_some_iff.mp h).1
 have e:ixN xs.length (j:Int)=some j:=by
  unfold ixN
  rw [qR (by omega),qR (by omega)];simp
 unfold atI;rw [e];exact h
def zh2 (b:Expr):Prop:=∀ o i,subscripted b false o i=operate [o,i] (getItem o i)
def IxR (X:Cx) (r:R2):Prop :=
 ∀ (value slice:Expr) (pins:List (Addr×Obj)) (s:Shared) (σ:St) (H:Hp) (x y:V) (v u:Value) (Q:VK),Inv X pins σ H s->zcN x v->zcN y u->r x y H Q ->
  subscripted slice false v u=operate [v,u] (getItem v u)->wpAny (model X.prog X.w) X.A (subscriptTail value slice v u) (EP X pins σ Q) X.xe s
def MtR (X:Cx) (id:String) (r:V->List V->Hp->VK->Prop):Prop :=
 ∀ (pins:List (Addr×Obj)) (s:Shared) (σ:St) (H:Hp) (x:V) (xs:List V) (v:Value) (us:List Value) (Q:VK),Inv X pins σ H s->zcN x v->zcb xs us->r x xs H Q ->
  wpAny (model X.prog X.w) X.A (call (.builtin id) (v::us)) (EP X pins σ Q) X.xe s
section
variable {X:Cx} {a b:Expr} {ta tb:TE} {pos:Pos}
theorem IxR.or {r r':R2} (h:IxR X r) (h':IxR X r'):IxR X (fun x y H Q=>r x y H Q\/r' x y H Q):=by
 intro value slice pins s σ H x y v u Q I rx ry q hs
 rcases q with q | q
 ·exact h value slice pins s σ H x y v u Q I rx ry q hs
 ·exact h' value slice pins s σ H x y v u Q I rx ry q hs
theorem zpq {r:R2} (hr:IxR X r) (ha:PE X a ta) (hb:PE X b tb) (hs:zh2 b):PE X (.Subscript a b pos) (tOp r ta tb):=by
 intro pins s σ H Q I h
 exact Subscript_ (zvo ha hb I h fun v u s2 x y H2 I2 rx ry q=>hr a b pins s2 σ H2 x y v u Q I2 rx ry q (hs _ _))
def zvF (K:PySem.W.Frag):R2:=fun x y H Q=>∃ p xs i v,x=.ref p/\y=.int i/\SqL K H p xs/\atI xs i=some v/\Q v H
def zvD (K:PySem.W.Frag):R2:=fun x y H Q=>∃ p xs i v,x=.ref p/\y=.int i/\SqT K H p xs/\atI xs i=some v/\Q v H
def zvE:R2:=fun x y H Q=>∃ z i c,x=.str z/\y=.int i/\z.length<=sizeLine/\atI z.cps.toList i=some c/\Q (.str ⟨#[c]⟩) H
theorem zrT:IxR X (zvF X.K):=by
 intro value slice pins s σ H x y v u Q I rx ry h hs
 obtain ⟨p,xs,i,z,rfl,rfl,hq,he,q⟩:=h
 cases rx
 obtain ⟨t,rfl⟩:=ry
 obtain ⟨its,r,pl,hz⟩:=I.list hq
 obtain ⟨j,h1,h2,h3,h4,h5⟩:=zlr he
 obtain ⟨w,ew,rw'⟩:=r.get h2
 have hl:=r.length
 have hn:=zj8
 have fin:EP X pins σ Q w s:=⟨z,H,I,rw',q⟩
 by_cases h0:0<=i
 ·have hj:i.toNat=j:=by
   rw [seqIndex_of h0 h5] at h1
   exact qD h1
  exact item_listR pl.isList h0 (by omega) (by rw [hj];simpa using ew) fin hs
 ·have hj:(i+(its.toArray.size:Int)).toNat=j:=by
   rw [seqIndex_neg (by omega) h4] at h1
   rw [qy,← hl]
   exact qD h1
  exact subscriptTail_builtinR (x:=w) pl.isList.typeIs slot_list_getitem.lookup
   (wpAny_getItem_list_neg (Q:=fun r s'=>r=w/\EP X pins σ Q r s') pl.isList (by omega) (by rw [qy] <;> omega) (by omega) (by rw [hj];simpa using ew) ⟨rfl,fin⟩) hs
theorem ztU:IxR X (zvD X.K):=by
 intro value slice pins s σ H x y v u Q I rx ry h hs
 obtain ⟨p,xs,i,z,rfl,rfl,hq,he,q⟩:=h
 cases rx
 obtain ⟨t,rfl⟩:=ry
 obtain ⟨its,r,pl,hz⟩:=I.tuple hq
 obtain ⟨j,h1,h2,h3,h4,h5⟩:=zlr he
 obtain ⟨w,ew,rw'⟩:=r.get h2
 have hl:=r.length
 have hn:=zj8
 have fin:EP X pins σ Q w s:=⟨z,H,I,rw',q⟩
 exact subscriptTail_builtinR (x:=w) pl.typeIs slot_tuple_getitem.lookup
  (getItem_tuple (j:=j) (Q:=fun r s'=>r=w/\EP X pins σ Q r s') pl (by omega) (by omega) (by rw [qy,← hl];exact h1) (by simpa using ew) ⟨rfl,fin⟩) hs
theorem ztV:IxR X zvE:=by
 intro value slice pins s σ H x y v u Q I rx ry h hs
 obtain ⟨z,i,c,rfl,rfl,hz,he,q⟩:=h
 obtain ⟨t,rfl⟩:=rx
 obtain ⟨t',rfl⟩:=ry
 obtain ⟨j,h1,h2,h3,h4,h5⟩:=zlr he
 have hl:z.cps.toList.length=z.length:=by simp [Str.length]
 rw [hl] at h1 h4 h5
 have hn:=zj8
 exact tail_any (typeIs_str s z t) slot_str_getitem.lookup (getItem_str (c:=c) (by
  have e1:decide (i < -(2 ^ 63:Int))=false:=qI (by omega)
  have e2:decide (i ≥ 2 ^ 63)=false:=qI (by omega)
  rw [e1,e2,Bool.or_false]) (by rw [h1];simpa using h2) ⟨.str ⟨#[c]⟩,H,I.tok _,⟨_,rfl⟩,q⟩) hs
def rIx (K:PySem.W.Frag):R2:=fun x y H Q=>zvF K x y H Q\/zvD K x y H Q\/zvE x y H Q
theorem zlV:IxR X (rIx X.K):=zrT.or (ztU.or ztV)
theorem zmy (its:List Value) (n j:Nat) (u:Value):Obj.mapSeq (·.setIfInBounds j u) { cls:=.type "list",data:=.seq its.toArray n }={ cls:=.type "list",data:=.seq (its.set j u).toArray n }:=by
 simp [Obj.mapSeq]
theorem Inv.lst {pins:List (Addr×Obj)} {σ:St} {H:Hp} {s:Shared} {p:Addr} {xs:List V} (I:Inv X pins σ H s) (h:H p=some (.lst xs)) :
  ∃ (its:List Value) (n:Nat),zcb xs its/\s.heap.get? p=some { cls:=.type "list",data:=.seq its.toArray n }/\xs.length<=sizeLine:=by
 obtain ⟨z,its,n,r,e⟩:=I.hok p _ h
 exact ⟨its,n,r,e,z⟩
theorem Inv.lstUpd {pins:List (Addr×Obj)} {σ:St} {H:Hp} {s:Shared} {p:Addr} {xs ys:List V} {its its':List Value} {n n':Nat} {f:Obj->Obj} (I:Inv X pins σ H s) (h:H p=some (.lst xs))
  (ho:s.heap.get? p=some { cls:=.type "list",data:=.seq its.toArray n }) (hf:f { cls:=.type "list",data:=.seq its.toArray n }={ cls:=.type "list",data:=.seq its'.toArray n' }) (r:zcb ys its') (hz:ys.length<=sizeLine) (t:Nat) :
  Inv X pins σ (upd H p (.lst ys)) { s with heap:=s.heap.update p f,toks:=t }:=by
 have e:(s.heap.update p f).get? p=some { cls:=.type "list",data:=.seq its'.toArray n' }:=by
  rw [Heap.get?_update_self f ho (by rw [hf] <;> rfl),hf]
 refine I.write (x:=p) (e:=p) (by rw [h];trivial) (.inl rfl) (fun b u hb q=>(Heap.get?_update_other _ _ (Ne.symm hb)).trans q) ⟨_,e⟩ ?_
 exact ⟨hz,its',n',r,e⟩
def zuS:V->V->V->Hp->(Hp->Prop)->Prop:=fun o i v H Q=>∃ p xs k j,o=.ref p/\i=.int k/\H p=some (.lst xs)/\ixN xs.length k=some j/\Q (upd H p (.lst (xs.set j v)))
theorem zpc:zvT X zuS:=by
 intro pins s σ H o i v ov iv u Q I ro ri rv h
 obtain ⟨p,xs,k,j,rfl,rfl,hp,hj,q⟩:=h
 cases ro
 obtain ⟨t,rfl⟩:=ri
 obtain ⟨its,n,r,ho,hz⟩:=I.lst hp
 obtain ⟨h1,h2,h3,h4⟩:=zn7 hj
 have hl:=r.length
 have hn:=zj8
 have I':Inv X pins σ (upd H p (.lst (xs.set j v))) { s with heap:=s.heap.update p (Obj.mapSeq (·.setIfInBounds j u)) } :=
  I.lstUpd hp ho (zmy its n j u) (r.set rv j) (by rw [List.length_set];exact hz) s.toks
 by_cases h0:0<=k
 ·have hk:k.toNat=j:=by
   rw [seqIndex_of h0 h4] at h1
   exact qD h1
  exact PySem.W.ki_setAt ho h0 (by omega) (by rw [qy,← hl];exact h4) (by rw [hk];exact ⟨_,I',q⟩)
 ·have hk:(k+(its.toArray.size:Int)).toNat=j:=by
   rw [seqIndex_neg (by omega) h3] at h1
   rw [qy,← hl]
   exact qD h1
  exact PySem.W.ki_setBack ho (by omega) (by rw [qy,← hl];exact h3) (by omega) (by rw [hk];exact ⟨_,I',q⟩)
theorem zjP (lo hi:Option Int) (n:Nat):(sliceBounds lo hi none n).1=((HT.sIx n 0 lo:Nat):Int)/\(sliceBounds lo hi none n).2.1=((HT.sIx n n hi:Nat):Int)/\(sliceBounds lo hi none n).2.2=1:=by
 refine ⟨?_,?_,rfl⟩
 ·cases lo with
  | none=>simp [sliceBounds,HT.sIx]
  | some i =>
   simp only [sliceBounds,HT.sIx,Option.getD_none,show (1:Int) > 0 by decide,if_true]
   by_cases h:i < 0
   ·simp only [h,if_true] <;> omega
   ·simp only [h,if_false] <;> omega
 ·cases hi with
  | none=>simp [sliceBounds,HT.sIx]
  | some i =>
   simp only [sliceBounds,HT.sIx,Option.getD_none,show (1:Int) > 0 by decide,if_true]
   by_cases h:i < 0
   ·simp only [h,if_true] <;> omega
   ·simp only [h,if_false] <;> omega
theorem zi0 (its:List Value) (lo hi:Option Int):slicePick its.toArray lo hi none=((its.drop (HT.sIx its.length 0 lo)).take (HT.sIx its.length its.length hi - HT.sIx its.length 0 lo)).toArray:=by
 obtain ⟨h1,h2,h3⟩:=zjP lo hi its.toArray.size
 unfold slicePick
 rw [h1,h2,h3]
 simp only [sliceRange_one,pick_run,qy] <;> rfl
def zwb (K:PySem.W.Frag):V->Option Int->Option Int->Hp->VK->Prop:=fun x lo hi H Q=>∃ a xs,x=.ref a/\SqL K H a xs/\∀ p,H p=none->Q (.ref p) (upd H p (.lst (zqN xs lo hi)))
theorem zne:SlR X (zwb X.K):=by
 intro pins s σ H x v vl vu lo hi sl Q I rx hs pl pu h
 obtain ⟨a,xs,rfl,hx,q⟩:=h
 cases rx
 obtain ⟨its,r,ht,hz⟩:=I.list hx
 have hlen:=r.length
 refine ⟨"list",_,slot_list_getitem.lookup,ht.isList.typeIs,?_⟩
 refine wpAny_getItem_list_slice ht.isList hs pl pu .none (by simp) ?_ (by rw [qy] <;> omega)
 rw [zi0,← hlen]
 refine ⟨.ref s.heap.objs.size,_,I.laid (t':=s.toks) (o:=.lst (zqN xs lo hi)) (fun b ob q=>qq _ q) (qt _) ?_,rfl,q _ (I.hok.fresh (qt _))⟩
 exact ⟨qH (zhT xs lo hi) hz,_,0,(r.drop (HT.sIx xs.length 0 lo)).take (HT.sIx xs.length xs.length hi - HT.sIx xs.length 0 lo),qC _ rfl⟩
theorem zkq:zhf X (.type "list") (fun xs H Q=>∃ p ys,xs=[.ref p]/\(SqL X.K H p ys\/SqT X.K H p ys)/\∀ l,H l=none->Q (.ref l) (upd H l (.lst ys))):=by
 intro pins s σ H xs us Q I r h
 obtain ⟨p,ys,rfl,hq,q⟩:=h
 obtain ⟨u,rfl,rx⟩:=zjM r
 cases rx
 have fin:∀ (its:List Value),zcb ys its->ys.length<=sizeLine->∀ (h':Heap) (c':Nat),(∀ b o',s.heap.get? b=some o'->h'.get? b=some o') ->
   h'.get? s.heap.objs.size=some { cls:=.type "list",dict:=none,data:=.seq its.toArray c',slots:=#[] }->EP X pins σ Q (.ref s.heap.objs.size) { s with heap:=h' }:=fun its r' hz h' c' kp e =>
  ⟨.ref s.heap.objs.size,_,I.laid (t':=s.toks) kp (qt _) (show zdb X.prog X.w _ h' _ (.lst ys) from ⟨hz,its,c',r',e⟩),rfl,q _ (I.hok.fresh (qt _))⟩
 rcases hq with hq | hq
 ·obtain ⟨its,r',pl,hz⟩:=I.list hq
  have hlen:=r'.length
  obtain ⟨o,ho,hc,n,hd⟩:=pl.isList
  exact call_list_seq p (.inl rfl) ho hc hd (fun h' c' kp e=>fin its r' hz h' c' kp e) (by simp only [qy] <;> omega)
 ·obtain ⟨its,r',pl,hz⟩:=I.tuple hq
  have hlen:=r'.length
  obtain ⟨o,ho,hc,n,hd⟩:=pl
  exact call_list_seq p (.inr rfl) ho hc hd (fun h' c' kp e=>fin its r' hz h' c' kp e) (by simp only [qy] <;> omega)
theorem zjq:zhf X (.type "tuple") (fun xs H Q=>∃ p ys,xs=[.ref p]/\((SqL X.K H p ys/\∀ l,H l=none->Q (.ref l) (upd H l (.tup ys)))\/(SqT X.K H p ys/\Q (.ref p) H))):=by
 intro pins s σ H xs us Q I r h
 obtain ⟨p,ys,rfl,h⟩:=h
 obtain ⟨u,rfl,rx⟩:=zjM r
 cases rx
 rcases h with ⟨hq,q⟩ | ⟨hq,q⟩
 ·obtain ⟨its,r',pl,hz⟩:=I.list hq
  have hlen:=r'.length
  refine call_tuple_list pl.isList (fun h' kp=>?_) (by simp only [qy] <;> omega)
  have I1:Inv X pins σ H { s with heap:=h' }:=I.kept (t':=s.toks) kp
  have I2:Inv X pins σ (upd H h'.objs.size (.tup ys)) { s with heap:=h'.push { cls:=.type "tuple",data:=.seq its.toArray } } :=
   I1.laid (t':=s.toks) (fun b o e=>qq _ e) (qt _) (show zdb X.prog X.w _ _ _ (.tup ys) from ⟨hz,its,r',IsTup.new _ _⟩)
  exact ⟨.ref h'.objs.size,_,I2,rfl,q _ (I1.hok.fresh (qt _))⟩
 ·obtain ⟨its,r',pl,hz⟩:=I.tuple hq
  exact call_tuple_same pl ⟨.ref p,H,I,rfl,q⟩
def tyV (K:PySem.W.Frag) (T:String) (x:V) (H:Hp):Prop:=match x with
 | .str _=>T="str"
 | .int _=>T="int"
 | .ref p=>(T="list"/\∃ xs,SqL K H p xs)\/(T="tuple"/\∃ o,K.lookup p=some o/\o.cls=.type "tuple"/\o.dict=none) \/
   (T="dict"/\((∃ kvs,H p=some (.dK kvs))\/∃ kvs,H p=some (.dT kvs)))\/(T="set"/\∃ S n,H p=some (.set S n))
 | _=>False
theorem zsH {pins:List (Addr×Obj)} {σ:St} {H:Hp} {s:Shared} {T:String} {x:V} {v:Value} (I:Inv X pins σ H s) (r:zcN x v) (ty:tyV X.K T x H) :
  s.TypeIs v T/\∀ a,v=.ref a->∃ ob,s.heap.get? a=some ob/\ob.dict=none:=by
 cases x with
 | str z =>
  obtain ⟨t,rfl⟩:=r
  cases (show T="str" from ty)
  exact ⟨typeIs_str s z t,fun _ e=>nomatch e⟩
 | int i =>
  obtain ⟨t,rfl⟩:=r
  cases (show T="int" from ty)
  exact ⟨typeIs_int s i t,fun _ e=>nomatch e⟩
 | ref p =>
  cases r
  rcases ty with ⟨rfl,xs,hq⟩ | ⟨rfl,o,hk,hc,hd⟩ | ⟨rfl,hk⟩ | ⟨rfl,S,n,hk⟩
  ·obtain ⟨its,_,pl,_⟩:=I.list hq
   refine ⟨pl.isList.typeIs,fun a e=>?_⟩
   cases e
   obtain ⟨o,n,e,c,hd,_⟩:=pl
   exact ⟨o,e,hd⟩
  ·refine ⟨⟨o,I.kIn p o hk,hc⟩,fun a e=>?_⟩
   cases e
   exact ⟨o,I.kIn _ o hk,hd⟩
  ·have z:∃ o,s.heap.get? p=some o/\o.ExactDict:=by
    rcases hk with ⟨kvs,hk⟩ | ⟨kvs,hk⟩
    ·obtain ⟨_,_,_,_,o,_,_,e,ex,_⟩:=I.hok p _ hk
     exact ⟨o,e,ex⟩
    ·obtain ⟨_,_,_,_,o,_,_,e,ex,_⟩:=I.hok p _ hk
     exact ⟨o,e,ex⟩
   obtain ⟨o,e,ex⟩:=z
   refine ⟨⟨o,e,ex.1⟩,fun a e2=>?_⟩
   cases e2
   exact ⟨o,e,ex.2.1⟩
  ·obtain ⟨o,_,_,_,e,ex,_⟩:=I.hok p _ hk
   refine ⟨⟨o,e,ex.1⟩,fun a e2=>?_⟩
   cases e2
   exact ⟨o,e,ex.2.1⟩
 | _=>exact False.elim ty
def tBM (K:PySem.W.Frag) (T:String) (r:V->List V->Hp->VK->Prop) (to:TE) (t:TA):TE:=fun σ H Q=>to σ H fun x H1=>tyV K T x H1/\t σ H1 fun xs H2=>r x xs H2 Q
variable {o e:Expr} {es:List Expr} {to:TE} {t:TA} {name:Str} {apos cpos:Pos} {T id:String} {r:V->List V->Hp->VK->Prop}
theorem zrs (pa:PlainAttrs T) (slot:Slot T name id) (hty:typeOf (.builtin id)=pure (.type "method_descriptor")) (hm:MtR X id r) (ho:PE X o to) (ha:PA X (e::es) t)
  (hbase:attributeBase o name X.env (eval o X.env)=eval o X.env:=by rfl)
  (hfew:((backTo cpos (starEach (e::es) X.env)).all (fun x=>!x.1) && (backToKw cpos (keywordEach [] X.env)).all (fun x=>x.1.isSome)
   && decide ((e::es).length+([]:List Keyword).length+(if ([]:List Keyword).isEmpty then 0 else 1) < 30))=true:=by rfl)
  (hline:(apos.endLine==cpos.line)=true:=by rfl) (hs:starEach (e::es) X.env=(false,eval e X.env)::starEach es X.env:=by rfl) (hplain:(backTo cpos (starEach es X.env)).any (·.1)=false:=by rfl) :
  PE X (.Call (.Attribute o name apos) (e::es) [] cpos) (tBM X.K T r to t):=by
 intro pins s σ H Q I h
 refine wpAny_Call_method_late hbase hfew hline rfl (thn (ho pins s σ H _ I h) fun v s1 ⟨x,H1,I1,r1,ty,q1⟩=>?_)
 obtain ⟨h1,h2⟩:=zsH I1 r1 ty
 refine ⟨T,id,pa,slot,hty,h1,h2,?_⟩
 have hA:=ha cpos pins s1 σ H1 _ I1 q1
 rw [hs] at hA ⊢
 refine Calls.callWith_builtin (by show (false || (backTo cpos (starEach es X.env)).any (·.1))=false;rw [hplain] <;> rfl) (Calls.evalArgs_plain ?_)
 exact thn hA fun us s2 ⟨vs,H2,I2,r2,q2⟩=>hm pins s2 σ H2 x vs v us Q I2 r1 r2 q2
end
end L2
namespace L2
open PySem PySem.Spec PyProof.Rows
def MtM (X:Cx) (id:String) (r:V->List V->Hp->VK->Prop):Prop :=
 ∀ (pins:List (Addr×Obj)) (s:Shared) (σ:St) (H:Hp) (x:V) (xs:List V) (v:Value) (us:List Value) (Q:VK),Inv X pins σ H s->zcN x v->zcb xs us->r x xs H Q ->
  wpAny (model X.prog X.w) X.A (call (.builtin id) (v::us)) (EP X pins σ Q) X.xe s
theorem zcb.one:∀ {x:V} {us:List Value},zcb [x] us->∃ u,us=[u]/\zcN x u
 | _,_,.cons r .nil=>⟨_,rfl,r⟩
theorem zcb.reverse {xs:List V} {us:List Value} (h:zcb xs us):zcb xs.reverse us.reverse:=by
 induction h with
 | nil=>exact .nil
 | cons r t ih=>rw [List.reverse_cons,List.reverse_cons];exact zcb.append ih (.cons r .nil)
theorem zcb.rep {xs:List V} {us:List Value} (h:zcb xs us):∀ k:Nat,zcb (List.replicate k xs).flatten (List.replicate k us).flatten
 | 0=>.nil
 | k+1=>by
  rw [List.replicate_succ,List.replicate_succ,List.flatten_cons,List.flatten_cons]
  exact zcb.append h (zcb.rep h k)
theorem zke (its:List Value):∀ (k:Nat) (acc:List Value),
  List.foldl (fun x1 x2=>x1++x2) acc.toArray (List.replicate k its.toArray)=(acc++(List.replicate k its).flatten).toArray
 | 0,acc=>by simp
 | k+1,acc=>by
  have e:acc.toArray++its.toArray=(acc++its).toArray:=by simp
  have e2:(acc++its)++(List.replicate k its).flatten=acc++(List.replicate (k+1) its).flatten:=by
   rw [List.replicate_succ,List.flatten_cons,List.append_assoc]
  rw [← e2,← zke its k (acc++its),← e,List.replicate_succ,List.foldl_cons]
section
variable {X:Cx} {pins:List (Addr×Obj)} {σ:St} {H:Hp} {s:Shared} {l b:Addr} {xs ys zs:List V}
theorem Inv.lset {its its':List Value} {n:Nat} {f:Array Value->Array Value} {t':Nat} (I:Inv X pins σ H s) (hH:H l=some (.lst xs))
  (e:s.heap.get? l=some { cls:=.type "list",data:=.seq its.toArray n }) (hf:f its.toArray=its'.toArray) (hv:zcb ys its') (hz:ys.length<=sizeLine) :
  Inv X pins σ (upd H l (.lst ys)) { s with heap:=s.heap.update l (Obj.mapSeq f),toks:=t' }:=by
 have q:=PySem.IsL.update e f
 rw [hf] at q
 refine I.write (x:=l) (e:=l) (by rw [hH];exact trivial) (.inl rfl) (fun b' u hb hu=>(Heap.get?_update_other s.heap (Obj.mapSeq f) (Ne.symm hb)).trans hu) ⟨_,q⟩ ?_
 exact ⟨hz,its',_,hv,q⟩
theorem Inv.lnew {its:List Value} {t':Nat} (I:Inv X pins σ H s) (hv:zcb ys its) (hz:ys.length<=sizeLine) :
  Inv X pins σ (upd H s.heap.objs.size (.lst ys)) { s with heap:=s.heap.push { cls:=.type "list",data:=.seq its.toArray },toks:=t' } :=
 I.laid (fun _ _ q=>qq _ q) (qt _) ⟨hz,its,0,hv,qC _ rfl⟩
theorem Inv.fresh (I:Inv X pins σ H s):H s.heap.objs.size=none:=I.hok.fresh (qt _)
theorem Inv.lstM (I:Inv X pins σ H s) (hH:H l=some (.lst xs)):xs.length<=sizeLine/\∃ (its:List Value) (n:Nat),zcb xs its/\xs.length=its.length/\s.heap.get? l=some { cls:=.type "list",data:=.seq its.toArray n }:=by
 obtain ⟨z,its,n,r,e⟩:=I.hok l _ hH
 exact ⟨z,its,n,r,r.length,e⟩
theorem zlM {n:Nat} (h:n<=sizeLine):Builtin.List.listTooLong n=false:=by
 unfold Builtin.List.listTooLong
 exact qI (by omega)
end
section
variable {X:Cx}
def zrg:V->List V->Hp->VK->Prop:=fun x vs H Q=>∃ l xs y,x=.ref l/\vs=[y]/\H l=some (.lst xs)/\xs.length < sizeLine/\Q .non (upd H l (.lst (xs++[y])))
theorem zhD:MtM X "list.append" zrg:=by
 intro pins s σ H x vs v us Q I rx rv h
 obtain ⟨l,xs,y,rfl,rfl,hH,hz,q⟩:=h
 cases rx
 obtain ⟨u,rfl,ru⟩:=rv.one
 obtain ⟨z,its,n,r,hl,e⟩:=I.lstM hH
 refine call_meets F.slot_list_append ⟨_,e,rfl⟩ F.entry_list_append (F.args_list_append_2 _ _) (PySem.list_append l its.toArray n u (by rw [qy];omega)) ⟨e,?_⟩
 refine ⟨.non,_,I.lset (its':=its++[u]) hH e (by simp) (r.append (.cons ru .nil)) ?_,rfl,q⟩
 rw [qi,qP]
 omega
def zrf:V->List V->Hp->VK->Prop:=fun x vs H Q=>∃ l b xs zs,x=.ref l/\vs=[.ref b]/\H l=some (.lst xs)/\H b=some (.lst zs)/\xs.length+zs.length<=sizeLine/\Q .non (upd H l (.lst (xs++zs)))
theorem znU:MtM X "list.extend" zrf:=by
 intro pins s σ H x vs v us Q I rx rv h
 obtain ⟨l,b,xs,zs,rfl,rfl,hH,hB,hz,q⟩:=h
 cases rx
 obtain ⟨u,rfl,ru⟩:=rv.one
 cases ru
 obtain ⟨z,its,n,r,hl,e⟩:=I.lstM hH
 obtain ⟨z2,its2,n2,r2,hl2,e2⟩:=I.lstM hB
 have hsz:its.toArray.size+its2.toArray.size<=sizeLine:=by rw [qy,qy];omega
 have hlong:¬ (!its.toArray.isEmpty && Builtin.List.listTooLong (its.toArray.size+its2.toArray.size))=true:=by
  rw [zlM hsz,Bool.and_false]
  exact qp
 refine call_meets F.slot_list_extend ⟨_,e,rfl⟩ F.entry_list_extend (F.args_list_extend_2 _ _)
  (AutoSeq1.list_extend_list_list_0 l its.toArray n b its2.toArray n2 hlong (by rw [qy];omega) (by omega)) ⟨e,e2,?_⟩
 refine ⟨.non,_,I.lset (its':=its++its2) hH e (by simp) (r.append r2) ?_,rfl,q⟩
 rw [qi]
 omega
def zuT:R2:=fun x y H Q=>∃ l b xs zs,x=.ref l/\y=.ref b/\H l=some (.lst xs)/\H b=some (.lst zs)/\xs.length+zs.length<=sizeLine/\∀ p,H p=none->Q (.ref p) (upd H p (.lst (xs++zs)))
theorem ztD:OpR X (binaryOp .Add) zuT:=by
 intro pins s σ H x y v u Q I rx ry h
 obtain ⟨l,b,xs,zs,rfl,rfl,hH,hB,hz,q⟩:=h
 cases rx
 cases ry
 obtain ⟨z,its,n,r,hl,e⟩:=I.lstM hH
 obtain ⟨z2,its2,n2,r2,hl2,e2⟩:=I.lstM hB
 refine PySem.P.add_list e e2 ?_ (by rw [qy,qy];omega)
 have ea:its.toArray++its2.toArray=(its++its2).toArray:=by simp
 rw [ea]
 exact ⟨.ref _,_,I.lnew (t':=s.toks) (r.append r2) (by rw [qi];omega),rfl,q _ I.fresh⟩
def zvC:R2:=fun x y H Q=>∃ l k xs,x=.ref l/\y=.int k/\H l=some (.lst xs) /\ -(2 ^ 63)<=k/\k < 2 ^ 63/\xs.length*k.toNat<=sizeLine /\
 ∀ p,H p=none->Q (.ref p) (upd H p (.lst (List.replicate k.toNat xs).flatten))
theorem zn0 {α:Type} (xs:List α) (k:Nat):(List.replicate k xs).flatten.length=k*xs.length:=by
 induction k with
 | zero=>simp
 | succ k ih=>rw [List.replicate_succ,List.flatten_cons,qi,ih,Nat.succ_mul,Nat.add_comm]
theorem ztx:OpR X (binaryOp .Mult) zvC:=by
 intro pins s σ H x y v u Q I rx ry h
 obtain ⟨l,k,xs,rfl,rfl,hH,h1,h2,hz,q⟩:=h
 cases rx
 obtain ⟨t,rfl⟩:=ry
 obtain ⟨z,its,n,r,hl,e⟩:=I.lstM hH
 have hlen:its.toArray.size*k.toNat<=sizeLine:=by rw [qy,← hl];exact hz
 have hcap:¬ its.toArray.size*k.toNat > (2 ^ 63 - 1) / 8:=by
  have:(sizeLine:Nat)<=(2 ^ 63 - 1) / 8:=by decide
  omega
 have hfit:¬ (!Builtin.List.listFitsIndex k)=true:=by
  rw [fitsIndex_both h1 h2]
  exact qp
 have hlong:¬ Builtin.List.listTooLong (its.toArray.size*k.toNat)=true:=by
  rw [zlM hlen]
  exact qp
 have hnew:List.foldl (fun x1 x2=>x1++x2) #[] (List.replicate (if its.toArray.isEmpty=true then 0 else k.toNat) its.toArray)=(List.replicate k.toNat its).flatten.toArray:=by
  have f0:∀ m:Nat,List.foldl (fun x1 x2=>x1++x2) #[] (List.replicate m its.toArray)=(List.replicate m its).flatten.toArray:=fun m=>by
   have:=zke its m []
   rw [qM] at this
   exact this
  rw [f0]
  cases its with
  | nil=>simp
  | cons a r'=>rw [qS (by simp)]
 refine wpAny_binaryOp_repeat_ref (T:="list") (U:="int") (by decide) ⟨_,e,rfl⟩ (fun s'=>typeIs_int s' k t) noFill_list_mul F.fills_int_mul F.slot_int_rmul repeat_list F.slot_int_index.lookup
  (call_meets F.slot_int_rmul (typeIs_int s k t) F.entry_int_rmul (F.args_int_rmul_2 _ _) (int___rmul___int_list k t l its.toArray n)
   ⟨e,rfl,⟨_,e,rfl⟩,call_meets F.slot_list_mul ⟨_,e,rfl⟩ F.entry_list_mul (F.args_list_mul_2 _ _) (AutoListH.list___mul___list_int_3 l its.toArray n k t hfit hcap hlong) ⟨e,?_⟩⟩)
 rw [hnew]
 exact ⟨.ref _,_,I.lnew (t':=s.toks) (r.rep k.toNat) (by rw [zn0,Nat.mul_comm];exact hz),rfl,q _ I.fresh⟩
end
section
variable {prog:Program} {w:World} {A:Around} {E:Value->Shared->Prop} {s:Shared}
end
section
variable {X:Cx}
end
end L2
end
section
namespace L2
open PySem PySem.Spec PyProof.Rows
section
variable {κ:Type} [DecidableEq κ]
def zoX (kvs:List (κ×V)) (k:κ):Option V:=(kvs.find? fun kv=>decide (kv.1=k)).map (·.2)
def ziF (kvs:List (κ×V)) (k:κ) (v:V):List (κ×V) :=
 if (kvs.any fun kv=>decide (kv.1=k))=true then kvs.map (fun kv=>if kv.1=k then (kv.1,v) else kv) else kvs++[(k,v)]
theorem ziV {p:κ×V} {r:List (κ×V)} {k:κ} (e:p.1=k):zoX (p::r) k=some p.2:=by simp [zoX,List.find?_cons,e]
theorem ziW {p:κ×V} {r:List (κ×V)} {k:κ} (e:¬ p.1=k):zoX (p::r) k=zoX r k:=by simp [zoX,List.find?_cons,e]
theorem zlt (k:κ):∀ kvs:List (κ×V),(kvs.any fun kv=>decide (kv.1=k))=(zoX kvs k).isSome
 | []=>rfl
 | p::r=>by
  rw [List.any_cons]
  by_cases e:p.1=k
  ·simp only [ziV e,qN e,Bool.true_or,Option.isSome_some]
  ·rw [ziW e,qI e,Bool.false_or];exact zlt k r
theorem zhJ (kvs:List (κ×V)) (k:κ) (v:V):(ziF kvs k v).length<=kvs.length+1:=by
 unfold ziF
 split
 ·rw [qe];omega
 ·rw [qi,qh,qk];omega
theorem zmQ.isSome_eq {o:Option V} {u:Option Value} (r:zmQ o u):o.isSome=u.isSome:=by
 cases o with
 | none=>cases u with
  | none=>rfl
  | some _=>exact (show False from r).elim
 | some _=>cases u with
  | none=>exact (show False from r).elim
  | some _=>rfl
theorem KV.any {kvs:List (κ×V)} {vs:List (κ×Value)} (r:KV kvs vs) (k:κ):(kvs.any fun kv=>decide (kv.1=k))=vs.any fun kv=>decide (kv.1=k):=by
 unfold KV at r
 induction r with
 | nil=>rfl
 | cons h t ih=>rw [List.any_cons,List.any_cons,ih,h.1]
theorem KV.repl {kvs:List (κ×V)} {vs:List (κ×Value)} (r:KV kvs vs) (k:κ) {y:V} {u:Value} (ry:zcN y u) :
  KV (kvs.map fun kv=>if kv.1=k then (kv.1,y) else kv) (vs.map fun kv=>if kv.1=k then (kv.1,u) else kv):=by
 unfold KV at r ⊢
 induction r with
 | nil=>exact .nil
 | @cons p q ps qs h t ih =>
  rw [ql,ql]
  refine .cons ?_ ih
  obtain ⟨h1,h2⟩:=h
  by_cases e:p.1=k
  ·rw [qR e,qR (h1.symm.trans e)];exact ⟨h1,ry⟩
  ·rw [qS e,qS (fun z=>e (h1.trans z))];exact ⟨h1,h2⟩
theorem KV.put {kvs:List (κ×V)} {vs:List (κ×Value)} (r:KV kvs vs) (k:κ) {y:V} {u:Value} (ry:zcN y u):KV (ziF kvs k y) (stored vs k u):=by
 unfold ziF stored
 rw [r.any k]
 by_cases e:(vs.any fun kv=>decide (kv.1=k))=true
 ·rw [qR e,qR e];exact r.repl k ry
 ·rw [qS e,qS e];exact Paired.snoc r ⟨rfl,ry⟩
theorem KV.length {kvs:List (κ×V)} {vs:List (κ×Value)} (r:KV kvs vs):kvs.length=vs.length:=Paired.length r
end
theorem zpG {P:Program} {w:World} {k:Key} {u:Value} (r:zcN (kV k) u):(zby P w).is k u=true:=by
 cases k with
 | inl i=>obtain ⟨t,e⟩:=(show ∃ t,u=Value.int i t from r);subst e;exact zk1 P w i t
 | inr x=>obtain ⟨t,e⟩:=(show ∃ t,u=Value.str x t from r);subst e;exact zk0 P w x t
theorem zka {P:Program} {w:World}:∀ {ks:List Key} {us:List Value},zcb (ks.map kV) us->ItemsAre (zby P w) ks us
 | [],_,r=>by rw [qJ] at r;cases r;exact .nil
 | k::ks,_,r=>by
  rw [ql] at r
  cases r with
  | cons h t=>exact .cons (zpG h) (zka t)
abbrev KT (H:Hp):List (List Key×V)->List (List Key×Addr×Value)->Prop:=Paired fun p q=>p.1=q.1/\H q.2.1=some (.tup (p.1.map kV))/\zcN p.2 q.2.2
theorem KT.val {H:Hp} {kvs:List (List Key×V)} {xs:List (List Key×Addr×Value)} (r:KT H kvs xs) (k:List Key):zmQ (zoX kvs k) ((atKey xs k).map (·.2)):=by
 induction r with
 | nil=>exact True.intro
 | @cons p q ps qs h t ih =>
  obtain ⟨h1,_,h2⟩:=h
  by_cases e:p.1=k
  ·have e':q.1=k:=h1.symm.trans e
   have b:atKey (q::qs) k=some q.2:=by simp [atKey,List.find?_cons,e']
   rw [ziV e,b];exact h2
  ·have e':¬ q.1=k:=fun z=>e (h1.trans z)
   have b:atKey (q::qs) k=atKey qs k:=by simp [atKey,List.find?_cons,e']
   rw [ziW e,b];exact ih
theorem KT.repl {H:Hp} {kvs:List (List Key×V)} {xs:List (List Key×Addr×Value)} (r:KT H kvs xs) (k:List Key) {y:V} {u:Value} (ry:zcN y u) :
  KT H (kvs.map fun kv=>if kv.1=k then (kv.1,y) else kv) (xs.map (putAt k u)):=by
 induction r with
 | nil=>exact .nil
 | @cons p q ps qs h t ih =>
  rw [ql,ql]
  refine .cons ?_ ih
  obtain ⟨h1,h2,h3⟩:=h
  unfold putAt
  by_cases e:p.1=k
  ·rw [qR e,qR (h1.symm.trans e)];exact ⟨h1,h2,ry⟩
  ·rw [qS e,qS (fun z=>e (h1.trans z))];exact ⟨h1,h2,h3⟩
theorem KT.put {H:Hp} {kvs:List (List Key×V)} {xs:List (List Key×Addr×Value)} (r:KT H kvs xs) (k:List Key) {b:Addr} {y:V} {u:Value} (hb:H b=some (.tup (k.map kV))) (ry:zcN y u) :
  KT H (ziF kvs k y) (storedH xs k b u):=by
 have e:(kvs.any fun kv=>decide (kv.1=k))=(atKey xs k).isSome:=by
  rw [zlt,(r.val k).isSome_eq,Option.isSome_map]
 unfold ziF storedH
 rw [e]
 by_cases q:(atKey xs k).isSome=true
 ·rw [qR q,qR q];exact r.repl k ry
 ·rw [qS q,qS q];exact Paired.snoc r ⟨rfl,hb,ry⟩
theorem KT.keeps {H H':Hp} {kvs:List (List Key×V)} {xs:List (List Key×Addr×Value)} (r:KT H kvs xs) (ht:∀ b ys,H b=some (.tup ys)->H' b=some (.tup ys)):KT H' kvs xs :=
 Paired.mapP r fun _ _ z=>⟨z.1,ht _ _ z.2.1,z.2.2⟩
section
variable {P:Program} {w:World} {H:Hp} {h:Heap} {a:Addr}
theorem zs5 {u:HO} (ok:HOk P w H h) (e:Rd H a u):zdb P w H h a u:=e.ok ok
theorem zvk {kvs:List (Key×V)} (ok:HOk P w H h) (e:Rd H a (.dK kvs)):kvs.length<=sizeLine/\(a==sysModules)=false/\∃ vs,KV kvs vs/\h.DictOf (zby P w) a vs :=
 show zdb P w H h a (.dK kvs) from zs5 ok e
theorem zvl {kvs:List (Key×V)} (ok:HOk P w H h) (e:H a=some (.dK kvs)):kvs.length<=sizeLine/\(a==sysModules)=false/\∃ vs,KV kvs vs/\h.DictOf (zby P w) a vs:=zvk ok (.inl e)
theorem zlU {ks:List Key} (ok:HOk P w H h) (e:H a=some (.tup (ks.map kV))):(tupleKind (zby P w)).is h ks a:=by
 obtain ⟨_,its,r,o,h1,h2,n,h3⟩:=(show zdb P w H h a (.tup (ks.map kV)) from ok a _ e)
 exact ⟨o,its.toArray,n,h1,h2,h3,by simpa using zka r⟩
theorem zvi {kvs:List (List Key×V)} (ok:HOk P w H h) (e:Rd H a (.dT kvs)):kvs.length<=sizeLine/\(a==sysModules)=false /\
  ∃ xs,KT H kvs xs/\h.DictOfH (tupleKind (zby P w)) a xs:=by
 obtain ⟨z,y,xs,r,o,es,ep,h1,h2,h3,h4,h5⟩:=(show zdb P w H h a (.dT kvs) from zs5 ok e)
 refine ⟨z,y,xs,r,o,es,ep,h1,h2,h3,h4,fun x hx=>?_,h5⟩
 have all:∀ {l:List (List Key×V)} {m:List (List Key×Addr×Value)},KT H l m->∀ x∈m,(tupleKind (zby P w)).is h x.1 x.2.1:=by
  intro l m q
  induction q with
  | nil=>intro x hx;exact nomatch hx
  | @cons p q ps qs hq t ih =>
   intro x hx
   rcases List.mem_cons.mp hx with e | hx
   ·subst e
    exact zlU ok (by rw [← hq.1];exact hq.2.1)
   ·exact ih x hx
 exact all r x hx
theorem zvj {kvs:List (List Key×V)} (ok:HOk P w H h) (e:H a=some (.dT kvs)):kvs.length<=sizeLine/\(a==sysModules)=false /\
  ∃ xs,KT H kvs xs/\h.DictOfH (tupleKind (zby P w)) a xs:=zvi ok (.inl e)
end
def zuq (H:Hp) (a:Addr) (y v:V) (H':Hp):Prop :=
 (∃ kvs k,H a=some (.dK kvs)/\y=kV k/\kvs.length < sizeLine/\H'=upd H a (.dK (ziF kvs k v))) \/
 ∃ kvs k b,H a=some (.dT kvs)/\y=.ref b/\H b=some (.tup (k.map kV))/\kvs.length < sizeLine/\H'=upd H a (.dT (ziF kvs k v))
theorem zuq.k {H:Hp} {a:Addr} {kvs:List (Key×V)} {k:Key} {v:V} (e:H a=some (.dK kvs)) (hl:kvs.length < sizeLine):zuq H a (kV k) v (upd H a (.dK (ziF kvs k v))):=.inl ⟨kvs,k,e,rfl,hl,rfl⟩
section
variable {X:Cx} {pins:List (Addr×Obj)} {σ:St} {H:Hp} {s:Shared} {a:Addr} {y v:V} {u r:Value} {o:Option V} {A:Around} {E:Value->Shared->Prop}
theorem Inv.big (I:Inv X pins σ H s):sysModules < s.heap.objs.size:=by
 have h:mainGlobals < s.heap.objs.size:=(I.mod.glob.keeps I.bk).lt
 exact Nat.lt_trans (by decide) h
theorem zoE {h':Heap} {t':Nat} {ob:HO} (I:Inv X pins σ H s) (mu:Mut (H a)) (hs:Heap.SameBut a s.heap h') (he:∃ q,h'.get? a=some q) (new:zdb X.prog X.w (upd H a ob) h' a ob) :
  Inv X pins σ (upd H a ob) { s with heap:=h',toks:=t' } :=
 I.write (x:=a) (e:=a) mu (.inl rfl) (fun b q hb z=>(hs.2 b hb).trans z) he new
theorem zud {P:Program} {w:World} {H':Hp} {h':Heap} {kvs:List (Key×V)} {vs:List (Key×Value)} (z:kvs.length<=sizeLine) (hd:(a==sysModules)=false) (rel:KV kvs vs) (dd:h'.DictOf (zby P w) a vs) :
  zdb P w H' h' a (.dK kvs):=⟨z,hd,vs,rel,dd⟩
theorem zoF {H':Hp} {Q:Unit->Shared->Prop} (hu:A.units+1 < cLine) (I:Inv X pins σ H s) (g:zuq H a y v H') (ry:zcN y u) (rv:zcN v r) (h:∀ s',Inv X pins σ H' s'->Q () s') :
  wpAny (model X.prog X.w) A (setItem (.ref a) u r) Q E s:=by
 rcases g with ⟨kvs,k,e,ey,l,eH⟩ | ⟨kvs,k,b,e,ey,eb,l,eH⟩
 ·subst ey eH
  obtain ⟨z,hd,vs,rel,dd⟩:=zvl I.hok e
  have hz:vs.length<=sizeLine:=by rw [← rel.length];exact z
  have hl:(ziF kvs k v).length<=sizeLine:=by have:=zhJ kvs k v;omega
  refine wpAny_setItem_pairs (hsz:=hz) (zpG ry) dd fun h' dd' hs=>h _ ?_
  have he:∃ q,h'.get? a=some q:=let ⟨q,_,_,hq,_⟩:=dd';⟨q,hq⟩
  exact zoE I (by rw [e];exact True.intro) hs he (zud hl hd (rel.put k rv) dd')
 ·subst ey eH
  cases (show u=Value.ref b from ry)
  obtain ⟨z,hd,xs,rel,dd⟩:=zvj I.hok e
  have hz:xs.length<=sizeLine:=by rw [← Paired.length rel];exact z
  have hl:(ziF kvs k v).length<=sizeLine:=by have:=zhJ kvs k v;omega
  refine wpAny_setItem_heap (hsz:=hz) (tupleKind_room_in1 hu) (zlU I.hok eb) dd fun h' dd' hs=>h _ ?_
  obtain ⟨q,es,ep,hq,h2,h3,h4,_,h5⟩:=dd'
  refine zoE I (by rw [e];exact True.intro) hs ⟨q,hq⟩ ⟨hl,hd,_,(rel.put k eb rv).keeps fun c ys ec=>?_,q,es,ep,hq,h2,h3,h4,h5⟩
  rw [zaF (zii ec e (fun z=>nomatch z))]
  exact ec
end
section
variable {X:Cx} {pins:List (Addr×Obj)} {σ:St} {H:Hp} {s:Shared} {a:Addr} {kvs:List (Key×V)} {k:Key} {u:Value} {A:Around} {E:Value->Shared->Prop}
end
def zuP (td ty tv:TE):TS:=fun D σ H=>tv σ H fun v H1=>td σ H1 fun x H2=>ty σ H2 fun y H3=>∃ a H4,x=.ref a/\zuq H3 a y v H4/\D.nx σ H4
section
variable {X:Cx} {o i e value:Expr} {pos pos' tpos:Pos} {td ty tv:TE}
theorem zrk (hu:X.A.units+1 < cLine) (ho:PE X o td) (hi:PE X i ty) (hv:PE X value tv) (hs:swapsWith value (some (.Subscript o i pos')) pos.line X.env=pure false) :
  PS X (.Assign [.Subscript o i pos'] value pos) (zuP td ty tv):=by
 intro pins s σ H D I h
 refine wpAny_Assign_Subscript (thn (hv pins s σ H _ I h) fun r s1 ⟨v,H1,I1,rv,q1⟩=>thn (ho pins s1 σ H1 _ I1 q1) fun u s2 ⟨x,H2,I2,rx,q2⟩=>thn (hi pins s2 σ H2 _ I2 q2) fun iv s3 ⟨y,H3,I3,ry,a,H4,ex,g,q3⟩=>?_) hs
 subst ex
 obtain rfl:u=Value.ref a:=rx
 exact zoF hu I3 g ry rv fun s4 I4=>⟨σ,H4,I4,q3⟩
end
theorem zpU {P:Program} {w:World} {H:Hp} (h:Heap) (hb:sysModules < h.objs.size):zdb P w H (h.push { cls:=.type "dict",data:=.dict #[] }) h.objs.size (.dK []) :=
 ⟨Nat.zero_le _,beq_eq_false_iff_ne.mpr (Ne.symm (qz hb)),[],.nil,Heap.DictOf.new h⟩
def zsL:TE:=fun _ H Q=>∀ p,H p=none->Q (.ref p) (upd H p (.dK []))
section
variable {X:Cx} {pos:Pos}
theorem zpr:PE X (.Dict [] [] pos) zsL:=fun pins s σ H Q I h =>
 wpAny_Dict_empty ⟨.ref s.heap.objs.size,_,I.laid (a:=s.heap.objs.size) (o:=.dK []) (t':=s.toks) (fun _ _ q=>qq _ q) (qt _) (zpU s.heap I.big),rfl,h _ (I.hok.fresh (qt _))⟩
end
structure M1 (X:Cx) (o:Expr) (m:Str) (apos:Pos) (e:Expr) (cpos:Pos):Prop where
 base:attributeBase o m X.env (eval o X.env)=eval o X.env
 few:((backTo cpos (starEach [e] X.env)).all (fun x=>!x.1) && (backToKw cpos (keywordEach [] X.env)).all (fun x=>x.1.isSome)
  && decide (([e]:List Expr).length+([]:List Keyword).length+(if ([]:List Keyword).isEmpty then 0 else 1) < 30))=true
 line:(apos.endLine==cpos.line)=true
 trees:backTo cpos (starEach [e] X.env)=[(false,eval e X.env)]
structure M2 (X:Cx) (o:Expr) (m:Str) (apos:Pos) (e f:Expr) (cpos:Pos):Prop where
 base:attributeBase o m X.env (eval o X.env)=eval o X.env
 few:((backTo cpos (starEach [e,f] X.env)).all (fun x=>!x.1) && (backToKw cpos (keywordEach [] X.env)).all (fun x=>x.1.isSome)
  && decide (([e,f]:List Expr).length+([]:List Keyword).length+(if ([]:List Keyword).isEmpty then 0 else 1) < 30))=true
 line:(apos.endLine==cpos.line)=true
 trees:backTo cpos (starEach [e,f] X.env)=[(false,eval e X.env),(false,eval f X.env)]
section
variable {X:Cx} {pins:List (Addr×Obj)} {σ:St} {H:Hp} {s:Shared} {a:Addr} {y d:V} {u r:Value} {o:Option V} {A:Around} {E:Value->Shared->Prop}
end
section
variable {X:Cx} {o e f:Expr} {apos cpos:Pos} {td ty tx:TE}
end
section
variable {X:Cx} {pins:List (Addr×Obj)} {σ:St} {H:Hp} {s:Shared} {a:Addr} {kvs:List (Key×V)} {A:Around} {E:Value->Shared->Prop}
end
section
variable {X:Cx} {pins:List (Addr×Obj)} {σ:St} {H:Hp} {s:Shared} {a:Addr} {y:V} {u:Value} {A:Around} {E:Value->Shared->Prop}
end
end L2
end
section
namespace Att
open PySem PySem.W PySem.Calls PyProof.Rows
theorem zhN {P:Params} {h:Heap}:∀ (ns:List Int) (vs:List Value),WellAll P h vs (ns.map WData.int)->IntsAre vs ns:=by
 intro ns
 induction ns with
 | nil =>
  intro vs w
  rw [qJ] at w
  cases w
  exact .nil
 | cons n ns ih =>
  intro vs w
  rw [ql] at w
  cases w with
  | cons a b =>
   cases a
   exact .cons _ _ (ih _ b)
theorem zjR {l:OpenLaw} {n:Nat} (hn:l.most=some n) {P:Params} {h:Heap} {args:List WData} {vals:List Value}
  (hpre:l.row.toRowW.claim.pre args=true) (hwl:WellAll P h vals args) :
  ∃ a vs ns,vals=[Value.ref a]/\args=[WData.list (ns.map WData.int)]/\h.get? a=some { cls:=.type "list",data:=.seq vs.toArray }/\IntsAre vs ns/\ns.length<=n:=by
 have hsh:WShape.hasAll [] args [.list .int]=true:=(pre_splitW hpre).1
 have hc:l.pre.holds [] { args:=args }=true:=(pre_splitW hpre).2
 obtain ⟨d,r,rfl,h1,h2⟩:=hasAllW_cons hsh
 obtain rfl:=hasAllW_nil h2
 obtain ⟨xs,rfl,h3⟩:=hasW_list h1
 obtain ⟨ns,rfl⟩:=items_int h3
 have hlen:ns.length<=n:=by
  unfold OpenLaw.pre at hc
  have h4:(WTm.not (.lt (.lit (.int (n:Int))) (.len (.arg 0)))).holds [] { args:=[.list (ns.map .int)] }=true:=by
   have h4:=(holds_andW hc).1
   rw [hn] at h4
   exact h4
  have h5:=condW_of h4 (w_not (w_lt w_lit (w_len_list (w_arg rfl))))
  rw [qe] at h5
  refine Nat.le_of_not_lt fun q=>?_
  have q':(n:Int) < ((ns.length:Nat):Int):=by omega
  first
   | (rw [qN q'] at h5;exact absurd h5 (by decide))
   | (simp at h5;omega)
 cases hwl with
 | cons w1 w2 =>
  cases w2
  cases w1 with
  | list ho hall=>exact ⟨_,_,ns,rfl,rfl,ho,zhN ns _ hall,hlen⟩
theorem zjZ (l:OpenLaw) (args:List WData):l.row.toRowW.claim.post args (.bool true) args=true :=
 postW_of (r:=l.row.toRowW) (X:=(true==true))
  (show WShape.has [] (.bool true) .bool=true by first | rfl | decide | simp [WShape.has,WShape.arms,WShape.armsAll])
  (show (WTm.eq .res (.lit (.bool true))).value [] { args:=args,res:=some (.bool true),after:=args }=some (.bool (true==true)) from w_eq_bool (w_res rfl) w_lit) rfl
theorem zvP {l:OpenLaw} {n:Nat} {q:Program} {loose:List Str} {XP:(Str->Option Value)->Heap->Prop} {YP:World->Heap->Prop} {d:DefRec} {x:Str}
  (hn:l.most=some n) (hdf:d.params.defaults=[])
  (hbind:∀ pm cd doc v:Value,bindArgs (docDef d.name d.params d.body d.scope pm cd doc) ⟨[v],[]⟩=pure [(x,v)])
  (hx:d.scope.names.lookup x=some .local\/d.scope.names.lookup x=some .cell)
  (hk:d.scope.kind=.function) (hco:d.scope.isCoroutine=false) (hgen:d.scope.isGenerator=false)
  (body:∀ (w:World) (s₀ s₁ s:Shared) (mg mb:Str->Option Value) (fa:Addr) (o:Obj) (pm cd doc:Value) (a:Addr) (vs:List Value) (ns:List Int),
   Ground q loose [] XP w s₀ mg mb s₁.heap->YP w s₁.heap ->
   s₁.heap.get? fa=some o->o.data=.func (docDef d.name d.params d.body d.scope pm cd doc)->s₁.heap.CodeRec cd d.name->mg d.name=some (.ref fa) ->
   s₁.heap.get? a=some { cls:=.type "list",data:=.seq vs.toArray }->IntsAre vs ns->ns.length<=n ->
   s.gens=#[]->s.os=s₁.os ->
   Fr s₁.heap s₁.heap.objs.size s.heap (bindL (envOfC d.name d.scope s₁.heap.objs.size fa cd).kindOf [(x,.ref a)] fun _=>none) ->
   Cl s₁.heap.objs.size (cellsFrom (s₁.heap.objs.size+1) d.scope.names []) s.heap (bindC (envOfC d.name d.scope s₁.heap.objs.size fa cd).kindOf [(x,.ref a)] fun _=>none) ->
   wpAny (model l.prog w) (callerA.deeper (envOfC d.name d.scope s₁.heap.objs.size fa cd)) (execs d.body (envOfC d.name d.scope s₁.heap.objs.size fa cd))
    (fun f s'=>f=.ret (.bool true)/\OldK s₁.heap s'.heap/\s'.os=s₁.os/\AllBare s'.gens) (fun _ _=>False) s) :
  WalkO q loose XP YP l.row.toRowW d [] (fun f vs=>PySem.call f vs):=by
 intro w s₀ s₁ mg mb G Y fa o pm cd doc dV kV ho hd hcd hD hmg hg args vals as hpre hlay hrd hwl hlo
 obtain rfl:dV=.none:=Dflts.none hD hdf
 obtain rfl:kV=.none:=Dflts.noKw hD
 obtain ⟨a,vs,ns,rfl,rfl,hobj,hints,hlen⟩:=zjR hn hpre hwl
 refine enter_call ?_
 refine call_cells_ret (o:=o) (by rw [depth_caller];decide) ho (fd_plain hd) G.T.nolimit hcd (hbind pm cd doc (.ref a)) (fun y hy=>?_) (fun h₁ tk F X=>?_) hco hgen hk
 ·obtain rfl:y=(x,Value.ref a):=List.mem_singleton.mp hy
  rcases hx with e | e
  ·exact .inl e
  ·exact .inr ⟨e,cellsFrom_some _ _ _ (.inl e)⟩
 ·refine wpAny_mono (body w s₀ s₁ { s₁ with heap:=h₁,toks:=tk } mg mb fa o pm cd doc a vs ns G Y ho (fd_plain hd) hcd hmg hobj hints hlen hg rfl F X) (fun f s' hq=>?_) (fun _ _ hq=>hq)
  obtain ⟨rfl,h2,h3,h4⟩:=hq
  exact ⟨.inl ⟨.bool true,.bool true,[],rfl,fun _=>rfl,.bool true,zjZ l _,fun _=>⟨List.Pairwise.nil,fun _ hm=>(nomatch hm)⟩⟩,h2,h3,h4⟩
theorem attach_call {l:OpenLaw} {n:Nat} {q:Program} {loose:List Str} {XP:(Str->Option Value)->Heap->Prop} {YP:World->Heap->Prop} {d:DefRec}
  (hn:l.most=some n) (hdf:d.params.defaults=[])
  (call:∀ (w:World) (s₀ s₁:Shared) (mg mb:Str->Option Value) (fa:Addr) (o:Obj) (pm cd doc:Value) (a:Addr) (vs:List Value) (ns:List Int),
   Ground q loose [] XP w s₀ mg mb s₁.heap->YP w s₁.heap ->
   s₁.heap.get? fa=some o->o.data=.func (docDef d.name d.params d.body d.scope pm cd doc)->s₁.heap.CodeRec cd d.name->mg d.name=some (.ref fa) ->
   s₁.heap.get? a=some { cls:=.type "list",data:=.seq vs.toArray }->IntsAre vs ns->ns.length<=n->s₁.gens=#[] ->
   codeAny (model l.prog w) callerA (.call (.ref fa) ⟨[.ref a],[]⟩) (fun r s'=>r=.ok (.ret (.bool true))/\OldK s₁.heap s'.heap/\s'.os=s₁.os/\AllBare s'.gens) s₁) :
  WalkO q loose XP YP l.row.toRowW d [] (fun f vs=>PySem.call f vs):=by
 intro w s₀ s₁ mg mb G Y fa o pm cd doc dV kV ho hd hcd hD hmg hg args vals as hpre hlay hrd hwl hlo
 obtain rfl:dV=.none:=Dflts.none hD hdf
 obtain rfl:kV=.none:=Dflts.noKw hD
 obtain ⟨a,vs,ns,rfl,rfl,hobj,hints,hlen⟩:=zjR hn hpre hwl
 refine enter_call (codeAny_mono (call w s₀ s₁ mg mb fa o pm cd doc a vs ns G Y ho (fd_plain hd) hcd hmg hobj hints hlen hg) fun r s' hq=>?_)
 obtain ⟨rfl,h2,h3,h4⟩:=hq
 exact ⟨.inl ⟨.bool true,.bool true,[],rfl,fun _=>rfl,.bool true,zjZ l _,fun _=>⟨List.Pairwise.nil,fun _ hm=>(nomatch hm)⟩⟩,h2,h3,h4⟩
section
variable {prog:Program} {w:World} {A:Around} {E:Value->Shared->Prop} {s:Shared} {K:Frag}
def zvJ (h:Heap) (L d:Addr):List (Addr×Obj):=(List.range h.objs.size).filterMap fun a=>if a=L\/a=d then none else (h.get? a).map fun o=>(a,o)
end
end Att
namespace L2
open PySem PySem.Spec PyProof.Rows
theorem zjL:∀ {vs:List Value} {ns:List Int},IntsAre vs ns->zcb (ns.map V.int) vs
 | _,_,.nil=>.nil
 | _,_,.cons n t h=>.cons ⟨t,rfl⟩ (zjL h)
def zvt (H:Hp):Prop:=∀ b,H b=none\/∃ o xs,H b=some (.frz o (.lst xs))
theorem zpE {P:Program} {w:World} {K:PySem.W.Frag} {mg mb:Str->Option Value} {CX:CXT} {k:Nat} {fa a:Addr} {fd:FuncData} {x:Str} {sp:Sp} {s₁:Shared} {vs:List Value} {ns:List Int}
  (KX:K.In s₁.heap) (hns:s₁.heap.Ns mainGlobals mg) (hb:s₁.heap.Ns builtinsNs mb) (hbb:∀ x:Str,x≠"__name__"->mb x=bootBuiltins x) (hlim:s₁.heap.NoLimit) (hg:s₁.gens=#[])
  (ha:s₁.heap.get? a=some { cls:=.type "list",data:=.seq vs.toArray }) (hi:IntsAre vs ns) (hl:ns.length<=sizeLine) (hr:Room k callerA)
  (F:∀ base:Heap,K.In base->base.Ns mainGlobals mg->FnOk P w K mg base CX k fa fd [x] sp) (hbind:∀ (s:Shared) (u:Value),BindsTo s fd ⟨[u],[]⟩ [(x,u)])
  (hsp:∀ H:Hp,zvt H->SqL K H a (ns.map V.int)->sp [.ref a] H (fun v _=>v=.bl true) fun _ _ _=>False)
  (hCX:∀ H e s',CX [] H s₁ (fun _ _ _=>False) e s'->False) :
  codeAny (model P w) callerA (.call (.ref fa) ⟨[.ref a],[]⟩) (fun r s'=>r=.ok (.ret (.bool true))/\OldK s₁.heap s'.heap/\s'.os=s₁.os/\AllBare s'.gens) s₁:=by
 have rv:=zjL hi
 have lenV:=hi.length
 have core:∀ H:Hp,zvt H->SqL K H a (ns.map V.int)->HOk P w H s₁.heap->(∀ b,H b≠none->b=a)->(H a≠none->K.lookup a=none) ->
   codeAny (model P w) callerA (.call (.ref fa) ⟨[.ref a],[]⟩) (fun r s'=>r=.ok (.ret (.bool true))/\OldK s₁.heap s'.heap/\s'.os=s₁.os/\AllBare s'.gens) s₁:=by
  intro H hO hS hok hA hK
  have base_of:∀ {b:Addr} {o:Obj},s₁.heap.get? b=some o->H b=none->(zpL s₁.heap H).get? b=some o:=fun e n=>zpK e n
  have noA:∀ {b:Addr} {o:Obj} {es:Array DictEntry} {ep:Nat},s₁.heap.get? b=some o->o.data=.dict es ep->H b=none:=fun {b o es ep} e d=>by
   cases q:H b with
   | none=>rfl
   | some u =>
    have e':b=a:=hA b (by rw [q];simp)
    subst e'
    rw [ha] at e;cases e
    have d':Data.seq vs.toArray _=Data.dict es ep:=d
    cases d'
  have nsK:∀ {b:Addr} {m:Str->Option Value},s₁.heap.Ns b m->(zpL s₁.heap H).Ns b m:=fun {b m} ⟨o,es,ep,e,d,r⟩=>⟨o,es,ep,base_of e (noA e d),d,r⟩
  have hKb:K.In (zpL s₁.heap H):=fun b o e=>base_of (KX b o e) (by
   cases q:H b with
   | none=>rfl
   | some u =>
    have e':b=a:=hA b (by rw [q];simp)
    subst e'
    rw [hK (by rw [q];simp)] at e;cases e)
  have hM:Mod K mg (zpL s₁.heap H):=⟨hKb,nsK hns,⟨mb,nsK hb,hbb⟩,let ⟨mc,h1,h2⟩:=hlim;⟨mc,nsK h1,h2⟩⟩
  have e0:Env0 P w K mg (zpL s₁.heap H) callerA [] s₁ H:=⟨rfl,hM,fun b o e=>zry e,Nat.le_of_eq (zoc _ _),trivial,fun b hb=>absurd (show b∈([]:List Addr) from hb) (by simp),hok,.of_eq hg⟩
  refine codeAny_mono ((F _ hKb (nsK hns)).run callerA [] s₁ H ⟨[.ref a],[]⟩ [.ref a] [.ref a] _ _ hr e0 (hbind s₁ (.ref a)) (.cons rfl .nil) (hsp H hO hS)) fun r s' h=>?_
  cases r with
  | error e=>exact (hCX H e s' h).elim
  | ok fl =>
   cases fl with
   | next=>exact False.elim h
   | brk=>exact False.elim h
   | cont=>exact False.elim h
   | ret u =>
    obtain ⟨v,H',os,bare,un,hok',r',q⟩:=h
    have q':v=.bl true:=q
    subst q'
    obtain rfl:u=Value.bool true:=r'
    refine ⟨rfl,OldK.of_keep fun b o e=>?_,os,bare⟩
    cases q:H b with
    | none=>exact un.keep b o e q (by intro z;exact absurd (show b∈([]:List Addr) from z) (by simp)) (by simp)
    | some u =>
     rcases hO b with z | ⟨ob,xs,z⟩
     ·rw [q] at z;cases z
     ·have z2:=un.frzs b ob _ z
      obtain ⟨e1,_⟩:=hok b _ z
      obtain ⟨e2,_⟩:=hok' b _ z2
      rw [e] at e1;cases e1
      exact e2
 cases hk:K.lookup a with
 | some o =>
  have e:=KX a o hk
  rw [ha] at e
  cases e
  refine core (fun _=>none) (fun _=>.inl rfl) (.inr ⟨_,vs.toArray,_,hk,rfl,rfl,rfl,by rw [qy,lenV];exact hl,by simpa using rv⟩) (fun b u z=>by have z':(none:Option HO)=some u:=z;cases z') (fun b z=>absurd rfl z) fun z=>absurd rfl z
 | none =>
  refine core (fun b=>if b=a then some (.frz { cls:=.type "list",data:=.seq vs.toArray } (.lst (ns.map V.int))) else none) (fun b=>?_) (.inl (.inr ⟨{ cls:=.type "list",data:=.seq vs.toArray },qR rfl⟩)) (fun b u z=>?_) (fun b z=>?_) fun _=>hk
  ·by_cases hb:b=a
   ·exact .inr ⟨_,_,qR hb⟩
   ·exact .inl (qS hb)
  ·by_cases hb:b=a
   ·have z':=(qR hb).symm.trans z
    cases z'
    subst hb
    exact ⟨ha,by rw [qe];exact hl,vs,_,rv,ha⟩
   ·have z':=(qS hb).symm.trans z
    cases z'
  ·by_cases hb:b=a
   ·exact hb
   ·exact absurd (qS hb) z
end L2
namespace L2
open PySem PySem.Spec PyProof.Rows
abbrev KOf {K:PySem.W.Frag} {h:Heap} (_:K.In h):PySem.W.Frag:=K
theorem walk_of {l:PySem.W.OpenLaw} {n k:Nat} {q:Program} {loose:List Str} {XP:(Str->Option Value)->Heap->Prop} {YP:World->Heap->Prop} {d:DefRec} {K:Params->PySem.W.Frag} {CX:World->CXT} {sp:World->Sp} {x:Str}
  (hn:l.most=some n) (hn2:n<=sizeLine) (hdf:d.params.defaults=[]) (hr:Room k callerA)
  (hY:∀ (w:World) (h:Heap),YP w h->(K w.params).In h)
  (F:∀ (w:World) (mg:Str->Option Value) (fa:Addr) (h:Heap),(K w.params).In h->h.Ns mainGlobals mg->mg d.name=some (.ref fa) ->
   ∃ fd:FuncData,(∀ (s:Shared) (u:Value),BindsTo s fd ⟨[u],[]⟩ [(x,u)]) /\
    ∀ base:Heap,(K w.params).In base->base.Ns mainGlobals mg->FnOk l.prog w (K w.params) mg base (CX w) k fa fd [x] (sp w))
  (hsp:∀ (w:World) (H:Hp) (a:Addr) (ns:List Int),ns.length<=n->zvt H->SqL (K w.params) H a (ns.map V.int)->sp w [.ref a] H (fun v _=>v=.bl true) fun _ _ _=>False)
  (hCX:∀ (w:World) (H:Hp) (s:Shared) (e:Value) (s':Shared),CX w [] H s (fun _ _ _=>False) e s'->False) :
  PySem.W.WalkO q loose XP YP l.row.toRowW d [] (fun f vs=>PySem.call f vs):=by
 refine Att.attach_call hn hdf fun w s₀ s₁ mg mb fa o pm cd doc a vs ns G Y ho hd hcd hmg hobj hints hlen hg=>?_
 have KX:=hY w _ Y
 obtain ⟨fd,hb,hF⟩:=F w mg fa _ KX G.T.g hmg
 exact zpE KX G.T.g G.T.b G.T.builtins G.T.nolimit hg hobj hints (qH hlen hn2) hr hF hb (fun H hO hS=>hsp w H a ns hlen hO hS) fun H e s'=>hCX w H s₁ e s'
end L2
namespace L2
open PySem PySem.Spec PyProof.Rows
def zfC (s:Stmt) (j:Nat):Stmt:=match s with
 | .ClassDef _ _ _ body _ _ _ _ _ _ _=>body.getD j (.Pass ⟨0,0,0,0⟩)
 | _=>.Pass ⟨0,0,0,0⟩
def zcJ (s:Stmt):Arguments:=match s with
 | .FunctionDef _ a _ _ _ _ _ _ _ _=>a
 | _=>{ posonlyargs:=[],args:=[],vararg:=none,kwonlyargs:=[],kw_defaults:=[],kwarg:=none,defaults:=[] }
def zbv (s:Stmt):List Stmt:=match s with
 | .FunctionDef _ _ b _ _ _ _ _ _ _=>b
 | _=>[]
def zao (s:Stmt):Scope:=match s with
 | .FunctionDef _ _ _ _ _ _ sc _ _ _=>sc
 | _=>{ kind:=.function,names:=[],isGenerator:=false,isCoroutine:=false }
abbrev CX0:CXT:=fun _ _ _ _ _ _=>False
abbrev E0:XK:=fun _ _ _=>False
theorem zkZ {X:Cx}:zh3 CX0 X E0:=fun _ _ _ _ _ _ _ h=>h.elim
structure Fun (K:PySem.W.Frag) (x qual:Str) (st:Stmt) (f:Addr) (fd:FuncData):Prop where
 ex:∃ (oc:Value) (od:Option Addr) (kV doc pm:Value) (an:Option Addr) (cdv ct:Value) (osl:Array (Option Value)),
  fd=PySem.W.fnOf x qual (zcJ st) (zbv st) (zao st) .none kV doc pm an cdv ct/\K.lookup f=some ⟨oc,od,.func fd,osl⟩/\PySem.W.codeIn K cdv qual=true
 kp:PySem.W.keepIn K (.ref f)=true
section
variable {P:Program} {w:World} {K:PySem.W.Frag} {mg:Str->Option Value} {base:Heap}
theorem Fun.ok {x qual:Str} {st:Stmt} {f:Addr} {fd:FuncData} {N ps:List Str} {k:Nat} {sp:Sp} (F:Fun K x qual st f fd) (S:FnScope N ps (zao st)) (len:∀ vs H Q E,sp vs H Q E->vs.length=ps.length)
  (hbody:∀ (cdv:Value) (A:Around) (outer:List Env) (s:Shared) (H:Hp) (vs:List V) (Q:VK) (E:XK),Room k (A.deeper (envOfC qual (zao st) s.heap.objs.size f cdv))->sp vs H Q E ->
   ∃ t,PSs (zkI CX0 P w K mg base N qual (zao st) f cdv A outer s H E).nox (zbv st) t/\t { nx:=fun _ H'=>Q .non H',rt:=Q } (zeq N vs) H):FnOk P w K mg base CX0 (k+1) f fd ps sp:=by
 obtain ⟨oc,od,kV,doc,pm,an,cdv,ct,osl,rfl,lk,hcd⟩:=F.ex
 refine zvf lk hcd S len fun A outer s H vs Q E hr hsp=>?_
 obtain ⟨t,h,q⟩:=hbody cdv A outer s H vs Q E hr hsp
 exact ⟨t,h.nox,q⟩
theorem Fun.binds {x qual:Str} {st:Stmt} {f:Addr} {fd:FuncData} {ps:List Str} (F:Fun K x qual st f fd)
  (h:∀ (kV doc pm:Value) (an:Option Addr) (cdv ct:Value) (us:List Value),us.length=ps.length->bindArgs (PySem.W.fnOf x qual (zcJ st) (zbv st) (zao st) .none kV doc pm an cdv ct) ⟨us,[]⟩=pure (ps.zip us)):zdG K fd ps []:=by
 obtain ⟨oc,od,kV,doc,pm,an,cdv,ct,osl,rfl,lk,hcd⟩:=F.ex
 exact .all (h kV doc pm an cdv ct)
theorem zoe {x qual:Str} {st:Stmt} {f:Addr} {oc:Value} {od an:Option Addr} {osl:Array (Option Value)} {kV doc pm cdv ct:Value} (l:K.lookup f=some ⟨oc,od,.func (PySem.W.fnOf x qual (zcJ st) (zbv st) (zao st) .none kV doc pm an cdv ct),osl⟩)
  (c:PySem.W.codeIn K cdv qual=true) (k:PySem.W.keepIn K (.ref f)=true):Fun K x qual st f (PySem.W.fnOf x qual (zcJ st) (zbv st) (zao st) .none kV doc pm an cdv ct):=⟨⟨oc,od,kV,doc,pm,an,cdv,ct,osl,rfl,l,c⟩,k⟩
end
section
variable {X:Cx}
end
theorem zn9 {A B:Prop} (h:B):if false=true then A else B:=by
 rw [qS qp]
 exact h
theorem zn8 {A B:Prop} (h:A):if true=true then A else B:=by
 rw [qR rfl]
 exact h
def zcd (H H':Hp):Prop:=∀ b o,H b=some o->H' b=some o
theorem zcd.refl (H:Hp):zcd H H:=fun _ _ h=>h
theorem zcd.trans {H H1 H2:Hp} (a:zcd H H1) (b:zcd H1 H2):zcd H H2:=fun c o h=>b c o (a c o h)
theorem zcd.free {H H':Hp} (e:zcd H H') {l:Addr} (h:H' l=Option.none):H l=Option.none:=by
 cases q:H l with
 | none=>rfl
 | some o =>
  rw [e l o q] at h
  cases h
theorem zcd.seq {K:PySem.W.Frag} {H H':Hp} {a:Addr} {xs:List V} (e:zcd H H') (h:SqL K H a xs):SqL K H' a xs:=by
 rcases h with (h | ⟨o,h⟩) | h
 ·exact .inl (.inl (e _ _ h))
 ·exact .inl (.inr ⟨o,e _ _ h⟩)
 ·exact .inr h
section
variable {κ:Type} [DecidableEq κ]
end
end L2
end
section
namespace L2
open PySem PySem.Spec PyProof.Rows
theorem ze3 {prog:Program} {w:World} {A:Around} {R:Result->Shared->Prop} {s:Shared} {elt target iter:Expr} {ifs:List Expr} {scope:Scope} {pos:Pos} {it acc:Value} {env:Env} (I:Nat->Shared->Prop)
  (turn:∀ n s,I n s->wpAny (model prog w) A (pyNext it) (fun r s₁=>match r with
   | none=>R (.ok .next) s₁
   | some v=>wpAny (model prog w) A (letOwnedTupleGo target it v) (fun _ s₁'=>wpAny (model prog w) A (assign target env v) (fun _ s₂ =>
     wpAny (model prog w) A (forIn ifs true fun c r=>if r=true then do let ok ← isTrue c env (eval c env);pure (ForInStep.yield ok) else pure (ForInStep.yield r)) (fun ok s₃ =>
      if ok=true then wpAny (model prog w) A (eval elt env) (fun x s₄ =>
       wpAny (model prog w) A (call (.builtin "list.append") [acc,x]) (fun _ s₅=>∃ m,m < n/\I m s₅) (fun _ _=>False) s₄) (fun _ _=>False) s₃
      else ∃ m,m < n/\I m s₃) (fun _ _=>False) s₂) (fun _ _=>False) s₁') (fun _ _=>False) s₁) (fun _ _=>False) s)
  (n:Nat) (h:I n s) :
  codeAny (model prog w) A (.compLoop (.ListComp elt [⟨target,iter,ifs,0⟩] scope pos) 0 it acc env) R s:=by
 refine codeAny_loop rfl I (fun n s hI=>?_) n h
 show wpAny _ A ((compTurn (.ListComp elt [⟨target,iter,ifs,0⟩] scope pos) 0 it acc env).onRaise (fun x=>do noteFrame x env;theTreesLotGoes x)) _ _ s
 refine wpAny_noted ?_
 rw [compTurn_list]
 refine qu (wpAny_standAt (qu (wpAny_mono (turn n s hI) (fun r s₁ h₁=>?_) fun _ _ h'=>h'.elim)))
 cases r with
 | none=>exact qx h₁
 | some v =>
  refine qu (wpAny_mono h₁ (fun _ s₁' h₁'=>?_) fun _ _ h'=>h'.elim)
  refine qu (wpAny_mono h₁' (fun _ s₂ h₂=>qu (wpAny_mono h₂ (fun ok s₃ h₃=>?_) fun _ _ h'=>h'.elim)) fun _ _ h'=>h'.elim)
  cases ok with
  | false=>exact qx ⟨rfl,h₃⟩
  | true =>
   exact qu (qu (wpAny_mono h₃ (fun x s₄ h₄=>qu (wpAny_mono h₄ (fun _ s₅ h₅=>qx (qx ⟨rfl,h₅⟩)) fun _ _ h'=>h'.elim)) fun _ _ h'=>h'.elim))
def zdh (X:Cx) (N':List Str) (scope:Scope) (cl:List (Str×Addr)) (C:Addr) (s₀:Shared) (H₀:Hp) (fp:List Addr):Cx :=
 { X with N:=N',s₀:=s₀,H₀:=H₀,env:=compEnvC scope cl C X.env,outer:=X.stack,stack:=X.stack,ex:=fp,fn:=fun _=>false,pn:=[],xe:=fun _ _=>False }
def zer (env:Env):List (Str×NameKind)->List (Str×Addr)->List (Str×Addr)
 | [],acc=>acc
 | (n,k)::r,acc=>zer env r (if k==.free then (match env.cells.lookup n with | some c=>(n,c)::acc | none=>acc) else acc)
theorem zjp {env:Env} {scope:Scope} (h:∀ y∈scope.names,y.2=.free->∃ c,env.cells.lookup y.1=some c):closureFor scope env=pure (zer env scope.names []):=by
 have all:∀ (l:List (Str×NameKind)) (acc:List (Str×Addr)),(∀ y∈l,y.2=.free->∃ c,env.cells.lookup y.1=some c) ->
   (forIn l acc fun x r=>match x with
    | (name,kind)=>if kind==.free then do let c ← cellOf env name;pure (ForInStep.yield ((name,c)::r)) else pure (ForInStep.yield r):Sem (List (Str×Addr)))=pure (zer env l acc):=by
  intro l
  induction l with
  | nil=>intro acc _;rfl
  | cons y r ih =>
   intro acc hl
   obtain ⟨n,k⟩:=y
   rw [List.forIn_cons]
   have hr:∀ y∈r,y.2=.free->∃ c,env.cells.lookup y.1=some c:=fun y hy=>hl y (qg _ hy)
   unfold zer
   cases hk:(k==NameKind.free) with
   | false =>
    simp only [hk,qo,if_false,pure_bind]
    exact ih acc hr
   | true =>
    obtain ⟨c,hc⟩:=hl (n,k) qf (by simpa using hk)
    have hc':env.cells.lookup n=some c:=hc
    simp only [hk,if_true,cellOf,hc',pure_bind]
    exact ih _ hr
 have e:=all scope.names [] h
 exact Eq.trans (bind_pure _) e
theorem zhU {env:Env}:∀ (l:List (Str×NameKind)) (acc:List (Str×Addr)),(∀ x c,acc.lookup x=some c->env.cells.lookup x=some c)->∀ x c,(zer env l acc).lookup x=some c->env.cells.lookup x=some c
 | [],_,h=>h
 | (n,k)::r,acc,h=>by
  unfold zer
  refine zhU r _ ?_
  split
  ·split
   ·rename_i c hc
    intro x d hx
    rw [List.lookup_cons] at hx
    cases e:x==n with
    | true =>
     rw [e] at hx
     have e':x=n:=by simpa using e
     have e2:c=d:=qD hx
     rw [e',← e2];exact hc
    | false=>rw [e] at hx;exact h x d hx
   ·exact h
  ·exact h
theorem ziP {env:Env}:∀ (l:List (Str×NameKind)) (acc:List (Str×Addr)) (x:Str),(acc.lookup x).isSome=true->((zer env l acc).lookup x).isSome=true
 | [],_,_,h=>h
 | (n,k)::r,acc,x,h=>by
  unfold zer
  refine ziP r _ x ?_
  split
  ·split
   ·rw [List.lookup_cons]
    split
    ·rfl
    ·exact h
   ·exact h
  ·exact h
theorem zhV {env:Env}:∀ (l:List (Str×NameKind)) (acc:List (Str×Addr)) (x:Str) (c:Addr),(x,NameKind.free)∈l->env.cells.lookup x=some c->((zer env l acc).lookup x).isSome=true
 | [],_,_,_,h,_=>nomatch h
 | (n,k)::r,acc,x,c,h,hc=>by
  unfold zer
  rcases List.mem_cons.mp h with e | h
  ·injection e with e1 e2
   subst e1;subst e2
   refine ziP r _ _ ?_
   rw [qR (by rfl),hc]
   simp
  ·exact zhV r _ x c h hc
theorem zdc {env:Env}:∀ (names:List (Str×NameKind)) (x:Str) (k':NameKind),
  (names.map fun (n,k)=>if (k==NameKind.free && env.scope.kind==.function && env.kindOf n==some .cell) then (n,NameKind.cell) else (n,k)).lookup x=some k' ->
  names.lookup x=some k'\/(k'=.cell/\names.lookup x=some .free)
 | [],_,_,h=>by simp at h
 | (n,k)::r,x,k',h=>by
  have ih:=@zdc env r x k'
  have h':List.lookup x ((if (k==NameKind.free && env.scope.kind==.function && env.kindOf n==some .cell)=true then (n,NameKind.cell) else (n,k))::(r.map fun (n,k)=>if (k==NameKind.free && env.scope.kind==.function && env.kindOf n==some .cell) then (n,NameKind.cell) else (n,k)))=some k':=h
  cases hx:x==n with
  | true =>
   by_cases hc:(k==NameKind.free && env.scope.kind==.function && env.kindOf n==some .cell)=true
   ·rw [qR hc] at h'
    simp only [List.lookup_cons,hx] at h' ⊢
    have hk:k=.free:=by
     simp only [Bool.and_eq_true,beq_iff_eq] at hc
     exact hc.1.1
    right
    exact ⟨(qD h').symm,by rw [hk]⟩
   ·rw [qS hc] at h'
    simp only [List.lookup_cons,hx] at h' ⊢
    exact .inl h'
  | false =>
   have h2:List.lookup x (r.map fun (n,k)=>if (k==NameKind.free && env.scope.kind==.function && env.kindOf n==some .cell) then (n,NameKind.cell) else (n,k))=some k':=by
    by_cases hc:(k==NameKind.free && env.scope.kind==.function && env.kindOf n==some .cell)=true
    ·rw [qR hc] at h'
     simpa only [List.lookup_cons,hx] using h'
    ·rw [qS hc] at h'
     simpa only [List.lookup_cons,hx] using h'
   simp only [List.lookup_cons,hx]
   exact ih h2
structure CompScope (X:Cx) (scope:Scope):Prop where
 kind:scope.kind=.function
 nocell:∀ y∈scope.names,y.2≠.cell
 names:∀ y∈scope.names,y.2=.local->scope.names.lookup y.1=some .local
 free:∀ y∈scope.names,y.2=.free->X.env.kindOf y.1=some .cell\/X.env.kindOf y.1=some .free
def zlY (fv:List (Option Nat)) (σ:St):St:=fv.map fun o=>o.bind fun j=>(σ[j]?).join
section
variable {X:Cx} {pins:List (Addr×Obj)} {σ:St} {H:Hp} {s:Shared}
theorem zg1 (I:Inv X pins σ H s) {scope:Scope} (S:CompScope X scope):closureFor scope X.env=pure (zer X.env scope.names []) :=
 zjp fun y hy hf=>I.ok.has y.1 (S.free y hy hf)
theorem zsd (I:Inv X pins σ H s) {N':List Str} {scope:Scope} (S:CompScope X scope) {fp:List Addr} (hf:∀ b∈fp,zmR X pins H b) (hlt:∀ b∈fp,b < s.heap.objs.size) {C:Addr} (hC:s.heap.objs.size<=C) :
  (zdh X N' scope (zer X.env scope.names []) C s H fp).Ok:=by
 have sub:=zhU (env:=X.env) scope.names [] (fun x c h=>by simp at h)
 refine ⟨I.ok.mod,S.kind,I.ok.glob,I.ok.blt,hC,fun x y c h1 h2=>I.ok.inj x y c (sub x c h1) (sub y c h2),fun x hx=>?_,fun x c h _=>by simp [zdh] at h,I.ok.hd,I.ok.frames,.inl rfl,fun b hb=>⟨?_,fun x c e=>?_⟩,I.bs,qH I.ok.bsz I.sz,
  fun b o e hb=>?_,fun b hb=>?_,I.stack,I.stkFree⟩
 ·have hx':((relabel scope X.env).names.lookup x=some .cell\/(relabel scope X.env).names.lookup x=some .free):=hx
  have hfr:scope.names.lookup x=some .free:=by
   rcases hx' with h | h
   ·rcases zdc _ _ _ h with h | ⟨_,h⟩
    ·exact absurd rfl (S.nocell _ (PySem.mem_of_lookup h))
    ·exact h
   ·rcases zdc _ _ _ h with h | ⟨h,_⟩
    ·exact h
    ·cases h
  have hm:=PySem.mem_of_lookup hfr
  obtain ⟨c,hc⟩:=I.ok.has x (S.free _ hm rfl)
  exact Option.isSome_iff_exists.mp (zhV _ _ x c hm hc)
 ·exact qz (qB (hlt b hb) hC)
 ·exact (hf b hb).2.2.2.2.1 x c (sub x c e)
 ·rcases (hf b hb).2.2.2.1 with z | z
  ·exact I.ok.noex b o e z
  ·exact absurd (qB (qr e) I.ok.bsz) (Nat.not_lt.mpr z)
 ·intro z
  rcases List.mem_cons.mp (I.stkSub b z) with e | e
  ·exact (hf b hb).2.1 e
  ·exact (hf b hb).2.2.1 e
theorem zmF (I:Inv X pins σ H s) {N':List Str} {scope:Scope} (S:CompScope X scope) {fp:List Addr} (hf:∀ b∈fp,zmR X pins H b) (hlt:∀ b∈fp,b < s.heap.objs.size) {C:Addr} (hC:C=s.heap.objs.size) {fv:List (Option Nat)} (hlen:fv.length=N'.length)
  (hfv:∀ (i j:Nat) x,N'[i]?=some x->fv[i]?=some (some j)->X.N[j]?=some x/\(X.env.kindOf x=some .cell\/X.env.kindOf x=some .free)/\scope.names.lookup x=some .free) {h':Heap} {t':Nat} {m:Str->Option Value} (hn:h'.Ns C m) (hk:∀ b o,s.heap.get? b=some o->h'.get? b=some o) :
  Inv (zdh X N' scope (zer X.env scope.names []) C s H fp) [] (zlY fv σ) H { s with heap:=h',toks:=t' }:=by
 have ok:=zsd (N':=N') I S hf hlt (C:=C) (Nat.le_of_eq hC.symm)
 have sub:=zhU (env:=X.env) scope.names [] (fun x c h=>by simp at h)
 refine ⟨ok,rfl,I.bare,Un.kept hk,⟨m,hn,fun i x v e1 e2 e3=>?_⟩,fun x c e=>?_,?_,fun x c e=>I.freeC x c (sub x c e),fun p hp=>?_,I.hok.kept hk,?_⟩
 ·have e1':N'[i]?=some x:=e1
  have e2':(zlY fv σ)[i]?=some (some v):=e2
  unfold zlY at e2'
  rw [qj] at e2'
  cases q:fv[i]? with
  | none=>rw [q] at e2';cases e2'
  | some o =>
   rw [q] at e2'
   cases o with
   | none=>cases e2'
   | some j =>
    have e2'':(σ[j]?).join=some v:=by simpa using e2'
    obtain ⟨hN,hkk,hfree⟩:=hfv i j x e1' q
    have hσ:σ[j]?=some (some v):=by
     cases z:σ[j]? with
     | none=>rw [z] at e2'';cases e2''
     | some w=>rw [z] at e2'';cases w with
      | none=>cases e2''
      | some w'=>simp at e2'';rw [e2'']
    obtain ⟨m0,hn0,hl⟩:=I.loc
    obtain ⟨u,r,l⟩:=hl j x v hN hσ (.inr hkk)
    refine ⟨u,r,.inr ⟨?_,?_⟩⟩
    ·rcases e3 with z | z | z
     ·have z':(relabel scope X.env).names.lookup x=some .local:=z
      rcases zdc _ _ _ z' with y | ⟨y,_⟩
      ·rw [hfree] at y;cases y
      ·cases y
     ·exact .inl z
     ·exact .inr z
    ·rcases l with ⟨k,_⟩ | ⟨_,c,hc,hcell⟩
     ·rcases hkk with y | y
      ·rw [k] at y;cases y
      ·rw [k] at y;cases y
     ·obtain ⟨c',hc'⟩:=Option.isSome_iff_exists.mp (zhV scope.names [] x c (PySem.mem_of_lookup hfree) hc)
      have e:=sub x c' hc'
      rw [hc] at e
      cases e
      obtain ⟨oc,ho,hd⟩:=hcell
      exact ⟨c,hc',oc,hk _ _ ho,hd⟩
 ·obtain ⟨v,oc,ho,hd⟩:=I.cell x c (sub x c e)
  exact ⟨v,oc,hk _ _ ho,hd⟩
 ·exact I.hok.fresh (Nat.le_of_eq hC.symm)
 ·exact absurd (show p∈([]:List (Addr×Obj)) from hp) (by simp)
 ·show (zlY fv σ).length=N'.length
  unfold zlY
  rw [qe,hlen]
theorem zpX (I:Inv X pins σ H s) {N':List Str} {scope:Scope} {cl:List (Str×Addr)} {fp:List Addr} (hf:∀ b∈fp,zmR X pins H b) {C:Addr} (hC:s.heap.objs.size<=C) {σ':St} {H':Hp} {s':Shared} {pl:List (Addr×Obj)}
  (J:Inv (zdh X N' scope cl C s H fp) pl σ' H' s') {h':Heap} (hs:Heap.SameBut C s'.heap h'):Inv X pins σ H' { s' with heap:=h' }:=by
 have hCn:H' C=none:=J.free
 refine I.call' (ch:=fp) (s':={ s' with heap:=h' }) J.os ?_ ?_ J.bare fun b hb=>⟨(hf b hb).2.2.2.1,(hf b hb).2.1,(hf b hb).2.2.2.2.1,(hf b hb).2.2.2.2.2⟩
 ·have U:Un (frs X.stack) fp H H' s.heap s'.heap:=J.base
  have neC:∀ b o,s.heap.get? b=some o->b≠C:=fun b o e=>qz (qB (qr e) hC)
  refine ⟨fun b o e n h1 h2=>?_,fun b o e n h1 h2=>?_,U.free,fun b o e h2=>?_,U.tups,U.frzs,U.tbls⟩
  ·exact (hs.2 b (neC b o e)).trans (U.keep b o e n h1 h2)
  ·obtain ⟨sl,q⟩:=U.slot b o e n h1 h2
   exact ⟨sl,(hs.2 b (neC b o e)).trans q⟩
  ·obtain ⟨o',q⟩:=U.there b o e h2
   exact ⟨o',(hs.2 b (neC b o e)).trans q⟩
 ·intro b u e
  refine (J.hok b u e).stay (fun c v hc q=>(hs.2 c ?_).trans q) (fun _ q=>q) fun _ _ q=>q
  rintro rfl
  rcases hc with z | z
  ·rw [← z,hCn] at e;cases e
  ·rw [hCn] at z;cases z
end
end L2
end
section
namespace L2
open PySem PySem.Spec PyProof.Rows
def PTs (X:Cx) (es:List Expr) (t:TT):Prop :=
 ∀ (pins:List (Addr×Obj)) (s:Shared) (σ:St) (H:Hp) (Q:Bool->Hp->Prop),Inv X pins σ H s->t σ H Q ->
  wpAny (model X.prog X.w) X.A (forIn es true fun c r=>if r=true then do let ok ← isTrue c X.env (eval c X.env);pure (ForInStep.yield ok) else pure (ForInStep.yield r)) (TP X pins σ Q) X.xe s
def zuE:TT:=fun _ H Q=>Q true H
theorem znu {X:Cx}:PTs X [] zuE:=fun _ _ _ H _ I h=>wpAny_tests_nil ⟨H,I,h⟩
theorem zrh {X:Cx} {c:Expr} {t:TT} (hc:PT X c t):PTs X [c] t:=fun pins s σ H Q I h=>wpAny_tests_one (hc pins s σ H Q I h)
def LcW (J:It) (g:TG) (tc:TT) (te:TE) (acc:Addr) (Q:V->Hp->Prop) (σ0:St) (H1:Hp):Prop :=
 ∃ W:Nat->Nat->List V->St->Hp->Prop,(∃ m,W 0 m [] σ0 (upd H1 acc (.lst [])))/\∀ i m ys σ' H',W i m ys σ' H'->H' acc=some (.lst ys) /\
  ((J.stop i H'/\Q (.ref acc) H')\/(J.go i H'/\∀ x H2,J.yld i H' x H2->g x σ' H2 fun σ2 H3=>tc σ2 H3 fun b H4 =>
   if b=true then te σ2 H4 fun v H5=>H5 acc=some (.lst ys)/\ys.length < sizeLine/\∃ m',m' < m/\W (i+1) m' (ys++[v]) σ2 (upd H5 acc (.lst (ys++[v])))
   else ∃ m',m' < m/\W (i+1) m' ys σ2 H4))
def tLC (wi:TI) (g:TG) (tc:TT) (te:TE) (fv:List (Option Nat)):TE:=fun σ H Q=>wi σ H fun J H1=>∀ acc,H1 acc=none->LcW J g tc te acc Q (zlY fv σ) H1
def PB (X:Cx) (N':List Str) (scope:Scope) (tg:Expr) (ifs:List Expr) (elt:Expr) (g:TG) (tc:TT) (te:TE):Prop :=
 ∀ (cl:List (Str×Addr)) (C:Addr) (s₀:Shared) (H₀:Hp) (fp:List Addr),PG (zdh X N' scope cl C s₀ H₀ fp) tg g/\PTs (zdh X N' scope cl C s₀ H₀ fp) ifs tc/\PE (zdh X N' scope cl C s₀ H₀ fp) elt te
structure FvOk (X:Cx) (N':List Str) (scope:Scope) (fv:List (Option Nat)):Prop where
 len:fv.length=N'.length
 at':∀ (i j:Nat) x,N'[i]?=some x->fv[i]?=some (some j)->X.N[j]?=some x/\(X.env.kindOf x=some .cell\/X.env.kindOf x=some .free)/\scope.names.lookup x=some .free
section
variable {X:Cx} {elt tg iter:Expr} {ifs:List Expr} {scope:Scope} {pos:Pos} {N':List Str} {fv:List (Option Nat)} {g:TG} {tc:TT} {te:TE}
theorem zl8 {pins:List (Addr×Obj)} {σ:St} {H1:Hp} {s2:Shared} {it:Addr} {fp:List Addr} {tn:Nat->Heap->Prop} {J:It} {Q:VK} {RR:Value->Addr->Result->Shared->Prop} (hc:X.calm=true) (S:CompScope X scope) (F:FvOk X N' scope fv) (hb:PB X N' scope tg ifs elt g tc te)
  (I2:Inv X pins σ H1 s2) (T:Turn X.prog X.w X.K tg J fp it tn) (st2:tn 0 s2.heap) (f2:∀ b∈fp,zmR X pins H1 b) (q:∀ acc,H1 acc=none->LcW J g tc te acc Q (zlY fv σ) H1)
  (hRR:∀ (a C:Addr) (H':Hp) (s':Shared) (m:Str->Option Value),s'.heap.Ns C m->(∀ h',Heap.SameBut C s'.heap h'->Inv X pins σ H' { s' with heap:=h' })->zmR X pins H' C->Q (.ref a) H'->RR (.ref a) C (.ok .next) s') :
  wpAny (model X.prog X.w) X.A (newList []) (fun acc s₃=>wpAny (model X.prog X.w) X.A (newFunctionEnv scope X.env.globals (zer X.env scope.names []) [] X.env.qual none .none (some X.env)) (fun cenv s₄ =>
   codeAny (model X.prog X.w) X.A (.compStart (.ListComp elt [⟨tg,iter,ifs,0⟩] scope pos) 0 (.ref it) acc { cenv with scope:=relabel scope X.env }) (RR acc cenv.locals) s₄) X.xe s₃) X.xe s2:=by
 refine wpAny_newObj_type ?_
 have hacc:H1 s2.heap.objs.size=none:=I2.fresh
 have I3:Inv X pins σ (upd H1 s2.heap.objs.size (.lst [])) { s2 with heap:=s2.heap.push { cls:=.type "list",data:=.seq ([]:List Value).toArray } }:=I2.lnew (t':=s2.toks) .nil (Nat.zero_le _)
 generalize hs3:({ s2 with heap:=s2.heap.push { cls:=.type "list",data:=.seq ([]:List Value).toArray } }:Shared)=s3 at I3 ⊢
 have up:∀ b o,s2.heap.get? b=some o->s3.heap.get? b=some o:=fun b o e=>by rw [← hs3];exact qq _ e
 have lt2:∀ b∈fp,b < s2.heap.objs.size:=fun b hb=>by
  obtain ⟨o,e,_⟩:=T.obj 0 _ st2 b hb
  exact qr e
 have sz3:s2.heap.objs.size < s3.heap.objs.size:=by rw [← hs3];show _ < (s2.heap.push _).objs.size;rw [Heap.size_push];exact Nat.lt_succ_self _
 have lt3:∀ b∈fp,b < s3.heap.objs.size:=fun b hb=>Nat.lt_trans (lt2 b hb) sz3
 have f3:∀ b∈fp,zmR X pins (upd H1 s2.heap.objs.size (.lst [])) b:=fun b hb=>⟨by rw [zaF (qz (lt2 b hb))];exact (f2 b hb).1,(f2 b hb).2⟩
 have st3:tn 0 s3.heap:=T.keep _ _ _ st2 fun b _ o e=>up b o e
 refine wpAny_newFunctionEnv S.nocell (by intro y hy;simp at hy) (fun h4 hn4 sb4=>?_) S.kind
 have k4:∀ b o,s3.heap.get? b=some o->h4.get? b=some o:=fun b o e=>(sb4.2 b (qz (qr e))).trans (qq _ e)
 have st4:tn 0 h4:=T.keep _ _ _ st3 fun b _ o e=>k4 b o e
 have I4:=zmF I3 S f3 lt3 (C:=s3.heap.objs.size) rfl F.len F.at' hn4 k4 (t':=s3.toks+([]:List (Str×Value)).length)
 generalize hX:zdh X N' scope (zer X.env scope.names []) s3.heap.objs.size s3 (upd H1 s2.heap.objs.size (.lst [])) fp=X' at I4
 obtain ⟨bg,bt,be⟩:=hb (zer X.env scope.names []) s3.heap.objs.size s3 (upd H1 s2.heap.objs.size (.lst [])) fp
 rw [hX] at bg bt be
 have hprog:X'.prog=X.prog:=by rw [← hX];rfl
 have hw:X'.w=X.w:=by rw [← hX];rfl
 have hK:X'.K=X.K:=by rw [← hX];rfl
 have hA:X'.A=X.A:=by rw [← hX];rfl
 have hcalm:X'.calm=true:=by rw [← hX];exact hc
 have hxe:X'.xe=fun _ _=>False:=by rw [← hX];rfl
 have henv:X'.env=compEnvC scope (zer X.env scope.names []) s3.heap.objs.size X.env:=by rw [← hX];rfl
 have stat:∀ {H':Hp},(∀ b∈fp,H' b=none)->∀ b∈fp,zmR X' [] H' b:=fun {H'} hn b hb=>by
  have f:=f3 b hb
  have ok:=I4.ok
  refine ⟨hn b hb,(ok.exf b (by rw [← hX];exact hb)).1,ok.exfs b (by rw [← hX];exact hb),.inl (by rw [← hX];exact hb),fun x c e=>(ok.exf b (by rw [← hX];exact hb)).2 x c e,fun p hp=>?_⟩
  rw [← hX] at hp
  exact absurd (show p∈([]:List (Addr×Obj)) from hp) (by simp)
 obtain ⟨W,⟨m0,w0⟩,turn⟩:=q s2.heap.objs.size hacc
 have loop:∀ s5:Shared,s5={ s3 with heap:=h4,toks:=s3.toks+([]:List (Str×Value)).length } ->
   codeAny (model X.prog X.w) X.A (.compLoop (.ListComp elt [⟨tg,iter,ifs,0⟩] scope pos) 0 (.ref it) (.ref s2.heap.objs.size) (compEnvC scope (zer X.env scope.names []) s3.heap.objs.size X.env))
    (RR (.ref s2.heap.objs.size) s3.heap.objs.size) s5:=by
  intro s5 hs5
  refine ze3 (fun n s'=>∃ i ys σ' H',Inv X' [] σ' H' s'/\tn i s'.heap/\(∀ b∈fp,H' b=none)/\W i n ys σ' H') ?_ m0 ⟨0,[],zlY fv σ,_,hs5▸I4,hs5▸st4,fun b hb=>(f3 b hb).1,w0⟩
  rintro n s6 ⟨i,ys,σ6,H6,I6,st6,fr6,w6⟩
  obtain ⟨ha6,turn6⟩:=turn i n ys σ6 H6 w6
  rw [← henv]
  rcases turn6 with ⟨stop,qn⟩ | ⟨go,step⟩
  ·have d:=T.done X' hprog hw hK hcalm i [] s6 σ6 H6 (fun _ _=>False) I6 (stat fr6) st6 stop
   rw [hA] at d
   refine thn d fun r s7 ⟨hr,I7⟩=>?_
   subst hr
   obtain ⟨m7,hn7,_⟩:=I7.loc
   have hl:X'.env.locals=s3.heap.objs.size:=by rw [henv];rfl
   refine hRR _ _ H6 s7 m7 (hl▸hn7) (fun h' hs'=>?_) ?_ qn
   ·rw [← hX] at I7
    exact zpX I3 f3 (qt _) I7 hs'
   ·exact I3.fpOk (qt _) (by have:=I7.free;rw [hl] at this;exact this)
  ·have d:=T.item X' hprog hw hK hcalm i [] s6 σ6 H6 (fun _ _=>False) I6 (stat fr6) st6 go
   rw [hA] at d
   refine thn d fun r s7 ⟨u,hr,h7⟩=>?_
   subst hr
   refine thn h7 fun _ s8 ⟨x,H8,I8,r8,y8,st8,fr8⟩=>?_
   have I8':=I8.pinned (stat fr8) (T.obj _ _ st8)
   have dg:=bg _ s8 σ6 H8 x u _ I8' r8 (step x H8 y8)
   rw [hprog,hw,hA,hxe] at dg
   refine thn dg fun _ s9 ⟨σ9,H9,I9,q9⟩=>?_
   have dt:=bt _ s9 σ9 H9 _ I9 q9
   rw [hprog,hw,hA,hxe] at dt
   refine thn dt fun b s10 ⟨H10,I10,q10⟩=>?_
   have again:∀ {σ7:St} {H7:Hp} {s7:Shared} {ys':List V},Inv X' ([]++zj0 fp s8.heap) σ7 H7 s7->(∃ m',m' < n/\W (i+1) m' ys' σ7 H7)->∃ m,m < n/\∃ i ys σ' H',Inv X' [] σ' H' s7/\tn i s7.heap/\(∀ b∈fp,H' b=none)/\W i m ys σ' H':=fun {σ7 H7 s7 ys'} I7 n7=>by
    obtain ⟨m',hm,w7⟩:=n7
    refine ⟨m',hm,i+1,ys',σ7,H7,I7.unpinned,T.keep _ _ _ st8 fun b hb o e=>(I7.pin (b,o) (qL _ (qL _ (zeV hb e)))).1,fun b hb=>?_,w7⟩
    obtain ⟨o,e,_⟩:=T.obj _ _ st8 b hb
    exact (I7.pin (b,o) (qL _ (qL _ (zeV hb e)))).2.1
   cases b with
   | false =>
    rw [qS qp] at q10 ⊢
    exact again I10 q10
   | true =>
    rw [qR rfl] at q10 ⊢
    have de:=be _ s10 σ9 H10 _ I10 q10
    rw [hprog,hw,hA,hxe] at de
    refine thn de fun v s11 ⟨y,H11,I11,r11,ha11,hz11,n11⟩=>?_
    have da:=zhD _ s11 σ9 H11 (.ref s2.heap.objs.size) [y] (.ref s2.heap.objs.size) [v] (fun _ H'=>H'=upd H11 s2.heap.objs.size (.lst (ys++[y]))) I11 rfl (.cons r11 .nil) ⟨_,ys,y,rfl,rfl,ha11,hz11,rfl⟩
    rw [hprog,hw,hA,hxe] at da
    refine thn da fun _ s12 ⟨_,H12,I12,_,e12⟩=>?_
    subst e12
    exact again I12 n11
 exact codeAny_compStart_list (loop _ rfl) (T.self _ 0 _ _ _ st4 (loop _ rfl))
theorem ztq {wi:TI} (hc:X.calm=true) (S:CompScope X scope) (F:FvOk X N' scope fv) (hi:PI X tg iter wi) (hb:PB X N' scope tg ifs elt g tc te) (hs:∀ x,foldedSetIterable iter X.env x=pure x:=by intro _;rfl) :
  PE X (.ListComp elt [⟨tg,iter,ifs,0⟩] scope pos) (tLC wi g tc te fv):=by
 intro pins s σ H Q I h
 rw [eval_ListComp]
 refine wpAny_comprehension_free (use:=none) rfl hs (zg1 I S) S.kind S.names (thn (hi pins s σ H _ I h) fun x s1 h1=>thn h1 fun itv s2 h2=>?_)
 obtain ⟨it,fp,tn,J,H1,e,I2,T,st2,f2,q⟩:=h2
 subst e
 refine zl8 (RR:=fun acc C=>compPost (model X.prog X.w) X.A X.xe none (EP X pins σ Q) acc C) hc S F hb I2 T st2 f2 q ?_
 intro a C H' s' m hn hI hCL hq
 exact ⟨m,hn,fun h' hs'=>⟨.ref a,H',hI h' hs',rfl,hq⟩⟩
theorem zrj {wi:TI} {i:Nat} {y:Str} {py spos:Pos} (hN:X.N.Nodup) (hy:X.N[i]?=some y) (hyl:X.env.scope.names.lookup y=some .local) (hc:X.calm=true) (S:CompScope X scope) (F:FvOk X N' scope fv) (hi:PI X tg iter wi) (hb:PB X N' scope tg ifs elt g tc te)
  (hsw:swapsWith (.ListComp elt [⟨tg,iter,ifs,0⟩] scope pos) (some (.Name y py)) spos.line X.env=pure true)
  (hs:∀ x,foldedSetIterable iter X.env x=pure x:=by intro _;rfl) :
  PS X (.Assign [.Name y py] (.ListComp elt [⟨tg,iter,ifs,0⟩] scope pos) spos) (zp9 (tLC wi g tc te fv) (zkc i)):=by
 intro pins s σ H D I h
 rw [exec_Assign_Name_used _ _ _ _ hsw]
 refine qu (wpAny_standAt (qu ?_))
 show wpAny _ _ (do let _ ← comprehension (.ListComp elt [⟨tg,iter,ifs,0⟩] scope pos) scope X.env _ (newList []) false (eval iter X.env) (some (assign (.Name y py) X.env))) _ _ s
 refine qu (wpAny_mono (wpAny_comprehension_free (use:=some (assign (.Name y py) X.env)) (Q:=fun _ s'=>SP X pins D .next s') rfl hs (zg1 I S) S.kind S.names
  (thn (hi pins s σ H _ I h) fun x s1 h1=>thn h1 fun itv s2 h2=>?_)) (fun _ s' hq=>qx (qx hq)) fun _ _ e=>e)
 obtain ⟨it,fp,tn,J,H1,e,I2,T,st2,f2,q⟩:=h2
 subst e
 refine zl8 (RR:=fun acc C=>compPost (model X.prog X.w) X.A X.xe (some (assign (.Name y py) X.env)) (fun _ s'=>SP X pins D .next s') acc C) hc S F hb I2 T st2 f2 q ?_
 intro a C H' s' m hn hI hCL hq
 show wpAny _ _ (assign (.Name y py) X.env (.ref a)) _ _ _
 have I':Inv X pins σ H' s':=hI s'.heap (Heap.SameBut.refl _ _)
 refine wpAny_assign_Name ?_
 refine zjO (v:=.ref a) I' hN hy (.inl hyl) rfl (fun s'' I'' hch=>?_) (.inr hyl)
 obtain ⟨ad,hsb,had⟩:=hch
 obtain ⟨f0,f1,f2',f3,f4,f5⟩:=hCL
 have hne:C≠ad:=by
  rcases had with z | z
  ·rw [z];exact f1
  ·exact fun e=>f4 y ad z e.symm
 refine ⟨m,hn.sameBut hsb hne,fun h' hs'=>?_⟩
 exact ⟨_,H',I''.turned (t':=s''.toks) (fun b o hb e=>(hs'.2 b hb).trans e) f0 f1 f3 f4 f5,hq⟩
end
end L2
end
section
namespace L2
open PySem PySem.Spec PyProof.Rows
def Its (x:Str):It:=⟨fun i _=>i < x.cps.size,fun i H v H'=>H'=H/\∃ c,x.cps[i]?=some c/\v=.str ⟨#[c]⟩,fun i _=>i=x.cps.size⟩
theorem zrX {M:Model} {A:Around} {E:Value->Shared->Prop} {s:Shared} {n:Str} {p:Pos} {it:Value} {u:Value} {Q:Unit->Shared->Prop} (hQ:Q () s):wpAny M A (letOwnedTupleGo (.Name n p) it u) Q E s:=qx hQ
theorem zlu {P:Program} {w:World} {K:PySem.W.Frag} {n:Str} {p:Pos} {ty:String} (it:Addr) (x:Str) (t:Tok)
  (W:∀ A:Around,A.handled=none->Walks P w A it [it] [it] x.cps.size (SignAt x) (fun i h=>h.IsStrIter it ty x t i))
  (sf:∀ (A:Around) (i:Nat) (s:Shared) (Q:Value->Shared->Prop) (E:Value->Shared->Prop),s.heap.IsStrIter it ty x t i->Q (.ref it) s->wpAny (model P w) A (pyIter (.ref it)) Q E s):Turn P w K (.Name n p) (Its x) [it] it (fun i h=>h.IsStrIter it ty x t i) where
 mem:=by simp
 obj:=fun i h st b hb=>by
  have e:b=it:=by simpa using hb
  subst e
  obtain ⟨o,e,c,d⟩:=st
  exact ⟨o,e,fun v z=>by rw [d] at z;cases z⟩
 keep:=fun i h h' st k=>by
  obtain ⟨o,e,r⟩:=st
  exact ⟨o,k it (by simp) o e,r⟩
 item:=by
  intro X hP hw hK hc i pins s σ H E I hf st hg
  subst hP hw hK
  obtain ⟨f0,f1,f2,f3,f4,f5⟩:=hf it (by simp)
  refine (W X.A (I.ok.hd hc)).item i s _ _ hg st fun v h' tk hv st' kk=>?_
  obtain ⟨c,u,hcc,rfl⟩:=hv
  have I1:Inv X pins σ H { s with heap:=h',toks:=tk }:=I.turned (fun b o hb e=>kk b o (by simpa using hb) e) f0 f1 f3 f4 f5
  exact ⟨_,rfl,zrX ⟨.str ⟨#[c]⟩,H,I1,⟨_,rfl⟩,⟨rfl,c,hcc,rfl⟩,st',fun b hb=>(hf b hb).1⟩⟩
 done:=by
  intro X hP hw hK hc i pins s σ H E I hf st hg
  subst hP hw hK
  obtain ⟨f0,f1,f2,f3,f4,f5⟩:=hf it (by simp)
  have hi:i=x.cps.size:=hg
  subst hi
  exact (W X.A (I.ok.hd hc)).done s _ _ st fun h' tk kk=>⟨rfl,I.turned (fun b o hb e=>kk b o (by simpa using hb) e) f0 f1 f3 f4 f5⟩
 self:=sf
def zwi (te:TE):TI:=fun σ H R=>te σ H fun v H1=>∃ x,v=.str x/\R (Its x) H1
theorem zti {X:Cx} {e:Expr} {te:TE} {n:Str} {p:Pos} (he:PE X e te):PI X (.Name n p) e (zwi te):=by
 intro pins s σ H R I h
 refine thn (he pins s σ H _ I h) fun v s1 ⟨y,H1,I1,r1,q1⟩=>?_
 obtain ⟨x,e,q⟩:=q1
 subst e
 obtain ⟨t,rfl⟩:=r1
 have fin:∀ (ty:String) (o:Obj),(s1.heap.push o).IsStrIter s1.heap.objs.size ty x t 0->Turn X.prog X.w X.K (.Name n p) (Its x) [s1.heap.objs.size] s1.heap.objs.size (fun i h=>h.IsStrIter s1.heap.objs.size ty x t i) ->
   PIE X pins σ (.Name n p) R (.ref s1.heap.objs.size) { s1 with heap:=s1.heap.push o }:=fun ty o st T=>by
  refine ⟨s1.heap.objs.size,[s1.heap.objs.size],_,_,H1,rfl,I1.kept (t':=s1.toks) fun b o e=>qq _ e,T,st,fun b hb=>?_,q⟩
  have e:b=s1.heap.objs.size:=by simpa using hb
  subst e
  exact I1.fpOk (qt _) (I1.hok.fresh (qt _))
 cases ha:x.cps.all (· < 128)
 ·exact wpAny_pyIter_wide ha (fin _ _ ⟨_,qC _ rfl,rfl,rfl⟩ (zlu _ x t (fun A' hA=>Walks.strWide hA _ x t) fun _ _ _ _ _ st h=>wpAny_pyIter_striter_wide st h))
 ·exact wpAny_pyIter_ascii ha (fin _ _ ⟨_,qC _ rfl,rfl,rfl⟩ (zlu _ x t (fun A' hA=>Walks.strAscii hA _ x t) fun _ _ _ _ _ st h=>wpAny_pyIter_striter_ascii st h))
end L2
end
section
namespace L2
open PySem PySem.Spec PyProof.Rows
inductive D where
 | non | bl (b:Bool) | int (i:Int) | str (x:Str) | tup (l:List D) | lst (l:List D) | scr (ns:List Int)
 | dk (l:List (Key×D)) | dt (l:List (List Key×D)) | ins (c:Str) (fs:List (Str×D)) | ty (n:String)
structure Cn where
 cls:Str->Option Addr
 self:Option Addr:=none
mutual
inductive Rep (Γ:Cn) (K:PySem.W.Frag) (G:Hp):V->D->Prop where
 | non:Rep Γ K G .non .non
 | bl (b:Bool):Rep Γ K G (.bl b) (.bl b)
 | int (i:Int):Rep Γ K G (.int i) (.int i)
 | str (x:Str):Rep Γ K G (.str x) (.str x)
 | ty (n:String):Rep Γ K G (.ty n) (.ty n)
 | tup {a:Addr} {vs:List V} {ds:List D}:G a=some (.tup vs)->Reps Γ K G vs ds->Rep Γ K G (.ref a) (.tup ds)
 | lst {a:Addr} {vs:List V} {ds:List D}:G a=some (.lst vs)->Reps Γ K G vs ds->Rep Γ K G (.ref a) (.lst ds)
 | scr {a:Addr} {ns:List Int}:SqL K G a (ns.map V.int)->Rep Γ K G (.ref a) (.scr ns)
 | dk {a:Addr} {us:List (Key×V)} {kvs:List (Key×D)}:G a=some (.dK us)->us.map (·.1)=kvs.map (·.1)->Reps Γ K G (us.map (·.2)) (kvs.map (·.2))->Rep Γ K G (.ref a) (.dk kvs)
 | dt {a:Addr} {us:List (List Key×V)} {kvs:List (List Key×D)}:G a=some (.dT us)->us.map (·.1)=kvs.map (·.1)->Reps Γ K G (us.map (·.2)) (kvs.map (·.2))->Rep Γ K G (.ref a) (.dt kvs)
 | ins {a C dx:Addr} {c:Str} {us:List (Str×V)} {fs:List (Str×D)}:G a=some (.ins C dx us)->Γ.cls c=some C->us.map (·.1)=fs.map (·.1)->Reps Γ K G (us.map (·.2)) (fs.map (·.2))->Rep Γ K G (.ref a) (.ins c fs)
inductive Reps (Γ:Cn) (K:PySem.W.Frag) (G:Hp):List V->List D->Prop where
 | nil:Reps Γ K G [] []
 | cons {v:V} {d:D} {vs:List V} {ds:List D}:Rep Γ K G v d->Reps Γ K G vs ds->Reps Γ K G (v::vs) (d::ds)
end
section
variable {Γ:Cn} {K:PySem.W.Frag} {G G' G1 H H' H1 H2 G2:Hp}
mutual
theorem Rep.mono:∀ {v:V} {d:D},Rep Γ K G v d->zcd G G'->Rep Γ K G' v d
 | _,_,.non,_=>.non
 | _,_,.bl b,_=>.bl b
 | _,_,.int i,_=>.int i
 | _,_,.str x,_=>.str x
 | _,_,.ty x,_=>.ty x
 | _,_,.tup h r,s=>.tup (s _ _ h) (r.mono s)
 | _,_,.lst h r,s=>.lst (s _ _ h) (r.mono s)
 | _,_,.scr h,s=>.scr (s.seq h)
 | _,_,.dk h e r,s=>.dk (s _ _ h) e (r.mono s)
 | _,_,.dt h e r,s=>.dt (s _ _ h) e (r.mono s)
 | _,_,.ins h c e r,s=>.ins (s _ _ h) c e (r.mono s)
theorem Reps.mono:∀ {vs:List V} {ds:List D},Reps Γ K G vs ds->zcd G G'->Reps Γ K G' vs ds
 | _,_,.nil,_=>.nil
 | _,_,.cons h r,s=>.cons (h.mono s) (r.mono s)
end
mutual
theorem Rep.re {Γ':Cn} (hc:Γ'.cls=Γ.cls):∀ {v:V} {d:D},Rep Γ K G v d->Rep Γ' K G v d
 | _,_,.non=>.non
 | _,_,.bl b=>.bl b
 | _,_,.int i=>.int i
 | _,_,.str x=>.str x
 | _,_,.ty x=>.ty x
 | _,_,.tup h r=>.tup h (r.re hc)
 | _,_,.lst h r=>.lst h (r.re hc)
 | _,_,.scr h=>.scr h
 | _,_,.dk h e r=>.dk h e (r.re hc)
 | _,_,.dt h e r=>.dt h e (r.re hc)
 | _,_,.ins h c e r=>.ins h (by rw [hc];exact c) e (r.re hc)
theorem Reps.re {Γ':Cn} (hc:Γ'.cls=Γ.cls):∀ {vs:List V} {ds:List D},Reps Γ K G vs ds->Reps Γ' K G vs ds
 | _,_,.nil=>.nil
 | _,_,.cons h r=>.cons (h.re hc) (r.re hc)
end
theorem Reps.length:∀ {vs:List V} {ds:List D},Reps Γ K G vs ds->vs.length=ds.length
 | _,_,.nil=>rfl
 | _,_,.cons _ r=>by rw [qh,qh,r.length]
theorem Reps.get:∀ {vs:List V} {ds:List D} {i:Nat} {d:D},Reps Γ K G vs ds->ds[i]?=some d->∃ v,vs[i]?=some v/\Rep Γ K G v d
 | _,_,_,_,.nil,e=>by simp at e
 | _,_,0,_,.cons r _,e=>by simp at e;subst e;exact ⟨_,rfl,r⟩
 | _,_,i+1,d,.cons _ t,e=>by
  obtain ⟨u,h1,h2⟩:=Reps.get (i:=i) (d:=d) t (by simpa using e)
  exact ⟨u,by simpa using h1,h2⟩
theorem Reps.append:∀ {vs ws:List V} {ds es:List D},Reps Γ K G vs ds->Reps Γ K G ws es->Reps Γ K G (vs++ws) (ds++es)
 | _,_,_,_,.nil,s=>s
 | _,_,_,_,.cons r t,s=>.cons r (t.append s)
theorem Reps.take:∀ {vs:List V} {ds:List D} (n:Nat),Reps Γ K G vs ds->Reps Γ K G (vs.take n) (ds.take n)
 | _,_,0,_=>.nil
 | _,_,_+1,.nil=>.nil
 | _,_,n+1,.cons r t=>.cons r (t.take n)
theorem Reps.drop:∀ {vs:List V} {ds:List D} (n:Nat),Reps Γ K G vs ds->Reps Γ K G (vs.drop n) (ds.drop n)
 | _,_,0,r=>r
 | _,_,_+1,.nil=>.nil
 | _,_,n+1,.cons _ t=>t.drop n
theorem Reps.ints:∀ (ns:List Int),Reps Γ K G (ns.map V.int) (ns.map D.int)
 | []=>.nil
 | n::r=>.cons (.int n) (Reps.ints r)
theorem Reps.rep {vs:List V} {ds:List D} (h:Reps Γ K G vs ds):∀ k:Nat,Reps Γ K G (List.replicate k vs).flatten (List.replicate k ds).flatten
 | 0=>.nil
 | k+1=>by
  rw [List.replicate_succ,List.replicate_succ,List.flatten_cons,List.flatten_cons]
  exact h.append (Reps.rep h k)
structure Step (G H G' H':Hp):Prop where
 hh:zcd H H'
 gg:zcd G G'
 gh:zcd G' H'
 out:∀ a o,H a=some o->G' a=G a
theorem Step.refl (gh:zcd G H):Step G H G H:=⟨.refl _,.refl _,gh,fun _ _ _=>rfl⟩
theorem Step.trans (a:Step G H G1 H1) (b:Step G1 H1 G2 H2):Step G H G2 H2 :=
 ⟨a.hh.trans b.hh,a.gg.trans b.gg,b.gh,fun c o e=>(b.out c o (a.hh c o e)).trans (a.out c o e)⟩
theorem Step.new {p:Addr} {o:HO} (gh:zcd G H) (hp:H p=none):Step G H (upd G p o) (upd H p o):=by
 have gp:G p=none:=gh.free hp
 refine ⟨fun b u e=>?_,fun b u e=>?_,fun b u e=>?_,fun b u e=>?_⟩
 ·rw [zaF (zaC e hp)];exact e
 ·rw [zaF (zaC e gp)];exact e
 ·by_cases hb:b=p
  ·subst hb;rw [zaL] at e ⊢;exact e
  ·rw [zaF hb] at e ⊢;exact gh b u e
 ·rw [zaF (zaC e hp)]
theorem Step.newOwn {p:Addr} {o:HO} (gh:zcd G H) (hp:H p=none):Step G H G (upd H p o):=by
 refine ⟨fun b u e=>?_,.refl _,fun b u e=>?_,fun _ _ _=>rfl⟩
 ·rw [zaF (zaC e hp)];exact e
 ·rw [zaF (zaC (gh b u e) hp)];exact gh b u e
end
inductive Slot where
 | sh (d:D)
 | own (ds:List D)
 | obj (c:Str) (fs:List (Str×D))
 | objd (c:Str) (fs:List (Str×D)) (n:Str) (kvs:List (Key×D))
 | odk (kvs:List (Key×D))
 | odt (kvs:List (List Key×D))
 | tlo (ds es:List D)
 | pin (a:Addr)
 | oll (dss:List (List D))
abbrev za1:=List (Option Slot)
def zvg:D->Bool
 | .non=>true
 | .bl _=>true
 | .int _=>true
 | .str _=>true
 | _=>false
def zh5 (H:Hp):List Addr->List (List V)->Prop
 | [],[]=>True
 | p::ps,vs::vss=>H p=some (.lst vs)/\zh5 H ps vss
 | _,_=>False
def zoR (Γ:Cn) (K:PySem.W.Frag) (G:Hp):List (List V)->List (List D)->Prop
 | [],[]=>True
 | vs::vss,ds::dss=>Reps Γ K G vs ds/\zoR Γ K G vss dss
 | _,_=>False
theorem zh5.mem {H:Hp}:∀ {ps:List Addr} {vss:List (List V)},zh5 H ps vss->∀ b∈ps,∃ o,H b=some o
 | [],_,_,b,hb=>by cases hb
 | p::ps,[],h,b,hb=>h.elim
 | p::ps,vs::vss,h,b,hb=>by
  rcases List.mem_cons.mp hb with rfl | hb
  ·exact ⟨_,h.1⟩
  ·exact h.2.mem b hb
theorem zh5.stay {H H':Hp}:∀ {ps:List Addr} {vss:List (List V)},zh5 H ps vss->(∀ b∈ps,H' b=H b)->zh5 H' ps vss
 | [],[],_,_=>trivial
 | [],_::_,h,_=>h.elim
 | p::ps,[],h,_=>h.elim
 | p::ps,vs::vss,h,e=>⟨(e p qf).trans h.1,h.2.stay fun b hb=>e b (qg _ hb)⟩
theorem zoR.map {Γ:Cn} {K:PySem.W.Frag} {G G':Hp} (f:∀ {vs:List V} {ds:List D},Reps Γ K G vs ds->Reps Γ K G' vs ds):∀ {vss:List (List V)} {dss:List (List D)},zoR Γ K G vss dss->zoR Γ K G' vss dss
 | [],[],_=>trivial
 | [],_::_,h=>h.elim
 | _::_,[],h=>h.elim
 | _::_,_::_,h=>⟨f h.1,h.2.map f⟩
theorem zlD:∀ {ps qs:List Addr},ps.map V.ref=qs.map V.ref->ps=qs
 | [],[],_=>rfl
 | [],_::_,h=>by cases h
 | _::_,[],h=>by cases h
 | p::ps,q::qs,h=>by
  have h1:=List.cons.inj h
  rw [V.ref.inj h1.1,zlD h1.2]
inductive SR (Γ:Cn) (K:PySem.W.Frag) (H₀ G H:Hp):Slot->V->List Addr->Prop where
 | sh {d:D} {v:V}:Rep Γ K G v d->SR Γ K H₀ G H (.sh d) v []
 | own {a:Addr} {vs:List V} {ds:List D}:H₀ a=none->G a=none->H a=some (.lst vs)->Reps Γ K G vs ds->SR Γ K H₀ G H (.own ds) (.ref a) [a]
 | obj {c:Str} {a C dx:Addr} {vs:List (Str×V)} {fs:List (Str×D)}:Γ.cls c=some C->H₀ a=none->G a=none->H a=some (.ins C dx vs)->vs.map (·.1)=fs.map (·.1)->Reps Γ K G (vs.map (·.2)) (fs.map (·.2))->Γ.self=some a->SR Γ K H₀ G H (.obj c fs) (.ref a) [a]
 | objd {c n:Str} {a C dx p:Addr} {vs:List (Str×V)} {fs:List (Str×D)} {us:List (Key×V)} {kvs:List (Key×D)}:Γ.cls c=some C->H₀ a=none->G a=none->H a=some (.ins C dx (vs++[(n,.ref p)]))->vs.map (·.1)=fs.map (·.1)->Reps Γ K G (vs.map (·.2)) (fs.map (·.2)) ->
   H₀ p=none->G p=none->H p=some (.dK us)->us.map (·.1)=kvs.map (·.1)->Reps Γ K G (us.map (·.2)) (kvs.map (·.2))->Γ.self=some a->SR Γ K H₀ G H (.objd c fs n kvs) (.ref a) [a,p]
 | odk {a:Addr} {us:List (Key×V)} {kvs:List (Key×D)}:H₀ a=none->G a=none->H a=some (.dK us)->us.map (·.1)=kvs.map (·.1)->Reps Γ K G (us.map (·.2)) (kvs.map (·.2))->SR Γ K H₀ G H (.odk kvs) (.ref a) [a]
 | odt {a:Addr} {us:List (List Key×V)} {kvs:List (List Key×D)}:H₀ a=none->G a=none->H a=some (.dT us)->us.map (·.1)=kvs.map (·.1)->Reps Γ K G (us.map (·.2)) (kvs.map (·.2))->SR Γ K H₀ G H (.odt kvs) (.ref a) [a]
 | tlo {t p:Addr} {vs ws:List V} {ds es:List D}:H₀ p=none->G p=none->H p=some (.lst ws)->G t=some (.tup (vs++[.ref p]))->Reps Γ K G vs ds->Reps Γ K G ws es->SR Γ K H₀ G H (.tlo ds es) (.ref t) [p]
 | pin (a:Addr):SR Γ K H₀ G H (.pin a) (.ref a) []
 | oll {a:Addr} {ps:List Addr} {vss:List (List V)} {dss:List (List D)}:(∀ b∈a::ps,H₀ b=none/\G b=none)->(a::ps).Nodup->H a=some (.lst (ps.map V.ref))->zh5 H ps vss->zoR Γ K G vss dss->SR Γ K H₀ G H (.oll dss) (.ref a) (a::ps)
section
variable {Γ:Cn} {K:PySem.W.Frag} {H₀ G G' H H':Hp} {s:Slot} {v:V} {fp:List Addr}
theorem SR.fpt (r:SR Γ K H₀ G H s v fp):∀ b∈fp,H₀ b=none/\G b=none/\∃ o,H b=some o:=by
 cases r with
 | sh r=>intro b hb;cases hb
 | own h1 h2 h3 _=>intro b hb;rw [List.mem_singleton.mp hb];exact ⟨h1,h2,_,h3⟩
 | obj _ h1 h2 h3 _ _ _=>intro b hb;rw [List.mem_singleton.mp hb];exact ⟨h1,h2,_,h3⟩
 | objd _ h1 h2 h3 _ _ q1 q2 q3 _ _ _ =>
  intro b hb
  rcases List.mem_cons.mp hb with rfl | hb
  ·exact ⟨h1,h2,_,h3⟩
  ·rw [List.mem_singleton.mp hb];exact ⟨q1,q2,_,q3⟩
 | odk h1 h2 h3 _ _=>intro b hb;rw [List.mem_singleton.mp hb];exact ⟨h1,h2,_,h3⟩
 | odt h1 h2 h3 _ _=>intro b hb;rw [List.mem_singleton.mp hb];exact ⟨h1,h2,_,h3⟩
 | tlo h1 h2 h3 _ _ _=>intro b hb;rw [List.mem_singleton.mp hb];exact ⟨h1,h2,_,h3⟩
 | pin a=>intro b hb;cases hb
 | oll h1 h2 h3 h4 _ =>
  intro b hb
  refine ⟨(h1 b hb).1,(h1 b hb).2,?_⟩
  rcases List.mem_cons.mp hb with rfl | hb
  ·exact ⟨_,h3⟩
  ·exact h4.mem b hb
theorem SR.stay (r:SR Γ K H₀ G H s v fp) (gg:zcd G G') (hg:∀ b∈fp,G' b=none) (hh:∀ b∈fp,H' b=H b):SR Γ K H₀ G' H' s v fp:=by
 cases r with
 | sh r=>exact .sh (r.mono gg)
 | own h1 h2 h3 h4=>exact .own h1 (hg _ (List.mem_singleton.mpr rfl)) ((hh _ (List.mem_singleton.mpr rfl)).trans h3) (h4.mono gg)
 | obj c h1 h2 h3 h4 h5 hs=>exact .obj c h1 (hg _ (List.mem_singleton.mpr rfl)) ((hh _ (List.mem_singleton.mpr rfl)).trans h3) h4 (h5.mono gg) hs
 | objd c h1 h2 h3 h4 h5 q1 q2 q3 q4 q5 hs =>
  exact .objd c h1 (hg _ qf) ((hh _ qf).trans h3) h4 (h5.mono gg) q1 (hg _ (qg _ qf)) ((hh _ (qg _ qf)).trans q3) q4 (q5.mono gg) hs
 | odk h1 h2 h3 h4 h5=>exact .odk h1 (hg _ (List.mem_singleton.mpr rfl)) ((hh _ (List.mem_singleton.mpr rfl)).trans h3) h4 (h5.mono gg)
 | odt h1 h2 h3 h4 h5=>exact .odt h1 (hg _ (List.mem_singleton.mpr rfl)) ((hh _ (List.mem_singleton.mpr rfl)).trans h3) h4 (h5.mono gg)
 | pin a=>exact .pin a
 | oll h1 h2 h3 h4 h5=>exact .oll (fun b hb=>⟨(h1 b hb).1,hg b hb⟩) h2 ((hh _ qf).trans h3) (h4.stay fun b hb=>hh b (qg _ hb)) (h5.map fun r=>r.mono gg)
 | tlo h1 h2 h3 h4 h5 h6=>exact .tlo h1 (hg _ (List.mem_singleton.mpr rfl)) ((hh _ (List.mem_singleton.mpr rfl)).trans h3) (gg _ _ h4) (h5.mono gg) (h6.mono gg)
theorem SR.stepS (r:SR Γ K H₀ G H s v fp) (t:Step G H G' H'):SR Γ K H₀ G' H' s v fp:=r.stay t.gg (fun b hb=>by
 obtain ⟨_,h2,o,h3⟩:=r.fpt b hb
 exact (t.out b o h3).trans h2) (fun b hb=>by
 obtain ⟨_,_,o,h3⟩:=r.fpt b hb
 rw [h3];exact t.hh b o h3)
end
theorem SR.uniq {Γ:Cn} {K:PySem.W.Frag} {H₀ G H:Hp} {s:Slot} {v:V} {fp fq:List Addr} (r:SR Γ K H₀ G H s v fp) (q:SR Γ K H₀ G H s v fq):fp=fq:=by
 cases r with
 | sh r=>cases q;rfl
 | own h1 h2 h3 _=>cases q;rfl
 | obj _ h1 h2 h3 _ _ _=>cases q;rfl
 | objd _ h1 h2 h3 _ _ q1 q2 q3 _ _ _ =>
  cases q with
  | objd _ _ _ k3 _ _ _ _ _ _ _ _ =>
   rw [h3] at k3
   have z:=(HO.ins.inj (qD k3)).2.2
   have z2:=(List.append_inj' z rfl).2
   cases z2
   rfl
 | odk h1 h2 h3 _ _=>cases q;rfl
 | odt h1 h2 h3 _ _=>cases q;rfl
 | pin a=>cases q;rfl
 | oll _ _ h3 _ _ =>
  cases q with
  | oll _ _ k3 _ _ =>
   rw [h3] at k3
   rw [zlD (HO.lst.inj (qD k3))]
 | tlo _ _ _ h4 _ _ =>
  cases q with
  | tlo _ _ _ k4 _ _ =>
   rw [h4] at k4
   have z:=HO.tup.inj (qD k4)
   have z2:=(List.append_inj' z rfl).2
   cases z2
   rfl
structure EnvRel (Γ:Cn) (K:PySem.W.Frag) (H₀ G H:Hp) (ρ:za1) (σ:St):Prop where
 len:ρ.length=σ.length
 sl:∃ fps:Nat->List Addr,(∀ (i:Nat) s,ρ[i]?=some (some s)->∃ v,σ[i]?=some (some v)/\SR Γ K H₀ G H s v (fps i)) /\
  ∀ (i j:Nat) s t,i≠j->ρ[i]?=some (some s)->ρ[j]?=some (some t)->∀ b∈fps i,b∉fps j
structure At (Γ:Cn) (K:PySem.W.Frag) (G₀ H₀ G H:Hp) (ρ:za1) (σ:St):Prop where
 st:Step G₀ H₀ G H
 env:EnvRel Γ K H₀ G H ρ σ
def zgH (ρ:za1):Prop:=∀ (i:Nat) s,ρ[i]?=some (some s)->∃ d,s=.sh d
section
variable {Γ:Cn} {K:PySem.W.Frag} {G₀ H₀ G G' H H':Hp} {ρ:za1} {σ:St}
theorem EnvRel.ofSh (len:ρ.length=σ.length) (no:zgH ρ) (sh:∀ (i:Nat) d,ρ[i]?=some (some (.sh d))->∃ v,σ[i]?=some (some v)/\Rep Γ K G v d):EnvRel Γ K H₀ G H ρ σ :=
 ⟨len,fun _=>[],fun i s e=>by
  obtain ⟨d,rfl⟩:=no i s e
  obtain ⟨v,h1,h2⟩:=sh i d e
  exact ⟨v,h1,.sh h2⟩,fun _ _ _ _ _ _ _ b hb=>by cases hb⟩
theorem EnvRel.sh (E:EnvRel Γ K H₀ G H ρ σ) (i:Nat) (d:D) (e:ρ[i]?=some (some (.sh d))):∃ v,σ[i]?=some (some v)/\Rep Γ K G v d:=by
 obtain ⟨fps,h,_⟩:=E.sl
 obtain ⟨v,h1,h2⟩:=h i _ e
 generalize fps i=fp at h2
 cases h2 with
 | sh r=>exact ⟨v,h1,r⟩
theorem EnvRel.own (E:EnvRel Γ K H₀ G H ρ σ) (i:Nat) (ds:List D) (e:ρ[i]?=some (some (.own ds))):∃ a vs,σ[i]?=some (some (.ref a))/\H₀ a=none/\G a=none/\H a=some (.lst vs)/\Reps Γ K G vs ds:=by
 obtain ⟨fps,h,_⟩:=E.sl
 obtain ⟨v,h1,h2⟩:=h i _ e
 generalize fps i=fp at h2
 cases h2 with
 | own q1 q2 q3 q4=>exact ⟨_,_,h1,q1,q2,q3,q4⟩
theorem At.gh (A:At Γ K G₀ H₀ G H ρ σ):zcd G H:=A.st.gh
theorem At.step (A:At Γ K G₀ H₀ G H ρ σ) (s:Step G H G' H'):At Γ K G₀ H₀ G' H' ρ σ:=by
 obtain ⟨fps,h,ap⟩:=A.env.sl
 exact ⟨A.st.trans s,A.env.len,fps,fun i t e=>by
  obtain ⟨v,h1,h2⟩:=h i t e
  exact ⟨v,h1,h2.stepS s⟩,ap⟩
theorem At.put (A:At Γ K G₀ H₀ G H ρ σ) {i:Nat} {s':Slot} {v':V} {fp fp':List Addr}
  (hfp:fp=[]\/∃ s v,ρ[i]?=some (some s)/\σ[i]?=some (some v)/\SR Γ K H₀ G H s v fp)
  (hH:∀ b o,H b=some o->b∉fp->H' b=some o) (hS:SR Γ K H₀ G' H' s' v' fp') (hn:∀ b∈fp',b∈fp\/H b=none)
  (gg:zcd G G') (gh:zcd G' H') (out:∀ b o,H b=some o->b∉fp->G' b=G b) (out2:∀ b∈fp,H₀ b=none):At Γ K G₀ H₀ G' H' (ρ.set i (some s')) (σ.set i (some v')):=by
 obtain ⟨fps,h,ap⟩:=A.env.sl
 have hl:=A.env.len
 have old:∀ b∈fp,∀ j t,j≠i->ρ[j]?=some (some t)->b∉fps j:=fun b hb j t hj e=>by
  rcases hfp with rfl | ⟨s,v,h1,h2,h3⟩
  ·cases hb
  ·obtain ⟨v2,h4,h5⟩:=h i s h1
   rw [h2] at h4
   cases h4
   have efp:fp=fps i:=h3.uniq h5
   subst efp
   exact ap i j s t (Ne.symm hj) h1 e b hb
 have slj:∀ (j:Nat) t,j≠i->ρ[j]?=some (some t)->∃ v,σ[j]?=some (some v)/\SR Γ K H₀ G' H' t v (fps j):=fun j t hj e=>by
  obtain ⟨v,h1,h2⟩:=h j t e
  refine ⟨v,h1,h2.stay gg (fun b hb=>?_) (fun b hb=>?_)⟩
  ·obtain ⟨_,q2,o,q3⟩:=h2.fpt b hb
   exact (out b o q3 fun z=>old b z j t hj e hb).trans q2
  ·obtain ⟨_,_,o,q3⟩:=h2.fpt b hb
   rw [q3];exact hH b o q3 fun z=>old b z j t hj e hb
 have no2:∀ b o,H₀ b=some o->b∉fp:=fun b o e z=>by rw [out2 b z] at e;cases e
 have hst:Step G₀ H₀ G' H':=⟨fun b o e=>hH b o (A.st.hh b o e) (no2 b o e),A.st.gg.trans gg,gh,fun b o e=>(out b o (A.st.hh b o e) (no2 b o e)).trans (A.st.out b o e)⟩
 refine ⟨hst,by simp [hl],fun j=>if j=i then fp' else fps j,fun j t e=>?_,fun j k t u hjk e1 e2 b hb=>?_⟩
 ·by_cases hj:j=i
  ·subst hj
   have hlt:j < ρ.length:=by
    rcases Nat.lt_or_ge j ρ.length with q | q
    ·exact q
    ·rw [List.getElem?_eq_none (by simp;omega)] at e;cases e
   rw [List.getElem?_set_self hlt] at e
   cases e
   show ∃ v,_/\SR _ _ _ _ _ _ v (if j=j then fp' else fps j)
   rw [qR rfl]
   exact ⟨v',by rw [List.getElem?_set_self (by omega)],hS⟩
  ·rw [qv (Ne.symm hj)] at e ⊢
   show ∃ v,_/\SR _ _ _ _ _ _ v (if j=i then fp' else fps j)
   rw [qS hj]
   exact slj j t hj e
 ·have cross:∀ {k:Nat} {u:Slot},k≠i->ρ[k]?=some (some u)->∀ b∈fp',b∉fps k:=fun {k u} hk e b hb hb2=>by
   rcases hn b hb with z | z
   ·exact old b z k u hk e hb2
   ·obtain ⟨v,_,q⟩:=h k u e
    obtain ⟨_,_,o,q3⟩:=q.fpt b hb2
    rw [z] at q3;cases q3
  replace hb:b∈(if j=i then fp' else fps j):=hb
  show b∉(if k=i then fp' else fps k)
  by_cases hj:j=i
  ·subst hj
   have hk:k≠j:=Ne.symm hjk
   rw [qR rfl] at hb
   rw [qS hk]
   rw [qv hjk] at e2
   exact cross hk e2 b hb
  ·rw [qS hj] at hb
   rw [qv (Ne.symm hj)] at e1
   by_cases hk:k=i
   ·subst hk
    rw [qR rfl]
    exact fun z=>cross hj e1 b z hb
   ·rw [qS hk]
    rw [qv (Ne.symm hk)] at e2
    exact ap j k t u hjk e1 e2 b hb
theorem At.setSh (A:At Γ K G₀ H₀ G H ρ σ) {i:Nat} {v:V} {d:D} (r:Rep Γ K G v d):At Γ K G₀ H₀ G H (ρ.set i (some (.sh d))) (σ.set i (some v)) :=
 A.put (fp:=[]) (fp':=[]) (.inl rfl) (fun b o e _=>e) (.sh r) (fun b hb=>by cases hb) (.refl _) A.gh (fun _ _ _ _=>rfl) (fun b hb=>by cases hb)
theorem At.setOwn (A:At Γ K G₀ H₀ G H ρ σ) {i:Nat} {a:Addr} {vs:List V} {ds:List D} (ha:H a=none) (r:Reps Γ K G vs ds):At Γ K G₀ H₀ G (upd H a (.lst vs)) (ρ.set i (some (.own ds))) (σ.set i (some (.ref a))):=by
 have h0:H₀ a=none:=A.st.hh.free ha
 have hg:G a=none:=A.gh.free ha
 refine A.put (fp:=[]) (fp':=[a]) (.inl rfl) (fun b o e _=>by rw [zaF (zaC e ha)];exact e) (.own h0 hg zaL r) (fun b hb=>.inr (by rw [List.mem_singleton.mp hb];exact ha)) (.refl _) (fun b o e=>?_) (fun _ _ _ _=>rfl) (fun b hb=>by cases hb)
 rw [zaF (zaC e hg)];exact A.gh b o e
theorem zjQ {α:Type} {l:List α} {i:Nat} {x:α} (h:l[i]?=some x):l.set i x=l:=by
 apply List.ext_getElem?
 intro j
 by_cases hj:j=i
 ·subst hj
  rw [List.getElem?_set_self (List.getElem?_eq_some_iff.mp h).1,h]
 ·rw [qv (Ne.symm hj)]
theorem At.ch (A:At Γ K G₀ H₀ G H ρ σ) {i:Nat} {s s':Slot} {v:V} {fp fp':List Addr} (hi:ρ[i]?=some (some s)) (hv:σ[i]?=some (some v)) (hs:SR Γ K H₀ G H s v fp)
  (hH:∀ b o,H b=some o->b∉fp->H' b=some o) (hS:SR Γ K H₀ G' H' s' v fp') (hn:∀ b∈fp',b∈fp\/H b=none)
  (gg:zcd G G') (gh:zcd G' H') (out:∀ b o,H b=some o->b∉fp->G' b=G b):At Γ K G₀ H₀ G' H' (ρ.set i (some s')) σ:=by
 have:=A.put (i:=i) (.inr ⟨s,v,hi,hv,hs⟩) hH hS hn gg gh out fun b hb=>(hs.fpt b hb).1
 rwa [zjQ hv] at this
theorem At.get (A:At Γ K G₀ H₀ G H ρ σ) {i:Nat} {s:Slot} (hi:ρ[i]?=some (some s)):∃ v fp,σ[i]?=some (some v)/\SR Γ K H₀ G H s v fp:=by
 obtain ⟨fps,h,_⟩:=A.env.sl
 obtain ⟨v,h1,h2⟩:=h i s hi
 exact ⟨v,_,h1,h2⟩
theorem At.chOwn (A:At Γ K G₀ H₀ G H ρ σ) {i:Nat} {a:Addr} {ds es:List D} {ws:List V} (hi:ρ[i]?=some (some (.own ds))) (ha:σ[i]?=some (some (.ref a))) (r:Reps Γ K G ws es):At Γ K G₀ H₀ G (upd H a (.lst ws)) (ρ.set i (some (.own es))) σ:=by
 obtain ⟨v,fp,h1,h2⟩:=A.get hi
 rw [ha] at h1
 cases h1
 cases h2 with
 | own q1 q2 q3 q4 =>
  refine A.ch hi ha (.own q1 q2 q3 q4) (fun b o e hb=>?_) (.own q1 q2 zaL r) (fun b hb=>.inl hb) (.refl _) (fun b o e=>?_) (fun _ _ _ _=>rfl)
  ·rw [zaF (fun z=>hb (List.mem_singleton.mpr z))];exact e
  ·rw [zaF (zaC e q2)];exact A.gh b o e
theorem At.freeze (A:At Γ K G₀ H₀ G H ρ σ) {i:Nat} {ds:List D} (hi:ρ[i]?=some (some (.own ds))):∃ G',zcd G G'/\At Γ K G₀ H₀ G' H (ρ.set i (some (.sh (.lst ds)))) σ:=by
 obtain ⟨v,fp,h1,h2⟩:=A.get hi
 cases h2 with
 | own q1 q2 q3 q4 =>
  rename_i a vs
  have sm:zcd G (upd G a (.lst vs)):=fun b o e=>by rw [zaF (zaC e q2)];exact e
  refine ⟨upd G a (.lst vs),sm,A.ch hi h1 (.own q1 q2 q3 q4) (fun b o e hb=>e) (.sh (.lst zaL (q4.mono sm))) (fun b hb=>by cases hb) sm (fun b o e=>?_) (fun b o e hb=>?_)⟩
  ·by_cases hb:b=a
   ·subst hb;rw [zaL] at e;cases e;exact q3
   ·rw [zaF hb] at e;exact A.gh b o e
  ·rw [zaF (fun z=>hb (List.mem_singleton.mpr z))]
end
end L2
end
section
namespace L2
open PySem PySem.Spec PyProof.Rows
mutual
inductive NewL (H G:Hp):V->D->Prop where
 | flat {v:V} {d:D}:zvg d=true->NewL H G v d
 | tup {a:Addr} {vs:List V} {ds:List D}:G a=some (.tup vs)->NewLs H G vs ds->NewL H G (.ref a) (.tup ds)
 | lst {a:Addr} {vs:List V} {ds:List D}:G a=some (.lst vs)->H a=none->NewLs H G vs ds->NewL H G (.ref a) (.lst ds)
inductive NewLs (H G:Hp):List V->List D->Prop where
 | nil:NewLs H G [] []
 | cons {v:V} {d:D} {vs:List V} {ds:List D}:NewL H G v d->NewLs H G vs ds->NewLs H G (v::vs) (d::ds)
end
section
variable {H H' G G':Hp}
mutual
theorem NewL.mono:∀ {v:V} {d:D},NewL H G v d->zcd G G'->zcd H' H->NewL H' G' v d
 | _,_,.flat h,_,_=>.flat h
 | _,_,.tup h r,s,t=>.tup (s _ _ h) (r.mono s t)
 | _,_,.lst h n r,s,t=>.lst (s _ _ h) (t.free n) (r.mono s t)
theorem NewLs.mono:∀ {vs:List V} {ds:List D},NewLs H G vs ds->zcd G G'->zcd H' H->NewLs H' G' vs ds
 | _,_,.nil,_,_=>.nil
 | _,_,.cons h r,s,t=>.cons (h.mono s t) (r.mono s t)
end
end
inductive Fl where
 | nx | bk | ct | rt (d:D) | ow (ds:List D) | nw (d:D) | od (kvs:List (Key×D))
abbrev FE:=za1->Option D
abbrev FT:=za1->Option Bool
abbrev FA:=za1->Option (List D)
abbrev FS:=za1->Option (Fl×za1)
def TD (Γ:Cn) (K:PySem.W.Frag) (f:FE):TE:=fun σ H Q=>∃ G₀ H₀ G ρ d,At Γ K G₀ H₀ G H ρ σ/\f ρ=some d/\∀ v G' H',Step G H G' H'->Rep Γ K G' v d->Q v H'
def TDt (Γ:Cn) (K:PySem.W.Frag) (f:FT):TT:=fun σ H Q=>∃ G₀ H₀ G ρ b,At Γ K G₀ H₀ G H ρ σ/\f ρ=some b/\∀ G' H',Step G H G' H'->Q b H'
def TDa (Γ:Cn) (K:PySem.W.Frag) (f:FA):TA:=fun σ H Q=>∃ G₀ H₀ G ρ ds,At Γ K G₀ H₀ G H ρ σ/\f ρ=some ds/\∀ vs G' H',Step G H G' H'->Reps Γ K G' vs ds->Q vs H'
def zuA (Γ:Cn) (K:PySem.W.Frag) (E:Ends) (H₀ G' H':Hp) (σ':St):Fl->Prop
 | .nx=>E.nx σ' H'
 | .bk=>E.bk σ' H'
 | .ct=>E.ct σ' H'
 | .rt d=>∀ v,Rep Γ K G' v d->E.rt v H'
 | .ow ds=>∀ p vs,H₀ p=none->G' p=none->H' p=some (.lst vs)->Reps Γ K G' vs ds->E.rt (.ref p) H'
 | .nw d=>∀ v,Rep Γ K G' v d->NewL H₀ G' v d->E.rt v H'
 | .od kvs=>∀ p us,H₀ p=none->G' p=none->H' p=some (.dK us)->us.map (·.1)=kvs.map (·.1)->Reps Γ K G' (us.map (·.2)) (kvs.map (·.2))->E.rt (.ref p) H'
def TDs (Γ:Cn) (K:PySem.W.Frag) (g:FS):TS:=fun E σ H=>∃ G₀ H₀ G ρ fl ρ',At Γ K G₀ H₀ G H ρ σ/\g ρ=some (fl,ρ')/\∀ σ' G' H',zcd G G'->At Γ K G₀ H₀ G' H' ρ' σ'->zuA Γ K E H₀ G' H' σ' fl
def TDo (Γ:Cn) (K:PySem.W.Frag) (f:FA):TE:=fun σ H Q=>∃ G₀ H₀ G ρ ds,At Γ K G₀ H₀ G H ρ σ/\f ρ=some ds/\∀ p vs G' H',Step G H G' H'->H' p=none->Reps Γ K G' vs ds->Q (.ref p) (upd H' p (.lst vs))
structure DE (Γ:Cn) (X:Cx) (e:Expr) (f:FE):Prop where
 out:PE X e (TD Γ X.K f)
structure DT (Γ:Cn) (X:Cx) (e:Expr) (f:FT):Prop where
 out:PT X e (TDt Γ X.K f)
structure DW (Γ:Cn) (X:Cx) (e:Expr) (f:FT):Prop where
 out:PW X e (TDt Γ X.K f)
structure DA (Γ:Cn) (X:Cx) (es:List Expr) (f:FA):Prop where
 out:PA X es (TDa Γ X.K f)
structure DS (Γ:Cn) (X:Cx) (st:Stmt) (g:FS):Prop where
 out:PS X st (TDs Γ X.K g)
structure DSs (Γ:Cn) (X:Cx) (st:List Stmt) (g:FS):Prop where
 out:PSs X st (TDs Γ X.K g)
structure DO (Γ:Cn) (X:Cx) (e:Expr) (f:FA):Prop where
 out:PE X e (TDo Γ X.K f)
section
variable {Γ:Cn} {X:Cx} {a b c e:Expr} {es:List Expr} {fa fb fc f:FE} {pos:Pos}
theorem PE.imp {t t':TE} (h:PE X e t) (i:∀ σ H Q,t' σ H Q->t σ H Q):PE X e t':=fun pins s σ H Q I q=>h pins s σ H Q I (i _ _ _ q)
theorem PT.imp {t t':TT} (h:PT X e t) (i:∀ σ H Q,t' σ H Q->t σ H Q):PT X e t':=fun pins s σ H Q I q=>h pins s σ H Q I (i _ _ _ q)
theorem PW.imp {t t':TT} (h:PW X e t) (i:∀ σ H Q,t' σ H Q->t σ H Q):PW X e t':=fun wh pins s σ H Q I q=>h wh pins s σ H Q I (i _ _ _ q)
theorem PA.imp {t t':TA} (h:PA X es t) (i:∀ σ H Q,t' σ H Q->t σ H Q):PA X es t':=fun p pins s σ H Q I q=>h p pins s σ H Q I (i _ _ _ q)
theorem PS.imp {st:Stmt} {t t':TS} (h:PS X st t) (i:∀ E σ H,t' E σ H->t E σ H):PS X st t':=fun pins s σ H E I q=>h pins s σ H E I (i _ _ _ q)
theorem PSs.imp {st:List Stmt} {t t':TS} (h:PSs X st t) (i:∀ E σ H,t' E σ H->t E σ H):PSs X st t':=fun pins s σ H E I q=>h pins s σ H E I (i _ _ _ q)
def vSh (i:Nat):FE:=fun ρ=>match ρ[i]? with
 | some (some (.sh d))=>some d
 | _=>none
theorem zoY {i:Nat} {ρ:za1} {d:D} (h:vSh i ρ=some d):ρ[i]?=some (some (.sh d)):=by
 unfold vSh at h
 split at h
 ·rename_i e;cases h;exact e
 ·cases h
theorem zab (i:Nat) {x:Str} (hN:X.N[i]?=some x:=by rfl) (hv:Vis X.env.scope x:=by first | exact Or.inl rfl | exact Or.inr (Or.inl rfl) | exact Or.inr (Or.inr rfl)) (hd:(x==("__debug__":Str))=false:=by decide)
  (hcd:(x==("__classdict__":Str))=false:=by decide):DE Γ X (.Name x pos) (vSh i):=⟨(zen hN hv hd hcd).imp fun σ H Q ⟨G₀,H₀,G,ρ,d,A,h,k⟩=>by
 obtain ⟨v,h1,h2⟩:=A.env.sh i d (zoY h)
 exact ⟨v,h1,k v G H (.refl A.gh) h2⟩⟩
def vC (d:D):FE:=fun _=>some d
theorem TD.const {d:D} {v:V} (r:∀ G,Rep Γ X.K G v d) (h:PE X e (tC v)):DE Γ X e (vC d):=⟨h.imp fun σ H Q ⟨G₀,H₀,G,ρ,d',A,h,k⟩=>by
 cases h
 exact k v G H (.refl A.gh) (r G)⟩
theorem zaf {i j}:DE Γ X (.Constant (.int i) j pos) (vC (.int i)):=TD.const (fun _=>.int i) zj2
theorem zdD {i j}:DE Γ X (.Constant (.bool i) j pos) (vC (.bl i)):=TD.const (fun _=>.bl i) zuZ
theorem zoz {j}:DE Γ X (.Constant .none j pos) (vC .non):=TD.const (fun _=>.non) ztp
theorem zaN {i j}:DE Γ X (.Constant (.str i) j pos) (vC (.str i)):=TD.const (fun _=>.str i) ztl
theorem zcf {x:Str} {i:Int} {t:Tok} (hg:Gl X x) (hm:X.mg x=some (.int i t)) (hd:(x==("__debug__":Str))=false:=by decide):DE Γ X (.Name x pos) (vC (.int i)):=TD.const (fun _=>.int i) (zrr hg hm ⟨t,rfl⟩ hd)
def b2 (g:D->D->Option D) (fa fb:FE):FE:=fun ρ=>(fa ρ).bind fun x=>(fb ρ).bind fun y=>g x y
def b1 (g:D->Option D) (fa:FE):FE:=fun ρ=>(fa ρ).bind g
def zkH (Γ:Cn) (K:PySem.W.Frag) (g:D->D->Option D) (r:R2):Prop :=
 ∀ {G H v u x y z},zcd G H->Rep Γ K G v x->Rep Γ K G u y->g x y=some z->∀ Q:VK,(∀ w G' H',Step G H G' H'->Rep Γ K G' w z->Q w H')->r v u H Q
theorem TD.two {g:D->D->Option D} {r:R2} (hr:zkH Γ X.K g r):∀ σ H Q,TD Γ X.K (b2 g fa fb) σ H Q->tOp r (TD Γ X.K fa) (TD Γ X.K fb) σ H Q:=by
 rintro σ H Q ⟨G₀,H₀,G,ρ,d,A,h,k⟩
 unfold b2 at h
 cases ha:fa ρ with
 | none=>rw [ha] at h;cases h
 | some x =>
  cases hb:fb ρ with
  | none=>rw [ha] at h;simp only [qa,hb,Option.bind_none] at h;cases h
  | some y =>
   simp only [ha,hb,qa] at h
   refine ⟨G₀,H₀,G,ρ,x,A,ha,fun v G1 H1 s1 r1=>⟨G₀,H₀,G1,ρ,y,A.step s1,hb,fun u G2 H2 s2 r2=>?_⟩⟩
   exact hr s2.gh (r1.mono s2.gg) r2 h Q fun w G' H' s r=>k w G' H' ((s1.trans s2).trans s) r
theorem zlc {op:Operator} {g:D->D->Option D} {r:R2} (ho:OpR X (binaryOp op) r) (hr:zkH Γ X.K g r) (ha:DE Γ X a fa) (hb:DE Γ X b fb):DE Γ X (.BinOp a op b pos) (b2 g fa fb):=⟨(ztm ho ha.1 hb.1).imp (TD.two hr)⟩
def zc6:D->D->Option D
 | .int i,.int j=>some (.int (i+j))
 | .str x,.str y=>if x.length+y.length<=sizeLine then some (.str (x++y)) else none
 | .lst x,.lst y=>if x.length+y.length<=sizeLine then some (.lst (x++y)) else none
 | _,_=>none
def ziX:D->D->Option D
 | .int i,.int j=>some (.int (i - j))
 | _,_=>none
def zoT (x:Str) (n:Nat):Str:=⟨(List.replicate n x.cps.toList).flatten.toArray⟩
def zqx:D->D->Option D
 | .int i,.int j=>if (-(2 ^ 64) < i/\i < 2 ^ 64)\/(-(2 ^ 64) < j/\j < 2 ^ 64) then some (.int (i*j)) else none
 | .lst x,.int j=>if -(2 ^ 63)<=j/\j < 2 ^ 63/\x.length*j.toNat<=sizeLine then some (.lst (List.replicate j.toNat x).flatten) else none
 | .str x,.int j=>if 0<=j/\j < 1000/\x.length < 1000 then some (.str (zoT x j.toNat)) else none
 | _,_=>none
def zkg:D->D->Option D
 | .int i,.int j=>if 0 < j/\j < 1073741824 then some (.int (i / j)) else none
 | _,_=>none
def zmT:D->D->Option D
 | .int i,.int j=>if 0 < j then some (.int (i % j)) else none
 | _,_=>none
def znA:D->D->Option D
 | .int i,.int j=>if 0<=j/\j<=1000000/\i.natAbs < 2 ^ 64 then some (.int (i ^ j.toNat)) else none
 | _,_=>none
theorem Rep.int_inv {K:PySem.W.Frag} {G:Hp} {v:V} {i:Int} (r:Rep Γ K G v (.int i)):v=.int i:=by cases r;rfl
theorem Rep.str_inv {K:PySem.W.Frag} {G:Hp} {v:V} {i:Str} (r:Rep Γ K G v (.str i)):v=.str i:=by cases r;rfl
theorem Rep.bl_inv {K:PySem.W.Frag} {G:Hp} {v:V} {i:Bool} (r:Rep Γ K G v (.bl i)):v=.bl i:=by cases r;rfl
theorem Rep.lst_inv {K:PySem.W.Frag} {G:Hp} {v:V} {ds:List D} (r:Rep Γ K G v (.lst ds)):∃ a vs,v=.ref a/\G a=some (.lst vs)/\Reps Γ K G vs ds:=by cases r;exact ⟨_,_,rfl,by assumption,by assumption⟩
theorem Rep.tup_inv {K:PySem.W.Frag} {G:Hp} {v:V} {ds:List D} (r:Rep Γ K G v (.tup ds)):∃ a vs,v=.ref a/\G a=some (.tup vs)/\Reps Γ K G vs ds:=by cases r;exact ⟨_,_,rfl,by assumption,by assumption⟩
theorem Rep.scr_inv {K:PySem.W.Frag} {G:Hp} {v:V} {ns:List Int} (r:Rep Γ K G v (.scr ns)):∃ a,v=.ref a/\SqL K G a (ns.map V.int):=by cases r;exact ⟨_,rfl,by assumption⟩
theorem zdz {K:PySem.W.Frag} {G H:Hp} {vs:List V} {ds:List D} {Q:VK} (gh:zcd G H) (r:Reps Γ K G vs ds) (k:∀ w G' H',Step G H G' H'->Rep Γ K G' w (.lst ds)->Q w H'):∀ p,H p=none->Q (.ref p) (upd H p (.lst vs)):=fun p hp=>by
 have s:=Step.new (o:=.lst vs) gh hp
 exact k _ _ _ s (.lst zaL (r.mono s.gg))
theorem zjf {K:PySem.W.Frag} {G H:Hp} {vs:List V} {ds:List D} {Q:VK} (gh:zcd G H) (r:Reps Γ K G vs ds) (k:∀ w G' H',Step G H G' H'->Rep Γ K G' w (.tup ds)->Q w H'):∀ p,H p=none->Q (.ref p) (upd H p (.tup vs)):=fun p hp=>by
 have s:=Step.new (o:=.tup vs) gh hp
 exact k _ _ _ s (.tup zaL (r.mono s.gg))
theorem zl3 {K:PySem.W.Frag}:zkH Γ K zc6 (fun x y H Q=>(rI0 (fun i j=>V.int (i+j)) x y H Q\/(∃ i j,x=.str i/\y=.str j/\i.length+j.length<=sizeLine/\Q (.str (i++j)) H))\/zuT x y H Q):=by
 intro G H v u x y z gh r1 r2 h Q k
 unfold zc6 at h
 split at h
 ·cases h
  cases r1.int_inv;cases r2.int_inv
  exact .inl (.inl ⟨_,_,rfl,rfl,k _ G H (.refl gh) (.int _)⟩)
 ·split at h
  ·cases h
   cases r1.str_inv;cases r2.str_inv
   exact .inl (.inr ⟨_,_,rfl,rfl,by assumption,k _ G H (.refl gh) (.str _)⟩)
  ·cases h
 ·split at h
  ·rename_i hz
   cases h
   obtain ⟨a,vs,rfl,ha,ra⟩:=r1.lst_inv
   obtain ⟨b,us,rfl,hb,rb⟩:=r2.lst_inv
   exact .inr ⟨a,b,vs,us,rfl,rfl,gh _ _ ha,gh _ _ hb,by rw [ra.length,rb.length];exact hz,zdz gh (ra.append rb) k⟩
  ·cases h
 ·cases h
theorem znN:OpR X (binaryOp .Add) (fun x y H Q=>(rI0 (fun i j=>V.int (i+j)) x y H Q\/(∃ i j,x=.str i/\y=.str j/\i.length+j.length<=sizeLine/\Q (.str (i++j)) H))\/zuT x y H Q):=(ztE.or zmw).or ztD
theorem zdg (ha:DE Γ X a fa) (hb:DE Γ X b fb):DE Γ X (.BinOp a .Add b pos) (b2 zc6 fa fb):=zlc znN zl3 ha hb
theorem zkk {K:PySem.W.Frag} {g:D->D->Option D} {o:Int->Int->Int} (hg:∀ x y z,g x y=some z->∃ i j,x=.int i/\y=.int j/\z=.int (o i j)):zkH Γ K g (rI0 fun i j=>V.int (o i j)):=by
 intro G H v u x y z gh r1 r2 h Q k
 obtain ⟨i,j,rfl,rfl,rfl⟩:=hg x y z h
 cases r1.int_inv;cases r2.int_inv
 exact ⟨_,_,rfl,rfl,k _ G H (.refl gh) (.int _)⟩
theorem zd4 {K:PySem.W.Frag} {g:D->D->Option D} {C:Int->Int->Prop} {o:Int->Int->Int} (hg:∀ x y z,g x y=some z->∃ i j,x=.int i/\y=.int j/\C i j/\z=.int (o i j)):zkH Γ K g (rI C fun i j=>V.int (o i j)):=by
 intro G H v u x y z gh r1 r2 h Q k
 obtain ⟨i,j,rfl,rfl,hc,rfl⟩:=hg x y z h
 cases r1.int_inv;cases r2.int_inv
 exact ⟨_,_,rfl,rfl,hc,k _ G H (.refl gh) (.int _)⟩
theorem zf8 (ha:DE Γ X a fa) (hb:DE Γ X b fb):DE Γ X (.BinOp a .Sub b pos) (b2 ziX fa fb):=zlc zqu (zkk fun x y z h=>by
 unfold ziX at h;split at h <;> cases h;exact ⟨_,_,rfl,rfl,rfl⟩) ha hb
theorem zsa (ha:DE Γ X a fa) (hb:DE Γ X b fb):DE Γ X (.BinOp a .FloorDiv b pos) (b2 zkg fa fb):=zlc znM (zd4 fun x y z h=>by
 unfold zkg at h;split at h
 ·split at h <;> cases h;exact ⟨_,_,rfl,rfl,by assumption,rfl⟩
 ·cases h) ha hb
theorem zoB (ha:DE Γ X a fa) (hb:DE Γ X b fb):DE Γ X (.BinOp a .Mod b pos) (b2 zmT fa fb):=zlc zqv (zd4 fun x y z h=>by
 unfold zmT at h;split at h
 ·split at h <;> cases h;exact ⟨_,_,rfl,rfl,by assumption,rfl⟩
 ·cases h) ha hb
theorem ziO (ha:DE Γ X a fa) (hb:DE Γ X b fb):DE Γ X (.BinOp a .Pow b pos) (b2 znA fa fb):=zlc zty (zd4 fun x y z h=>by
 unfold znA at h;split at h
 ·split at h <;> cases h;exact ⟨_,_,rfl,rfl,by assumption,rfl⟩
 ·cases h) ha hb
theorem zlZ (a:Array Nat):∀ (k:Nat) (acc:List Nat),(List.replicate k a).foldl (·++·) acc.toArray=(acc++(List.replicate k a.toList).flatten).toArray
 | 0,acc=>by simp
 | k+1,acc=>by
  rw [List.replicate_succ,List.foldl_cons,List.replicate_succ,List.flatten_cons,← List.append_assoc,← zlZ a k (acc++a.toList)]
  congr 1
  simp
def zs6:R2:=fun x y H Q=>∃ z n,x=.str z/\y=.int n/\0<=n/\n < 1000/\z.length < 1000/\Q (.str (zoT z n.toNat)) H
theorem zrw:OpR X (binaryOp .Mult) zs6:=by
 intro pins s σ H x y v u Q I rx ry h
 obtain ⟨z,n,rfl,rfl,h0,h1,h2,q⟩:=h
 obtain ⟨t,rfl⟩:=rx
 obtain ⟨t',rfl⟩:=ry
 have hl:z.length*n.toNat<=1000000:=qH (Nat.mul_le_mul (Nat.le_of_lt h2) (show n.toNat<=1000 by omega)) (by decide)
 have e0:(List.replicate n.toNat z.cps).foldl (·++·) #[]=(zoT z n.toNat).cps:=by
  have:=zlZ z.cps n.toNat []
  simpa [zoT] using this
 refine PySem.P.mul_str ?_ (fun h _=>?_) (fun _ _=>?_) ?_
 ·rw [qI (by omega),qI (by omega)];rfl
 ·have e:(z.length:Int)*n=((z.length*n.toNat:Nat):Int):=by rw [Int.natCast_mul];congr 1;omega
  have:(z.length:Int)<=(2 ^ 63 - 1:Int) / n:=Int.le_ediv_of_mul_le (by omega) (by rw [e];omega)
  omega
 ·unfold Builtin.Str.tooLong
  exact qI (by have:=sizeLine_eq;omega)
 ·split
  ·have:n=0:=by omega
   subst this
   exact ⟨by decide,⟨.str _,H,I.tok _,⟨_,rfl⟩,by simpa [zoT,Str.empty] using q⟩⟩
  ·split
   ·rename_i hc
    have ez:zoT z n.toNat=z:=by
     rcases Bool.or_eq_true _ _▸hc with e | e
     ·have:n=1:=by simpa using e
      subst this
      simp [zoT]
     ·have hz:z.cps=#[]:=by
       have:z.cps.size=0:=by simpa [Str.length] using e
       exact Array.eq_empty_of_size_eq_zero this
      cases z
      simp only at hz
      subst hz
      simp [zoT]
    exact ⟨.str _,H,I,⟨_,rfl⟩,by rw [← ez];exact q⟩
   ·rw [e0]
    refine ⟨?_,⟨.str _,H,I.tok _,⟨_,rfl⟩,q⟩⟩
    have e1:(zoT z n.toNat).length=n.toNat*z.length:=by
     show (List.replicate n.toNat z.cps.toList).flatten.toArray.size=_
     rw [qy,zn0]
     simp [Str.length]
    show (zoT z n.toNat).length<=sizeLine
    rw [e1,Nat.mul_comm]
    have:=sizeLine_eq
    omega
theorem zpS {K:PySem.W.Frag}:zkH Γ K zqx (fun x y H Q=>(rI zuB (fun i j=>V.int (i*j)) x y H Q\/zvC x y H Q)\/zs6 x y H Q):=by
 intro G H v u x y z gh r1 r2 h Q k
 unfold zqx at h
 split at h
 ·split at h
  ·cases h
   cases r1.int_inv;cases r2.int_inv
   exact .inl (.inl ⟨_,_,rfl,rfl,by assumption,k _ G H (.refl gh) (.int _)⟩)
  ·cases h
 ·split at h
  ·rename_i hz
   cases h
   obtain ⟨a,vs,rfl,ha,ra⟩:=r1.lst_inv
   cases r2.int_inv
   exact .inl (.inr ⟨a,_,vs,rfl,rfl,gh _ _ ha,hz.1,hz.2.1,by rw [ra.length];exact hz.2.2,zdz gh (ra.rep _) k⟩)
  ·cases h
 ·split at h
  ·rename_i hz
   cases h
   cases r1.str_inv
   cases r2.int_inv
   exact .inr ⟨_,_,rfl,rfl,hz.1,hz.2.1,hz.2.2,k _ G H (.refl gh) (.str _)⟩
  ·cases h
 ·cases h
theorem zl5 (ha:DE Γ X a fa) (hb:DE Γ X b fb):DE Γ X (.BinOp a .Mult b pos) (b2 zqx fa fb):=zlc ((ztA.or ztx).or zrw) zpS ha hb
end
end L2
end
section
namespace L2
open PySem PySem.Spec PyProof.Rows
section
variable {Γ:Cn} {X:Cx} {a b c e:Expr} {es:List Expr} {fa fb fc f:FE} {pos:Pos}
theorem Rep.non_inv {K:PySem.W.Frag} {G:Hp} {v:V} (r:Rep Γ K G v .non):v=.non:=by cases r;rfl
def ltS (x y:Str):Bool:=decide (x.cps.toList < y.cps.toList)
def ltD:D->D->Option D
 | .int i,.int j=>some (.bl (decide (i < j)))
 | .str x,.str y=>some (.bl (ltS x y))
 | _,_=>none
def leD:D->D->Option D
 | .int i,.int j=>some (.bl (decide (i<=j)))
 | .str x,.str y=>some (.bl (!ltS y x))
 | _,_=>none
def gtD:D->D->Option D
 | .int i,.int j=>some (.bl (decide (j < i)))
 | _,_=>none
def geD:D->D->Option D
 | .int i,.int j=>some (.bl (decide (j<=i)))
 | _,_=>none
def eqS:D->D->Option Bool
 | .int i,.int j=>some (decide (i=j))
 | .bl i,.bl j=>some (decide (i=j))
 | .str i,.str j=>some (decide (i=j))
 | .non,.non=>some true
 | .non,.int _=>some false | .int _,.non=>some false | .non,.bl _=>some false | .bl _,.non=>some false | .non,.str _=>some false | .str _,.non=>some false
 | .int _,.str _=>some false | .str _,.int _=>some false | .bl _,.str _=>some false | .str _,.bl _=>some false
 | _,_=>none
def eqD (x y:D):Option D:=(eqS x y).map D.bl
def neD (x y:D):Option D:=(eqS x y).map fun b=>D.bl (!b)
theorem zqI {K:PySem.W.Frag} {G:Hp} {v u:V} {x y:D} {k:Bool} (r1:Rep Γ K G v x) (r2:Rep Γ K G u y) (h:eqS x y=some k):zuO v u=true/\decide (v=u)=k:=by
 unfold eqS at h
 split at h <;> cases h
 ·cases r1.int_inv;cases r2.int_inv;exact ⟨rfl,by simp⟩
 ·cases r1.bl_inv;cases r2.bl_inv;exact ⟨rfl,by simp⟩
 ·cases r1.str_inv;cases r2.str_inv;exact ⟨rfl,by simp⟩
 ·cases r1.non_inv;cases r2.non_inv;exact ⟨rfl,by simp⟩
 ·cases r1.non_inv;cases r2.int_inv;exact ⟨rfl,by simp⟩
 ·cases r1.int_inv;cases r2.non_inv;exact ⟨rfl,by simp⟩
 ·cases r1.non_inv;cases r2.bl_inv;exact ⟨rfl,by simp⟩
 ·cases r1.bl_inv;cases r2.non_inv;exact ⟨rfl,by simp⟩
 ·cases r1.non_inv;cases r2.str_inv;exact ⟨rfl,by simp⟩
 ·cases r1.str_inv;cases r2.non_inv;exact ⟨rfl,by simp⟩
 ·cases r1.int_inv;cases r2.str_inv;exact ⟨rfl,by simp⟩
 ·cases r1.str_inv;cases r2.int_inv;exact ⟨rfl,by simp⟩
 ·cases r1.bl_inv;cases r2.str_inv;exact ⟨rfl,by simp⟩
 ·cases r1.str_inv;cases r2.bl_inv;exact ⟨rfl,by simp⟩
theorem zr7 {K:PySem.W.Frag}:zkH Γ K eqD rEq:=by
 intro G H v u x y z gh r1 r2 h Q k
 unfold eqD at h
 cases e:eqS x y with
 | none=>rw [e] at h;cases h
 | some b =>
  rw [e] at h
  cases h
  obtain ⟨h1,h2⟩:=zqI r1 r2 e
  exact ⟨h1,by rw [h2];exact k _ G H (.refl gh) (.bl _)⟩
theorem zr4 {K:PySem.W.Frag}:zkH Γ K neD rNe:=by
 intro G H v u x y z gh r1 r2 h Q k
 unfold neD at h
 cases e:eqS x y with
 | none=>rw [e] at h;cases h
 | some b =>
  rw [e] at h
  cases h
  obtain ⟨h1,h2⟩:=zqI r1 r2 e
  exact ⟨h1,by rw [h2];exact k _ G H (.refl gh) (.bl _)⟩
theorem zkj {K:PySem.W.Frag} {g:D->D->Option D} {o:Int->Int->Bool} (hg:∀ x y z,g x y=some z->∃ i j,x=.int i/\y=.int j/\z=.bl (o i j)):zkH Γ K g (rI0 fun i j=>V.bl (o i j)):=by
 intro G H v u x y z gh r1 r2 h Q k
 obtain ⟨i,j,rfl,rfl,rfl⟩:=hg x y z h
 cases r1.int_inv;cases r2.int_inv
 exact ⟨_,_,rfl,rfl,k _ G H (.refl gh) (.bl _)⟩
theorem znL:OpR X (compareOp .LtE) (fun x y H Q=>∃ i j,x=.str i/\y=.str j/\Q (.bl (!ltS j i)) H):=by
 intro pins s σ H x y v u Q I rx ry h
 obtain ⟨i,j,rfl,rfl,q⟩:=h
 obtain ⟨t,rfl⟩:=rx
 obtain ⟨t',rfl⟩:=ry
 exact PySem.P.le_str (zbA I q (by simp [ltS]))
theorem zr5 {K:PySem.W.Frag}:zkH Γ K ltD (fun x y H Q=>rI0 (fun i j=>V.bl (decide (i < j))) x y H Q\/∃ i j,x=.str i/\y=.str j/\Q (.bl (decide (i.cps.toList < j.cps.toList))) H):=by
 intro G H v u x y z gh r1 r2 h Q k
 unfold ltD at h
 split at h <;> cases h
 ·cases r1.int_inv;cases r2.int_inv;exact .inl ⟨_,_,rfl,rfl,k _ G H (.refl gh) (.bl _)⟩
 ·cases r1.str_inv;cases r2.str_inv;exact .inr ⟨_,_,rfl,rfl,k _ G H (.refl gh) (.bl _)⟩
theorem zr6 {K:PySem.W.Frag}:zkH Γ K leD (fun x y H Q=>rI0 (fun i j=>V.bl (decide (i<=j))) x y H Q\/∃ i j,x=.str i/\y=.str j/\Q (.bl (!ltS j i)) H):=by
 intro G H v u x y z gh r1 r2 h Q k
 unfold leD at h
 split at h <;> cases h
 ·cases r1.int_inv;cases r2.int_inv;exact .inl ⟨_,_,rfl,rfl,k _ G H (.refl gh) (.bl _)⟩
 ·cases r1.str_inv;cases r2.str_inv;exact .inr ⟨_,_,rfl,rfl,k _ G H (.refl gh) (.bl _)⟩
structure CmpD (Γ:Cn) (X:Cx) (op:CmpOp) (g:D->D->Option D):Prop where
 ex:∃ r,OpR X (compareOp op) r/\zkH Γ X.K g r
theorem zlf:CmpD Γ X .Lt ltD:=⟨_,zu2.or znK,zr5⟩
theorem zkp:CmpD Γ X .LtE leD:=⟨_,zu3.or znL,zr6⟩
theorem zlg:CmpD Γ X .Gt gtD:=⟨_,zu4,zkj fun x y z h=>by unfold gtD at h;split at h <;> cases h;exact ⟨_,_,rfl,rfl,rfl⟩⟩
theorem zvn:CmpD Γ X .GtE geD:=⟨_,zu5,zkj fun x y z h=>by unfold geD at h;split at h <;> cases h;exact ⟨_,_,rfl,rfl,rfl⟩⟩
theorem zb7:CmpD Γ X .Eq eqD:=⟨_,zu6,zr7⟩
theorem zuk:CmpD Γ X .NotEq neD:=⟨_,zu1,zr4⟩
theorem zdK {op:CmpOp} {g:D->D->Option D} (h:CmpD Γ X op g) (ha:DE Γ X a fa) (hb:DE Γ X b fb) (hm:behindInMarks op b=false):DE Γ X (.Compare a [op] [b] pos) (b2 g fa fb):=⟨by
 obtain ⟨r,ho,hr⟩:=h.ex
 exact (znG ho ha.1 hb.1 hm).imp (TD.two hr)⟩
def chD (g g':D->D->Option D) (fa fb fc:FE):FE:=fun ρ=>(fa ρ).bind fun x=>(fb ρ).bind fun y=>(g x y).bind fun z=>match z with
 | .bl true=>(fc ρ).bind fun w=>g' y w
 | .bl false=>some (.bl false)
 | _=>none
theorem TD.chain {g g':D->D->Option D} {r r':R2} (hr:zkH Γ X.K g r) (hr':zkH Γ X.K g' r'):∀ σ H Q,TD Γ X.K (chD g g' fa fb fc) σ H Q->zm1 r r' (TD Γ X.K fa) (TD Γ X.K fb) (TD Γ X.K fc) σ H Q:=by
 rintro σ H Q ⟨G₀,H₀,G,ρ,d,A,h,k⟩
 unfold chD at h
 obtain ⟨x,ha,h⟩:=oBd h
 obtain ⟨y,hb,h⟩:=oBd h
 obtain ⟨z,hz,h⟩:=oBd h
 refine ⟨G₀,H₀,G,ρ,x,A,ha,fun v G1 H1 s1 r1=>⟨G₀,H₀,G1,ρ,y,A.step s1,hb,fun u G2 H2 s2 r2=>?_⟩⟩
 refine hr s2.gh (r1.mono s2.gg) r2 hz _ fun w G3 H3 s3 r3=>?_
 split at h
 ·cases r3.bl_inv
  obtain ⟨w,hc,h⟩:=oBd h
  refine ⟨true,rfl,zn8 ⟨G₀,H₀,G3,ρ,w,((A.step s1).step s2).step s3,hc,fun q G4 H4 s4 r4=>?_⟩⟩
  exact hr' s4.gh ((r2.mono s3.gg).mono s4.gg) r4 h Q fun w' G' H' s r=>k w' G' H' ((((s1.trans s2).trans s3).trans s4).trans s) r
 ·cases r3.bl_inv
  cases h
  exact ⟨false,rfl,zn9 (k _ G3 H3 ((s1.trans s2).trans s3) (.bl _))⟩
 ·cases h
theorem zjn {op op':CmpOp} {g g':D->D->Option D} (h:CmpD Γ X op g) (h':CmpD Γ X op' g') (ha:DE Γ X a fa) (hb:DE Γ X b fb) (hc:DE Γ X c fc) (hm:lastMarks [op,op'] [b,c]=false:=by with_unfolding_all rfl) :
  DE Γ X (.Compare a [op,op'] [b,c] pos) (chD g g' fa fb fc):=⟨by
 obtain ⟨r,ho,hr⟩:=h.ex
 obtain ⟨r',ho',hr'⟩:=h'.ex
 exact (zps ho ho' ha.1 hb.1 hc.1 hm).imp (TD.chain hr hr')⟩
def toB (f:FE):FT:=fun ρ=>(f ρ).bind fun d=>match d with
 | .bl b=>some b
 | _=>none
theorem TDt.val {f:FE}:∀ σ H Q,TDt Γ X.K (toB f) σ H Q->TD Γ X.K f σ H fun x H'=>∃ k,x=.bl k/\Q k H':=by
 rintro σ H Q ⟨G₀,H₀,G,ρ,b,A,h,k⟩
 unfold toB at h
 obtain ⟨d,hd,h⟩:=oBd h
 split at h <;> cases h
 exact ⟨G₀,H₀,G,ρ,_,A,hd,fun v G' H' s r=>⟨b,r.bl_inv,k G' H' s⟩⟩
theorem zbs {op:CmpOp} {g:D->D->Option D} (h:CmpD Γ X op g) (ha:DE Γ X a fa) (hb:DE Γ X b fb) (hm:behindInMarks op b=false):DT Γ X (.Compare a [op] [b] pos) (toB (b2 g fa fb)):=⟨by
 obtain ⟨r,ho,hr⟩:=h.ex
 exact (znv ho ha.1 hb.1 hm).imp fun σ H Q q=>TD.two hr σ H _ (TDt.val σ H Q q)⟩
theorem zpQ {op op':CmpOp} {g g':D->D->Option D} (h:CmpD Γ X op g) (h':CmpD Γ X op' g') (ha:DE Γ X a fa) (hb:DE Γ X b fb) (hc:DE Γ X c fc) (hm:lastMarks [op,op'] [b,c]=false:=by with_unfolding_all rfl) :
  DT Γ X (.Compare a [op,op'] [b,c] pos) (toB (chD g g' fa fb fc)):=⟨by
 obtain ⟨r,ho,hr⟩:=h.ex
 obtain ⟨r',ho',hr'⟩:=h'.ex
 exact (zpk ho ho' ha.1 hb.1 hc.1 hm).imp fun σ H Q q=>TD.chain hr hr' σ H _ (TDt.val σ H Q q)⟩
theorem zaS (h:DE Γ X e f) (he:∀ whole,isTrue e X.env whole=(do let v ← whole;standAt e.pos;holding [v] (truthy v)):=by intro _;rfl):DT Γ X e (toB f):=⟨(ztc h.1 he).imp TDt.val⟩
def zca (f:FT):FT:=fun ρ=>(f ρ).map (!·)
def zmO (f g:FT):FT:=fun ρ=>(f ρ).bind fun b=>if b=true then g ρ else some false
def orT (f g:FT):FT:=fun ρ=>(f ρ).bind fun b=>if b=true then some true else g ρ
variable {ft gt:FT} {zc2:List Expr}
theorem DW.dt {e:Expr} (h:DW Γ X e ft):DT Γ X e ft:=⟨h.1.pt⟩
theorem zaU (h:DT Γ X a ft):DT Γ X (.UnaryOp .Not a pos) (zca ft):=⟨(ztd h.1).imp fun σ H Q=>by
 rintro ⟨G₀,H₀,G,ρ,b,A,h,k⟩
 unfold zca at h
 obtain ⟨c,hc,h⟩:=oMd h
 exact ⟨G₀,H₀,G,ρ,c,A,hc,fun G' H' s=>by show Q (!c) H';rw [h];exact k G' H' s⟩⟩
theorem zjl (h:DT Γ X a ft):DW Γ X (.BoolOp .And [a] pos) ft:=⟨znt h.1⟩
theorem zcx (h:DT Γ X a ft):DW Γ X (.BoolOp .Or [a] pos) ft:=⟨zql h.1⟩
theorem zki (h:DT Γ X a ft) (h':DW Γ X (.BoolOp .And (b::zc2) pos) gt):DW Γ X (.BoolOp .And (a::b::zc2) pos) (zmO ft gt):=⟨(zqm h.1 h'.1).imp fun σ H Q=>by
 rintro ⟨G₀,H₀,G,ρ,r,A,h,k⟩
 unfold zmO at h
 obtain ⟨c,hc,h⟩:=oBd h
 refine ⟨G₀,H₀,G,ρ,c,A,hc,fun G1 H1 s1=>?_⟩
 cases c with
 | true=>exact zn8 ⟨G₀,H₀,G1,ρ,r,A.step s1,by simpa using h,fun G' H' s=>k G' H' (s1.trans s)⟩
 | false =>
  rw [qS qp] at h
  cases h
  exact zn9 (k _ _ s1)⟩
theorem zdf (h:DT Γ X a ft) (h':DW Γ X (.BoolOp .Or (b::zc2) pos) gt):DW Γ X (.BoolOp .Or (a::b::zc2) pos) (orT ft gt):=⟨(zta h.1 h'.1).imp fun σ H Q=>by
 rintro ⟨G₀,H₀,G,ρ,r,A,h,k⟩
 unfold orT at h
 obtain ⟨c,hc,h⟩:=oBd h
 refine ⟨G₀,H₀,G,ρ,c,A,hc,fun G1 H1 s1=>?_⟩
 cases c with
 | false=>exact zn9 ⟨G₀,H₀,G1,ρ,r,A.step s1,by simpa using h,fun G' H' s=>k G' H' (s1.trans s)⟩
 | true =>
  rw [qR rfl] at h
  cases h
  exact zn8 (k _ _ s1)⟩
def zc5 (fa fb:FE):FE:=fun ρ=>(fa ρ).bind fun d=>match d with
 | .bl true=>fb ρ
 | .bl false=>some (.bl false)
 | _=>none
def zuv (fa:FE):FE:=fun ρ=>(fa ρ).bind fun d=>match d with
 | .bl b=>some (.bl (!b))
 | _=>none
theorem zb1 {op} (h:DE Γ X a fa):DE Γ X (.BoolOp op [a] pos) fa:=⟨ztn h.1⟩
theorem zbi (ha:DE Γ X a fa) (hb:DE Γ X (.BoolOp .And (b::zc2) pos) fb):DE Γ X (.BoolOp .And (a::b::zc2) pos) (zc5 fa fb):=⟨(ztr ha.1 hb.1).imp fun σ H Q=>by
 rintro ⟨G₀,H₀,G,ρ,d,A,h,k⟩
 unfold zc5 at h
 obtain ⟨x,hx,h⟩:=oBd h
 refine ⟨G₀,H₀,G,ρ,x,A,hx,fun v G1 H1 s1 r1=>?_⟩
 split at h
 ·cases r1.bl_inv
  exact ⟨true,rfl,zn8 ⟨G₀,H₀,G1,ρ,d,A.step s1,h,fun w G' H' s r=>k w G' H' (s1.trans s) r⟩⟩
 ·cases r1.bl_inv
  cases h
  exact ⟨false,rfl,zn9 (k _ G1 H1 s1 (.bl _))⟩
 ·cases h⟩
theorem zuf (ha:DE Γ X a fa):DE Γ X (.UnaryOp .Not a pos) (zuv fa):=⟨(zto ha.1).imp fun σ H Q=>by
 rintro ⟨G₀,H₀,G,ρ,d,A,h,k⟩
 unfold zuv at h
 obtain ⟨x,hx,h⟩:=oBd h
 refine ⟨G₀,H₀,G,ρ,x,A,hx,fun v G1 H1 s1 r1=>?_⟩
 split at h
 ·cases r1.bl_inv
  cases h
  exact ⟨_,rfl,k _ G1 H1 s1 (.bl _)⟩
 ·cases h⟩
def zak:FA:=fun _=>some []
def zac (fa:FE) (fr:FA):FA:=fun ρ=>(fa ρ).bind fun x=>(fr ρ).map (x::·)
variable {fr:FA}
theorem zae:DA Γ X [] zak:=⟨ziJ.imp fun σ H Q=>by
 rintro ⟨G₀,H₀,G,ρ,d,A,h,k⟩
 cases h
 exact k _ G H (.refl A.gh) .nil⟩
theorem zaa (ha:DE Γ X e fa) (hr:DA Γ X es fr) (hs:starEach (e::es) X.env=(false,eval e X.env)::starEach es X.env:=by rfl):DA Γ X (e::es) (zac fa fr):=⟨(zeH ha.1 hr.1 hs).imp fun σ H Q=>by
 rintro ⟨G₀,H₀,G,ρ,d,A,h,k⟩
 unfold zac at h
 obtain ⟨x,hx,h⟩:=oBd h
 obtain ⟨xs,hxs,h⟩:=oMd h
 subst h
 exact ⟨G₀,H₀,G,ρ,x,A,hx,fun v G1 H1 s1 r1=>⟨G₀,H₀,G1,ρ,xs,A.step s1,hxs,fun vs G2 H2 s2 r2=>k _ G2 H2 (s1.trans s2) (.cons (r1.mono s2.gg) r2)⟩⟩⟩
def szF (fr:FA):FA:=fun ρ=>(fr ρ).bind fun l=>if l.length<=sizeLine then some l else none
def zbM (fr:FA):FE:=fun ρ=>(fr ρ).map D.lst
def zdj (fr:FA):FE:=fun ρ=>(fr ρ).map D.tup
theorem DO.de (h:DO Γ X e fr):DE Γ X e (zbM fr):=⟨h.1.imp fun σ H Q=>by
 rintro ⟨G₀,H₀,G,ρ,d,A,h,k⟩
 unfold zbM at h
 obtain ⟨ds,hd,rfl⟩:=oMd h
 exact ⟨G₀,H₀,G,ρ,ds,A,hd,fun p vs G' H' s hp r=>zdz s.gh r (fun w G2 H2 s2 r2=>k w G2 H2 (s.trans s2) r2) p hp⟩⟩
theorem zbC (h:DA Γ X es fr):DO Γ X (.List es pos) (szF fr):=⟨(zqt h.1).imp fun σ H Q=>by
 rintro ⟨G₀,H₀,G,ρ,d,A,h,k⟩
 unfold szF at h
 obtain ⟨ds,hd,h⟩:=oBd h
 split at h
 ·rename_i hz
  cases h
  exact ⟨G₀,H₀,G,ρ,d,A,hd,fun vs G' H' s r=>⟨by rw [r.length];exact hz,fun p hp=>k p vs G' H' s hp r⟩⟩
 ·cases h⟩
theorem zb3 {x1} (h:DA Γ X es fr):DE Γ X (.Tuple es x1 pos) (zdj (szF fr)):=⟨(zqs h.1).imp fun σ H Q=>by
 rintro ⟨G₀,H₀,G,ρ,d,A,h,k⟩
 unfold zdj szF at h
 obtain ⟨ds',hd',rfl⟩:=oMd h
 obtain ⟨ds,hd,h⟩:=oBd hd'
 split at h
 ·rename_i hz
  cases h
  exact ⟨G₀,H₀,G,ρ,ds',A,hd,fun vs G' H' s r=>⟨by rw [r.length];exact hz,zjf s.gh r fun w G2 H2 s2 r2=>k w G2 H2 (s.trans s2) r2⟩⟩
 ·cases h⟩
def zso (Γ:Cn) (K:PySem.W.Frag) (g:List D->Option D) (r:List V->Hp->VK->Prop):Prop :=
 ∀ {G H vs ds z},zcd G H->Reps Γ K G vs ds->g ds=some z->∀ Q:VK,(∀ w G' H',Step G H G' H'->Rep Γ K G' w z->Q w H')->r vs H Q
def cF (g:List D->Option D) (fr:FA):FE:=fun ρ=>(fr ρ).bind g
theorem TD.call {g:List D->Option D} {r:List V->Hp->VK->Prop} (hr:zso Γ X.K g r):∀ σ H Q,TD Γ X.K (cF g fr) σ H Q->tCB r (TDa Γ X.K fr) σ H Q:=by
 rintro σ H Q ⟨G₀,H₀,G,ρ,d,A,h,k⟩
 unfold cF at h
 obtain ⟨ds,hd,h⟩:=oBd h
 exact ⟨G₀,H₀,G,ρ,ds,A,hd,fun vs G1 H1 s1 r1=>hr s1.gh r1 h Q fun w G' H' s r=>k w G' H' (s1.trans s) r⟩
structure BltD (Γ:Cn) (X:Cx) (id:String) (g:List D->Option D):Prop where
 ex:∃ r,zhf X (.builtin id) r/\zso Γ X.K g r
structure TyD (Γ:Cn) (X:Cx) (id:String) (g:List D->Option D):Prop where
 ex:∃ r,zhf X (.type id) r/\zso Γ X.K g r
variable {x:Str} {p:Pos}
theorem zaA {id:String} {g:List D->Option D} (hc:BltD Γ X id g) (hg:Gl X x) (hm:X.mg x=none) (hv:bootBuiltins x=some (.builtin id)) (ha:DA Γ X (e::es) fr) (hn:x≠"__name__":=by decide) (hdb:(x==("__debug__":Str))=false:=by decide)
  (he:starEach (e::es) X.env=(false,eval e X.env)::starEach es X.env:=by rfl) (hpl:(backTo pos (starEach es X.env)).any (·.1)=false:=by rfl):DE Γ X (.Call (.Name x p) (e::es) [] pos) (cF g fr):=⟨by
 obtain ⟨r,h1,h2⟩:=hc.ex
 exact (zlJ h1 hg hm hv ha.1 hn hdb he hpl).imp (TD.call h2)⟩
theorem zeL {id:String} {g:List D->Option D} (hc:TyD Γ X id g) (hg:Gl X x) (hm:X.mg x=none) (hv:bootBuiltins x=some (.type id)) (ha:DA Γ X (e::es) fr) (hn:x≠"__name__":=by decide) (hdb:(x==("__debug__":Str))=false:=by decide)
  (he:starEach (e::es) X.env=(false,eval e X.env)::starEach es X.env:=by rfl) (hpl:(backTo pos (starEach es X.env)).any (·.1)=false:=by rfl):DE Γ X (.Call (.Name x p) (e::es) [] pos) (cF g fr):=⟨by
 obtain ⟨r,h1,h2⟩:=hc.ex
 exact (zj3 h1 hg hm hv ha.1 hn hdb he hpl).imp (TD.call h2)⟩
theorem zgB {n:String} (hg:Gl X x) (hm:X.mg x=none) (hv:bootBuiltins x=some (.type n)) (hn:x≠"__name__":=by decide) (hd:(x==("__debug__":Str))=false:=by decide):DE Γ X (.Name x pos) (vC (.ty n)):=TD.const (fun _=>.ty n) (zrt hg hm hv rfl hn hd)
theorem Reps.one {K:PySem.W.Frag} {G:Hp} {vs:List V} {d:D} (r:Reps Γ K G vs [d]):∃ v,vs=[v]/\Rep Γ K G v d:=by
 cases r with
 | cons h t=>cases t;exact ⟨_,rfl,h⟩
theorem Reps.two {K:PySem.W.Frag} {G:Hp} {vs:List V} {d d':D} (r:Reps Γ K G vs [d,d']):∃ v u,vs=[v,u]/\Rep Γ K G v d/\Rep Γ K G u d':=by
 cases r with
 | cons h t=>cases t with
  | cons h2 t2=>cases t2;exact ⟨_,_,rfl,h,h2⟩
def zwx:List D->Option D
 | [.int i]=>some (.int (if i < 0 then -i else i))
 | _=>none
def zwv:List D->Option D
 | [.int i,.int j]=>some (.int (if j > i then j else i))
 | _=>none
def zpx:List D->Option D
 | [.int i,.int j]=>some (.int (if j < i then j else i))
 | _=>none
theorem zmd (hc:X.calm=true):BltD Γ X "min" zpx:=⟨_,zoH hc,fun {G H vs ds z} gh r h Q k=>by
 unfold zpx at h
 split at h <;> cases h
 obtain ⟨v,u,rfl,r1,r2⟩:=r.two
 cases r1.int_inv;cases r2.int_inv
 exact ⟨_,_,rfl,k _ G H (.refl gh) (.int _)⟩⟩
def zc3:List D->Option D
 | [.str x]=>if x.length<=sizeLine then some (.int (x.length:Nat)) else none
 | [.lst l]=>some (.int (l.length:Nat))
 | [.tup l]=>some (.int (l.length:Nat))
 | [.scr l]=>some (.int (l.length:Nat))
 | _=>none
theorem zbG:BltD Γ X "len" zc3:=⟨_,zp0,fun {G H vs ds z} gh r h Q k=>by
 unfold zc3 at h
 split at h
 ·split at h
  ·cases h
   obtain ⟨v,rfl,r1⟩:=r.one
   cases r1.str_inv
   exact ⟨_,_,rfl,⟨by assumption,rfl⟩,k _ G H (.refl gh) (.int _)⟩
  ·cases h
 ·cases h
  obtain ⟨v,rfl,r1⟩:=r.one
  obtain ⟨a,vs,rfl,ha,rv⟩:=r1.lst_inv
  exact ⟨_,_,rfl,.inl ⟨vs,.inl (.inl (gh _ _ ha)),rfl⟩,k _ G H (.refl gh) (by rw [rv.length];exact .int _)⟩
 ·cases h
  obtain ⟨v,rfl,r1⟩:=r.one
  obtain ⟨a,vs,rfl,ha,rv⟩:=r1.tup_inv
  exact ⟨_,_,rfl,.inr ⟨vs,.inl (.inl (gh _ _ ha)),rfl⟩,k _ G H (.refl gh) (by rw [rv.length];exact .int _)⟩
 ·cases h
  obtain ⟨v,rfl,r1⟩:=r.one
  obtain ⟨a,rfl,ha⟩:=r1.scr_inv
  exact ⟨_,_,rfl,.inl ⟨_,gh.seq ha,rfl⟩,k _ G H (.refl gh) (by rw [qe];exact .int _)⟩
 ·cases h⟩
def tyD:D->Option String
 | .non=>some "NoneType"
 | .bl _=>some "bool"
 | .int _=>some "int"
 | .str _=>some "str"
 | .lst _=>some "list"
 | .tup _=>some "tuple"
 | .dk _=>some "dict"
 | .dt _=>some "dict"
 | _=>none
def zk5 (t c:String):Option Bool:=if (Value.type t==Value.type c)=true then some true else if PySem.W.kitMeta c=true then Option.map (fun x=>x.contains (Value.type c)) (PySem.fastBuiltinMro t) else none
def zgt:List D->Option D
 | [d,.ty c]=>(tyD d).bind fun t=>(zk5 t c).map D.bl
 | _=>none
theorem zqU {K:PySem.W.Frag} {G H:Hp} {v:V} {d:D} {t:String} (gh:zcd G H) (r:Rep Γ K G v d) (h:tyD d=some t):TyOf K H v (.type t):=by
 unfold tyD at h
 split at h <;> cases h
 ·cases r.non_inv;exact .non
 ·cases r.bl_inv;exact .bl _
 ·cases r.int_inv;exact .int _
 ·cases r.str_inv;exact .str _
 ·obtain ⟨a,vs,rfl,ha,_⟩:=r.lst_inv;exact .lst (gh _ _ ha)
 ·obtain ⟨a,vs,rfl,ha,_⟩:=r.tup_inv;exact .tup (gh _ _ ha)
 ·cases r with
  | dk h _ _=>exact .dK (gh _ _ h)
 ·cases r with
  | dt h _ _=>exact .dT (gh _ _ h)
theorem zd5:BltD Γ X "isinstance" zgt:=by
 refine ⟨fun vs H Q=>∃ v t c b,vs=[v,.ty c]/\TyOf X.K H v (.type t)/\PySem.W.kitOne X.K (.type t) (.type c)=some b/\Q (.bl b) H,?_,?_⟩
 ·intro pins s σ H xs us Q I r h
  obtain ⟨v,t,c,b,rfl,ty,hk,q⟩:=h
  obtain ⟨u,w',rfl,r1,r2⟩:=zsE r
  cases r2
  exact zoa I r1 ty hk fun tk=>⟨.bl b,H,I.tok tk,rfl,q⟩
 ·intro G H vs ds z gh r h Q k
  unfold zgt at h
  split at h
  ·obtain ⟨t,ht,h⟩:=oBd h
   obtain ⟨b,hb,rfl⟩:=oMd h
   obtain ⟨v,u,rfl,r1,r2⟩:=r.two
   cases r2
   exact ⟨v,t,_,b,rfl,zqU gh r1 ht,hb,k _ G H (.refl gh) (.bl _)⟩
  ·cases h
end
end L2
end
section
namespace L2
open PySem PySem.Spec PyProof.Rows
section
variable {Γ:Cn} {X:Cx} {a b c e:Expr} {es:List Expr} {fa fb fc f:FE} {fr:FA} {pos p2:Pos}
theorem Reps.atI {K:PySem.W.Frag} {G:Hp} {vs:List V} {ds:List D} {i:Int} {d:D} (r:Reps Γ K G vs ds) (h:L2.atI ds i=some d):∃ v,L2.atI vs i=some v/\Rep Γ K G v d:=by
 unfold L2.atI at h ⊢
 rw [r.length]
 cases e:ixN ds.length i with
 | none=>rw [e] at h;cases h
 | some j =>
  rw [e] at h
  obtain ⟨v,h1,h2⟩:=r.get (i:=j) (d:=d) h
  exact ⟨v,h1,h2⟩
theorem zoM {α β:Type} (g:α->β) (xs:List α) (i:Int):L2.atI (xs.map g) i=(L2.atI xs i).map g:=by
 unfold L2.atI
 rw [qe]
 cases ixN xs.length i with
 | none=>rfl
 | some j=>simp
def ixD:D->D->Option D
 | .lst l,.int i=>atI l i
 | .tup l,.int i=>atI l i
 | .scr l,.int i=>(atI l i).map D.int
 | .str x,.int i=>if x.length<=sizeLine then (atI x.cps.toList i).map fun c=>D.str ⟨#[c]⟩ else none
 | _,_=>none
theorem zop {K:PySem.W.Frag}:zkH Γ K ixD (rIx K):=by
 intro G H v u x y z gh r1 r2 h Q k
 unfold ixD at h
 split at h
 ·obtain ⟨a,vs,rfl,ha,rv⟩:=r1.lst_inv
  cases r2.int_inv
  obtain ⟨w,hw,rw'⟩:=rv.atI h
  exact .inl ⟨a,vs,_,w,rfl,rfl,.inl (.inl (gh _ _ ha)),hw,k w G H (.refl gh) rw'⟩
 ·obtain ⟨a,vs,rfl,ha,rv⟩:=r1.tup_inv
  cases r2.int_inv
  obtain ⟨w,hw,rw'⟩:=rv.atI h
  exact .inr (.inl ⟨a,vs,_,w,rfl,rfl,.inl (.inl (gh _ _ ha)),hw,k w G H (.refl gh) rw'⟩)
 ·obtain ⟨a,rfl,ha⟩:=r1.scr_inv
  cases r2.int_inv
  obtain ⟨n,hn,rfl⟩:=oMd h
  exact .inl ⟨a,_,_,.int n,rfl,rfl,gh.seq ha,by rw [zoM,hn];rfl,k _ G H (.refl gh) (.int _)⟩
 ·split at h
  ·cases r1.str_inv
   cases r2.int_inv
   obtain ⟨n,hn,rfl⟩:=oMd h
   exact .inr (.inr ⟨_,_,n,rfl,rfl,by assumption,hn,k _ G H (.refl gh) (.str _)⟩)
  ·cases h
 ·cases h
theorem zaK (ha:DE Γ X a fa) (hb:DE Γ X b fb) (hs:zh2 b:=by intro _ _;rfl):DE Γ X (.Subscript a b pos) (b2 ixD fa fb):=⟨(zpq zlV ha.1 hb.1 hs).imp (TD.two zop)⟩
def zkn {α:Type} (xs:List α) (lo hi:Option Int):List α:=(xs.drop (HT.sIx xs.length 0 lo)).take (HT.sIx xs.length xs.length hi - HT.sIx xs.length 0 lo)
theorem zpW {α β:Type} (g:α->β) (xs:List α) (lo hi:Option Int):zkn (xs.map g) lo hi=(zkn xs lo hi).map g:=by
 unfold zkn
 simp
theorem Reps.cut {K:PySem.W.Frag} {G:Hp} {vs:List V} {ds:List D} (r:Reps Γ K G vs ds) (lo hi:Option Int):Reps Γ K G (zqN vs lo hi) (zkn ds lo hi):=by
 unfold zqN zkn
 rw [r.length]
 exact (r.drop _).take _
def zsz (x:Str) (lo hi:Option Int):Str:=⟨(zkn x.cps.toList lo hi).toArray⟩
theorem zjN (lo hi:Option Int) (n:Nat):Builtin.Str.strSliceIndices lo hi 1 n=(List.range (HT.sIx n n hi - HT.sIx n 0 lo)).map (HT.sIx n 0 lo+·):=by
 rw [← sliceRange_one]
 unfold Builtin.Str.strSliceIndices
 have h1:∀ (o:Option Int) (d:Nat),d<=n->(match o with | none=>(d:Int) | some i=>if (1:Int) > 0 then max 0 (min (if i < 0 then i+(n:Int) else i) n) else max (-1) (min (if i < 0 then i+(n:Int) else i) ((n:Int) - 1)))=((HT.sIx n d o:Nat):Int):=fun o d hd=>by
  cases o with
  | none=>simp [HT.sIx]
  | some i =>
   simp only [HT.sIx,show (1:Int) > 0 by decide,if_true]
   by_cases h:i < 0
   ·simp only [h,if_true];omega
   ·simp only [h,if_false];omega
 have e0:=h1 lo 0 (Nat.zero_le _)
 have e1:=h1 hi n (qt _)
 rw [← e0,← e1]
 rfl
theorem zlA (x:Str) (lo hi:Option Int):Txt.slice x lo hi=zsz x lo hi:=by
 have key:(Builtin.Str.strSliceIndices lo hi 1 x.length).filterMap (x.cps[·]?)=zkn x.cps.toList lo hi:=by
  rw [zjN,pick_run]
  unfold zkn
  rw [show x.cps.toList.length=x.length by simp [Str.length]]
 unfold Txt.slice zsz
 split
 ·rename_i h
  rw [← key]
  have hl:(Builtin.Str.strSliceIndices lo hi 1 x.length).length=x.length:=by simpa using h
  rw [zjN] at hl ⊢
  rw [pick_run]
  rw [qe,qO] at hl
  have hb:HT.sIx x.length x.length hi<=x.length:=by
   cases hi with
   | none=>simp [HT.sIx]
   | some i=>simp only [HT.sIx];split <;> omega
  have h0:HT.sIx x.length 0 lo=0\/x.length=0:=by omega
  have hx:x.cps.toList.length=x.length:=by simp [Str.length]
  have e:(x.cps.toList.drop (HT.sIx x.length 0 lo)).take (HT.sIx x.length x.length hi - HT.sIx x.length 0 lo)=x.cps.toList:=by
   rcases h0 with h0 | h0
   ·rw [h0,List.drop_zero]
    rw [h0] at hl
    exact List.take_of_length_le (by omega)
   ·have:x.cps.toList=[]:=List.length_eq_zero_iff.mp (by omega)
    rw [this];simp
  rw [e]
 ·rw [key]
def pN:za1->Option (Option Int):=fun _=>some none
def pS (f:FE):za1->Option (Option Int):=fun ρ=>(f ρ).bind fun d=>match d with
 | .int i=>some (some i)
 | _=>none
def TDp (Γ:Cn) (K:PySem.W.Frag) (f:za1->Option (Option Int)):TO:=fun σ H Q=>∃ G₀ H₀ G ρ o,At Γ K G₀ H₀ G H ρ σ/\f ρ=some o/\∀ G' H',Step G H G' H'->Q o H'
structure DP (Γ:Cn) (X:Cx) (e:Option Expr) (f:za1->Option (Option Int)):Prop where
 out:PO X e (TDp Γ X.K f)
theorem zgA:DP Γ X none pN:=⟨fun pins s σ H Q I ⟨G₀,H₀,G,ρ,o,A,h,k⟩=>by
 cases h
 exact znC pins s σ H Q I (k G H (.refl A.gh))⟩
theorem zgz (h:DE Γ X e f):DP Γ X (some e) (pS f):=⟨fun pins s σ H Q I ⟨G₀,H₀,G,ρ,o,A,q,k⟩=>by
 unfold pS at q
 obtain ⟨d,hd,q⟩:=oBd q
 split at q <;> cases q
 exact znB h.1 pins s σ H Q I ⟨G₀,H₀,G,ρ,_,A,hd,fun v G' H' s r=>⟨_,r.int_inv,k G' H' s⟩⟩⟩
theorem zsT:SlR X (fun x lo hi H Q=>∃ z,x=.str z/\z.length<=sizeLine/\Q (.str (zsz z lo hi)) H):=by
 intro pins s σ H x v vl vu lo hi sl Q I rx hs pl pu h
 obtain ⟨z,rfl,hz,q⟩:=h
 obtain ⟨t,rfl⟩:=rx
 refine ⟨"str",_,PySem.F.slot_str_getitem.lookup,typeIs_str _ _ _,?_⟩
 obtain ⟨l,rfl,el⟩:∃ l:Option (Int×Tok),vl=partValue l/\l.map (·.1)=lo:=by
  cases pl with
  | none=>exact ⟨none,rfl,rfl⟩
  | int i t=>exact ⟨some (i,t),rfl,rfl⟩
 obtain ⟨u,rfl,eu⟩:∃ l:Option (Int×Tok),vu=partValue l/\l.map (·.1)=hi:=by
  cases pu with
  | none=>exact ⟨none,rfl,rfl⟩
  | int i t=>exact ⟨some (i,t),rfl,rfl⟩
 refine wpAny_getItem_str_slice (l:=l) (u:=u) (st:=none) hs rfl ?_
 have e:(if ((Option.map (fun x=>x.fst) (none:Option (Int×Tok))).getD 1==1 && (slicePicked z l u none).length==z.length)=true then z else { cps:=(List.filterMap (fun x=>z.cps[x]?) (slicePicked z l u none)).toArray })=zsz z lo hi:=by
  have e0:Txt.slice z (l.map (·.1)) (u.map (·.1))=zsz z lo hi:=by
   rw [el,eu]
   exact zlA z lo hi
  exact e0
 refine post_val_or_str ⟨?_,fun t' k=>?_⟩
 ·rw [e,← zlA]
  exact qH (Txt.slice_le z _ _) hz
 ·rw [e]
  exact ⟨.str _,H,I.tok k,⟨_,rfl⟩,q⟩
def ziA (lo hi:Option Int):D->Option D
 | .lst l=>some (.lst (zkn l lo hi))
 | .scr l=>some (.lst ((zkn l lo hi).map D.int))
 | .tup l=>if HT.sIx l.length 0 lo=0/\HT.sIx l.length l.length hi=l.length then none else some (.tup (zkn l lo hi))
 | .str x=>if x.length<=sizeLine then some (.str (zsz x lo hi)) else none
 | _=>none
def slF (f:FE) (fl fh:za1->Option (Option Int)):FE:=fun ρ=>(f ρ).bind fun d=>(fl ρ).bind fun l=>(fh ρ).bind fun h=>ziA l h d
variable {fl fh:za1->Option (Option Int)} {lo hi:Option Expr}
theorem zeZ (he:DE Γ X e f) (hl:DP Γ X lo fl) (hh:DP Γ X hi fh):DE Γ X (.Subscript e (.Slice lo hi none p2) pos) (slF f fl fh):=⟨(zlI (zne.or (zsS.or zsT)) he.1 hl.1 hh.1).imp fun σ H Q=>by
 rintro ⟨G₀,H₀,G,ρ,d,A,h,k⟩
 unfold slF at h
 obtain ⟨x,hx,h⟩:=oBd h
 obtain ⟨l,hl,h⟩:=oBd h
 obtain ⟨u,hu,h⟩:=oBd h
 refine ⟨G₀,H₀,G,ρ,x,A,hx,fun v G1 H1 s1 r1=>⟨G₀,H₀,G1,ρ,l,A.step s1,hl,fun G2 H2 s2=>⟨G₀,H₀,G2,ρ,u,(A.step s1).step s2,hu,fun G3 H3 s3=>?_⟩⟩⟩
 have s:=(s1.trans s2).trans s3
 have r:=r1.mono (s2.gg.trans s3.gg)
 have gh:=s3.gh
 unfold ziA at h
 split at h
 ·cases h
  obtain ⟨a,vs,rfl,ha,rv⟩:=r.lst_inv
  exact .inl ⟨a,vs,rfl,.inl (.inl (gh _ _ ha)),zdz gh (rv.cut l u) fun w G4 H4 s4 r4=>k w G4 H4 (s.trans s4) r4⟩
 ·cases h
  obtain ⟨a,rfl,ha⟩:=r.scr_inv
  refine .inl ⟨a,_,rfl,gh.seq ha,zdz gh ?_ fun w G4 H4 s4 r4=>k w G4 H4 (s.trans s4) r4⟩
  show Reps Γ X.K G3 (zkn _ l u) _
  rw [zpW]
  exact Reps.ints _
 ·split at h
  ·cases h
  ·rename_i hw
   cases h
   obtain ⟨a,vs,rfl,ha,rv⟩:=r.tup_inv
   exact .inr (.inl ⟨a,vs,rfl,.inl (.inl (gh _ _ ha)),by rw [rv.length];exact hw,zjf gh (rv.cut l u) fun w G4 H4 s4 r4=>k w G4 H4 (s.trans s4) r4⟩)
 ·split at h
  ·cases h
   cases r.str_inv
   exact .inr (.inr ⟨_,rfl,by assumption,k _ _ _ s (.str _)⟩)
  ·cases h
 ·cases h⟩
structure MtD (Γ:Cn) (X:Cx) (T id:String) (g:D->List D->Option D):Prop where
 ex:∃ r,MtR X id r/\∀ {G H v x vs ds z},zcd G H->Rep Γ X.K G v x->Reps Γ X.K G vs ds->g x ds=some z->∀ Q:VK,(∀ w G' H',Step G H G' H'->Rep Γ X.K G' w z->Q w H')->r v vs H Q
 ty:∀ {G H v x ds z},zcd G H->Rep Γ X.K G v x->g x ds=some z->tyV X.K T v H
variable {name:Str} {apos cpos:Pos} {o:Expr} {fo:FE}
def zsN:List D->Option (List Str)
 | []=>some []
 | .str x::r=>(zsN r).map (x::·)
 | _::_=>none
def zwh:D->List D->Option D
 | .str sep,[.lst l]=>(zsN l).bind fun ys=>if (ys.map (·.length)).sum+ys.length*sep.length<=16777216 then some (.str (Txt.join sep ys)) else none
 | _,_=>none
def zsA:List D->Option (List Bool)
 | []=>some []
 | .bl x::r=>(zsA r).map (x::·)
 | _::_=>none
theorem zoL {K:PySem.W.Frag} {G:Hp}:∀ {vs:List V} {ds:List D} {ys:List Bool},Reps Γ K G vs ds->zsA ds=some ys->vs=ys.map V.bl
 | _,[],ys,r,h=>by cases r;cases h;rfl
 | _,d::ds,ys,.cons h1 h2,h=>by
  cases d with
  | bl x =>
   obtain ⟨zs,hz,rfl⟩:=oMd (show (zsA ds).map (x::·)=some ys from h)
   rw [h1.bl_inv,zoL h2 hz];rfl
  | _=>cases h
def zjJ:List D->Option D
 | [.lst l]=>(zsA l).map fun bs=>D.bl (bs.all id)
 | _=>none
theorem zmW:∀ {bs:List Bool} {us:List Value},zcb (bs.map V.bl) us->us=bs.map Value.bool
 | [],_,r=>by rw [qJ] at r;cases r;rfl
 | y::ys,_,r=>by
  rw [ql] at r
  cases r with
  | cons r1 r2=>cases r1;rw [zmW r2];rfl
theorem zoO (bs:List Bool):(List.range bs.length).all (fun i=>bs.getD i false)=bs.all id:=by
 rw [Bool.eq_iff_iff,List.all_eq_true,List.all_eq_true]
 constructor
 ·intro h x hx
  obtain ⟨i,hi,e⟩:=List.mem_iff_getElem.mp hx
  have:=h i (List.mem_range.mpr hi)
  simp [List.getD,hi] at this
  rw [← e];exact this
 ·intro h i hi
  have hi':=List.mem_range.mp hi
  have:=h (bs[i]) (List.getElem_mem hi')
  simp [List.getD,hi']
  exact this
theorem zo0 {prog:Program} {w:World} {A:Around} {bs:List Bool}:TruthOf prog w A (fun i v=>(bs.map Value.bool).toArray[i]?=some v) (fun i=>bs.getD i false):=fun i v s Q E hP hQ=>by
 have hP':(bs.map Value.bool)[i]?=some v:=by simpa using hP
 rw [qj] at hP'
 obtain ⟨b,hb,rfl⟩:=oMd hP'
 have:bs.getD i false=b:=by simp [List.getD,hb]
 have hQ':Q (bs.getD i false) s:=hQ
 rw [this] at hQ'
 exact wpAny_truthy_bool hQ'
theorem zd6 (hc:X.calm=true):BltD Γ X "all" zjJ:=by
 refine ⟨fun vs H Q=>∃ (a:Addr) (bs:List Bool),vs=[.ref a]/\H a=some (.lst (bs.map V.bl))/\Q (.bl (bs.all id)) H,?_,?_⟩
 ·intro pins s σ H xs us Q I r h
  obtain ⟨a,bs,rfl,ha,q⟩:=h
  obtain ⟨u,rfl,ru⟩:=zjM r
  cases ru
  obtain ⟨its,rv,pl,_⟩:=I.list (.inl (.inl ha))
  have e:=zmW rv
  subst e
  refine call_all_walk (wpAny_pyIter_list pl.isList ?_)
  have ne:a≠s.heap.objs.size:=by obtain ⟨o,_,h1,_⟩:=pl;exact qz (qr h1)
  refine ⟨s.heap.objs.size,_,_,_,_,_,fun i=>bs.getD i false,rfl,Walks.list (A:=X.A.in1) (show X.A.in1.handled=none from I.ok.hd hc) s.heap.objs.size a ne (bs.map Value.bool).toArray,⟨⟨_,qC _ rfl,rfl,rfl⟩,pl.isList.at fun o q=>qq _ q⟩,zo0,fun h' tk hk=>?_⟩
  have e2:(bs.map Value.bool).toArray.size=bs.length:=by simp
  rw [e2,zoO]
  refine ⟨.bl _,H,I.kept fun b o z=>hk b o ?_ (qq _ z),rfl,q⟩
  intro z'
  have:b=s.heap.objs.size:=by simpa using z'
  exact absurd (qr z) (by rw [this];exact Nat.lt_irrefl _)
 ·intro G H vs ds z gh r h Q k
  unfold zjJ at h
  split at h
  ·obtain ⟨bs,hb,rfl⟩:=oMd h
   obtain ⟨v,rfl,r1⟩:=r.one
   obtain ⟨a,ws,rfl,ha,rw'⟩:=r1.lst_inv
   refine ⟨a,bs,rfl,?_,k _ G H (.refl gh) (.bl _)⟩
   rw [← zoL rw' hb]
   exact gh _ _ ha
  ·cases h
end
end L2
end
section
namespace L2
open PySem PySem.Spec PyProof.Rows
structure Yd (Γ:Cn) (K:PySem.W.Frag) (J:It) (G:Hp) (ds:List D):Prop where
 go:∀ (i:Nat) d G2 H2,ds[i]?=some d->zcd G G2->zcd G2 H2->J.go i H2/\∀ x H3,J.yld i H2 x H3->∃ G3,Step G2 H2 G3 H3/\Rep Γ K G3 x d
 stop:∀ G2 H2,zcd G G2->zcd G2 H2->J.stop ds.length H2
def TDi (Γ:Cn) (K:PySem.W.Frag) (f:FA):TI:=fun σ H R=>∃ G₀ H₀ G ρ ds,At Γ K G₀ H₀ G H ρ σ/\f ρ=some ds/\∀ J G' H',Step G H G' H'->Yd Γ K J G' ds->R J H'
structure DI (Γ:Cn) (X:Cx) (tg e:Expr) (f:FA):Prop where
 out:PI X tg e (TDi Γ X.K f)
theorem PI.imp {X:Cx} {tg e:Expr} {t t':TI} (h:PI X tg e t) (i:∀ σ H R,t' σ H R->t σ H R):PI X tg e t':=fun pins s σ H R I q=>h pins s σ H R I (i _ _ _ q)
section
variable {Γ:Cn} {X:Cx} {a b c e tg iter:Expr} {es:List Expr} {fa fb fc f:FE} {fr fi:FA} {pos p2 p:Pos}
theorem zsC {K:PySem.W.Frag} {G:Hp} {a:Addr} {vs:List V} {ds:List D} (h:G a=some (.tup vs)) (r:Reps Γ K G vs ds):Yd Γ K (Itt K a) G ds:=by
 refine ⟨fun i d G2 H2 hd g1 g2=>?_,fun G2 H2 g1 g2=>⟨vs,.inl (.inl (g2 _ _ (g1 _ _ h))),by rw [r.length];exact qt _⟩⟩
 obtain ⟨v,hv,rv⟩:=r.get hd
 refine ⟨⟨vs,v,.inl (.inl (g2 _ _ (g1 _ _ h))),hv⟩,fun x H3 ⟨e1,e2⟩=>?_⟩
 subst e1
 have:=e2 vs (.inl (.inl (g2 _ _ (g1 _ _ h))))
 rw [hv] at this
 cases this
 exact ⟨G2,.refl g2,rv.mono g1⟩
def zkb:D->Option (List D)
 | .lst l=>some l
 | .tup l=>some l
 | .scr l=>some (l.map D.int)
 | _=>none
def itF (f:FE):FA:=fun ρ=>(f ρ).bind zkb
theorem zqr {l:Expr} {tl:TE} (hl:PE X l tl):PI X tg l (fun σ H R=>tl σ H fun x H1=>(∃ a,x=.ref a/\(∃ xs,SqL X.K H1 a xs)/\R (Itl X.K a) H1)\/(∃ a,x=.ref a/\(∃ xs,SqT X.K H1 a xs)/\R (Itt X.K a) H1)):=by
 intro pins s σ H R I h
 refine thn (hl pins s σ H _ I h) fun v s1 ⟨x,H1,I1,r1,q1⟩=>?_
 rcases q1 with ⟨a,e,⟨xs,hq⟩,q⟩ | ⟨a,e,⟨xs,hq⟩,q⟩
 ·subst e
  cases r1
  obtain ⟨its,rv,p,hz⟩:=I1.list hq
  refine wpAny_pyIter_list p.isList ?_
  refine ⟨s1.heap.objs.size,[s1.heap.objs.size],_,_,H1,rfl,I1.kept (t':=s1.toks) fun b o e=>qq _ e,zmY a _,⟨_,qC _ rfl,rfl,rfl⟩,fun b hb=>?_,q⟩
  have e:b=s1.heap.objs.size:=by simpa using hb
  subst e
  exact I1.fpOk (qt _) (I1.hok.fresh (qt _))
 ·subst e
  cases r1
  obtain ⟨its,rv,p,hz⟩:=I1.tuple hq
  refine wpAny_pyIter_tuple (show s1.heap.IsTuple a its.toArray from p) ?_
  refine ⟨s1.heap.objs.size,[s1.heap.objs.size],_,_,H1,rfl,I1.kept (t':=s1.toks) fun b o e=>qq _ e,zmg a _,⟨_,qC _ rfl,rfl,rfl⟩,fun b hb=>?_,q⟩
  have e:b=s1.heap.objs.size:=by simpa using hb
  subst e
  exact I1.fpOk (qt _) (I1.hok.fresh (qt _))
theorem zbb (h:DE Γ X iter f):DI Γ X tg iter (itF f):=⟨(zqr h.1).imp fun σ H R=>by
 rintro ⟨G₀,H₀,G,ρ,ds,A,h,k⟩
 unfold itF at h
 obtain ⟨d,hd,h⟩:=oBd h
 refine ⟨G₀,H₀,G,ρ,d,A,hd,fun v G' H' s r=>?_⟩
 unfold zkb at h
 split at h
 ·cases h
  obtain ⟨a,vs,rfl,ha,rv⟩:=r.lst_inv
  refine .inl ⟨a,rfl,⟨vs,.inl (.inl (s.gh _ _ ha))⟩,k _ G' H' s ?_⟩
  refine ⟨fun i d G2 H2 hd g1 g2=>?_,fun G2 H2 g1 g2=>⟨vs,.inl (.inl (g2 _ _ (g1 _ _ ha))),by rw [rv.length];exact qt _⟩⟩
  obtain ⟨v,hv,rv'⟩:=rv.get hd
  refine ⟨⟨vs,v,.inl (.inl (g2 _ _ (g1 _ _ ha))),hv⟩,fun x H3 ⟨e1,e2⟩=>?_⟩
  subst e1
  have:=e2 vs (.inl (.inl (g2 _ _ (g1 _ _ ha))))
  rw [hv] at this
  cases this
  exact ⟨G2,.refl g2,rv'.mono g1⟩
 ·cases h
  obtain ⟨a,vs,rfl,ha,rv⟩:=r.tup_inv
  exact .inr ⟨a,rfl,⟨vs,.inl (.inl (s.gh _ _ ha))⟩,k _ G' H' s (zsC ha rv)⟩
 ·rename_i l
  cases h
  obtain ⟨a,rfl,ha⟩:=r.scr_inv
  refine .inl ⟨a,rfl,⟨_,s.gh.seq ha⟩,k _ G' H' s ?_⟩
  refine ⟨fun i d G2 H2 hd g1 g2=>?_,fun G2 H2 g1 g2=>⟨_,g2.seq (g1.seq ha),by simp⟩⟩
  rw [qj] at hd
  obtain ⟨n,hn,rfl⟩:=oMd hd
  have hv:(List.map V.int l)[i]?=some (V.int n):=by rw [qj,hn];rfl
  refine ⟨⟨_,_,g2.seq (g1.seq ha),hv⟩,fun x H3 ⟨e1,e2⟩=>?_⟩
  subst e1
  have:=e2 _ (g2.seq (g1.seq ha))
  rw [hv] at this
  cases this
  exact ⟨G2,.refl g2,.int _⟩
 ·cases h⟩
def znf:D->Option (List D)
 | .str x=>some (x.cps.toList.map fun c=>D.str ⟨#[c]⟩)
 | _=>none
def itS (f:FE):FA:=fun ρ=>(f ρ).bind znf
theorem zue {n:Str} {q:Pos} (h:DE Γ X iter f):DI Γ X (.Name n q) iter (itS f):=⟨(zti h.1).imp fun σ H R=>by
 rintro ⟨G₀,H₀,G,ρ,ds,A,h,k⟩
 unfold itS at h
 obtain ⟨d,hd,h⟩:=oBd h
 refine ⟨G₀,H₀,G,ρ,d,A,hd,fun v G' H' s r=>?_⟩
 unfold znf at h
 split at h <;> cases h
 cases r.str_inv
 rename_i x
 refine ⟨x,rfl,k _ G' H' s ⟨fun i d G2 H2 hd g1 g2=>?_,fun G2 H2 g1 g2=>?_⟩⟩
 ·rw [qj] at hd
  obtain ⟨c,hc,rfl⟩:=oMd hd
  have hc':x.cps[i]?=some c:=by simpa using hc
  refine ⟨(Array.getElem?_eq_some_iff.mp hc').1,fun y H3 ⟨e1,c2,h2,e2⟩=>?_⟩
  subst e1
  subst e2
  rw [hc'] at h2
  cases h2
  exact ⟨G2,.refl g2,.str _⟩
 ·show _=x.cps.size
  simp⟩
theorem ziU {K:PySem.W.Frag} {G:Hp} {lo:Int} {n:Nat}:Yd Γ K (Itr lo n) G ((List.range n).map fun i:Nat=>D.int (lo+i)):=by
 refine ⟨fun i d G2 H2 hd g1 g2=>?_,fun G2 H2 g1 g2=>?_⟩
 ·rw [qj] at hd
  obtain ⟨j,hj,rfl⟩:=oMd hd
  have hi:i < n:=by
   have:=(List.getElem?_eq_some_iff.mp hj).1
   simpa using this
  have e:j=i:=by simpa [hi] using hj.symm
  subst e
  refine ⟨hi,fun x H3 ⟨e1,e2⟩=>?_⟩
  subst e1
  subst e2
  exact ⟨G2,.refl g2,.int _⟩
 ·show n<=_
  simp
def zkT:List D->Option (List D)
 | [.int j]=>if -(2 ^ 62)<=j/\j < 2 ^ 62 then some ((List.range j.toNat).map fun i:Nat=>D.int (0+i)) else none
 | _=>none
def zrb:List D->Option (List D)
 | [.int i,.int j]=>if -(2 ^ 62)<=i/\i < 2 ^ 62 /\ -(2 ^ 62)<=j/\j < 2 ^ 62 then some ((List.range (j - i).toNat).map fun k:Nat=>D.int (i+k)) else none
 | _=>none
def itR (g:List D->Option (List D)) (fr:FA):FA:=fun ρ=>(fr ρ).bind g
theorem zot (hg:Gl X "range") (hm:X.mg "range"=none) (h:DA Γ X [a] fr) (hs:starEach [a] X.env=[(false,eval a X.env)]:=by rfl):DI Γ X tg (.Call (.Name "range" p) [a] [] pos) (itR zkT fr):=⟨(zj1 hg hm h.1 hs).imp fun σ H R=>by
 rintro ⟨G₀,H₀,G,ρ,ds,A,h,k⟩
 unfold itR at h
 obtain ⟨d,hd,h⟩:=oBd h
 refine ⟨G₀,H₀,G,ρ,d,A,hd,fun v G' H' s r=>?_⟩
 unfold zkT at h
 split at h
 ·split at h
  ·rename_i hz
   cases h
   obtain ⟨v,rfl,r1⟩:=r.one
   cases r1.int_inv
   exact ⟨_,rfl,hz.1,hz.2,k _ G' H' s ziU⟩
  ·cases h
 ·cases h⟩
theorem zos (hg:Gl X "range") (hm:X.mg "range"=none) (h:DA Γ X [a,b] fr) (hs:starEach [a,b] X.env=[(false,eval a X.env),(false,eval b X.env)]:=by rfl) (hs2:starEach [b] X.env=[(false,eval b X.env)]:=by rfl):DI Γ X tg (.Call (.Name "range" p) [a,b] [] pos) (itR zrb fr):=⟨(znD hg hm h.1 hs hs2).imp fun σ H R=>by
 rintro ⟨G₀,H₀,G,ρ,ds,A,h,k⟩
 unfold itR at h
 obtain ⟨d,hd,h⟩:=oBd h
 refine ⟨G₀,H₀,G,ρ,d,A,hd,fun v G' H' s r=>?_⟩
 unfold zrb at h
 split at h
 ·split at h
  ·rename_i hz
   cases h
   obtain ⟨v,u,rfl,r1,r2⟩:=r.two
   cases r1.int_inv
   cases r2.int_inv
   exact ⟨_,_,rfl,hz,k _ G' H' s ziU⟩
  ·cases h
 ·cases h⟩
abbrev FG:=D->za1->Option za1
abbrev FGs:=List D->za1->Option za1
def TDg (Γ:Cn) (K:PySem.W.Frag) (g:FG):TG:=fun v σ H Q=>∃ G₀ H₀ G ρ d ρ',At Γ K G₀ H₀ G H ρ σ/\Rep Γ K G v d/\g d ρ=some ρ'/\∀ σ',At Γ K G₀ H₀ G H ρ' σ'->Q σ' H
def zwp (Γ:Cn) (K:PySem.W.Frag) (g:FGs):TGs:=fun vs σ H Q=>∃ G₀ H₀ G ρ ds ρ',At Γ K G₀ H₀ G H ρ σ/\Reps Γ K G vs ds/\g ds ρ=some ρ'/\∀ σ',At Γ K G₀ H₀ G H ρ' σ'->Q σ' H
structure DG (Γ:Cn) (X:Cx) (tg:Expr) (g:FG):Prop where
 pg:PG X tg (TDg Γ X.K g)
 no:∀ d ρ ρ',g d ρ=some ρ'->zgH ρ->zgH ρ'
structure DGs (Γ:Cn) (X:Cx) (ts:List Expr) (g:FGs):Prop where
 pg:PGs X ts (zwp Γ X.K g)
 no:∀ d ρ ρ',g d ρ=some ρ'->zgH ρ->zgH ρ'
theorem PG.imp {t t':TG} (h:PG X tg t) (i:∀ v σ H Q,t' v σ H Q->t v σ H Q):PG X tg t':=fun pins s σ H v u Q I r q=>h pins s σ H v u Q I r (i _ _ _ _ q)
theorem PGs.imp {ts:List Expr} {t t':TGs} (h:PGs X ts t) (i:∀ v σ H Q,t' v σ H Q->t v σ H Q):PGs X ts t':=fun pins s σ H v u Q I r q=>h pins s σ H v u Q I r (i _ _ _ _ q)
def zbt (i:Nat):FG:=fun d ρ=>some (ρ.set i (some (.sh d)))
theorem znR {ρ:za1} {i:Nat} {d:D} (h:zgH ρ):zgH (ρ.set i (some (.sh d))):=fun j ds e=>by
 by_cases hj:j=i
 ·subst hj
  rw [List.getElem?_set,qR rfl] at e
  split at e <;> cases e
  exact ⟨_,rfl⟩
 ·rw [qv (Ne.symm hj)] at e
  exact h j ds e
theorem zaI (i:Nat) {x:Str} (hN:X.N.Nodup) (hi:X.N[i]?=some x:=by rfl) (hx:Loc X.env.scope x:=by first | exact Or.inl rfl | exact Or.inr rfl) (hf:X.fn x=true\/X.env.scope.names.lookup x=some .local:=by first | exact .inl rfl | exact .inr rfl | assumption):DG Γ X (.Name x pos) (zbt i):=by
 refine ⟨(zrp hN hi hx hf).imp fun v σ H Q=>?_,fun d ρ ρ' e h=>?_⟩
 ·rintro ⟨G₀,H₀,G,ρ,d,ρ',A,r,h,k⟩
  cases h
  exact k _ (A.setSh r)
 ·cases e
  exact znR h
def zij:FGs:=fun ds ρ=>match ds with
 | []=>some ρ
 | _=>none
def zdA (g:FG) (gs:FGs):FGs:=fun ds ρ=>match ds with
 | d::r=>(g d ρ).bind fun ρ'=>gs r ρ'
 | _=>none
theorem zlb:DGs Γ X [] zij:=by
 refine ⟨zro.imp fun vs σ H Q=>?_,fun d ρ ρ' e h=>?_⟩
 ·rintro ⟨G₀,H₀,G,ρ,ds,ρ',A,r,h,k⟩
  unfold zij at h
  split at h <;> cases h
  cases r
  exact ⟨rfl,k σ A⟩
 ·unfold zij at e
  split at e <;> cases e
  exact h
theorem zeY {ts:List Expr} {g:FG} {gs:FGs} (h1:DG Γ X e g) (h2:DGs Γ X ts gs) (hs:(assignEach (e::ts) X.env).map (·.2)=assign e X.env::(assignEach ts X.env).map (·.2):=by rfl):DGs Γ X (e::ts) (zdA g gs):=by
 refine ⟨(zpo h1.pg h2.pg hs).imp fun vs σ H Q=>?_,fun ds ρ ρ' e h=>?_⟩
 ·rintro ⟨G₀,H₀,G,ρ,ds,ρ',A,r,h,k⟩
  unfold zdA at h
  split at h
  ·obtain ⟨ρ1,h1,h⟩:=oBd h
   cases r with
   | cons r1 r2=>exact ⟨_,_,rfl,G₀,H₀,G,ρ,_,ρ1,A,r1,h1,fun σ1 A1=>⟨G₀,H₀,G,ρ1,_,ρ',A1,r2,h,k⟩⟩
  ·cases h
 ·unfold zdA at e
  split at e
  ·obtain ⟨ρ1,e1,e⟩:=oBd e
   exact h2.no _ _ _ e (h1.no _ _ _ e1 h)
  ·cases e
def zik (n:Nat) (gs:FGs):FG:=fun d ρ=>match d with
 | .tup ds=>if ds.length=n then gs ds ρ else none
 | _=>none
theorem zou {ts:List Expr} {k:Nat} {gs:FGs} {n:Nat} (hc:X.calm=true) (h:DGs Γ X ts gs) (hn:(assignEach ts X.env).length=n:=by rfl) (hst:(assignEach ts X.env).findIdx? (·.1)=none:=by rfl):DG Γ X (.Tuple ts k pos) (zik n gs):=by
 refine ⟨(ztj hc h.pg hn hst).imp fun v σ H Q=>?_,fun ds ρ ρ' e q=>?_⟩
 ·rintro ⟨G₀,H₀,G,ρ,d,ρ',A,r,h,k⟩
  unfold zik at h
  split at h
  ·split at h
   ·rename_i hl
    obtain ⟨a,vs,rfl,ha,rv⟩:=r.tup_inv
    exact ⟨a,vs,rfl,.inl (.inl (A.gh _ _ ha)),by rw [rv.length];exact hl,G₀,H₀,G,ρ,_,ρ',A,rv,h,k⟩
   ·cases h
  ·cases h
 ·unfold zik at e
  split at e
  ·split at e
   ·exact h.no _ _ _ e q
   ·cases e
  ·cases e
def zle (g:FG) (ft:FT) (fe:FE):List D->za1->Option (List D)
 | [],_=>some []
 | x::xs,ρ=>(g x ρ).bind fun ρ1=>(ft ρ1).bind fun b=>if b=true then (fe ρ1).bind fun d=>(zle g ft fe xs ρ1).map (d::·) else zle g ft fe xs ρ1
def zha (fv:List (Option Nat)) (ρ:za1):za1:=fv.map fun o=>o.bind fun j=>match ρ[j]? with
 | some (some (.sh d))=>some (.sh d)
 | _=>none
def zbz (fi:FA) (g:FG) (ft:FT) (fe:FE) (fv:List (Option Nat)):FA:=fun ρ=>(fi ρ).bind fun xs=>if xs.length<=sizeLine then zle g ft fe xs (zha fv ρ) else none
structure DTs (Γ:Cn) (X:Cx) (es:List Expr) (f:FT):Prop where
 out:PTs X es (TDt Γ X.K f)
theorem PTs.imp {t t':TT} (h:PTs X es t) (i:∀ σ H Q,t' σ H Q->t σ H Q):PTs X es t':=fun pins s σ H Q I q=>h pins s σ H Q I (i _ _ _ q)
def tT:FT:=fun _=>some true
theorem za6:DTs Γ X [] tT:=⟨znu.imp fun σ H Q=>by
 rintro ⟨G₀,H₀,G,ρ,b,A,h,k⟩
 cases h
 exact k G H (.refl A.gh)⟩
variable {scope:Scope} {N':List Str} {fv:List (Option Nat)} {g:FG} {ft:FT} {fe:FE} {ifs:List Expr} {elt:Expr}
structure DB (Γ:Cn) (X:Cx) (N':List Str) (scope:Scope) (tg:Expr) (ifs:List Expr) (elt:Expr) (g:FG) (ft:FT) (fe:FE):Prop where
 out:∀ (cl:List (Str×Addr)) (C:Addr) (s₀:Shared) (H₀:Hp) (fp:List Addr),DG Γ (zdh X N' scope cl C s₀ H₀ fp) tg g/\DTs Γ (zdh X N' scope cl C s₀ H₀ fp) ifs ft/\DE Γ (zdh X N' scope cl C s₀ H₀ fp) elt fe
theorem DB.pb (h:DB Γ X N' scope tg ifs elt g ft fe):PB X N' scope tg ifs elt (TDg Γ X.K g) (TDt Γ X.K ft) (TD Γ X.K fe):=fun cl C s₀ H₀ fp=>⟨(h.1 cl C s₀ H₀ fp).1.pg,(h.1 cl C s₀ H₀ fp).2.1.1,(h.1 cl C s₀ H₀ fp).2.2.1⟩
theorem zt3 {K:PySem.W.Frag} {G₀ H₀ G H:Hp} {ρ:za1} {σ:St} (A:At Γ K G₀ H₀ G H ρ σ):At Γ K G H G H (zha fv ρ) (zlY fv σ)/\zgH (zha fv ρ):=by
 have no:zgH (zha fv ρ):=fun i ds e=>by
  unfold zha at e
  rw [qj] at e
  obtain ⟨o,ho,e⟩:=oMd e
  cases o with
  | none=>cases e
  | some j =>
   simp only [qa] at e
   split at e <;> cases e
   exact ⟨_,rfl⟩
 refine ⟨⟨.refl A.gh,.ofSh (by simp [zha,zlY]) no fun i d e=>?_⟩,no⟩
 unfold zha at e
 unfold zlY
 rw [qj] at e ⊢
 obtain ⟨o,ho,e⟩:=oMd e
 rw [ho]
 cases o with
 | none=>cases e
 | some j =>
  simp only [qa] at e
  split at e
  ·rename_i d' hd'
   cases e
   obtain ⟨v,h1,h2⟩:=A.env.sh j d hd'
   exact ⟨v,by simp [h1],h2⟩
  ·cases e
theorem zjo (no:∀ d ρ ρ',g d ρ=some ρ'->zgH ρ->zgH ρ'):∀ σ H Q,TDo Γ X.K (zbz fi g ft fe fv) σ H Q->tLC (TDi Γ X.K fi) (TDg Γ X.K g) (TDt Γ X.K ft) (TD Γ X.K fe) fv σ H Q:=by
 rintro σ H Q ⟨G₀,H₀,G,ρ,ds,A,h,k⟩
 unfold zbz at h
 obtain ⟨xs,hx,h⟩:=oBd h
 split at h
 case isFalse=>cases h
 rename_i hz
 refine ⟨G₀,H₀,G,ρ,xs,A,hx,fun J G1 H1 s1 Y acc hacc=>?_⟩
 have gacc:G1 acc=none:=s1.gh.free hacc
 obtain ⟨A0,no0⟩:=zt3 (fv:=fv) (A.step s1)
 refine ⟨fun i m ys σ' H'=>m=xs.length - i/\i<=xs.length/\ys.length<=i/\∃ G' ρ' done zc2,At Γ X.K G1 H1 G' H' ρ' σ'/\zgH ρ'/\H' acc=some (.lst ys)/\G' acc=none/\Reps Γ X.K G' ys done/\zle g ft fe (xs.drop i) ρ'=some zc2/\done++zc2=ds,?_,?_⟩
 ·refine ⟨xs.length,rfl,Nat.zero_le _,qt _,G1,zha fv ρ,[],ds,?_,no0,zaL,gacc,.nil,by rw [List.drop_zero];exact h,rfl⟩
  have sn:=Step.newOwn (o:=.lst []) s1.gh hacc
  exact ⟨sn,.ofSh A0.env.len no0 A0.env.sh⟩
 ·rintro i m ys σ' H' ⟨hm,hi,hyi,G',ρ',done,zc2,A',no',hacc',gacc',ry,hr,hd⟩
  subst hm
  refine ⟨hacc',?_⟩
  by_cases hlt:i < xs.length
  ·right
   have hxi:xs[i]?=some xs[i]:=by simp [hlt]
   obtain ⟨go,yl⟩:=Y.go i _ G' H' hxi A'.st.gg A'.gh
   refine ⟨go,fun x H2 hy=>?_⟩
   obtain ⟨G2,s2,r2⟩:=yl x H2 hy
   have A2:=A'.step s2
   have hdr:xs.drop i=xs[i]::xs.drop (i+1):=List.drop_eq_getElem_cons hlt
   rw [hdr] at hr
   unfold zle at hr
   obtain ⟨ρ1,h1,hr⟩:=oBd hr
   obtain ⟨b,h2,hr⟩:=oBd hr
   refine ⟨G1,H1,G2,ρ',_,ρ1,A2,r2,h1,fun σ2 A3=>⟨G1,H1,G2,ρ1,b,A3,h2,fun G4 H4 s4=>?_⟩⟩
   have no1:=no _ _ _ h1 no'
   have hH4:H4 acc=some (.lst ys):=s4.hh _ _ (s2.hh _ _ hacc')
   have hG4:G4 acc=none:=(s4.out _ _ (s2.hh _ _ hacc')).trans ((s2.out _ _ hacc').trans gacc')
   cases b with
   | false =>
    rw [qS qp] at hr
    refine zn9 ⟨xs.length - (i+1),by omega,rfl,hlt,by omega,G4,ρ1,done,zc2,A3.step s4,no1,hH4,hG4,(ry.mono s2.gg).mono s4.gg,hr,hd⟩
   | true =>
    rw [qR rfl] at hr
    obtain ⟨d,h3,hr⟩:=oBd hr
    obtain ⟨zs,h5,rfl⟩:=oMd hr
    refine zn8 ⟨G1,H1,G4,ρ1,d,A3.step s4,h3,fun v G5 H5 s5 r5=>?_⟩
    have A5:=(A3.step s4).step s5
    have hH5:H5 acc=some (.lst ys):=s5.hh _ _ hH4
    have hG5:G5 acc=none:=(s5.out _ _ hH4).trans hG4
    refine ⟨hH5,by omega,xs.length - (i+1),by omega,rfl,hlt,by rw [qi,qP];omega,G5,ρ1,done++[d],zs,?_,no1,zaL,hG5,((((ry.mono s2.gg).mono s4.gg).mono s5.gg).append (.cons r5 .nil)),h5,by rw [List.append_assoc];exact hd⟩
    refine ⟨⟨fun b o e=>?_,A5.st.gg,fun b o e=>?_,A5.st.out⟩,.ofSh A5.env.len no1 A5.env.sh⟩
    ·rw [zaF (zaC e hacc)];exact A5.st.hh b o e
    ·rw [zaF (zaC e hG5)];exact A5.st.gh b o e
  ·left
   have e:i=xs.length:=by omega
   subst e
   rw [List.drop_length] at hr
   cases hr
   rw [List.append_nil] at hd
   subst hd
   refine ⟨Y.stop G' H' A'.st.gg A'.gh,?_⟩
   have hf:H'=upd (fun b=>if b=acc then none else H' b) acc (.lst ys):=by
    funext b
    by_cases hb:b=acc
    ·subst hb;rw [zaL];exact hacc'
    ·rw [zaF hb,qS hb]
   rw [hf]
   refine k acc ys G' (fun b=>if b=acc then none else H' b) (s1.trans ⟨fun b o e=>?_,A'.st.gg,fun b o e=>?_,A'.st.out⟩) (qR rfl) ry
   ·show (if b=acc then none else H' b)=some o
    rw [qS (zaC e hacc)];exact A'.st.hh b o e
   ·show (if b=acc then none else H' b)=some o
    rw [qS (zaC e gacc')];exact A'.st.gh b o e
theorem zcQ (hc:X.calm=true) (S:CompScope X scope) (F:FvOk X N' scope fv) (hi:DI Γ X tg iter fi) (hb:DB Γ X N' scope tg ifs elt g ft fe) (hs:∀ x,foldedSetIterable iter X.env x=pure x:=by intro _;rfl) :
  DO Γ X (.ListComp elt [⟨tg,iter,ifs,0⟩] scope pos) (zbz fi g ft fe fv):=⟨(ztq hc S F hi.1 hb.pb hs).imp (zjo (hb.1 [] 0 X.s₀ X.H₀ []).1.no)⟩
end
end L2
end
section
namespace L2
open PySem PySem.Spec PyProof.Rows
section
variable {Γ:Cn} {X:Cx} {a b c e tg iter:Expr} {es:List Expr} {fa fb fc f:FE} {fr fi:FA} {pos p2 p:Pos} {g g':FS} {st:Stmt} {sts:List Stmt} {ft:FT}
def zcA:FS:=fun ρ=>some (.nx,ρ)
def zba (g g':FS):FS:=fun ρ=>(g ρ).bind fun r=>match r.1 with
 | .nx=>g' r.2
 | fl=>some (fl,r.2)
theorem zaO:DSs Γ X [] zcA:=⟨znx.imp fun E σ H=>by
 rintro ⟨G₀,H₀,G,ρ,fl,ρ',A,h,k⟩
 cases h
 exact k σ G H (.refl _) A⟩
theorem zau (h:DS Γ X st g):DSs Γ X [st] g:=⟨znw h.1⟩
theorem zat (h1:DS Γ X st g) (h2:DSs Γ X sts g'):DSs Γ X (st::sts) (zba g g'):=⟨(zlF h1.1 h2.1).imp fun E σ H=>by
 rintro ⟨G₀,H₀,G,ρ,fl,ρ',A,h,k⟩
 unfold zba at h
 obtain ⟨⟨fl1,ρ1⟩,h1,h⟩:=oBd h
 refine ⟨G₀,H₀,G,ρ,fl1,ρ1,A,h1,fun σ1 G1 H1 sm A1=>?_⟩
 cases fl1 with
 | nx=>exact ⟨G₀,H₀,G1,ρ1,fl,ρ',A1,h,fun σ' G' H' sm' A'=>k σ' G' H' (sm.trans sm') A'⟩
 | bk=>cases h;exact k σ1 G1 H1 sm A1
 | ct=>cases h;exact k σ1 G1 H1 sm A1
 | rt d=>cases h;exact k σ1 G1 H1 sm A1
 | ow d=>cases h;exact k σ1 G1 H1 sm A1
 | nw d=>cases h;exact k σ1 G1 H1 sm A1
 | od d=>cases h;exact k σ1 G1 H1 sm A1⟩
def zbw (f:FE):FS:=fun ρ=>(f ρ).map fun d=>(.rt d,ρ)
theorem zaD (h:DE Γ X e f):DS Γ X (.Return (some e) pos) (zbw f):=⟨(zny h.1).imp fun E σ H=>by
 rintro ⟨G₀,H₀,G,ρ,fl,ρ',A,h,k⟩
 unfold zbw at h
 obtain ⟨d,hd,h⟩:=oMd h
 cases h
 exact ⟨G₀,H₀,G,ρ,d,A,hd,fun v G' H' s r=>k σ G' H' s.gg (A.step s) v r⟩⟩
def zfQ (i:Nat) (f:FE):FS:=fun ρ=>(f ρ).map fun d=>(.nx,ρ.set i (some (.sh d)))
theorem zdC (i:Nat) {x:Str} {pos':Pos} (hN:X.N.Nodup) (h:DE Γ X e f) (hi:X.N[i]?=some x:=by rfl) (hx:Loc X.env.scope x:=by first | exact Or.inl rfl | exact Or.inr rfl) (hs:swapsWith e (some (.Name x pos')) pos.line X.env=pure false:=by rfl) (hf:X.fn x=true\/X.env.scope.names.lookup x=some .local:=by first | exact .inl rfl | exact .inr rfl | assumption) :
  DS Γ X (.Assign [.Name x pos'] e pos) (zfQ i f):=⟨(zlG hN hi hx h.1 hs hf).imp fun E σ H=>by
 rintro ⟨G₀,H₀,G,ρ,fl,ρ',A,h,k⟩
 unfold zfQ at h
 obtain ⟨d,hd,h⟩:=oMd h
 cases h
 exact ⟨G₀,H₀,G,ρ,d,A,hd,fun v G' H' s r=>k _ G' H' s.gg ((A.step s).setSh r)⟩⟩
def zmr (i:Nat) (f:FA):FS:=fun ρ=>(f ρ).map fun d=>(.nx,ρ.set i (some (.own d)))
theorem ztv {i:Nat}:∀ E σ H,TDs Γ X.K (zmr i fr) E σ H->zp9 (TDo Γ X.K fr) (zkc i) E σ H:=by
 rintro E σ H ⟨G₀,H₀,G,ρ,fl,ρ',A,h,k⟩
 unfold zmr at h
 obtain ⟨d,hd,h⟩:=oMd h
 cases h
 exact ⟨G₀,H₀,G,ρ,d,A,hd,fun p vs G' H' s hp r=>k _ G' _ s.gg ((A.step s).setOwn hp r)⟩
theorem zl2 (i:Nat) {x:Str} {pos':Pos} (hN:X.N.Nodup) (h:DO Γ X e fr) (hi:X.N[i]?=some x:=by rfl) (hx:Loc X.env.scope x:=by first | exact Or.inl rfl | exact Or.inr rfl) (hs:swapsWith e (some (.Name x pos')) pos.line X.env=pure false:=by rfl) (hf:X.fn x=true\/X.env.scope.names.lookup x=some .local:=by first | exact .inl rfl | exact .inr rfl | assumption) :
  DS Γ X (.Assign [.Name x pos'] e pos) (zmr i fr):=⟨(zlG hN hi hx h.1 hs hf).imp ztv⟩
theorem zsV {i:Nat}:∀ E σ H,TDs Γ X.K (zfQ i (zbM fr)) E σ H->zp9 (TDo Γ X.K fr) (zkc i) E σ H:=by
 rintro E σ H ⟨G₀,H₀,G,ρ,fl,ρ',A,h,k⟩
 unfold zfQ zbM at h
 obtain ⟨d,hd,h⟩:=oMd h
 obtain ⟨ds,hd',rfl⟩:=oMd hd
 cases h
 refine ⟨G₀,H₀,G,ρ,ds,A,hd',fun p vs G' H' s hp r=>?_⟩
 have s2:=Step.new (o:=.lst vs) s.gh hp
 exact k _ _ _ (s.gg.trans s2.gg) (((A.step s).step s2).setSh (.lst zaL (r.mono s2.gg)))
variable {scope:Scope} {N':List Str} {fv:List (Option Nat)} {gg:FG} {fe:FE} {ifs:List Expr} {elt:Expr}
theorem zub (i:Nat) {y:Str} {py spos:Pos} (hN:X.N.Nodup) (hc:X.calm=true) (S:CompScope X scope) (F:FvOk X N' scope fv) (hi:DI Γ X tg iter fi) (hb:DB Γ X N' scope tg ifs elt gg ft fe)
  (hy:X.N[i]?=some y:=by rfl) (hyl:X.env.scope.names.lookup y=some .local:=by rfl) (hsw:swapsWith (.ListComp elt [⟨tg,iter,ifs,0⟩] scope pos) (some (.Name y py)) spos.line X.env=pure true:=by rfl) (hs:∀ x,foldedSetIterable iter X.env x=pure x:=by intro _;rfl) :
  DS Γ X (.Assign [.Name y py] (.ListComp elt [⟨tg,iter,ifs,0⟩] scope pos) spos) (zfQ i (zbM (zbz fi gg ft fe fv))):=⟨(zrj hN hy hyl hc S F hi.1 hb.pb hsw hs).imp fun E σ H q=>zjo (hb.1 [] 0 X.s₀ X.H₀ []).1.no σ H _ (zsV E σ H q)⟩
def zst (i:Nat) (f:FE):FS:=fun ρ=>match ρ[i]? with
 | some (some (.own ds))=>(f ρ).bind fun d=>if ds.length < sizeLine then some (.nx,ρ.set i (some (.own (ds++[d])))) else none
 | _=>none
theorem zoo (i:Nat) {x:Str} {vp apos cpos:Pos} (h:DE Γ X e f) (hN:X.N[i]?=some x:=by rfl) (hv:Vis X.env.scope x:=by first | exact Or.inl rfl | exact Or.inr (Or.inl rfl) | exact Or.inr (Or.inr rfl)) (hd:(x==("__debug__":Str))=false:=by decide)
  (hcd:(x==("__classdict__":Str))=false:=by decide)
  (hbase:attributeBase (.Name x vp) "append" X.env (eval (.Name x vp) X.env)=eval (.Name x vp) X.env:=by rfl)
  (hfew:((backTo cpos (starEach [e] X.env)).all (fun x=>!x.1) && (backToKw cpos (keywordEach [] X.env)).all (fun x=>x.1.isSome)
   && decide ([e].length+([]:List Keyword).length+(if ([]:List Keyword).isEmpty then 0 else 1) < 30))=true:=by rfl)
  (hline:(apos.endLine==cpos.line)=true:=by rfl) (hs:starEach [e] X.env=(false,eval e X.env)::starEach [] X.env:=by rfl) (hplain:(backTo cpos (starEach [] X.env)).any (·.1)=false:=by rfl)
  (hsw:swapsWith (.Call (.Attribute (.Name x vp) "append" apos) [e] [] cpos) none pos.line X.env=pure false:=by rfl) :
  DS Γ X (.Expr (.Call (.Attribute (.Name x vp) "append" apos) [e] [] cpos) pos) (zst i f):=⟨(zkV (zrs PySem.F.plainAttrs_list PySem.F.slot_list_append PySem.F.type_list_append zhD (zen hN hv hd hcd) (zeH h.1 ziJ hs) hbase hfew hline hs hplain) hsw).imp fun E σ H=>by
  rintro ⟨G₀,H₀,G,ρ,fl,ρ',A,h,k⟩
  unfold zst at h
  split at h
  ·rename_i ds hi
   obtain ⟨d,hd,h⟩:=oBd h
   split at h
   ·rename_i hz
    cases h
    obtain ⟨a,vs,h1,h2,h3,h4,h5⟩:=A.env.own i ds hi
    refine ⟨.ref a,h1,.inl ⟨rfl,vs,.inl (.inl h4)⟩,G₀,H₀,G,ρ,d,A,hd,fun v G1 H1 s1 r1=>?_⟩
    have A1:=A.step s1
    refine ⟨a,vs,v,rfl,rfl,s1.hh _ _ h4,by rw [h5.length];exact hz,?_⟩
    exact k σ G1 _ s1.gg (A1.chOwn hi h1 ((h5.mono s1.gg).append (.cons r1 .nil)))
   ·cases h
  ·cases h⟩
def zoS (i:Nat) (g:FS):FS:=fun ρ=>match ρ[i]? with
 | some (some (.own ds))=>g (ρ.set i (some (.sh (.lst ds))))
 | _=>none
theorem TDs.frz (i:Nat):∀ E σ H,TDs Γ X.K (zoS i g) E σ H->TDs Γ X.K g E σ H:=by
 rintro E σ H ⟨G₀,H₀,G,ρ,fl,ρ',A,h,k⟩
 unfold zoS at h
 split at h
 ·rename_i ds hi
  obtain ⟨G',sm,A'⟩:=A.freeze hi
  exact ⟨G₀,H₀,G',_,fl,ρ',A',h,fun σ1 G1 H1 sm1 A1=>k σ1 G1 H1 (sm.trans sm1) A1⟩
 ·cases h
theorem zk9 (i:Nat) (h:DSs Γ X sts g):DSs Γ X sts (zoS i g):=⟨h.1.imp (TDs.frz i)⟩
def sIf (ft:FT) (g g':FS):FS:=fun ρ=>(ft ρ).bind fun c=>if c=true then g ρ else g' ρ
theorem zbB {sa sb:List Stmt} (hc:DT Γ X c ft) (ha:DSs Γ X sa g) (hb:DSs Γ X sb g'):DS Γ X (.If c sa sb pos) (sIf ft g g'):=⟨(ztf hc.1 ha.1 hb.1).imp fun E σ H=>by
 rintro ⟨G₀,H₀,G,ρ,fl,ρ',A,h,k⟩
 unfold sIf at h
 obtain ⟨x,hx,h⟩:=oBd h
 refine ⟨G₀,H₀,G,ρ,x,A,hx,fun G1 H1 s1=>?_⟩
 cases x with
 | true=>exact zn8 ⟨G₀,H₀,G1,ρ,fl,ρ',A.step s1,by simpa using h,fun σ2 G2 H2 sm2 A2=>k σ2 G2 H2 (s1.gg.trans sm2) A2⟩
 | false=>exact zn9 ⟨G₀,H₀,G1,ρ,fl,ρ',A.step s1,by simpa using h,fun σ2 G2 H2 sm2 A2=>k σ2 G2 H2 (s1.gg.trans sm2) A2⟩⟩
def zoi (gg:FG) (body:FS):List D->FS
 | [],ρ=>some (.nx,ρ)
 | x::xs,ρ=>(gg x ρ).bind fun ρ1=>(body ρ1).bind fun r=>match r.1 with
  | .nx=>zoi gg body xs r.2
  | .ct=>zoi gg body xs r.2
  | .bk=>some (.nx,r.2)
  | .rt d=>some (.rt d,r.2)
  | .ow d=>some (.ow d,r.2)
  | .nw d=>some (.nw d,r.2)
  | .od d=>some (.od d,r.2)
def zig (fi:FA) (gg:FG) (body:FS):FS:=fun ρ=>(fi ρ).bind fun xs=>zoi gg body xs ρ
theorem ziN {body:List Stmt} (hp:PassesOwn (model X.prog X.w) X.A X.env X.xe) (hc:X.calm=true) (hi:DI Γ X tg iter fi) (hg:DG Γ X tg gg) (hb:DSs Γ X body g) (hs:∀ x,foldedSetIterable iter X.env x=pure x:=by intro _;rfl) :
  DS Γ X (.For tg iter body [] pos) (zig fi gg g):=⟨(zqn hp hc hi.1 hg.pg hb.1 hs).imp fun E σ H=>by
 rintro ⟨G₀,H₀,G,ρ,fl,ρ',A,h,k⟩
 unfold zig at h
 obtain ⟨xs,hx,h⟩:=oBd h
 refine ⟨G₀,H₀,G,ρ,xs,A,hx,fun J G1 H1 s1 Y=>?_⟩
 refine ⟨fun i m σ' H'=>m=xs.length - i/\i<=xs.length/\∃ G' ρ1,zcd G1 G'/\At Γ X.K G₀ H₀ G' H' ρ1 σ'/\zoi gg g (xs.drop i) ρ1=some (fl,ρ'),⟨xs.length,rfl,Nat.zero_le _,G1,ρ,.refl _,A.step s1,by rw [List.drop_zero];exact h⟩,?_⟩
 rintro i m σ' H' ⟨rfl,hi,G',ρ1,sm,A',hr⟩
 by_cases hlt:i < xs.length
 ·right
  have hxi:xs[i]?=some xs[i]:=by simp [hlt]
  obtain ⟨go,yl⟩:=Y.go i _ G' H' hxi sm A'.gh
  have hdr:xs.drop i=xs[i]::xs.drop (i+1):=List.drop_eq_getElem_cons hlt
  rw [hdr] at hr
  unfold zoi at hr
  obtain ⟨ρ2,h2,hr⟩:=oBd hr
  obtain ⟨⟨fl3,ρ3⟩,h3,hr⟩:=oBd hr
  refine ⟨go,fun σ3 H3=>(fl3=.nx\/fl3=.ct)/\∃ G3,zcd G1 G3/\At Γ X.K G₀ H₀ G3 H3 ρ3 σ3,fun σ3 H3 ⟨hfl,G3,sm3,A3⟩=>?_,fun x H2 hy=>?_⟩
  ·refine ⟨xs.length - (i+1),by omega,rfl,hlt,G3,ρ3,sm3,A3,?_⟩
   rcases hfl with e | e <;> subst e <;> exact hr
  ·obtain ⟨G2,s2,r2⟩:=yl x H2 hy
   refine ⟨G₀,H₀,G2,ρ1,_,ρ2,A'.step s2,r2,h2,fun σ2 A2=>⟨G₀,H₀,G2,ρ2,fl3,ρ3,A2,h3,fun σ3 G3 H3 sm3 A3=>?_⟩⟩
   have smm:zcd G1 G3:=(sm.trans s2.gg).trans sm3
   cases fl3 with
   | nx=>exact ⟨.inl rfl,G3,smm,A3⟩
   | ct=>exact ⟨.inr rfl,G3,smm,A3⟩
   | bk=>cases hr;exact k σ3 G3 H3 (s1.gg.trans smm) A3
   | rt d=>cases hr;exact k σ3 G3 H3 (s1.gg.trans smm) A3
   | ow d=>cases hr;exact k σ3 G3 H3 (s1.gg.trans smm) A3
   | nw d=>cases hr;exact k σ3 G3 H3 (s1.gg.trans smm) A3
   | od d=>cases hr;exact k σ3 G3 H3 (s1.gg.trans smm) A3
 ·left
  have e:i=xs.length:=by omega
  subst e
  rw [List.drop_length] at hr
  cases hr
  exact ⟨Y.stop G' H' sm A'.gh,k σ' G' H' (s1.gg.trans sm) A'⟩⟩
end
end L2
end
section
namespace L2
open PySem PySem.Spec PyProof.Rows
section
variable {Γ:Cn} {X:Cx} {a b c e tg iter:Expr} {es:List Expr} {fa fb fc f fk fw:FE} {fr fi:FA} {pos p2 p:Pos}
def spF (Γ:Cn) (K:PySem.W.Frag) (n:Nat) (F:List D->Option D):Sp:=fun vs H Q _=>∃ G ds d,zcd G H/\Reps Γ K G vs ds/\ds.length=n/\F ds=some d/\∀ v G' H',Step G H G' H'->Rep Γ K G' v d->Q v H'
def zcp (n:Nat) (g:FS):List D->Option D:=fun ds=>(g (ds.map (fun d=>some (Slot.sh d))++List.replicate n none)).bind fun r=>match r.1 with
 | .rt d=>some d
 | .nx=>some .non
 | _=>none
theorem zho {K:PySem.W.Frag} {G H:Hp} {vs:List V} {ds:List D} {N:List Str} {m:Nat} (gh:zcd G H) (r:Reps Γ K G vs ds) (hm:m=N.length - vs.length):At Γ K G H G H (ds.map (fun d=>some (Slot.sh d))++List.replicate m none) (zeq N vs):=by
 have no:zgH (ds.map (fun d=>some (Slot.sh d))++List.replicate m none):=fun i es e=>by
  by_cases hi:i < ds.length
  ·rw [qw (by simpa using hi),qj] at e
   obtain ⟨d,_,e⟩:=oMd e
   cases e
   exact ⟨_,rfl⟩
  ·rw [List.getElem?_append_right (by simpa using hi),List.getElem?_replicate] at e
   split at e <;> cases e
 refine ⟨.refl gh,.ofSh (by simp [zeq,r.length,hm]) no fun i d e=>?_⟩
 by_cases hi:i < ds.length
 ·rw [qw (by simpa using hi),qj] at e
  obtain ⟨d',hd,e⟩:=oMd e
  cases e
  obtain ⟨v,hv,rv⟩:=r.get hd
  refine ⟨v,?_,rv⟩
  unfold zeq
  rw [qw (by rw [qe,r.length];exact hi),qj,hv]
  rfl
 ·rw [List.getElem?_append_right (by simpa using hi),List.getElem?_replicate] at e
  split at e <;> cases e
theorem Fun.okD {P:Program} {w:World} {K:PySem.W.Frag} {mg:Str->Option Value} {base:Heap} {x qual:Str} {st:Stmt} {f:Addr} {fd:FuncData} {N ps:List Str} {k:Nat} {g:FS} (F:Fun K x qual st f fd) (S:FnScope N ps (zao st))
  (hbody:∀ (cdv:Value) (A:Around) (outer:List Env) (s:Shared) (H:Hp) (E:XK),Room k (A.deeper (envOfC qual (zao st) s.heap.objs.size f cdv)) ->
   DSs Γ (zkI CX0 P w K mg base N qual (zao st) f cdv A outer s H E).nox (zbv st) g):FnOk P w K mg base CX0 (k+1) f fd ps (spF Γ K ps.length (zcp (N.length - ps.length) g)):=by
 refine F.ok S (fun vs H Q E h=>?_) (fun cdv A outer s H vs Q E hr h=>?_)
 ·obtain ⟨G,ds,d,_,r,hl,_⟩:=h
  rw [r.length,hl]
 ·obtain ⟨G,ds,d,gh,r,hl,hd,k⟩:=h
  refine ⟨_,(hbody cdv A outer s H E hr).1,?_⟩
  unfold zcp at hd
  obtain ⟨⟨fl,ρ'⟩,hg,hd⟩:=oBd hd
  refine ⟨G,H,G,_,fl,ρ',zho gh r (by rw [r.length,hl]),hg,fun σ' G' H' sm A'=>?_⟩
  cases fl with
  | rt d'=>cases hd;exact fun v rv=>k v G' H' A'.st rv
  | nx=>cases hd;exact k .non G' H' A'.st .non
  | bk=>cases hd
  | ct=>cases hd
  | ow d=>cases hd
  | nw d=>cases hd
  | od d=>cases hd
theorem zsb {k:Nat} {fx:Addr} {fd:FuncData} {ps:List Str} {n:Nat} {F:List D->Option D} {x:Str} (Fo:FnOk X.prog X.w X.K X.mg X.base CX0 k fx fd ps (spF Γ X.K n F)) (hr:Room k X.A) (hg:Gl X x) (hm:X.mg x=some (.ref fx)) (hk:PySem.W.keepIn X.K (.ref fx)=true) (hb:zdG X.K fd ps [])
  (ha:DA Γ X (e::es) fr) (hn:∀ ρ ds,fr ρ=some ds->ds.length=n) (hdb:(x==("__debug__":Str))=false:=by decide) (he:starEach (e::es) X.env=(false,eval e X.env)::starEach es X.env:=by rfl) (hpl:(backTo pos (starEach es X.env)).any (·.1)=false:=by rfl) :
  DE Γ X (.Call (.Name x p) (e::es) [] pos) (cF F fr):=⟨(zkX Fo hr hg hm hk hb .nil zkZ ha.1 hdb he hpl).imp fun σ H Q=>by
 rintro ⟨G₀,H₀,G,ρ,d,A,h,k⟩
 unfold cF at h
 obtain ⟨ds,hd,h⟩:=oBd h
 refine ⟨G₀,H₀,G,ρ,ds,A,hd,fun vs G1 H1 s1 r1=>?_⟩
 show spF Γ X.K n F (vs++[]) H1 Q E0
 rw [List.append_nil]
 exact ⟨G1,ds,d,s1.gh,r1,hn ρ ds hd,h,fun v G' H' s r=>k v G' H' (s1.trans s) r⟩⟩
theorem zp5 {ρ:za1} {ds:List D} (h:zak ρ=some ds):ds.length=0:=by cases h;rfl
theorem zdE {n:Nat} (hn:∀ ρ ds,fr ρ=some ds->ds.length=n):∀ ρ ds,zac fa fr ρ=some ds->ds.length=n+1:=fun ρ ds h=>by
 unfold zac at h
 obtain ⟨x,hx,h⟩:=oBd h
 obtain ⟨xs,hxs,rfl⟩:=oMd h
 rw [qh,hn ρ xs hxs]
end
end L2
end
section
namespace L2
open PySem PySem.Spec PyProof.Rows
structure Cal (Γ:Cn) (P:Program) (w:World) (K:PySem.W.Frag) (mg:Str->Option Value) (base:Heap) (x:Str) (n k:Nat) (F:List D->Option D):Prop where
 ex:∃ f fd ps,FnOk P w K mg base CX0 k f fd ps (spF Γ K n F)/\mg x=some (.ref f)/\PySem.W.keepIn K (.ref f)=true/\zdG K fd ps []
structure Dfn (K:PySem.W.Frag) (mg:Str->Option Value) (x:Str) (st:Stmt):Prop where
 ex:∃ f fd,Fun K x x st f fd/\mg x=some (.ref f)
section
variable {Γ:Cn} {X:Cx} {e:Expr} {es:List Expr} {fr:FA} {pos p:Pos}
theorem zoD {x:Str} {n k:Nat} {F:List D->Option D} (C:Cal Γ X.prog X.w X.K X.mg X.base x n k F) {j:Nat} (hr:Room j X.A) (hk:k<=j) (hg:Gl X x) (ha:DA Γ X (e::es) fr) (hn:∀ ρ ds,fr ρ=some ds->ds.length=n)
  (hdb:(x==("__debug__":Str))=false:=by decide) (he:starEach (e::es) X.env=(false,eval e X.env)::starEach es X.env:=by rfl) (hpl:(backTo pos (starEach es X.env)).any (·.1)=false:=by rfl) :
  DE Γ X (.Call (.Name x p) (e::es) [] pos) (cF F fr):=by
 obtain ⟨f,fd,ps,h1,h2,h3,h4⟩:=C.ex
 exact zsb h1 (hr.mono hk) hg h2 h3 h4 ha hn hdb he hpl
theorem Dfn.cal {P:Program} {w:World} {K:PySem.W.Frag} {mg:Str->Option Value} {base:Heap} {x:Str} {st:Stmt} {N ps:List Str} {k:Nat} {g:FS} (F:Dfn K mg x st) (S:FnScope N ps (zao st))
  (hb:∀ (kV doc pm:Value) (an:Option Addr) (cdv ct:Value) (us:List Value),us.length=ps.length->bindArgs (PySem.W.fnOf x x (zcJ st) (zbv st) (zao st) .none kV doc pm an cdv ct) ⟨us,[]⟩=pure (ps.zip us))
  (hbody:∀ (f:Addr) (cdv:Value) (A:Around) (outer:List Env) (s:Shared) (H:Hp) (E:XK),Room k (A.deeper (envOfC x (zao st) s.heap.objs.size f cdv)) ->
   DSs Γ (zkI CX0 P w K mg base N x (zao st) f cdv A outer s H E).nox (zbv st) g):Cal Γ P w K mg base x ps.length (k+1) (zcp (N.length - ps.length) g):=by
 obtain ⟨f,fd,h1,h2⟩:=F.ex
 exact ⟨f,fd,ps,h1.okD S (hbody f),h2,h1.kp,h1.binds hb⟩
theorem Dfn.mk' {K:PySem.W.Frag} {h:Heap} {mg:Str->Option Value} {x:Str} {st:Stmt} {f:Addr} {oc:Value} {od an:Option Addr} {osl:Array (Option Value)} {kV doc pm cdv ct:Value} (X:K.In h) (G:h.Ns mainGlobals mg) (a:PySem.W.nsIn K mainGlobals x=some (some (.ref f)))
  (l:K.lookup f=some ⟨oc,od,.func (PySem.W.fnOf x x (zcJ st) (zbv st) (zao st) .none kV doc pm an cdv ct),osl⟩) (c:PySem.W.codeIn K cdv x=true) (k:PySem.W.keepIn K (.ref f)=true):Dfn K mg x st :=
 ⟨f,_,zoe l c k,PySem.W.mg_of X G a⟩
def zuh (names:List (Str×NameKind)) (outer:List (Str×NameKind)):Bool :=
 names.all fun y=>y.2 != .cell && (y.2 != .local || names.lookup y.1==some .local) && (y.2 != .free || outer.lookup y.1==some .cell || outer.lookup y.1==some .free)
theorem CompScope.of {X:Cx} {scope:Scope} (hk:scope.kind=.function) (h:zuh scope.names X.env.scope.names=true):CompScope X scope:=by
 unfold zuh at h
 rw [List.all_eq_true] at h
 refine ⟨hk,fun y hy e=>?_,fun y hy e=>?_,fun y hy e=>?_⟩
 ·have:=h y hy
  rw [e] at this
  simp at this
 ·have:=h y hy
  rw [e] at this
  simpa using this
 ·have:=h y hy
  rw [e] at this
  simpa [Env.kindOf] using this
def zt5 (N':List Str) (fv:List (Option Nat)) (N:List Str) (outer names:List (Str×NameKind)):Bool :=
 fv.length==N'.length && (N'.zip fv).all fun y=>match y.2 with
  | none=>true
  | some j=>N[j]?==some y.1 && (outer.lookup y.1==some .cell || outer.lookup y.1==some .free) && names.lookup y.1==some .free
theorem FvOk.of {X:Cx} {N':List Str} {scope:Scope} {fv:List (Option Nat)} (h:zt5 N' fv X.N X.env.scope.names scope.names=true):FvOk X N' scope fv:=by
 unfold zt5 at h
 rw [Bool.and_eq_true,List.all_eq_true] at h
 obtain ⟨h1,h2⟩:=h
 refine ⟨by simpa using h1,fun i j x e1 e2=>?_⟩
 have hm:(x,some j)∈N'.zip fv:=by
  refine List.mem_iff_getElem?.mpr ⟨i,?_⟩
  rw [List.getElem?_zip_eq_some]
  exact ⟨e1,e2⟩
 have:=h2 _ hm
 simp only [Bool.and_eq_true,Bool.or_eq_true,beq_iff_eq] at this
 exact ⟨this.1.1,this.1.2,this.2⟩
end
end L2
end
section
namespace L2
open PySem PySem.Spec PyProof.Rows
mutual
def pdD:D->Option PyData
 | .non=>some .none
 | .bl b=>some (.bool b)
 | .int i=>some (.int i)
 | .str x=>some (.str x)
 | .tup l=>(zkY l).map PyData.tuple
 | .lst l=>(zkY l).map PyData.list
 | .scr ns=>some (.list (ns.map PyData.int))
 | _=>none
def zkY:List D->Option (List PyData)
 | []=>some []
 | d::r=>(pdD d).bind fun p=>(zkY r).map (p::·)
end
section
variable {Γ:Cn} {X:Cx} {pins:List (Addr×Obj)} {σ:St} {G H:Hp} {s:Shared}
theorem ziE {h:Heap}:∀ {ns:List Int} {us:List Value},zcb (ns.map V.int) us->∃ as,ReadsAll h us (ns.map PyData.int) as
 | [],_,r=>by rw [qJ] at r;cases r;exact ⟨_,.nil⟩
 | n::ns,_,r=>by
  rw [ql] at r
  cases r with
  | cons r1 r2 =>
   obtain ⟨t,e⟩:=r1
   subst e
   obtain ⟨as,q⟩:=ziE r2
   exact ⟨_,.cons (.int n t) q⟩
mutual
theorem Rep.reads (I:Inv X pins σ H s) (gh:zcd G H):∀ {v:V} {d:D} {u:Value} {p:PyData},Rep Γ X.K G v d->zcN v u->pdD d=some p->∃ as,Reads s.heap u p as
 | _,_,u,p,.non,r,h=>by cases r;rw [pdD] at h;cases h;exact ⟨_,.none⟩
 | _,_,u,p,.bl b,r,h=>by cases r;rw [pdD] at h;cases h;exact ⟨_,.bool b⟩
 | _,_,u,p,.int i,r,h=>by obtain ⟨t,rfl⟩:=r;rw [pdD] at h;cases h;exact ⟨_,.int i t⟩
 | _,_,u,p,.str x,r,h=>by obtain ⟨t,rfl⟩:=r;rw [pdD] at h;cases h;exact ⟨_,.str x t⟩
 | _,_,u,p,.ty n,r,h=>by rw [pdD] at h;cases h;all_goals (intros;contradiction)
 | _,_,u,p,.tup ha rs,r,h=>by
  cases r
  rw [pdD] at h
  obtain ⟨ps,hp,rfl⟩:=oMd h
  obtain ⟨its,rv,⟨o,e1,e2,n,e3⟩,_⟩:=I.tuple (.inl (.inl (gh _ _ ha)))
  obtain ⟨as,q⟩:=Reps.reads I gh rs rv hp
  exact ⟨_,.tuple e1 e2 e3 (by simpa using q)⟩
 | _,_,u,p,.lst ha rs,r,h=>by
  cases r
  rw [pdD] at h
  obtain ⟨ps,hp,rfl⟩:=oMd h
  obtain ⟨its,rv,⟨o,n,e1,e2,_,e3⟩,_⟩:=I.list (.inl (.inl (gh _ _ ha)))
  obtain ⟨as,q⟩:=Reps.reads I gh rs rv hp
  exact ⟨_,.list e1 e2 e3 (by simpa using q)⟩
 | _,_,u,p,.scr hs,r,h=>by
  cases r
  rw [pdD] at h
  cases h
  obtain ⟨its,rv,⟨o,n,e1,e2,_,e3⟩,_⟩:=I.list (gh.seq hs)
  obtain ⟨as,q⟩:=ziE (h:=s.heap) rv
  exact ⟨_,.list e1 e2 e3 (by simpa using q)⟩
 | _,_,u,p,.dk ha _ _,r,h=>by rw [pdD] at h;cases h;all_goals (intros;contradiction)
 | _,_,u,p,.dt ha _ _,r,h=>by rw [pdD] at h;cases h;all_goals (intros;contradiction)
 | _,_,u,p,.ins ha _ _ _,r,h=>by rw [pdD] at h;cases h;all_goals (intros;contradiction)
theorem Reps.reads (I:Inv X pins σ H s) (gh:zcd G H):∀ {vs:List V} {ds:List D} {us:List Value} {ps:List PyData},Reps Γ X.K G vs ds->zcb vs us->zkY ds=some ps->∃ as,ReadsAll s.heap us ps as
 | _,_,_,_,.nil,r,h=>by cases r;rw [zkY] at h;cases h;exact ⟨_,.nil⟩
 | _,_,_,_,.cons r1 r2,r,h=>by
  cases r with
  | cons q1 q2 =>
   rw [zkY] at h
   obtain ⟨p,hp,h⟩:=oBd h
   obtain ⟨ps,hps,rfl⟩:=oMd h
   obtain ⟨as,a1⟩:=Rep.reads I gh r1 q1 hp
   obtain ⟨bs,a2⟩:=Reps.reads I gh r2 q2 hps
   exact ⟨_,.cons a1 a2⟩
end
end
section
variable {Γ:Cn} {X:Cx} {a b c e:Expr} {es:List Expr} {fa fb fc f:FE} {fr:FA} {pos:Pos}
def eqX (x y:D):Option Bool:=(pdD x).bind fun p=>(pdD y).bind fun q=>if SeqAt.shaped p=true/\SeqAt.shaped q=true then some (PyData.eqv p q) else none
def zrD (x y:D):Option D:=(eqX x y).map fun b=>D.bl (!b)
def rX (Γ:Cn) (K:PySem.W.Frag) (neg:Bool):R2:=fun x y H Q=>∃ G d e b,zcd G H/\Rep Γ K G x d/\Rep Γ K G y e/\eqX d e=some b/\Q (.bl (if neg then !b else b)) H
theorem zpO {x y:D} {b:Bool} (h:eqX x y=some b):∃ p q,pdD x=some p/\pdD y=some q/\SeqAt.shaped p=true/\SeqAt.shaped q=true/\b=PyData.eqv p q:=by
 unfold eqX at h
 obtain ⟨p,hp,h⟩:=oBd h
 obtain ⟨q,hq,h⟩:=oBd h
 split at h
 ·rename_i hz
  cases h
  exact ⟨p,q,hp,hq,hz.1,hz.2,rfl⟩
 ·cases h
theorem ztz (hu:X.A.units+64 < cLine):OpR X (compareOp .NotEq) (rX Γ X.K true):=by
 intro pins s σ H x y v u Q I rx ry h
 obtain ⟨G,d,e,b,gh,r1,r2,hb,q⟩:=h
 obtain ⟨p,q',hp,hq,s1,s2,rfl⟩:=zpO hb
 obtain ⟨as,a1⟩:=r1.reads I gh rx hp
 obtain ⟨bs,a2⟩:=r2.reads I gh ry hq
 exact ne_dataH a1 a2 s1 s2 hu ⟨.bl _,H,I,rfl,q⟩
theorem zuj (hu:X.A.units+64 < cLine):CmpD Γ X .NotEq zrD:=⟨_,ztz (Γ:=Γ) hu,fun {G H v u x y z} gh r1 r2 h Q k=>by
 unfold zrD at h
 obtain ⟨b,hb,rfl⟩:=oMd h
 exact ⟨G,x,y,b,gh,r1,r2,hb,k _ G H (.refl gh) (.bl _)⟩⟩
def inX (x y:D):Option Bool:=(pdD x).bind fun p=>(pdD y).bind fun q=>match q with
 | .list l=>if SeqAt.shaped p=true/\PyData.canLayAll0 l=true then some (l.any fun z=>PyData.eqv z p) else none
 | _=>none
def ztZ (x y:D):Option D:=(inX x y).map D.bl
def zwd (Γ:Cn) (K:PySem.W.Frag) (neg:Bool):R2:=fun x y H Q=>∃ G d e b,zcd G H/\Rep Γ K G x d/\Rep Γ K G y e/\inX d e=some b/\Q (.bl (if neg then !b else b)) H
theorem zpJ {x y:D} {b:Bool} (h:inX x y=some b):∃ p l,pdD x=some p/\pdD y=some (.list l)/\SeqAt.shaped p=true/\PyData.canLayAll0 l=true/\b=l.any fun z=>PyData.eqv z p:=by
 unfold inX at h
 obtain ⟨p,hp,h⟩:=oBd h
 obtain ⟨q,hq,h⟩:=oBd h
 split at h
 ·split at h
  ·rename_i hz
   cases h
   exact ⟨p,_,hp,hq,hz.1,hz.2,rfl⟩
  ·cases h
 ·cases h
theorem ziB {p:PyData} (h:SeqAt.shaped p=true):p.canLay0=true/\p.depth<=64:=by
 unfold SeqAt.shaped at h
 rw [Bool.and_eq_true] at h
 exact ⟨h.1,of_decide_eq_true h.2⟩
theorem ztB (hu:X.A.units+66 < cLine):OpR X (compareOp .In) (zwd Γ X.K false):=by
 intro pins s σ H x y v u Q I rx ry h
 obtain ⟨G,d,e,b,gh,r1,r2,hb,q⟩:=h
 obtain ⟨p,l,hp,hq,s1,s2,rfl⟩:=zpJ hb
 obtain ⟨as,a1⟩:=r1.reads I gh rx hp
 obtain ⟨bs,a2⟩:=r2.reads I gh ry hq
 obtain ⟨c1,c2⟩:=ziB s1
 have:=Nat.min_le_right (PyData.depthAll l) p.depth
 exact SeqAt.in_list_reads a2 a1 s2 c1 (by omega) ⟨.bl _,H,I,rfl,q⟩
theorem zul (hu:X.A.units+66 < cLine):CmpD Γ X .In ztZ:=⟨_,ztB (Γ:=Γ) hu,fun {G H v u x y z} gh r1 r2 h Q k=>by
 unfold ztZ at h
 obtain ⟨b,hb,rfl⟩:=oMd h
 exact ⟨G,x,y,b,gh,r1,r2,hb,k _ G H (.refl gh) (.bl _)⟩⟩
theorem zqD {k:Nat} (hr:Room k X.A):X.A.units+66 < cLine:=by have:=hr.un;omega
theorem zux {k:Nat} (hr:Room k X.A):X.A.units+64 < cLine:=by have:=hr.un;omega
def zk6 (d:D):Bool:=match d with
 | .non=>true
 | _=>false
def zhM (x y:D):Option D:=match y with
 | .non=>some (.bl (!zk6 x))
 | _=>none
theorem zmt {K:PySem.W.Frag} {G:Hp} {v:V} {d:D} (r:Rep Γ K G v d):decide (v=.non)=zk6 d:=by
 cases r <;> simp [zk6]
theorem zmb:CmpD Γ X .IsNot zhM:=⟨_,zrv,fun {G H v u x y z} gh r1 r2 h Q k=>by
 unfold zhM at h
 split at h <;> cases h
 exact ⟨r2.non_inv,by rw [zmt r1];exact k _ G H (.refl gh) (.bl _)⟩⟩
end
end L2
end
section
namespace L2
open PySem PySem.Spec PyProof.Rows
section
variable {Γ:Cn} {X:Cx} {a b c e o i:Expr} {es:List Expr} {fa fb fc f fo fk fx:FE} {fr fi:FA} {pos p apos cpos:Pos} {ft:FT} {g:FS} {x:Str}
def bwT (i:Nat) (ft:FT):FT:=fun ρ=>match ρ[i]? with
 | some (some (.own ds))=>ft (ρ.set i (some (.sh (.lst ds))))
 | _=>none
def znm (i:Nat) (f:FE):FS:=fun ρ=>match ρ[i]? with
 | some (some (.own ds))=>(f ρ).bind fun d=>match d with
  | .lst l=>if ds.length+l.length<=sizeLine then some (.nx,ρ.set i (some (.own (ds++l)))) else none
  | _=>none
 | _=>none
theorem zhS (i:Nat) {vp:Pos} (h:DE Γ X e f) (hN:X.N[i]?=some x:=by rfl) (hv:Vis X.env.scope x:=by first | exact Or.inl rfl | exact Or.inr (Or.inl rfl) | exact Or.inr (Or.inr rfl)) (hd:(x==("__debug__":Str))=false:=by decide)
  (hcd:(x==("__classdict__":Str))=false:=by decide)
  (hbase:attributeBase (.Name x vp) "extend" X.env (eval (.Name x vp) X.env)=eval (.Name x vp) X.env:=by rfl)
  (hfew:((backTo cpos (starEach [e] X.env)).all (fun x=>!x.1) && (backToKw cpos (keywordEach [] X.env)).all (fun x=>x.1.isSome)
   && decide ([e].length+([]:List Keyword).length+(if ([]:List Keyword).isEmpty then 0 else 1) < 30))=true:=by rfl)
  (hline:(apos.endLine==cpos.line)=true:=by rfl) (hs:starEach [e] X.env=(false,eval e X.env)::starEach [] X.env:=by rfl) (hplain:(backTo cpos (starEach [] X.env)).any (·.1)=false:=by rfl)
  (hsw:swapsWith (.Call (.Attribute (.Name x vp) "extend" apos) [e] [] cpos) none pos.line X.env=pure false:=by rfl) :
  DS Γ X (.Expr (.Call (.Attribute (.Name x vp) "extend" apos) [e] [] cpos) pos) (znm i f):=⟨(zkV (zrs PySem.F.plainAttrs_list PySem.F.slot_list_extend PySem.F.type_list_extend znU (zen hN hv hd hcd) (zeH h.1 ziJ hs) hbase hfew hline hs hplain) hsw).imp fun E σ H=>by
  rintro ⟨G₀,H₀,G,ρ,fl,ρ',A,h,k⟩
  unfold znm at h
  split at h
  ·rename_i ds hi
   obtain ⟨d,hd,h⟩:=oBd h
   split at h
   ·rename_i l
    split at h
    ·rename_i hz
     cases h
     obtain ⟨a,vs,h1,h2,h3,h4,h5⟩:=A.env.own i ds hi
     refine ⟨.ref a,h1,.inl ⟨rfl,vs,.inl (.inl h4)⟩,G₀,H₀,G,ρ,_,A,hd,fun v G1 H1 s1 r1=>?_⟩
     have A1:=A.step s1
     obtain ⟨b,us,rfl,hb,rb⟩:=r1.lst_inv
     refine ⟨a,b,vs,us,rfl,rfl,s1.hh _ _ h4,s1.gh _ _ hb,by rw [h5.length,rb.length];exact hz,?_⟩
     exact k σ G1 _ s1.gg (A1.chOwn hi h1 ((h5.mono s1.gg).append rb))
    ·cases h
   ·cases h
  ·cases h⟩
def zww:List D->Option D
 | [.int i]=>some (.int i)
 | [.bl k]=>some (.int (if k then 1 else 0))
 | _=>none
def zmZ:List D->Option D
 | [.lst l]=>some (.tup l)
 | [.tup l]=>some (.tup l)
 | _=>none
theorem zo2:TyD Γ X "tuple" zmZ:=⟨_,zjq,fun {G H vs ds z} gh r h Q k=>by
 unfold zmZ at h
 split at h <;> cases h
 ·obtain ⟨v,rfl,r1⟩:=r.one
  obtain ⟨a,us,rfl,ha,ra⟩:=r1.lst_inv
  exact ⟨a,us,rfl,.inl ⟨.inl (.inl (gh _ _ ha)),zjf gh ra k⟩⟩
 ·obtain ⟨v,rfl,r1⟩:=r.one
  obtain ⟨a,us,rfl,ha,ra⟩:=r1.tup_inv
  exact ⟨a,us,rfl,.inr ⟨.inl (.inl (gh _ _ ha)),k _ G H (.refl gh) (.tup ha ra)⟩⟩⟩
def znZ:List D->Option D
 | [.lst l]=>some (.lst l)
 | [.tup l]=>some (.lst l)
 | [.scr l]=>some (.lst (l.map D.int))
 | _=>none
theorem zqW:TyD Γ X "list" znZ:=⟨_,zkq,fun {G H vs ds z} gh r h Q k=>by
 unfold znZ at h
 split at h <;> cases h
 ·obtain ⟨v,rfl,r1⟩:=r.one
  obtain ⟨a,us,rfl,ha,ra⟩:=r1.lst_inv
  exact ⟨a,us,rfl,.inl (.inl (.inl (gh _ _ ha))),zdz gh ra k⟩
 ·obtain ⟨v,rfl,r1⟩:=r.one
  obtain ⟨a,us,rfl,ha,ra⟩:=r1.tup_inv
  exact ⟨a,us,rfl,.inr (.inl (.inl (gh _ _ ha))),zdz gh ra k⟩
 ·obtain ⟨v,rfl,r1⟩:=r.one
  obtain ⟨a,rfl,ha⟩:=r1.scr_inv
  exact ⟨a,_,rfl,.inl (gh.seq ha),zdz gh (Reps.ints _) k⟩⟩
def zus {κ α:Type} [DecidableEq κ] (kvs:List (κ×α)) (k:κ):Option α:=(kvs.find? fun kv=>decide (kv.1=k)).map (·.2)
def zmu {κ α:Type} [DecidableEq κ] (kvs:List (κ×α)) (k:κ) (v:α):List (κ×α) :=
 if (kvs.any fun kv=>decide (kv.1=k))=true then kvs.map (fun kv=>if kv.1=k then (kv.1,v) else kv) else kvs++[(k,v)]
theorem ztO {κ:Type} [DecidableEq κ] {K:PySem.W.Frag} {G:Hp} {k:κ}:∀ {us:List (κ×V)} {kvs:List (κ×D)},us.map (·.1)=kvs.map (·.1)->Reps Γ K G (us.map (·.2)) (kvs.map (·.2)) ->
  (zus kvs k=none/\zoX us k=none)\/∃ d v,zus kvs k=some d/\zoX us k=some v/\Rep Γ K G v d
 | [],[],_,_=>.inl ⟨rfl,rfl⟩
 | [],_::_,e,_=>by cases e
 | _::_,[],e,_=>by cases e
 | (k1,v)::us,(k2,d)::kvs,e,r=>by
  have e1:k1=k2:=(List.cons.inj e).1
  have e2:us.map (·.1)=kvs.map (·.1):=(List.cons.inj e).2
  subst e1
  have r:Reps Γ K G (v::us.map (·.2)) (d::kvs.map (·.2)):=r
  cases r with
  | cons r1 r2 =>
   by_cases h:k1=k
   ·exact .inr ⟨d,v,by simp [zus,List.find?_cons,h],ziV h,r1⟩
   ·have:=ztO (k:=k) e2 r2
    rw [ziW (p:=(k1,v)) h]
    simpa [zus,List.find?_cons,h] using this
theorem zqB {κ:Type} [DecidableEq κ] {k:κ} {α β:Type}:∀ {us:List (κ×α)} {kvs:List (κ×β)},us.map (·.1)=kvs.map (·.1)->(us.any fun kv=>decide (kv.1=k))=(kvs.any fun kv=>decide (kv.1=k))
 | [],[],_=>rfl
 | [],_::_,e=>by cases e
 | _::_,[],e=>by cases e
 | (k1,v)::us,(k2,d)::kvs,e=>by
  have e1:k1=k2:=(List.cons.inj e).1
  subst e1
  rw [List.any_cons,List.any_cons,zqB (us:=us) (kvs:=kvs) (List.cons.inj e).2]
theorem zqA {κ:Type} [DecidableEq κ] {K:PySem.W.Frag} {G:Hp} {k:κ} {v:V} {d:D} (rv:Rep Γ K G v d):∀ {us:List (κ×V)} {kvs:List (κ×D)},us.map (·.1)=kvs.map (·.1)->Reps Γ K G (us.map (·.2)) (kvs.map (·.2)) ->
  (us.map fun kv=>if kv.1=k then (kv.1,v) else kv).map (·.1)=(kvs.map fun kv=>if kv.1=k then (kv.1,d) else kv).map (·.1)/\Reps Γ K G ((us.map fun kv=>if kv.1=k then (kv.1,v) else kv).map (·.2)) ((kvs.map fun kv=>if kv.1=k then (kv.1,d) else kv).map (·.2))
 | [],[],_,_=>⟨rfl,.nil⟩
 | [],_::_,e,_=>by cases e
 | _::_,[],e,_=>by cases e
 | (k1,u)::us,(k2,x)::kvs,e,r=>by
  have e1:k1=k2:=(List.cons.inj e).1
  have e2:us.map (·.1)=kvs.map (·.1):=(List.cons.inj e).2
  subst e1
  have r:Reps Γ K G (u::us.map (·.2)) (x::kvs.map (·.2)):=r
  cases r with
  | cons r1 r2 =>
   obtain ⟨h1,h2⟩:=zqA (k:=k) rv e2 r2
   by_cases h:k1=k
   ·subst h
    simp only [ql,if_true]
    exact ⟨by rw [h1],.cons rv h2⟩
   ·simp only [ql,qS h]
    exact ⟨by rw [h1],.cons r1 h2⟩
theorem zqz {κ:Type} [DecidableEq κ] {K:PySem.W.Frag} {G:Hp} {k:κ} {v:V} {d:D} (rv:Rep Γ K G v d) {us:List (κ×V)} {kvs:List (κ×D)} (e:us.map (·.1)=kvs.map (·.1)) (r:Reps Γ K G (us.map (·.2)) (kvs.map (·.2))) :
  (ziF us k v).map (·.1)=(zmu kvs k d).map (·.1)/\Reps Γ K G ((ziF us k v).map (·.2)) ((zmu kvs k d).map (·.2)):=by
 unfold ziF zmu
 rw [zqB (k:=k) e]
 split
 ·exact zqA rv e r
 ·simp only [List.map_append,ql,qJ]
  exact ⟨by rw [e],r.append (.cons rv .nil)⟩
def zpT:D->Option Key
 | .int i=>some (.inl i)
 | .str x=>some (.inr x)
 | _=>none
def zhb:List D->Option (List Key)
 | []=>some []
 | d::r=>(zpT d).bind fun k=>(zhb r).map (k::·)
theorem zla {K:PySem.W.Frag} {G:Hp} {v:V} {d:D} {k:Key} (r:Rep Γ K G v d) (h:zpT d=some k):v=kV k:=by
 unfold zpT at h
 split at h <;> cases h
 ·exact r.int_inv
 ·exact r.str_inv
theorem zf7 {K:PySem.W.Frag} {G:Hp}:∀ {vs:List V} {ds:List D} {ks:List Key},Reps Γ K G vs ds->zhb ds=some ks->vs=ks.map kV
 | _,[],ks,r,h=>by cases r;cases h;rfl
 | _,d::ds,ks,.cons h1 h2,h=>by
  unfold zhb at h
  obtain ⟨k,hk,h⟩:=oBd h
  obtain ⟨zs,hz,rfl⟩:=oMd h
  rw [zla h1 hk,zf7 h2 hz];rfl
def b3 (g:D->D->D->Option D) (fa fb fc:FE):FE:=fun ρ=>(fa ρ).bind fun x=>(fb ρ).bind fun y=>(fc ρ).bind fun z=>g x y z
def sNo:FS:=fun _=>none
theorem zmE {st:Stmt}:DS Γ X st sNo:=⟨fun pins s σ H E I q=>by
 obtain ⟨G₀,H₀,G,ρ,fl,ρ',A,h,k⟩:=q
 cases h⟩
end
end L2
end
section
namespace L2
open PySem PySem.Spec PyProof.Rows
section
variable {Γ:Cn} {X:Cx} {a b c e o i:Expr} {es:List Expr} {fa fb fc f fo fk fx:FE} {fr fi:FA} {pos p apos cpos:Pos} {ft:FT} {g:FS} {x:Str}
end
end L2
end
section
namespace L2
open PySem PySem.Spec PyProof.Rows
section
variable {Γ:Cn} {X:Cx} {a b c e o i:Expr} {es:List Expr} {fa fb fc f fo fk fx:FE} {fr fi:FA} {pos p apos cpos:Pos} {ft:FT} {g:FS} {x:Str}
def zvV:D->Option Str
 | .str x=>if x.length<=sizeLine then some x else none
 | .int i=>if i.natAbs.log2 < 1920 then some (toString i) else none
 | _=>none
def zvO:Str->List D->Option Str
 | acc,[]=>if acc.length<=sizeLine then some acc else none
 | acc,d::r=>(zvV d).bind fun y=>if (acc++y).length<=sizeLine then zvO (acc++y) r else none
structure DJ (Γ:Cn) (X:Cx) (es:List Expr) (fr:FA):Prop where
 out:∀ (acc:Str) (pins:List (Addr×Obj)) (s:Shared) (σ:St) (H:Hp) (Q:VK),Inv X pins σ H s->(∃ G₀ H₀ G ρ ds z,At Γ X.K G₀ H₀ G H ρ σ/\fr ρ=some ds/\zvO acc ds=some z/\∀ G' H',Step G H G' H'->Q (.str z) H') ->
  wpAny (model X.prog X.w) X.A (joinParts acc (evalEach es X.env)) (EP X pins σ Q) X.xe s
end
end L2
end
section
namespace L2
open PySem PySem.Spec PyProof.Rows
section
variable {X:Cx} {pins:List (Addr×Obj)} {σ:St} {H H':Hp} {s:Shared} {h':Heap}
end
section
variable {Γ:Cn} {X:Cx} {a b c e o i:Expr} {es:List Expr} {fa fb fc f fo fk fx:FE} {fr fi:FA} {pos p p2 p3 p4 apos cpos:Pos} {ft:FT} {g:FS} {x:Str}
end
end L2
end
section
namespace L2
open PySem PySem.Spec PyProof.Rows
section
variable {α β:Type} [DecidableEq α]
end
section
variable {Γ:Cn} {X:Cx} {a b c e o i:Expr} {es:List Expr} {fa fb fc f fo fk fx:FE} {fr fi:FA} {pos p p2 p3 p4 apos cpos:Pos} {ft:FT} {g:FS} {x:Str}
def ztK:D->Option D
 | .int i=>some (.int (-i))
 | _=>none
def zsv:D->Option D
 | .lst l=>some (.lst l.reverse)
 | _=>none
theorem Reps.reverse {K:PySem.W.Frag} {G:Hp}:∀ {vs:List V} {ds:List D},Reps Γ K G vs ds->Reps Γ K G vs.reverse ds.reverse
 | _,_,.nil=>.nil
 | _,_,.cons h r=>by
  rw [List.reverse_cons,List.reverse_cons]
  exact r.reverse.append (.cons h .nil)
theorem zqL {j} (he:DE Γ X e f):DE Γ X (.Subscript e (.Slice none none (some (.UnaryOp .USub (.Constant (.int 1) j p3) p4)) p2) pos) (b1 zsv f):=⟨fun pins s σ H Q I=>by
 rintro ⟨G₀,H₀,G,ρ,d,A,h,k⟩
 unfold b1 at h
 obtain ⟨x,hx,h⟩:=oBd h
 unfold zsv at h
 split at h
 ·rename_i l
  cases h
  refine Subscript_ (thn (he.1 pins s σ H (fun v H'=>∃ G',Step G H G' H'/\Rep Γ X.K G' v (.lst l)) I ⟨G₀,H₀,G,ρ,_,A,hx,fun v G' H' st r=>⟨G',st,r⟩⟩) fun v s1 ⟨v',H1,I1,r1,G1,st,rp⟩=>?_)
  obtain ⟨a,vs,rfl,ha,rv⟩:=rp.lst_inv
  cases r1
  refine wpAny_Slice (qx (qx ?_))
  refine thn ((zuY zsG zj2) pins s1 σ H1 (fun v H'=>v=.int (-1)/\H'=H1) I1 ⟨_,rfl,rfl,rfl⟩) fun vk s3 ⟨vv,H3,I3,r3,e1,e2⟩=>?_
  subst e1 e2
  obtain ⟨t,rfl⟩:=r3
  have I4:Inv X pins σ H3 { s3 with heap:=s3.heap.push { cls:=.type "slice",data:=.fields #[.none,.none,.int (-1) t] } }:=I3.kept (t':=s3.toks) fun b ob q=>qq _ q
  obtain ⟨its,rr,hti,hz⟩:=I4.list (.inl (.inl (st.gh _ _ ha)))
  show wpAny (model X.prog X.w) X.A (subscriptTail e (.Slice none none (some (.UnaryOp .USub (.Constant (.int 1) j p3) p4)) p2) (.ref a) (.ref s3.heap.objs.size)) (EP X pins σ Q) X.xe { s3 with heap:=s3.heap.push { cls:=.type "slice",data:=.fields #[.none,.none,.int (-1) t] } }
  refine tail_any (ops:=[.ref a,.ref s3.heap.objs.size]) hti.isList.typeIs slot_list_getitem.lookup ?_ (by with_unfolding_all rfl)
  refine wpAny_getItem_list_slice hti.isList (Heap.IsSliceOf.new ..) .none .none (.int _ _) (by decide) ?_ (by rw [qy];have:=rr.length;omega)
  rw [PySem.W.krv_pick]
  have hn:=I4.fresh
  exact ⟨.ref _,_,I4.lnew (ys:=vs.reverse) (its:=its.reverse) (t':=s3.toks) (zcb.reverse rr) (by rw [List.length_reverse];exact hz),rfl,zdz st.gh rv.reverse (fun w G2 H2 s2 r2=>k w G2 H2 (st.trans s2) r2) _ hn⟩
 ·cases h⟩
end
end L2
end
section
namespace L2
open PySem PySem.Spec PyProof.Rows
structure CF (Γ:Cn) (K:PySem.W.Frag) (c:Str) (attrs:List Str):Prop where
 ex:∃ C,Γ.cls c=some C/\Cls K C/\∀ f∈attrs,zfd K C f
section
variable {Γ:Cn} {X:Cx} {a b c e o i value:Expr} {es:List Expr} {fa fb fc f fo fk fx fv:FE} {fr fi:FA} {pos pos' p apos cpos:Pos} {ft:FT} {g:FS} {x cl fl n m:Str} {attrs:List Str}
theorem zcV {K:PySem.W.Frag} {G:Hp} {k:Str}:∀ {us:List (Str×V)} {fs:List (Str×D)},us.map (·.1)=fs.map (·.1)->Reps Γ K G (us.map (·.2)) (fs.map (·.2)) ->
  (fs.lookup k=none/\us.lookup k=none)\/∃ d v,fs.lookup k=some d/\us.lookup k=some v/\Rep Γ K G v d
 | [],[],_,_=>.inl ⟨rfl,rfl⟩
 | [],_::_,e,_=>by cases e
 | _::_,[],e,_=>by cases e
 | (k1,v)::us,(k2,d)::fs,e,r=>by
  have e1:k1=k2:=(List.cons.inj e).1
  have e2:us.map (·.1)=fs.map (·.1):=(List.cons.inj e).2
  subst e1
  have r:Reps Γ K G (v::us.map (·.2)) (d::fs.map (·.2)):=r
  cases r with
  | cons r1 r2 =>
   by_cases h:k=k1
   ·subst h
    exact .inr ⟨d,v,by simp [List.lookup],by simp [List.lookup],r1⟩
   ·have hb:(k==k1)=false:=by simpa using h
    have:=zcV (k:=k) e2 r2
    simpa [List.lookup,hb] using this
theorem zjb {f:Str} {v:V}:∀ {fs:List (Str×V)},fs.lookup f=none->zjI f v fs=fs++[(f,v)]
 | [],_=>rfl
 | (g,x)::r,h=>by
  by_cases e:f=g
  ·subst e;simp [List.lookup] at h
  ·have hb:(f==g)=false:=by simpa using e
   rw [zjI,qS (fun z=>e z.symm),zjb (by simpa [List.lookup,hb] using h)]
   rfl
def zvM (c f:Str):D->Option D
 | .ins c' fs=>if c'=c then fs.lookup f else none
 | _=>none
def zgZ (c f:Str) (fo:FE):FE:=fun ρ=>(fo ρ).bind (zvM c f)
theorem zcM (hc:CF Γ X.K cl attrs) (hf:fl∈attrs) (ho:DE Γ X o fo) (hb:attributeBase o fl X.env (eval o X.env)=eval o X.env:=by rfl):DE Γ X (.Attribute o fl pos) (zgZ cl fl fo):=⟨(znF ho.1 hb).imp fun σ H Q=>by
 rintro ⟨G₀,H₀,G,ρ,d,A,h,k⟩
 unfold zgZ at h
 obtain ⟨x,hx,hq⟩:=oBd h
 clear h
 refine ⟨G₀,H₀,G,ρ,x,A,hx,fun v G1 H1 s1 r1=>?_⟩
 unfold zvM at hq
 split at hq
 ·split at hq
  ·rename_i ec
   subst ec
   obtain ⟨C,q1,q2,q3⟩:=hc.ex
   cases r1 with
   | ins h1 h2 h3 h4 =>
    rw [q1] at h2
    cases h2
    rcases zcV (k:=fl) h3 h4 with ⟨z1,_⟩ | ⟨d',v',z1,z2,z3⟩
    ·rw [z1] at hq;cases hq
    ·rw [z1] at hq
     cases hq
     exact ⟨_,C,_,_,v',rfl,s1.gh _ _ h1,q2,q3 fl hf,z2,k v' G1 H1 s1 z3⟩
  ·cases hq
 ·cases hq⟩
def znd (f:Str):Slot->Option D
 | .obj _ fs=>fs.lookup f
 | .objd _ fs n _=>if f=n then none else fs.lookup f
 | _=>none
def zq1:Slot->Option Str
 | .obj c _=>some c
 | .objd c _ _ _=>some c
 | _=>none
def zih (c f:Str) (i:Nat):FE:=fun ρ=>match ρ[i]? with
 | some (some s)=>if zq1 s=some c then znd f s else none
 | _=>none
theorem zpz {vs:List (Str×V)} {n f:Str} {v w:V} (h:vs.lookup f=some v):(vs++[(n,w)]).lookup f=some v:=by
 induction vs with
 | nil=>cases h
 | cons p r ih =>
  obtain ⟨g,x⟩:=p
  by_cases e:f=g
  ·subst e;simpa [List.lookup] using h
  ·have hb:(f==g)=false:=by simpa using e
   simp only [qm,List.lookup,hb] at h ⊢
   exact ih h
theorem zjm (i:Nat) (hc:CF Γ X.K cl attrs) (hf:fl∈attrs) {vp:Pos} (hN:X.N[i]?=some x:=by rfl) (hv:Vis X.env.scope x:=by first | exact Or.inl rfl | exact Or.inr (Or.inl rfl) | exact Or.inr (Or.inr rfl)) (hd:(x==("__debug__":Str))=false:=by decide)
  (hcd:(x==("__classdict__":Str))=false:=by decide) (hb:attributeBase (.Name x vp) fl X.env (eval (.Name x vp) X.env)=eval (.Name x vp) X.env:=by rfl):DE Γ X (.Attribute (.Name x vp) fl pos) (zih cl fl i):=⟨(znF (zen hN hv hd hcd) hb).imp fun σ H Q=>by
 rintro ⟨G₀,H₀,G,ρ,d,A,h,k⟩
 unfold zih at h
 split at h
 ·rename_i s hi
  split at h
  ·rename_i hcl
   obtain ⟨C,q1,q2,q3⟩:=hc.ex
   obtain ⟨v,fp,h1,h2⟩:=A.get hi
   cases h2 with
   | sh _=>cases h
   | own _ _ _ _=>cases h
   | odk _ _ _ _ _=>cases h
   | odt _ _ _ _ _=>cases h
   | tlo _ _ _ _ _ _=>cases h
   | oll _ _ _ _ _=>cases h
   | pin _=>cases h
   | obj g1 g2 g3 g4 g5 g6 g7 =>
    cases hcl
    rw [q1] at g1
    cases g1
    have h:List.lookup fl _=some d:=h
    rcases zcV (k:=fl) g5 g6 with ⟨z1,_⟩ | ⟨d',v',z1,z2,z3⟩
    ·rw [z1] at h;cases h
    ·rw [z1] at h
     cases h
     exact ⟨_,h1,_,C,_,_,v',rfl,g4,q2,q3 fl hf,z2,k v' G H (.refl A.gh) z3⟩
   | objd g1 g2 g3 g4 g5 g6 _ _ _ _ _ g7 =>
    cases hcl
    rw [q1] at g1
    cases g1
    unfold znd at h
    simp only at h
    split at h
    ·cases h
    ·rcases zcV (k:=fl) g5 g6 with ⟨z1,_⟩ | ⟨d',v',z1,z2,z3⟩
     ·rw [z1] at h;cases h
     ·rw [z1] at h
      cases h
      exact ⟨_,h1,_,C,_,_,v',rfl,g4,q2,q3 fl hf,zpz z2,k v' G H (.refl A.gh) z3⟩
  ·cases h
 ·cases h⟩
def zdQ (c f:Str) (i:Nat) (fv:FE):FS:=fun ρ=>(fv ρ).bind fun d=>match ρ[i]? with
 | some (some (.obj c' fs))=>if c'=c/\fs.lookup f=none/\fs.length < 100 then some (.nx,ρ.set i (some (.obj c (fs++[(f,d)])))) else none
 | _=>none
theorem zcI (i:Nat) (hc:CF Γ X.K cl attrs) (hf:fl∈attrs) {vp:Pos} (hv':DE Γ X value fv) (hN:X.N[i]?=some x:=by rfl) (hv:Vis X.env.scope x:=by first | exact Or.inl rfl | exact Or.inr (Or.inl rfl) | exact Or.inr (Or.inr rfl)) (hd:(x==("__debug__":Str))=false:=by decide)
  (hcd:(x==("__classdict__":Str))=false:=by decide) (hs:swapsWith value (some (.Attribute (.Name x vp) fl pos')) pos.line X.env=pure false:=by rfl):DS Γ X (.Assign [.Attribute (.Name x vp) fl pos'] value pos) (zdQ cl fl i fv):=⟨(zqo (zen hN hv hd hcd) hv'.1 hs).imp fun E σ H=>by
 rintro ⟨G₀,H₀,G,ρ,flw,ρ',A,h,k⟩
 unfold zdQ at h
 obtain ⟨d,hd,h⟩:=oBd h
 split at h
 ·rename_i c' fs hi
  split at h
  ·rename_i hz
   obtain ⟨rfl,hz2,hz3⟩:=hz
   cases h
   obtain ⟨C,q1,q2,q3⟩:=hc.ex
   refine ⟨G₀,H₀,G,ρ,d,A,hd,fun v G1 H1 s1 r1=>?_⟩
   have A1:=A.step s1
   obtain ⟨w,fp,h1,h2⟩:=A1.get hi
   cases h2 with
   | obj g1 g2 g3 g4 g5 g6 g7 =>
    rename_i a C' dx vs
    have g1':=g1
    rw [q1] at g1
    cases g1
    have hl:vs.lookup fl=none:=by
     rcases zcV (k:=fl) g5 g6 with ⟨_,z2⟩ | ⟨d',v',z1,_,_⟩
     ·exact z2
     ·rw [z1] at hz2;cases hz2
    have hlen:vs.length=fs.length:=by simpa using congrArg List.length g5
    refine ⟨_,h1,a,C,dx,vs,rfl,g4,q2,q3 fl hf,by omega,?_⟩
    rw [zjb hl]
    refine k σ G1 _ s1.gg (A1.ch hi h1 (.obj g1' g2 g3 g4 g5 g6 g7) (fun b o e hb=>?_) (.obj (vs:=vs++[(fl,v)]) g1' g2 g3 zaL (by simp [g5]) (by simpa using g6.append (.cons r1 .nil)) g7) (fun b hb=>.inl hb) (.refl _) (fun b o e=>?_) (fun _ _ _ _=>rfl))
    ·rw [zaF (fun z=>hb (List.mem_singleton.mpr z))];exact e
    ·rw [zaF (zaC e g3)];exact A1.gh b o e
  ·cases h
 ·cases h⟩
def zss (c f:Str) (i:Nat):FS:=fun ρ=>match ρ[i]? with
 | some (some (.obj c' fs))=>if c'=c/\fs.lookup f=none/\fs.length < 100 then some (.nx,ρ.set i (some (.objd c fs f []))) else none
 | _=>none
theorem zua (i:Nat) (hc:CF Γ X.K cl attrs) (hf:fl∈attrs) {vp dp:Pos} (hN:X.N[i]?=some x:=by rfl) (hv:Vis X.env.scope x:=by first | exact Or.inl rfl | exact Or.inr (Or.inl rfl) | exact Or.inr (Or.inr rfl)) (hd:(x==("__debug__":Str))=false:=by decide)
  (hcd:(x==("__classdict__":Str))=false:=by decide) (hs:swapsWith (.Dict [] [] dp) (some (.Attribute (.Name x vp) fl pos')) pos.line X.env=pure false:=by rfl):DS Γ X (.Assign [.Attribute (.Name x vp) fl pos'] (.Dict [] [] dp) pos) (zss cl fl i):=⟨(zqo (zen hN hv hd hcd) zpr hs).imp fun E σ H=>by
 rintro ⟨G₀,H₀,G,ρ,flw,ρ',A,h,k⟩ p hp
 unfold zss at h
 split at h
 ·rename_i c' fs hi
  split at h
  ·rename_i hz
   obtain ⟨rfl,hz2,hz3⟩:=hz
   cases h
   obtain ⟨C,q1,q2,q3⟩:=hc.ex
   obtain ⟨w,fp,h1,h2⟩:=A.get hi
   cases h2 with
   | obj g1 g2 g3 g4 g5 g6 g7 =>
    rename_i a C' dx vs
    have g1':=g1
    rw [q1] at g1
    cases g1
    have hl:vs.lookup fl=none:=by
     rcases zcV (k:=fl) g5 g6 with ⟨_,z2⟩ | ⟨d',v',z1,_,_⟩
     ·exact z2
     ·rw [z1] at hz2;cases hz2
    have hlen:vs.length=fs.length:=by simpa using congrArg List.length g5
    have npa:a≠p:=zaC g4 hp
    refine ⟨_,h1,a,C,dx,vs,rfl,by rw [zaF npa];exact g4,q2,q3 fl hf,by omega,?_⟩
    rw [zjb hl]
    have hp0:H₀ p=none:=A.st.hh.free hp
    have hpg:G p=none:=A.gh.free hp
    refine k σ G _ (.refl _) (A.ch hi h1 (.obj g1' g2 g3 g4 g5 g6 g7) (fun b o e hb=>?_) (.objd (vs:=vs) (p:=p) (us:=[]) (kvs:=[]) g1' g2 g3 zaL g5 g6 hp0 hpg (by rw [zaF npa.symm,zaL]) rfl .nil g7) (fun b hb=>?_) (.refl _) (fun b o e=>?_) (fun _ _ _ _=>rfl))
    ·rw [zaF (fun z=>hb (List.mem_singleton.mpr z)),zaF (zaC e hp)];exact e
    ·rcases List.mem_cons.mp hb with rfl | hb
     ·exact .inl (List.mem_singleton.mpr rfl)
     ·rw [List.mem_singleton.mp hb];exact .inr hp
    ·rw [zaF (zaC e g3),zaF (zaC e hpg)];exact A.gh b o e
  ·cases h
 ·cases h⟩
def zdR (c f:Str) (i:Nat) (fk fv:FE):FS:=fun ρ=>(fv ρ).bind fun d=>(fk ρ).bind fun kd=>(zpT kd).bind fun k=>match ρ[i]? with
 | some (some (.objd c' fs n kvs))=>if c'=c/\n=f/\fs.lookup f=none/\kvs.length < 100000 then some (.nx,ρ.set i (some (.objd c fs n (zmu kvs k d)))) else none
 | _=>none
theorem znX {vs:List (Str×V)} {f:Str} {w:V} (h:vs.lookup f=none):(vs++[(f,w)]).lookup f=some w:=by
 induction vs with
 | nil=>simp [List.lookup]
 | cons p r ih =>
  obtain ⟨g,x⟩:=p
  by_cases e:f=g
  ·subst e;simp [List.lookup] at h
  ·have hb:(f==g)=false:=by simpa using e
   simp only [qm,List.lookup,hb] at h ⊢
   exact ih h
theorem zon (i:Nat) (hu:X.A.units+66 < cLine) (hc:CF Γ X.K cl attrs) (hf:fl∈attrs) {vp ap:Pos} {ke:Expr} (hk:DE Γ X ke fk) (hv':DE Γ X value fv) (hN:X.N[i]?=some x:=by rfl) (hv:Vis X.env.scope x:=by first | exact Or.inl rfl | exact Or.inr (Or.inl rfl) | exact Or.inr (Or.inr rfl)) (hd:(x==("__debug__":Str))=false:=by decide)
  (hcd:(x==("__classdict__":Str))=false:=by decide) (hb:attributeBase (.Name x vp) fl X.env (eval (.Name x vp) X.env)=eval (.Name x vp) X.env:=by rfl) (hs:swapsWith value (some (.Subscript (.Attribute (.Name x vp) fl ap) ke pos')) pos.line X.env=pure false:=by rfl) :
  DS Γ X (.Assign [.Subscript (.Attribute (.Name x vp) fl ap) ke pos'] value pos) (zdR cl fl i fk fv):=⟨(zrk (by omega) (znF (zen hN hv hd hcd) hb) hk.1 hv'.1 hs).imp fun E σ H=>by
 rintro ⟨G₀,H₀,G,ρ,flw,ρ',A,h,k⟩
 unfold zdR at h
 obtain ⟨d,hd,ha⟩:=oBd h
 clear h
 obtain ⟨kd,hkd,hb1⟩:=oBd ha
 clear ha
 obtain ⟨kk,hkk,hq⟩:=oBd hb1
 clear hb1
 split at hq
 ·rename_i c' fs n kvs hi
  split at hq
  ·rename_i hz
   obtain ⟨rfl,rfl,hz2,hz3⟩:=hz
   cases hq
   obtain ⟨C,q1,q2,q3⟩:=hc.ex
   refine ⟨G₀,H₀,G,ρ,d,A,hd,fun v G1 H1 s1 r1=>?_⟩
   have A1:=A.step s1
   obtain ⟨w,fp,h1,h2⟩:=A1.get hi
   cases h2 with
   | objd g1 g2 g3 g4 g5 g6 y1 y2 y3 y4 y5 g7 =>
    rename_i a C' dx p vs us
    have g1':=g1
    rw [q1] at g1
    cases g1
    have hl:vs.lookup n=none:=by
     rcases zcV (k:=n) g5 g6 with ⟨_,z2⟩ | ⟨d',v',z1,_,_⟩
     ·exact z2
     ·rw [z1] at hz2;cases hz2
    refine ⟨_,h1,a,C,dx,_,.ref p,rfl,g4,q2,q3 n hf,znX hl,G₀,H₀,G1,ρ,kd,A1,hkd,fun u G2 H2 s2 r2=>?_⟩
    have A2:=A1.step s2
    have eu:=zla r2 hkk
    subst eu
    have hp2:H2 p=some (.dK us):=s2.hh _ _ y3
    have ha2:H2 a=some (.ins C dx (vs++[(n,.ref p)])):=s2.hh _ _ g4
    have ga2:G2 a=none:=(s2.out _ _ g4).trans g3
    have gp2:G2 p=none:=(s2.out _ _ y3).trans y2
    have npa:a≠p:=zii ha2 hp2 (by intro z;cases z)
    have hlen:us.length=kvs.length:=by simpa using congrArg List.length y4
    obtain ⟨w1,w2⟩:=zqz (k:=kk) (r1.mono s2.gg) y4 (y5.mono s2.gg)
    refine ⟨p,_,rfl,zuq.k hp2 (by have:=sizeLine_eq;omega),?_⟩
    refine k σ G2 _ (s1.gg.trans s2.gg) (A2.ch hi h1 (.objd g1' g2 ga2 ha2 g5 (g6.mono s2.gg) y1 gp2 hp2 y4 (y5.mono s2.gg) g7) (fun b o e hb=>?_) (.objd (p:=p) g1' g2 ga2 (by rw [zaF npa];exact ha2) g5 (g6.mono s2.gg) y1 gp2 zaL w1 w2 g7) (fun b hb=>.inl hb) (.refl _) (fun b o e=>?_) (fun _ _ _ _=>rfl))
    ·rw [zaF (fun z=>hb (by rw [z];exact qg _ qf))];exact e
    ·rw [zaF (zaC e gp2)];exact A2.gh b o e
  ·cases hq
 ·cases hq⟩
def znc:Slot->Option D
 | .obj c fs=>some (.ins c fs)
 | .objd c fs n kvs=>some (.ins c (fs++[(n,.dk kvs)]))
 | _=>none
theorem At.done {K:PySem.W.Frag} {G₀ H₀ G H:Hp} {ρ:za1} {σ:St} (A:At Γ K G₀ H₀ G H ρ σ) {i:Nat} {s:Slot} {d:D} (hi:ρ[i]?=some (some s)) (hd:znc s=some d):∃ a G',Γ.self=some a/\Step G₀ H₀ G' H/\Rep Γ K G' (.ref a) d:=by
 obtain ⟨v,fp,h1,h2⟩:=A.get hi
 cases h2 with
 | sh _=>cases hd
 | own _ _ _ _=>cases hd
 | odk _ _ _ _ _=>cases hd
 | odt _ _ _ _ _=>cases hd
 | tlo _ _ _ _ _ _=>cases hd
 | oll _ _ _ _ _=>cases hd
 | pin _=>cases hd
 | obj g1 g2 g3 g4 g5 g6 g7 =>
  cases hd
  rename_i a C dx vs fs
  have sm:zcd G (upd G a (.ins C dx vs)):=fun b o e=>by rw [zaF (zaC e g3)];exact e
  refine ⟨a,upd G a (.ins C dx vs),g7,⟨A.st.hh,A.st.gg.trans sm,fun b o e=>?_,fun b o e=>?_⟩,.ins zaL g1 g5 (g6.mono sm)⟩
  ·by_cases hb:b=a
   ·subst hb;rw [zaL] at e;cases e;exact g4
   ·rw [zaF hb] at e;exact A.gh b o e
  ·rw [zaF (zaC e g2)];exact A.st.out b o e
 | objd g1 g2 g3 g4 g5 g6 y1 y2 y3 y4 y5 g7 =>
  cases hd
  rename_i n a C dx p vs fs us kvs
  have npa:a≠p:=zii g4 y3 (by intro z;cases z)
  have sm:zcd G (upd (upd G p (.dK us)) a (.ins C dx (vs++[(n,.ref p)]))):=fun b o e=>by rw [zaF (zaC e g3),zaF (zaC e y2)];exact e
  refine ⟨a,_,g7,⟨A.st.hh,A.st.gg.trans sm,fun b o e=>?_,fun b o e=>?_⟩,.ins (us:=vs++[(n,.ref p)]) (fs:=fs++[(n,.dk kvs)]) zaL g1 (by simp [g5]) ?_⟩
  ·by_cases hb:b=a
   ·subst hb;rw [zaL] at e;cases e;exact g4
   ·rw [zaF hb] at e
    by_cases hb':b=p
    ·subst hb';rw [zaL] at e;cases e;exact y3
    ·rw [zaF hb'] at e;exact A.gh b o e
  ·rw [zaF (zaC e g2),zaF (zaC e y1)];exact A.st.out b o e
  ·have r2:Rep Γ K (upd (upd G p (.dK us)) a (.ins C dx (vs++[(n,.ref p)]))) (.ref p) (.dk kvs):=.dk (us:=us) (by rw [zaF npa.symm,zaL]) y4 (y5.mono sm)
   simpa using (g6.mono sm).append (.cons r2 .nil)
end
end L2
end
section
namespace L2
open PySem PySem.Spec PyProof.Rows
def Cn.mk1 (Γ:Cn) (x:Addr):Cn:=⟨Γ.cls,some x⟩
section
variable {Γ:Cn} {P:Program} {w:World} {K:PySem.W.Frag} {mg:Str->Option Value} {base:Heap} {c:Str} {attrs:List Str} {x:Addr}
theorem Rep.to1 {G:Hp} {v:V} {d:D} (x:Addr) (r:Rep Γ K G v d):Rep (Γ.mk1 x) K G v d:=Rep.re (Γ:=Γ) (Γ':=Γ.mk1 x) rfl r
theorem Rep.of1 {G:Hp} {v:V} {d:D} {x:Addr} (r:Rep (Γ.mk1 x) K G v d):Rep Γ K G v d:=Rep.re (Γ:=Γ.mk1 x) (Γ':=Γ) rfl r
theorem Reps.of1 {G:Hp} {v:List V} {d:List D} {x:Addr} (r:Reps (Γ.mk1 x) K G v d):Reps Γ K G v d:=Reps.re (Γ:=Γ.mk1 x) (Γ':=Γ) rfl r
theorem CF.re (h:CF Γ K c attrs) (x:Addr):CF (Γ.mk1 x) K c attrs:=⟨h.ex⟩
theorem zqa {n:Nat} {F:List D->Option D} {vs:List V} {H:Hp} {Q:VK} {E:XK} (x:Addr) (h:spF (Γ.mk1 x) K n F vs H Q E):spF Γ K n F vs H Q E:=by
 obtain ⟨G,ds,d,h1,h2,h3,h4,k⟩:=h
 exact ⟨G,ds,d,h1,h2.of1,h3,h4,fun v G' H' s r=>k v G' H' s (r.to1 x)⟩
theorem Cal.re {y:Str} {n k:Nat} {F:List D->Option D} (C:Cal Γ P w K mg base y n k F) (x:Addr):Cal (Γ.mk1 x) P w K mg base y n k F:=by
 obtain ⟨f,fd,ps,h1,h2,h3,h4⟩:=C.ex
 exact ⟨f,fd,ps,h1.imp fun vs H Q E q=>zqa x q,h2,h3,h4⟩
structure CalM (Γ:Cn) (P:Program) (w:World) (K:PySem.W.Frag) (mg:Str->Option Value) (base:Heap) (c m:Str) (n k:Nat) (F:List D->Option D):Prop where
 ex:∃ C f fd ps,Γ.cls c=some C/\Cls K C/\Meth K C m f/\FnOk P w K mg base CX0 k f fd ps (spF Γ K n F)/\zdG K fd ps []
theorem CalM.re {m:Str} {n k:Nat} {F:List D->Option D} (C:CalM Γ P w K mg base c m n k F) (x:Addr):CalM (Γ.mk1 x) P w K mg base c m n k F:=by
 obtain ⟨C,f,fd,ps,h0,h1,h2,h3,h4⟩:=C.ex
 exact ⟨C,f,fd,ps,h0,h1,h2,h3.imp fun vs H Q E q=>zqa x q,h4⟩
def spI (Γ:Cn) (K:PySem.W.Frag) (C:Addr) (n:Nat) (F:List D->Option D):Sp:=fun vs H Q _=>∃ x dx H1 G ds d us,vs=.ref x::us/\H=upd (upd H1 dx (.own x)) x (.ins C dx [])/\H1 x=none/\H1 dx=none/\dx≠x/\zcd G H1/\Reps Γ K G us ds/\ds.length=n/\F ds=some d /\
 ∀ G' H',Step G H1 G' H'->Rep Γ K G' (.ref x) d->Q .non H'
structure CalI (Γ:Cn) (P:Program) (w:World) (K:PySem.W.Frag) (mg:Str->Option Value) (base:Heap) (c:Str) (n k:Nat) (F:List D->Option D):Prop where
 ex:∃ C f fd ps,Γ.cls c=some C/\Mk K C f/\mg c=some (.ref C)/\FnOk P w K mg base CX0 k f fd ps (spI Γ K C n F)/\zdG K fd ps []
end
section
variable {Γ:Cn} {X:Cx} {e o:Expr} {es:List Expr} {fo:FE} {fr:FA} {pos p apos:Pos} {c m:Str}
def zbU (c m:Str) (F:List D->Option D) (fo:FE) (fr:FA):FE:=fun ρ=>(fo ρ).bind fun d=>match d with
 | .ins c' fs=>if c'=c/\fs.lookup m=none then (fr ρ).bind fun ds=>F (d::ds) else none
 | _=>none
theorem zvm {n k j:Nat} {F:List D->Option D} {pl:Sem Bool} (C:CalM Γ X.prog X.w X.K X.mg X.base c m (n+1) k F) (hr:Room j X.A) (hk:k<=j) (ho:DE Γ X o fo) (ha:DA Γ X (e::es) fr) (hn:∀ ρ ds,fr ρ=some ds->ds.length=n)
  (hst:starEach (e::es) X.env=(false,eval e X.env)::starEach es X.env:=by rfl) (hpl:(backTo pos (starEach es X.env)).any (·.1)=false:=by rfl)
  (ht:eval (.Call (.Attribute o m apos) (e::es) [] pos) X.env=(do
   let ov ← eval o X.env
   standAt apos.atName
   let (f,first) ← holding [ov] (getMethod ov m pl)
   callWith pos f first (backTo pos (starEach (e::es) X.env)) (backToKw pos (keywordEach [] X.env))):=by rfl) :
  DE Γ X (.Call (.Attribute o m apos) (e::es) [] pos) (zbU c m F fo fr):=⟨by
 obtain ⟨Ca,f,fd,ps,h0,h1,h2,h3,h4⟩:=C.ex
 refine (zrq ho.1 h1 h2 h3 (hr.mono hk) h4 .nil zkZ ha.1 hst hpl ht).imp fun σ H Q=>?_
 rintro ⟨G₀,H₀,G,ρ,d,A,h,k⟩
 unfold zbU at h
 obtain ⟨x,hx,hq⟩:=oBd h
 clear h
 refine ⟨G₀,H₀,G,ρ,x,A,hx,fun v G1 H1 s1 r1=>?_⟩
 split at hq
 ·rename_i c' fs
  split at hq
  ·rename_i hz
   obtain ⟨rfl,hz2⟩:=hz
   obtain ⟨ds,hds,hF⟩:=oBd hq
   have r1':=r1
   cases r1 with
   | ins g1 g2 g3 g4 =>
    rw [h0] at g2
    cases g2
    rename_i _ _ us0
    have hl:List.lookup m us0=none:=by
     rcases zcV (k:=m) g3 g4 with ⟨_,z2⟩ | ⟨d',v',z1,_,_⟩
     ·exact z2
     ·rw [z1] at hz2;cases hz2
    refine ⟨_,_,_,rfl,s1.gh _ _ g1,hl,G₀,H₀,G1,ρ,ds,A.step s1,hds,fun vs G2 H2 s2 r2=>?_⟩
    show spF Γ X.K (n+1) F (_::(vs++[])) H2 Q E0
    rw [List.append_nil]
    exact ⟨G2,_,d,s2.gh,.cons (r1'.mono s2.gg) r2,by rw [qh,hn ρ ds hds],hF,fun v G' H' s r=>k v G' H' ((s1.trans s2).trans s) r⟩
  ·cases hq
 ·cases hq⟩
theorem za7 {k j:Nat} {F:List D->Option D} {pl:Sem Bool} (C:CalM Γ X.prog X.w X.K X.mg X.base c m 1 k F) (hr:Room j X.A) (hk:k<=j) (ho:DE Γ X o fo)
  (ht:eval (.Call (.Attribute o m apos) [] [] pos) X.env=(do
   let ov ← eval o X.env
   standAt apos.atName
   let (f,first) ← holding [ov] (getMethod ov m pl)
   callWith pos f first (backTo pos (starEach [] X.env)) (backToKw pos (keywordEach [] X.env))):=by rfl) :
  DE Γ X (.Call (.Attribute o m apos) [] [] pos) (zbU c m F fo zak):=⟨by
 obtain ⟨Ca,f,fd,ps,h0,h1,h2,h3,h4⟩:=C.ex
 refine (zpp ho.1 h1 h2 h3 (hr.mono hk) h4 .nil zkZ ht).imp fun σ H Q=>?_
 rintro ⟨G₀,H₀,G,ρ,d,A,h,k⟩
 unfold zbU at h
 obtain ⟨x,hx,hq⟩:=oBd h
 clear h
 refine ⟨G₀,H₀,G,ρ,x,A,hx,fun v G1 H1 s1 r1=>?_⟩
 split at hq
 ·rename_i c' fs
  split at hq
  ·rename_i hz
   obtain ⟨rfl,hz2⟩:=hz
   obtain ⟨ds,hds,hF⟩:=oBd hq
   cases hds
   have r1':=r1
   cases r1 with
   | ins g1 g2 g3 g4 =>
    rw [h0] at g2
    cases g2
    rename_i _ _ us0
    have hl:List.lookup m us0=none:=by
     rcases zcV (k:=m) g3 g4 with ⟨_,z2⟩ | ⟨d',v',z1,_,_⟩
     ·exact z2
     ·rw [z1] at hz2;cases hz2
    refine ⟨_,_,_,rfl,s1.gh _ _ g1,hl,?_⟩
    exact ⟨G1,_,d,s1.gh,.cons r1' .nil,rfl,hF,fun v G' H' s r=>k v G' H' (s1.trans s) r⟩
  ·cases hq
 ·cases hq⟩
theorem zr9 {n k j:Nat} {F:List D->Option D} (C:CalI Γ X.prog X.w X.K X.mg X.base c n k F) (hr:Room j X.A) (hk:k+1<=j) (hg:Gl X c) (ha:DA Γ X (e::es) fr) (hn:∀ ρ ds,fr ρ=some ds->ds.length=n)
  (hdb:(c==("__debug__":Str))=false:=by decide) (he:starEach (e::es) X.env=(false,eval e X.env)::starEach es X.env:=by rfl) (hpl:(backTo pos (starEach es X.env)).any (·.1)=false:=by rfl) :
  DE Γ X (.Call (.Name c p) (e::es) [] pos) (cF F fr):=⟨by
 obtain ⟨Ca,f,fd,ps,h0,h1,h2,h3,h4⟩:=C.ex
 refine (znE h1 h3 (hr.mono hk) hg h2 h4 .nil zkZ ha.1 hdb he hpl).imp fun σ H Q=>?_
 rintro ⟨G₀,H₀,G,ρ,d,A,h,k⟩
 unfold cF at h
 obtain ⟨ds,hd,hq⟩:=oBd h
 refine ⟨G₀,H₀,G,ρ,ds,A,hd,fun vs G1 H1 s1 r1 x dx hx hdx hne=>?_⟩
 rw [List.append_nil]
 exact ⟨x,dx,H1,G1,ds,d,vs,rfl,rfl,hx,hdx,hne,s1.gh,r1,hn ρ ds hd,hq,fun G' H' s r=>⟨rfl,k _ G' H' (s1.trans s) r⟩⟩⟩
end
def zqe (n:Nat) (c:Str) (g:FS):List D->Option D:=fun ds=>(g (some (.obj c [])::ds.map (fun d=>some (Slot.sh d))++List.replicate n none)).bind fun r=>match r.1 with
 | .nx=>match r.2[0]? with
  | some (some s)=>znc s
  | _=>none
 | _=>none
section
variable {Γ:Cn} {P:Program} {w:World} {K:PySem.W.Frag} {mg:Str->Option Value} {base:Heap} {c:Str} {attrs:List Str}
theorem Fun.okI {x qual:Str} {st:Stmt} {f C:Addr} {fd:FuncData} {N ps:List Str} {s0:Str} {k:Nat} {g:FS} (F:Fun K x qual st f fd) (S:FnScope N (s0::ps) (zao st)) (hC:Γ.cls c=some C)
  (hbody:∀ (y:Addr) (cdv:Value) (A:Around) (outer:List Env) (s:Shared) (H:Hp) (E:XK),Room k (A.deeper (envOfC qual (zao st) s.heap.objs.size f cdv)) ->
   DSs (Γ.mk1 y) (zkI CX0 P w K mg base N qual (zao st) f cdv A outer s H E).nox (zbv st) g):FnOk P w K mg base CX0 (k+1) f fd (s0::ps) (spI Γ K C ps.length (zqe (N.length - (ps.length+1)) c g)):=by
 refine F.ok S (fun vs H Q E h=>?_) (fun cdv A outer s H vs Q E hr h=>?_)
 ·obtain ⟨y,dx,H1,G,ds,d,us,rfl,_,_,_,_,_,r,hl,_⟩:=h
  rw [qh,r.length,hl,qh]
 ·obtain ⟨y,dx,H1,G,ds,d,us,rfl,rfl,hx,hdx,hne,gh,r,hl,hd,k⟩:=h
  refine ⟨_,(hbody y cdv A outer s _ E hr).1,?_⟩
  unfold zqe at hd
  obtain ⟨⟨fl,ρ'⟩,hg,hd⟩:=oBd hd
  have s1:=Step.newOwn (o:=.own y) gh hdx
  have hx1:(upd H1 dx (.own y)) y=none:=by rw [zaF (Ne.symm hne)];exact hx
  have s2:=s1.trans (Step.newOwn (o:=.ins C dx []) s1.gh hx1)
  have hlen:us.length=ds.length:=r.length
  have A0:At (Γ.mk1 y) K G H1 G (upd (upd H1 dx (.own y)) y (.ins C dx [])) (some (.obj c [])::ds.map (fun d=>some (Slot.sh d))++List.replicate (N.length - (ps.length+1)) none) (zeq N (.ref y::us)):=by
   refine ⟨s2,by simp [zeq,hlen,hl],fun i=>if i=0 then [y] else [],fun i t e=>?_,fun i j t u hij e1 e2 b hb=>?_⟩
   ·cases i with
    | zero =>
     cases e
     exact ⟨.ref y,rfl,.obj (vs:=[]) (fs:=[]) hC hx (gh.free hx) zaL rfl .nil rfl⟩
    | succ i =>
     have e:(ds.map (fun d=>some (Slot.sh d))++List.replicate (N.length - (ps.length+1)) none)[i]?=some (some t):=e
     by_cases hi:i < ds.length
     ·rw [qw (by simpa using hi),qj] at e
      obtain ⟨d',hd',e⟩:=oMd e
      cases e
      obtain ⟨v,hv,rv⟩:=r.get hd'
      refine ⟨v,?_,.sh (rv.to1 y)⟩
      unfold zeq
      show ((us.map some)++_)[i]?=some (some v)
      rw [qw (by rw [qe,hlen];exact hi),qj,hv]
      rfl
     ·rw [List.getElem?_append_right (by simpa using hi),List.getElem?_replicate] at e
      split at e <;> cases e
   ·have hb:b∈(if i=0 then [y] else []):=hb
    show b∉(if j=0 then [y] else [])
    by_cases hi:i=0
    ·subst hi
     rw [qS (Ne.symm hij)]
     exact fun z=>by cases z
    ·rw [qS hi] at hb;cases hb
  refine ⟨G,H1,G,_,fl,ρ',A0,hg,fun σ' G' H' sm A'=>?_⟩
  cases fl with
  | nx =>
   simp only at hd
   split at hd
   ·rename_i sl hs
    obtain ⟨a,G2,e1,st2,rp⟩:=A'.done hs hd
    cases e1
    exact k G2 H' st2 rp.of1
   ·cases hd
  | rt d'=>cases hd
  | ow d'=>cases hd
  | nw d'=>cases hd
  | od d'=>cases hd
  | bk=>cases hd
  | ct=>cases hd
structure DfnM (K:PySem.W.Frag) (C:Addr) (c m qual:Str) (st:Stmt):Prop where
 ex:∃ f fd,Fun K m qual st f fd/\PySem.W.findIn K (.ref C) m=some (some (.ref f))/\PySem.W.isFn K (.ref f)=true
structure ClsOk (Γ:Cn) (K:PySem.W.Frag) (mg:Str->Option Value) (c:Str) (C:Addr):Prop where
 cn:Γ.cls c=some C
 cl:Cls K C
 mgC:mg c=some (.ref C)
 makes:PySem.W.makesIn K C=true
 kp:PySem.W.keepIn K (.ref C)=true
theorem DfnM.cal {m qual:Str} {C:Addr} {st:Stmt} {N ps:List Str} {k:Nat} {g:FS} (O:ClsOk Γ K mg c C) (F:DfnM K C c m qual st) (S:FnScope N ps (zao st))
  (hb:∀ (kV doc pm:Value) (an:Option Addr) (cdv ct:Value) (us:List Value),us.length=ps.length->bindArgs (PySem.W.fnOf m qual (zcJ st) (zbv st) (zao st) .none kV doc pm an cdv ct) ⟨us,[]⟩=pure (ps.zip us))
  (hbody:∀ (f:Addr) (cdv:Value) (A:Around) (outer:List Env) (s:Shared) (H:Hp) (E:XK),Room k (A.deeper (envOfC qual (zao st) s.heap.objs.size f cdv)) ->
   DSs Γ (zkI CX0 P w K mg base N qual (zao st) f cdv A outer s H E).nox (zbv st) g):CalM Γ P w K mg base c m ps.length (k+1) (zcp (N.length - ps.length) g):=by
 obtain ⟨f,fd,h1,h2,h3⟩:=F.ex
 exact ⟨C,f,fd,ps,O.cn,O.cl,⟨h2,h3,h1.kp⟩,h1.okD S (hbody f),h1.binds hb⟩
theorem DfnM.calI {qual:Str} {C:Addr} {st:Stmt} {N ps:List Str} {s0:Str} {k:Nat} {g:FS} (O:ClsOk Γ K mg c C) (F:DfnM K C c "__init__" qual st) (S:FnScope N (s0::ps) (zao st))
  (hb:∀ (kV doc pm:Value) (an:Option Addr) (cdv ct:Value) (us:List Value),us.length=(s0::ps).length->bindArgs (PySem.W.fnOf "__init__" qual (zcJ st) (zbv st) (zao st) .none kV doc pm an cdv ct) ⟨us,[]⟩=pure ((s0::ps).zip us))
  (hbody:∀ (f y:Addr) (cdv:Value) (A:Around) (outer:List Env) (s:Shared) (H:Hp) (E:XK),Room k (A.deeper (envOfC qual (zao st) s.heap.objs.size f cdv)) ->
   DSs (Γ.mk1 y) (zkI CX0 P w K mg base N qual (zao st) f cdv A outer s H E).nox (zbv st) g):CalI Γ P w K mg base c ps.length (k+1) (zqe (N.length - (ps.length+1)) c g):=by
 obtain ⟨f,fd,h1,h2,h3⟩:=F.ex
 exact ⟨C,f,fd,s0::ps,O.cn,⟨O.makes,h2,h3,O.kp⟩,O.mgC,h1.okI S O.cn (hbody f),h1.binds hb⟩
theorem ClsOk.cf {C:Addr} (O:ClsOk Γ K mg c C) (h:∀ f∈attrs,zfd K C f):CF Γ K c attrs:=⟨C,O.cn,O.cl,h⟩
end
end L2
end
section
namespace ST
open PySem
structure Pr where
 j:Nat
 more:Nat
 i:Nat
 pt:Nat
def adv (M:Nat) (p:Pr):Pr:=if p.more > 0 then { p with j:=p.j+1,more:=p.more - 1 } else
 { j:=(SetTable.leap M p.i p.pt).1,more:=SetTable.runEnd M (SetTable.leap M p.i p.pt).1 - (SetTable.leap M p.i p.pt).1,i:=(SetTable.leap M p.i p.pt).1,pt:=(SetTable.leap M p.i p.pt).2 }
def st0 (M:Nat) (h:Int):Pr:={ j:=SetTable.bits h % (M+1),more:=SetTable.runEnd M (SetTable.bits h % (M+1)) - SetTable.bits h % (M+1),i:=SetTable.bits h % (M+1),pt:=SetTable.bits h }
def it (M:Nat) (h:Int):Nat->Pr
 | 0=>st0 M h
 | n+1=>adv M (it M h n)
def J (M:Nat) (h:Int) (n:Nat):Nat:=(it M h n).j
def lp (M:Nat) (h:Int):Nat->Nat×Nat
 | 0=>(SetTable.bits h % (M+1),SetTable.bits h)
 | r+1=>SetTable.leap M (lp M h r).1 (lp M h r).2
def zlq (M:Nat) (x:Nat×Nat):Pr:={ j:=x.1,more:=SetTable.runEnd M x.1 - x.1,i:=x.1,pt:=x.2 }
theorem zlX (M:Nat) (h:Int) (n:Nat):∀ k,it M h (n+k)=(Nat.repeat (adv M) k (it M h n))
 | 0=>rfl
 | k+1=>by rw [← Nat.add_assoc,it,zlX M h n k];rfl
theorem zq8 (M i:Nat):SetTable.runEnd M i - i<=9:=by
 unfold SetTable.runEnd
 split <;> omega
theorem zo8 (M:Nat):∀ (k:Nat) (p:Pr),k<=p.more->Nat.repeat (adv M) k p={ p with j:=p.j+k,more:=p.more - k }
 | 0,p,_=>rfl
 | k+1,p,h=>by
  rw [Nat.repeat,zo8 M k p (by omega)]
  unfold adv
  rw [qR (by show p.more - k > 0;omega)]
  simp only [Nat.sub_sub,Nat.add_assoc]
theorem zqd (M:Nat) (h:Int):∀ r,∃ n,n<=10*r/\it M h n=zlq M (lp M h r)
 | 0=>⟨0,qt _,rfl⟩
 | r+1=>by
  obtain ⟨n,hn,e⟩:=zqd M h r
  have hl:=zq8 M (lp M h r).1
  refine ⟨n+(SetTable.runEnd M (lp M h r).1 - (lp M h r).1)+1,by omega,?_⟩
  have e2:=zo8 M (SetTable.runEnd M (lp M h r).1 - (lp M h r).1) (zlq M (lp M h r)) (qt _)
  rw [it,zlX,e,e2]
  unfold adv
  rw [qS (by show ¬ ((SetTable.runEnd M (lp M h r).1 - (lp M h r).1) - (SetTable.runEnd M (lp M h r).1 - (lp M h r).1) > 0);omega)]
  rfl
theorem zsh (h:Int):SetTable.bits h < 2 ^ 64:=by
 unfold SetTable.bits
 have h1:=Int.emod_nonneg h (show (2 ^ 64:Int)≠0 by decide)
 have h2:=Int.emod_lt_of_pos h (show (0:Int) < 2 ^ 64 by decide)
 omega
theorem zte (M:Nat) (h:Int):∀ r,(lp M h r).2=SetTable.bits h / 32 ^ r
 | 0=>by simp [lp]
 | r+1=>by
  show (lp M h r).2 / 32=_
  rw [zte M h r,Nat.div_div_eq_div_mul,Nat.pow_succ]
theorem zri (M:Nat) (h:Int) {r:Nat} (hr:13<=r):(lp M h r).2=0:=by
 rw [zte]
 refine Nat.div_eq_of_lt (qB (zsh h) ?_)
 exact qH (show 2 ^ 64<=32 ^ 13 by decide) (Nat.pow_le_pow_right (by decide) hr)
def fl (M i:Nat):Nat:=(i*5+1) % (M+1)
def orb (M:Nat):Nat->Nat->Nat
 | 0,i=>i
 | m+1,i=>fl M (orb M m i)
theorem znW (M:Nat) (h:Int):∀ m,(lp M h (13+m)).1=orb M m (lp M h 13).1
 | 0=>rfl
 | m+1=>by
  show (SetTable.leap M (lp M h (13+m)).1 (lp M h (13+m)).2).1=_
  rw [zri M h (by omega),znW M h m]
  simp [SetTable.leap,orb,fl]
theorem zjc (M i:Nat) (a:Nat):∀ b,orb M (a+b) i=orb M b (orb M a i)
 | 0=>rfl
 | b+1=>by rw [← Nat.add_assoc,orb,zjc M i a b];rfl
def zu0 (M:Nat):Nat->Nat->List Nat
 | 0,_=>[]
 | n+1,i=>i::zu0 M n (fl M i)
theorem zlK (M:Nat):∀ m i,orb M (m+1) i=orb M m (fl M i)
 | 0,_=>rfl
 | m+1,i=>by rw [orb,zlK M m i];rfl
theorem zlL (M:Nat):∀ (n i j:Nat),j∈zu0 M n i->∃ m,m < n/\orb M m i=j
 | 0,_,_,h=>nomatch h
 | n+1,i,j,h=>by
  rcases List.mem_cons.mp h with e | h
  ·exact ⟨0,Nat.succ_pos _,e.symm⟩
  ·obtain ⟨m,hm,e⟩:=zlL M n (fl M i) j h
   exact ⟨m+1,by omega,by rw [zlK];exact e⟩
structure Full (M:Nat):Prop where
 all:∀ j,j<=M->∃ m,m < M+1/\orb M m 0=j
 back:orb M (M+1) 0=0
def chk (M:Nat):Bool:=(List.range (M+1)).all (fun j=>(zu0 M (M+1) 0).contains j) && orb M (M+1) 0==0
theorem zji {M:Nat} (h:chk M=true):Full M:=by
 unfold chk at h
 rw [Bool.and_eq_true,List.all_eq_true] at h
 refine ⟨fun j hj=>?_,by simpa using h.2⟩
 have:=h.1 j (List.mem_range.mpr (by omega))
 exact zlL M (M+1) 0 j (by simpa using this)
theorem zt6:Full 7:=zji (by decide +kernel)
theorem zt7:Full 31:=zji (by decide +kernel)
theorem zr0:Full 127:=zji (by decide +kernel)
theorem zrZ:Full 511:=zji (by decide +kernel)
theorem Full.reach {M:Nat} (F:Full M) {i j:Nat} (hi:i<=M) (hj:j<=M):∃ m,m<=M/\orb M m i=j:=by
 obtain ⟨a,ha,ea⟩:=F.all i hi
 obtain ⟨b,hb,eb⟩:=F.all j hj
 by_cases h:a<=b
 ·refine ⟨b - a,by omega,?_⟩
  rw [← ea,← zjc,show a+(b - a)=b by omega,eb]
 ·refine ⟨M+1 - a+b,by omega,?_⟩
  rw [← ea,← zjc,show a+(M+1 - a+b)=(M+1)+b by omega,zjc,F.back,eb]
theorem zrJ (M:Nat) (h:Int):∀ r,(lp M h r).1<=M
 | 0=>Nat.lt_succ_iff.mp (Nat.mod_lt _ (Nat.succ_pos _))
 | r+1=>Nat.lt_succ_iff.mp (Nat.mod_lt _ (Nat.succ_pos _))
theorem Full.covers {M:Nat} (F:Full M) (h:Int) {j:Nat} (hj:j<=M):∃ n,n < 10*(M+15)/\J M h n=j:=by
 obtain ⟨m,hm,e⟩:=F.reach (zrJ M h 13) hj
 obtain ⟨n,hn,en⟩:=zqd M h (13+m)
 refine ⟨n,by omega,?_⟩
 unfold J
 rw [en]
 show (lp M h (13+m)).1=j
 rw [znW,e]
theorem ztX (M:Nat) (h:Int):∀ n,(it M h n).j+(it M h n).more<=M
 | 0=>by
  have:=zrJ M h 0
  show (lp M h 0).1+(SetTable.runEnd M (lp M h 0).1 - (lp M h 0).1)<=M
  unfold SetTable.runEnd
  split <;> omega
 | n+1=>by
  have ih:=ztX M h n
  rw [it]
  unfold adv
  split
  ·show (it M h n).j+1+((it M h n).more - 1)<=M
   omega
  ·show (SetTable.leap M (it M h n).i (it M h n).pt).1+(SetTable.runEnd M (SetTable.leap M (it M h n).i (it M h n).pt).1 - (SetTable.leap M (it M h n).i (it M h n).pt).1)<=M
   have:(SetTable.leap M (it M h n).i (it M h n).pt).1<=M:=Nat.lt_succ_iff.mp (Nat.mod_lt _ (Nat.succ_pos _))
   unfold SetTable.runEnd
   split <;> omega
theorem zvu (M:Nat) (h:Int) (n:Nat):J M h n<=M:=qH (Nat.le_add_right _ _) (ztX M h n)
theorem Full.first {M:Nat} (F:Full M) (h:Int) (occ:Nat->Bool) (hf:∃ j,j<=M/\occ j=false):∃ n,n < 10*(M+15)/\occ (J M h n)=false/\∀ m,m < n->occ (J M h m)=true:=by
 obtain ⟨j,hj,hof⟩:=hf
 obtain ⟨n,hn,e⟩:=F.covers h hj
 have key:∀ n,n < 10*(M+15)->occ (J M h n)=false->∃ n,n < 10*(M+15)/\occ (J M h n)=false/\∀ m,m < n->occ (J M h m)=true:=by
  intro n
  induction n using Nat.strongRecOn with
  | ind n ih =>
   intro hn ho
   by_cases hx:∃ m,m < n/\occ (J M h m)=false
   ·obtain ⟨m,hm,hm2⟩:=hx
    exact ih m hm (by omega) hm2
   ·refine ⟨n,hn,ho,fun m hm=>?_⟩
    cases q:occ (J M h m) with
    | true=>rfl
    | false=>exact absurd ⟨m,hm,q⟩ hx
 exact key n hn (by rw [e];exact hof)
end ST
end
section
namespace ST
open PySem
theorem zjE (xs:Array Nat) (j:Nat) (hs:xs.toList.Pairwise (· < ·)):∀ (fuel lo hi:Nat),hi - lo<=fuel->lo<=hi->hi<=xs.size->(∀ i,i < lo->∀ v,xs[i]?=some v->v < j)->(∀ i,hi<=i->∀ v,xs[i]?=some v->j<=v) ->
  (SetTable.below.go xs j fuel lo hi<=xs.size)/\(∀ i,i < SetTable.below.go xs j fuel lo hi->∀ v,xs[i]?=some v->v < j)/\∀ i,SetTable.below.go xs j fuel lo hi<=i->∀ v,xs[i]?=some v->j<=v
 | 0,lo,hi,hf,hl,hh,h1,h2=>by
  have e:lo=hi:=by omega
  subst e
  exact ⟨hh,h1,h2⟩
 | fuel+1,lo,hi,hf,hl,hh,h1,h2=>by
  have mono:∀ a b va vb,a < b->xs[a]?=some va->xs[b]?=some vb->va < vb:=fun a b va vb hab ha hb=>by
   have:=List.pairwise_iff_getElem.mp hs a b
   obtain ⟨a1,a2⟩:=Array.getElem?_eq_some_iff.mp ha
   obtain ⟨b1,b2⟩:=Array.getElem?_eq_some_iff.mp hb
   have q:=this (by simpa using a1) (by simpa using b1) hab
   simpa [a2,b2] using q
  unfold SetTable.below.go
  by_cases hlt:lo < hi
  ·rw [qR hlt]
   have hm1:lo<=(lo+hi) / 2:=by omega
   have hm2:(lo+hi) / 2 < hi:=by omega
   have hget:∃ v,xs[(lo+hi) / 2]?=some v:=⟨xs[(lo+hi) / 2]'(by omega),by simp [show (lo+hi) / 2 < xs.size by omega]⟩
   obtain ⟨v,hv⟩:=hget
   have hd:xs.getD ((lo+hi) / 2) j=v:=by simp [Array.getD_eq_getD_getElem?,hv]
   dsimp only
   rw [hd]
   by_cases hvj:v < j
   ·rw [qR hvj]
    refine zjE xs j hs fuel _ _ (by omega) (by omega) hh (fun i hi' w hw=>?_) h2
    rcases Nat.lt_or_ge i ((lo+hi) / 2) with hi2 | hi2
    ·exact Nat.lt_trans (mono i _ w v hi2 hw hv) hvj
    ·have e:i=(lo+hi) / 2:=by omega
     subst e
     rw [hv] at hw;cases hw;exact hvj
   ·rw [qS hvj]
    refine zjE xs j hs fuel _ _ (by omega) (by omega) (by omega) h1 fun i hi' w hw=>?_
    rcases Nat.lt_or_ge ((lo+hi) / 2) i with hi2 | hi2
    ·exact qH (by omega) (Nat.le_of_lt (mono _ i v w hi2 hv hw))
    ·have e:i=(lo+hi) / 2:=by omega
     subst e
     rw [hv] at hw;cases hw;omega
  ·rw [qS hlt]
   have e:lo=hi:=by omega
   subst e
   exact ⟨hh,h1,h2⟩
theorem zjD (xs:Array Nat) (j:Nat) (hs:xs.toList.Pairwise (· < ·)):SetTable.below xs j<=xs.size/\(∀ i,i < SetTable.below xs j->∀ v,xs[i]?=some v->v < j)/\∀ i,SetTable.below xs j<=i->∀ v,xs[i]?=some v->j<=v :=
 zjE xs j hs xs.size 0 xs.size (qt _) (Nat.zero_le _) (qt _) (fun i h=>absurd h (Nat.not_lt_zero _)) fun i h v hv=>by
  have:=(Array.getElem?_eq_some_iff.mp hv).1
  omega
theorem zh1 (xs:Array Nat) (j i:Nat) (hs:xs.toList.Pairwise (· < ·)) (h:xs[i]?=some j):SetTable.below xs j=i:=by
 obtain ⟨h0,h1,h2⟩:=zjD xs j hs
 rcases Nat.lt_trichotomy (SetTable.below xs j) i with hl | hl | hl
 ·have hi:=(Array.getElem?_eq_some_iff.mp h).1
  have hg:xs[SetTable.below xs j]?=some (xs[SetTable.below xs j]'(by omega)):=by simp [show SetTable.below xs j < xs.size by omega]
  have q1:=h2 _ (qt _) _ hg
  have:=List.pairwise_iff_getElem.mp hs (SetTable.below xs j) i (by simp;omega) (by simpa using hi) hl
  obtain ⟨_,e⟩:=Array.getElem?_eq_some_iff.mp h
  simp only [Array.getElem_toList] at this
  omega
 ·exact hl
 ·have:=h1 i hl j h
  omega
structure Tb (t:SetTable) (es:Array (Int×Value)):Prop where
 full:Full t.mask
 sz:t.place.size=es.size
 dm:t.dummies=#[]
 ri:t.place.toList.Pairwise (· < ·)
 le:∀ j∈t.place.toList,j<=t.mask
 few:es.size*5 < t.mask*3
 rc:∀ (i j:Nat) (h:Int) (x:Value),t.place[i]?=some j->es[i]?=some (h,x)->∃ n,J t.mask h n=j/\∀ m,m < n->J t.mask h m∈t.place.toList
section
variable {t:SetTable} {es:Array (Int×Value)}
theorem Tb.live (T:Tb t es) {j i:Nat} (h:t.place[i]?=some j):t.slot j=.live i:=by
 unfold SetTable.slot
 rw [zh1 _ _ _ T.ri h]
 simp [h]
theorem Tb.empty (T:Tb t es) {j:Nat} (h:j∉t.place.toList):t.slot j=.empty:=by
 unfold SetTable.slot
 have h1:t.place[SetTable.below t.place j]?≠some j:=fun e=>h (by
  rw [← qE] at e
  exact qK e)
 have h2:SetTable.has t.dummies j=false:=by rw [T.dm];rfl
 simp [h1,h2]
theorem Tb.occ (T:Tb t es) {j:Nat} (h:j∈t.place.toList):∃ i:Nat,t.place[i]?=some j:=by
 obtain ⟨i,hi⟩:=List.mem_iff_getElem?.mp h
 exact ⟨i,by rw [← qE];exact hi⟩
theorem Tb.fits (T:Tb t es):t.fits es.size=true:=by
 have h1:=T.sz
 have h2:=T.few
 simp only [SetTable.fits,SetTable.fill,T.dm,Array.size_empty,Bool.and_eq_true,beq_iff_eq,decide_eq_true_eq]
 omega
theorem zhn:∀ (a b:List Nat),a.Nodup->(∀ x∈a,x∈b)->a.length<=b.length
 | [],_,_,_=>Nat.zero_le _
 | x::r,b,nd,h=>by
  have hx:=h x qf
  have nd':=List.nodup_cons.mp nd
  have:=zhn r (b.erase x) nd'.2 fun y hy=>(List.mem_erase_of_ne (show y≠x from fun e=>nd'.1 (by rw [← e];exact hy))).mpr (h y (qg _ hy))
  have hl:=List.length_erase_of_mem hx
  have hp:0 < b.length:=List.length_pos_of_mem hx
  rw [qh]
  omega
theorem Tb.free (T:Tb t es):∃ j,j<=t.mask/\decide (j∈t.place.toList)=false:=by
 by_cases hx:∃ j,j<=t.mask/\j∉t.place.toList
 ·obtain ⟨j,h1,h2⟩:=hx
  exact ⟨j,h1,qI h2⟩
 ·exfalso
  have all:∀ j,j<=t.mask->j∈t.place.toList:=fun j hj=>Classical.byContradiction fun hn=>hx ⟨j,hj,hn⟩
  have h1:=zhn (List.range (t.mask+1)) t.place.toList List.nodup_range fun j hj=>all j (by have:=List.mem_range.mp hj;omega)
  have h2:=T.sz
  have h3:=T.few
  simp only [qO,Array.length_toList] at h1
  omega
theorem Tb.first (T:Tb t es) (h:Int):∃ n,n < 10*(t.mask+15)/\J t.mask h n∉t.place.toList/\∀ m,m < n->J t.mask h m∈t.place.toList:=by
 obtain ⟨n,h1,h2,h3⟩:=T.full.first h (fun j=>decide (j∈t.place.toList)) T.free
 exact ⟨n,h1,of_decide_eq_false h2,fun m hm=>of_decide_eq_true (h3 m hm)⟩
def zda (p:Pr):SetTable.Probe:={ j:=p.j,more:=p.more,i:=p.i,perturb:=p.pt,dummy:=none }
theorem zqQ (t:SetTable) (p:Pr):t.advance (zda p)=zda (adv t.mask p):=by
 unfold SetTable.advance adv zda
 by_cases h:p.more > 0
 ·simp only [h,if_true]
 ·simp only [h,if_false]
theorem Tb.probe_go (T:Tb t es) (hashAt:Nat->Int) (h:Int) {n0:Nat} (hf:J t.mask h n0∉t.place.toList) (ho:∀ m,m < n0->J t.mask h m∈t.place.toList):∀ (fuel n:Nat),n<=n0->n0 < n+fuel ->
  (∃ n' i,n<=n'/\n' < n0/\t.place[i]?=some (J t.mask h n')/\hashAt i=h/\(∀ m i,n<=m->m < n'->t.place[i]?=some (J t.mask h m)->hashAt i≠h)/\SetTable.probe.go t hashAt h fuel (zda (it t.mask h n))=some (.candidate (J t.mask h n') i (zda (it t.mask h (n'+1))))) \/
  ((∀ m i,n<=m->m < n0->t.place[i]?=some (J t.mask h m)->hashAt i≠h)/\SetTable.probe.go t hashAt h fuel (zda (it t.mask h n))=some (.empty (J t.mask h n0) none))
 | 0,n,h1,h2=>by omega
 | fuel+1,n,h1,h2=>by
  unfold SetTable.probe.go
  by_cases hn:n=n0
  ·subst hn
   right
   refine ⟨fun m i a b=>by omega,?_⟩
   have hs:t.slot (zda (it t.mask h n)).j=.empty:=T.empty hf
   rw [hs]
   rfl
  ·obtain ⟨i,hi⟩:=T.occ (ho n (by omega))
   have hs:t.slot (zda (it t.mask h n)).j=.live i:=T.live hi
   rw [hs]
   dsimp only
   by_cases hh:hashAt i=h
   ·left
    refine ⟨n,i,qt _,by omega,hi,hh,fun m i a b=>by omega,?_⟩
    rw [qR (by simpa using hh),zqQ]
    rfl
   ·rw [qS (by simpa using hh),zqQ]
    have inj:∀ i',t.place[i']?=some (J t.mask h n)->i'=i:=fun i' h'=>by
     rw [← zh1 _ _ _ T.ri h',← zh1 _ _ _ T.ri hi]
    have ext:∀ {b:Nat},(∀ m i,n+1<=m->m < b->t.place[i]?=some (J t.mask h m)->hashAt i≠h)->∀ m i,n<=m->m < b->t.place[i]?=some (J t.mask h m)->hashAt i≠h:=fun {b} q m i' a c d=>by
     by_cases e:m=n
     ·subst e
      rw [inj i' d];exact hh
     ·exact q m i' (by omega) c d
    rcases T.probe_go hashAt h hf ho fuel (n+1) (by omega) (by omega) with ⟨n',i',a,b,c,d,e,f⟩ | ⟨e,f⟩
    ·exact .inl ⟨n',i',by omega,b,c,d,ext e,f⟩
    ·exact .inr ⟨ext e,f⟩
theorem zcX {α:Type} (xs:Array α) (p:Nat) (x:α) (hp:p<=xs.size):(SetTable.insertAt xs p x).toList=xs.toList.take p++x::xs.toList.drop p:=by
 unfold SetTable.insertAt
 simp [Array.toList_extract,List.extract_eq_take_drop]
 exact List.take_of_length_le (by simp)
theorem ziL {α:Type} (l:List α) (p:Nat) (x:α) (hp:p<=l.length) (i:Nat):(l.take p++x::l.drop p)[i]?=if i < p then l[i]? else if i=p then some x else l[i - 1]?:=by
 by_cases h1:i < p
 ·rw [qR h1,qw (by rw [qA];omega),List.getElem?_take_of_lt h1]
 ·rw [qS h1,List.getElem?_append_right (by rw [qA];omega),qA,Nat.min_eq_left hp]
  by_cases h2:i=p
  ·rw [qR h2,h2];simp
  ·rw [qS h2]
   obtain ⟨k,hk⟩:∃ k,i - p=k+1:=⟨i - p - 1,by omega⟩
   rw [hk,qc,List.getElem?_drop]
   congr 1
   omega
theorem zgu {α:Type} (l:List α) (p:Nat) (x y:α):y∈l.take p++x::l.drop p↔y=x\/y∈l:=by
 rw [List.mem_append,qG]
 constructor
 ·rintro (h | h | h)
  ·exact .inr (List.mem_of_mem_take h)
  ·exact .inl h
  ·exact .inr (List.mem_of_mem_drop h)
 ·rintro (h | h)
  ·exact .inr (.inl h)
  ·have:y∈l.take p++l.drop p:=by rw [List.take_append_drop];exact h
   rcases List.mem_append.mp this with h | h
   ·exact .inl h
   ·exact .inr (.inr h)
theorem Tb.put (T:Tb t es) {h:Int} {x:Value} {n0:Nat} (hf:J t.mask h n0∉t.place.toList) (ho:∀ m,m < n0->J t.mask h m∈t.place.toList) (few:(es.size+1)*5 < t.mask*3) (pl:Bool) :
  Tb { (t.put (J t.mask h n0)).1 with plain:=pl } (SetTable.insertAt es (t.put (J t.mask h n0)).2 (h,x)):=by
 obtain ⟨b0,b1,b2⟩:=zjD t.place (J t.mask h n0) T.ri
 have bes:SetTable.below t.place (J t.mask h n0)<=es.size:=by rw [← T.sz];exact b0
 have pl1:(SetTable.insertAt t.place (SetTable.below t.place (J t.mask h n0)) (J t.mask h n0)).toList=t.place.toList.take (SetTable.below t.place (J t.mask h n0))++J t.mask h n0::t.place.toList.drop (SetTable.below t.place (J t.mask h n0)):=zcX _ _ _ b0
 have el1:(SetTable.insertAt es (SetTable.below t.place (J t.mask h n0)) (h,x)).toList=es.toList.take (SetTable.below t.place (J t.mask h n0))++(h,x)::es.toList.drop (SetTable.below t.place (J t.mask h n0)):=zcX _ _ _ bes
 have szp:(SetTable.insertAt t.place (SetTable.below t.place (J t.mask h n0)) (J t.mask h n0)).size=t.place.size+1:=by
  rw [← Array.length_toList,pl1];simp;omega
 have sze:(SetTable.insertAt es (SetTable.below t.place (J t.mask h n0)) (h,x)).size=es.size+1:=by
  rw [← Array.length_toList,el1];simp;omega
 refine ⟨T.full,?_,?_,?_,?_,?_,?_⟩
 ·show (SetTable.insertAt t.place _ _).size=_
  rw [szp]
  show _=(SetTable.insertAt es (SetTable.below t.place (J t.mask h n0)) (h,x)).size
  rw [sze,T.sz]
 ·show (if SetTable.has t.dummies (J t.mask h n0)=true then _ else t.dummies)=#[]
  rw [T.dm];rfl
 ·show (SetTable.insertAt t.place (SetTable.below t.place (J t.mask h n0)) (J t.mask h n0)).toList.Pairwise (· < ·)
  rw [pl1,List.pairwise_append,List.pairwise_cons]
  have tk:∀ a∈t.place.toList.take (SetTable.below t.place (J t.mask h n0)),a < J t.mask h n0:=fun a ha=>by
   obtain ⟨i,hi⟩:=List.mem_iff_getElem?.mp ha
   have hi':i < SetTable.below t.place (J t.mask h n0):=by
    have:=(List.getElem?_eq_some_iff.mp hi).1
    rw [qA] at this;omega
   rw [List.getElem?_take_of_lt hi',qE] at hi
   exact b1 i hi' a hi
  have dr:∀ a∈t.place.toList.drop (SetTable.below t.place (J t.mask h n0)),J t.mask h n0 < a:=fun a ha=>by
   obtain ⟨i,hi⟩:=List.mem_iff_getElem?.mp ha
   rw [List.getElem?_drop,qE] at hi
   have h1:=b2 _ (Nat.le_add_right _ i) a hi
   rcases Nat.lt_or_ge (J t.mask h n0) a with q | q
   ·exact q
   ·exact absurd (by rw [← qE] at hi;have e:a=J t.mask h n0:=(by omega);rw [e] at hi;exact qK hi) hf
  refine ⟨T.ri.sublist (List.take_sublist _ _),⟨dr,T.ri.sublist (List.drop_sublist _ _)⟩,fun a ha b hb=>?_⟩
  rcases List.mem_cons.mp hb with e | hb
  ·rw [e];exact tk a ha
  ·exact Nat.lt_trans (tk a ha) (dr b hb)
 ·intro j hj
  have hj':j∈(SetTable.insertAt t.place (SetTable.below t.place (J t.mask h n0)) (J t.mask h n0)).toList:=hj
  rw [pl1,zgu] at hj'
  rcases hj' with e | hj'
  ·rw [e];exact zvu _ _ _
  ·exact T.le j hj'
 ·show (SetTable.insertAt es (SetTable.below t.place (J t.mask h n0)) (h,x)).size*5 < t.mask*3
  rw [sze];exact few
 ·intro i j h' x' e1 e2
  have e1':(SetTable.insertAt t.place (SetTable.below t.place (J t.mask h n0)) (J t.mask h n0)).toList[i]?=some j:=by rw [qE];exact e1
  have e2':(SetTable.insertAt es (SetTable.below t.place (J t.mask h n0)) (h,x)).toList[i]?=some (h',x'):=by rw [qE];exact e2
  rw [pl1,ziL _ _ _ (by simpa using b0)] at e1'
  rw [el1,ziL _ _ _ (by simpa using bes)] at e2'
  have up:∀ {n:Nat},(∀ m,m < n->J t.mask h' m∈t.place.toList)->∀ m,m < n->J t.mask h' m∈(SetTable.insertAt t.place (SetTable.below t.place (J t.mask h n0)) (J t.mask h n0)).toList:=fun q m hm=>by
   rw [pl1,zgu];exact .inr (q m hm)
  by_cases c1:i < SetTable.below t.place (J t.mask h n0)
  ·rw [qR c1] at e1' e2'
   rw [qE] at e1' e2'
   obtain ⟨n,hn,q⟩:=T.rc i j h' x' e1' e2'
   exact ⟨n,hn,up q⟩
  ·rw [qS c1] at e1' e2'
   by_cases c2:i=SetTable.below t.place (J t.mask h n0)
   ·rw [qR c2] at e1' e2'
    cases e1'
    cases e2'
    exact ⟨n0,rfl,up ho⟩
   ·rw [qS c2] at e1' e2'
    rw [qE] at e1' e2'
    obtain ⟨n,hn,q⟩:=T.rc _ j h' x' e1' e2'
    exact ⟨n,hn,up q⟩
end
end ST
end
section
namespace ST
open PySem
def zcW (owner:Array (Option Nat)) (j:Nat):Bool:=(owner.getD j (some 0)).isNone
theorem zno {M:Nat} {h:Int} {n r:Nat} (e:it M h n=zlq M (lp M h r)) {k:Nat} (hk:k < SetTable.runEnd M (lp M h r).1+1 - (lp M h r).1):J M h (n+k)=(lp M h r).1+k:=by
 unfold J
 rw [zlX,e,zo8 M k _ (by show k<=SetTable.runEnd M (lp M h r).1 - (lp M h r).1;omega)]
 rfl
theorem zpe {M:Nat} {h:Int} {n r:Nat} (e:it M h n=zlq M (lp M h r)):it M h (n+(SetTable.runEnd M (lp M h r).1+1 - (lp M h r).1))=zlq M (lp M h (r+1)):=by
 have hge:(lp M h r).1<=SetTable.runEnd M (lp M h r).1:=by unfold SetTable.runEnd;split <;> omega
 have e2:=zo8 M (SetTable.runEnd M (lp M h r).1 - (lp M h r).1) (zlq M (lp M h r)) (qt _)
 rw [show n+(SetTable.runEnd M (lp M h r).1+1 - (lp M h r).1)=n+(SetTable.runEnd M (lp M h r).1 - (lp M h r).1)+1 by omega,it,zlX,e,e2]
 unfold adv
 rw [qS (by show ¬ ((SetTable.runEnd M (lp M h r).1 - (lp M h r).1) - (SetTable.runEnd M (lp M h r).1 - (lp M h r).1) > 0);omega)]
 rfl
theorem zog {M:Nat} {h:Int} (owner:Array (Option Nat)) {rs:Nat} (hfr:zcW owner (lp M h rs).1=true):∀ (fuel r n:Nat),it M h n=zlq M (lp M h r)->r<=rs->rs < r+fuel->(∀ m,m < n->zcW owner (J M h m)=false) ->
  ∃ n',zcW owner (J M h n')=true/\(∀ m,m < n'->zcW owner (J M h m)=false)/\SetTable.layClean.free M owner fuel (lp M h r).1 (lp M h r).2=some (J M h n')
 | 0,r,n,_,h1,h2,_=>by omega
 | fuel+1,r,n,e,h1,h2,h3=>by
  unfold SetTable.layClean.free
  cases hf:(List.range (SetTable.runEnd M (lp M h r).1+1 - (lp M h r).1)).find? (fun k=>(owner.getD ((lp M h r).1+k) (some 0)).isNone) with
  | some k =>
   have hk:=List.mem_range.mp (List.mem_of_find?_eq_some hf)
   have hp:zcW owner ((lp M h r).1+k)=true:=by
    have:=List.find?_some hf
    exact this
   refine ⟨n+k,by rw [zno e hk];exact hp,fun m hm=>?_,?_⟩
   ·rcases Nat.lt_or_ge m n with c | c
    ·exact h3 m c
    ·obtain ⟨d,rfl⟩:∃ d,m=n+d:=⟨m - n,by omega⟩
     rw [zno e (by omega)]
     obtain ⟨as,bs,hab,hno⟩:=(List.find?_eq_some_iff_append.mp hf).2
     have hd:d∈as:=by
      have hl:as=List.range k:=by
       have hlen:as.length=k:=by
        have:(List.range (SetTable.runEnd M (lp M h r).1+1 - (lp M h r).1))[as.length]?=some k:=by rw [hab];simp
        rw [List.getElem?_range] at this
        ·exact qD this
        ·have:=congrArg List.length hab
         simp at this
         omega
       have:=congrArg (List.take k) hab
       rw [List.take_range,Nat.min_eq_left (by omega),← hlen,List.take_left'] at this
       ·rw [hlen] at this;exact this.symm
       ·rfl
      rw [hl];exact List.mem_range.mpr (by omega)
     have:=hno d hd
     exact Bool.eq_false_iff.mpr (fun z=>by rw [show (owner.getD ((lp M h r).1+d) (some 0)).isNone=true from z] at this;cases this)
   ·rw [zno e hk]
  | none =>
   have hn:∀ k,k < SetTable.runEnd M (lp M h r).1+1 - (lp M h r).1->zcW owner (J M h (n+k))=false:=fun k hk=>by
    rw [zno e hk]
    have:=List.find?_eq_none.mp hf k (List.mem_range.mpr hk)
    exact Bool.eq_false_iff.mpr this
   have hge:(lp M h r).1<=SetTable.runEnd M (lp M h r).1:=by unfold SetTable.runEnd;split <;> omega
   have hr:r≠rs:=fun z=>by
    subst z
    have:=hn 0 (by omega)
    rw [zno e (by omega),Nat.add_zero,hfr] at this
    cases this
   exact zog owner hfr fuel (r+1) _ (zpe e) (by omega) (by omega) fun m hm=>by
    rcases Nat.lt_or_ge m n with c | c
    ·exact h3 m c
    ·obtain ⟨d,rfl⟩:∃ d,m=n+d:=⟨m - n,by omega⟩
     exact hn d (by omega)
theorem Full.free {M:Nat} (F:Full M) (h:Int) (owner:Array (Option Nat)) (hf:∃ j,j<=M/\zcW owner j=true) :
  ∃ n,zcW owner (J M h n)=true/\(∀ m,m < n->zcW owner (J M h m)=false)/\SetTable.layClean.free M owner (SetTable.turns M) (SetTable.bits h % (M+1)) (SetTable.bits h)=some (J M h n):=by
 obtain ⟨j,hj,hjf⟩:=hf
 obtain ⟨m,hm,e⟩:=F.reach (zrJ M h 13) hj
 have hl:(lp M h (13+m)).1=j:=by rw [znW,e]
 exact zog owner (rs:=13+m) (by rw [hl];exact hjf) (SetTable.turns M) 0 0 rfl (Nat.zero_le _) (by unfold SetTable.turns;omega) fun m hm=>absurd hm (Nat.not_lt_zero _)
structure Own (M:Nat) (hs:List Int) (owner:Array (Option Nat)):Prop where
 sz:owner.size=M+1
 lt:∀ (j k:Nat),owner[j]?=some (some k)->k < hs.length
 on:∀ k,k < hs.length->∃ j:Nat,owner[j]?=some (some k)
 inj:∀ (j j' k:Nat),owner[j]?=some (some k)->owner[j']?=some (some k)->j=j'
 rc:∀ (j k:Nat) h,owner[j]?=some (some k)->hs[k]?=some h->∃ n,J M h n=j/\∀ m,m < n->zcW owner (J M h m)=false
theorem zd3 {owner:Array (Option Nat)} {j:Nat}:zcW owner j=true↔owner[j]?=some none:=by
 unfold zcW
 rw [Array.getD_eq_getD_getElem?]
 cases e:owner[j]? with
 | none=>simp
 | some o=>cases o <;> simp
theorem Own.empty (M:Nat):Own M [] (Array.replicate (M+1) none):=by
 have no:∀ (j k:Nat),(Array.replicate (M+1) (none:Option Nat))[j]?=some (some k)->False:=fun j k h=>by
  rw [Array.getElem?_replicate] at h
  split at h <;> cases h
 exact ⟨by simp,fun j k h=>(no j k h).elim,fun k h=>absurd h (Nat.not_lt_zero _),fun j _ k h _=>(no j k h).elim,fun j k _ h _=>(no j k h).elim⟩
theorem Own.room {M:Nat} {hs:List Int} {owner:Array (Option Nat)} (O:Own M hs owner) (hr:hs.length<=M):∃ j,j<=M/\zcW owner j=true:=by
 by_cases hx:∃ j,j<=M/\zcW owner j=true
 ·exact hx
 ·exfalso
  have all:∀ j,j<=M->∃ k,owner[j]?=some (some k):=fun j hj=>by
   have h1:zcW owner j≠true:=fun z=>hx ⟨j,hj,z⟩
   have h2:j < owner.size:=by rw [O.sz];omega
   cases q:owner[j] with
   | none=>exact absurd (zd3.mpr (by simp [h2,q])) h1
   | some k=>exact ⟨k,by simp [h2,q]⟩
  have pig:=zhn ((List.range (M+1)).map fun j=>((owner[j]?).join).getD 0) (List.range hs.length) ?_ ?_
  ·rw [qe,qO,qO] at pig
   omega
  ·refine List.nodup_iff_pairwise_ne.mpr (List.pairwise_map.mpr (List.Pairwise.imp_of_mem ?_ List.nodup_range))
   intro a b ha hb hab e
   obtain ⟨k,hk⟩:=all a (by have:=List.mem_range.mp ha;omega)
   obtain ⟨k',hk'⟩:=all b (by have:=List.mem_range.mp hb;omega)
   simp only [hk,hk',Option.join_some,Option.getD_some] at e
   subst e
   exact hab (O.inj a b k hk hk')
  ·intro x hx'
   obtain ⟨j,hj,rfl⟩:=List.mem_map.mp hx'
   obtain ⟨k,hk⟩:=all j (by have:=List.mem_range.mp hj;omega)
   simp only [hk,Option.join_some,Option.getD_some]
   exact List.mem_range.mpr (O.lt j k hk)
theorem Own.more {M:Nat} {hs:List Int} {owner:Array (Option Nat)} (O:Own M hs owner) {h:Int} {n:Nat} (hf:zcW owner (J M h n)=true) (ho:∀ m,m < n->zcW owner (J M h m)=false) :
  Own M (hs++[h]) (owner.setIfInBounds (J M h n) (some hs.length)):=by
 have hlt:J M h n < owner.size:=by rw [O.sz];have:=zvu M h n;omega
 have hold:=zd3.mp hf
 have get:∀ j:Nat,(owner.setIfInBounds (J M h n) (some hs.length))[j]?=if j=J M h n then some (some hs.length) else owner[j]?:=fun j=>by
  rw [Array.getElem?_setIfInBounds]
  by_cases e:J M h n=j
  ·subst e;simp [hlt]
  ·rw [qS e,qS (Ne.symm e)]
 have stay:∀ {j k:Nat},owner[j]?=some (some k)->(owner.setIfInBounds (J M h n) (some hs.length))[j]?=some (some k):=fun {j k} q=>by
  rw [get,qS]
  ·exact q
  ·intro e;rw [e,hold] at q;cases q
 have notfree:∀ {j:Nat},zcW owner j=false->zcW (owner.setIfInBounds (J M h n) (some hs.length)) j=false:=fun {j} q=>by
  refine Bool.eq_false_iff.mpr fun z=>?_
  have z':=zd3.mp z
  rw [get] at z'
  split at z'
  ·cases z'
  ·rw [zd3.mpr z'] at q;cases q
 refine ⟨by simp [O.sz],fun j k q=>?_,fun k hk=>?_,fun j j' k q q'=>?_,fun j k h' q q'=>?_⟩
 ·rw [get] at q
  rw [qi,qP]
  split at q
  ·cases q;omega
  ·have:=O.lt j k q;omega
 ·rw [qi,qP] at hk
  by_cases e:k=hs.length
  ·exact ⟨J M h n,by rw [get,qR rfl,e]⟩
  ·obtain ⟨j,hj⟩:=O.on k (by omega)
   exact ⟨j,stay hj⟩
 ·rw [get] at q q'
  split at q
  ·rename_i c
   cases q
   split at q'
   ·rename_i c';rw [c,c']
   ·have:=O.lt j' _ q';omega
  ·split at q'
   ·cases q'
    have:=O.lt j _ q;omega
   ·exact O.inj j j' k q q'
 ·rw [get] at q
  split at q
  ·rename_i c
   cases q
   rw [List.getElem?_append_right (qt _)] at q'
   simp at q'
   subst q'
   exact ⟨n,c.symm,fun m hm=>notfree (ho m hm)⟩
  ·have hk:=O.lt j k q
   rw [qw hk] at q'
   obtain ⟨n',e,r⟩:=O.rc j k h' q q'
   exact ⟨n',e,fun m hm=>notfree (r m hm)⟩
theorem Full.lays {M:Nat} (F:Full M) (hs:Array Int) (hr:hs.size<=M):∃ owner,SetTable.layClean M hs=some owner/\Own M hs.toList owner:=by
 have all:∀ (zc2 done:List Int) (owner:Array (Option Nat)),Own M done owner->(done++zc2).length<=M->∃ owner',Own M (done++zc2) owner' /\
   zc2.foldl (fun (acc:Option (Array (Option Nat)×Nat)) h=>do
    let (owner,k) ← acc
    let j ← SetTable.layClean.free M owner (SetTable.turns M) (SetTable.bits h % (M+1)) (SetTable.bits h)
    pure (owner.setIfInBounds j (some k),k+1)) (some (owner,done.length))=some (owner',(done++zc2).length):=by
  intro zc2
  induction zc2 with
  | nil=>intro done owner O _;exact ⟨owner,by rw [List.append_nil];exact O,by simp⟩
  | cons h r ih =>
   intro done owner O hl
   obtain ⟨n,h1,h2,h3⟩:=F.free h owner (O.room (by simp at hl;omega))
   have O':=O.more h1 h2
   obtain ⟨owner',O2,e⟩:=ih (done++[h]) _ O' (by simpa using hl)
   refine ⟨owner',by simpa using O2,?_⟩
   rw [List.foldl_cons]
   have e1:(do
    let (owner,k) ← some (owner,done.length)
    let j ← SetTable.layClean.free M owner (SetTable.turns M) (SetTable.bits h % (M+1)) (SetTable.bits h)
    pure (owner.setIfInBounds j (some k),k+1):Option (Array (Option Nat)×Nat))=some (owner.setIfInBounds (J M h n) (some done.length),done.length+1):=by
    show (SetTable.layClean.free M owner (SetTable.turns M) (SetTable.bits h % (M+1)) (SetTable.bits h) >>= fun j=>pure (owner.setIfInBounds j (some done.length),done.length+1))=_
    rw [h3];rfl
   rw [e1]
   rw [qi,qP] at e
   rw [e]
   simp
 obtain ⟨owner',O,e⟩:=all hs.toList [] _ (Own.empty M) (by simpa using hr)
 refine ⟨owner',?_,by simpa using O⟩
 unfold SetTable.layClean
 rw [← Array.foldl_toList]
 have e':=congrArg (Option.map (·.1)) e
 exact e'
end ST
end
section
namespace ST
open PySem
theorem zqF {α β:Type} (f:α->Option β):∀ (l:List α),(∀ k∈l,∃ y,f k=some y)->∀ i:Nat,(l.filterMap f)[i]?=(l[i]?).bind f
 | [],_,i=>by simp
 | k::r,h,i=>by
  obtain ⟨y,hy⟩:=h k qf
  rw [List.filterMap_cons_some hy]
  cases i with
  | zero=>simp [hy]
  | succ i=>simp only [qc];exact zqF f r (fun k hk=>h k (qg _ hk)) i
theorem zqE {α β:Type} (f:α->Option β):∀ (l:List α),(∀ k∈l,∃ y,f k=some y)->(l.filterMap f).length=l.length
 | [],_=>rfl
 | k::r,h=>by
  obtain ⟨y,hy⟩:=h k qf
  rw [List.filterMap_cons_some hy,qh,qh,zqE f r fun k hk=>h k (qg _ hk)]
def zeg (M:Nat) (owner:Array (Option Nat)):List (Nat×Nat):=(List.range (M+1)).filterMap fun j=>(owner.getD j none).map (j,·)
theorem zdr {M:Nat} {owner:Array (Option Nat)} (hsz:owner.size=M+1) {j k:Nat}:(j,k)∈zeg M owner↔owner[j]?=some (some k):=by
 unfold zeg
 rw [List.mem_filterMap]
 constructor
 ·rintro ⟨j',hj',e⟩
  rw [Array.getD_eq_getD_getElem?] at e
  cases q:owner[j']? with
  | none=>rw [q] at e;cases e
  | some o =>
   rw [q] at e
   cases o with
   | none=>cases e
   | some k'=>cases e;exact q
 ·intro q
  have hj:j < owner.size:=(Array.getElem?_eq_some_iff.mp q).1
  exact ⟨j,List.mem_range.mpr (by omega),by rw [Array.getD_eq_getD_getElem?,q];rfl⟩
theorem zhI (M:Nat) (owner:Array (Option Nat)):((zeg M owner).map (·.1)).Pairwise (· < ·):=by
 unfold zeg
 rw [List.pairwise_map]
 refine List.Pairwise.filterMap _ ?_ (List.pairwise_lt_range (n:=M+1))
 intro a a' haa b hb b' hb'
 obtain ⟨k,_,rfl⟩:=oMd hb
 obtain ⟨k',_,rfl⟩:=oMd hb'
 exact haa
theorem zmB {M:Nat} {hs:List Int} {owner:Array (Option Nat)} (O:Own M hs owner):((zeg M owner).map (·.2)).Nodup:=by
 have h1:=List.pairwise_map.mp (zhI M owner)
 refine List.nodup_iff_pairwise_ne.mpr (List.pairwise_map.mpr (List.Pairwise.imp_of_mem ?_ h1))
 rintro ⟨j,k⟩ ⟨j',k'⟩ ha hb hlt e
 have e':k=k':=e
 subst e'
 have:=O.inj j j' k ((zdr O.sz).mp ha) ((zdr O.sz).mp hb)
 have hlt':j < j':=hlt
 omega
theorem zpA {M:Nat} {hs:List Int} {owner:Array (Option Nat)} (O:Own M hs owner):(zeg M owner).length=hs.length:=by
 have h1:=zhn ((zeg M owner).map (·.2)) (List.range hs.length) (zmB O) fun k hk=>by
  obtain ⟨⟨j,k'⟩,hm,rfl⟩:=List.mem_map.mp hk
  exact List.mem_range.mpr (O.lt j k' ((zdr O.sz).mp hm))
 have h2:=zhn (List.range hs.length) ((zeg M owner).map (·.2)) List.nodup_range fun k hk=>by
  obtain ⟨j,hj⟩:=O.on k (List.mem_range.mp hk)
  exact List.mem_map.mpr ⟨(j,k),(zdr O.sz).mpr hj,rfl⟩
 rw [qe,qO] at h1 h2
 omega
theorem Full.relaid {t:SetTable} {es:Array (Int×Value)} {wanted:Nat} (F:Full (SetTable.sizeAbove wanted - 1)) (few:es.size*5 < (SetTable.sizeAbove wanted - 1)*3) :
  ∃ t' order,t.relaid (es.map (·.1)) wanted=some (t',order)/\(order.filterMap (es[·]?)).size=es.size/\Tb t' (order.filterMap (es[·]?))/\(∀ e,e∈(order.filterMap (es[·]?)).toList↔e∈es.toList)/\t'.mask=SetTable.sizeAbove wanted - 1/\t'.led=t.led:=by
 generalize hM:SetTable.sizeAbove wanted - 1=M at F few
 obtain ⟨owner,hl,O⟩:=F.lays (es.map (·.1)) (by simp;omega)
 have hlen:(es.map (·.1)).toList.length=es.size:=by simp
 have llen:(zeg M owner).length=es.size:=by rw [zpA O,hlen]
 refine ⟨{ mask:=M,place:=((zeg M owner).map (·.1)).toArray,dummies:=#[],finger:=t.finger,led:=t.led,moves:=t.movedTo M,plain:=t.plain },((zeg M owner).map (·.2)).toArray,?_,?_⟩
 ·unfold SetTable.relaid
  rw [hM]
  unfold SetTable.laid
  rw [hl]
  rfl
 ·have hall:∀ k∈(zeg M owner).map (·.2),∃ y,es[k]?=some y:=fun k hk=>by
   obtain ⟨⟨j,k'⟩,hm,rfl⟩:=List.mem_map.mp hk
   have:=O.lt j k' ((zdr O.sz).mp hm)
   rw [hlen] at this
   exact ⟨es[k'],by simp [this]⟩
  have etl:(Array.filterMap (fun x=>es[x]?) ((zeg M owner).map (·.2)).toArray).toList=((zeg M owner).map (·.2)).filterMap (fun x=>es[x]?):=by simp
  have esz:(Array.filterMap (fun x=>es[x]?) ((zeg M owner).map (·.2)).toArray).size=es.size:=by
   rw [← Array.length_toList,etl,zqE _ _ hall,qe,llen]
  refine ⟨esz,⟨F,?_,rfl,?_,?_,?_,?_⟩,fun e=>?_,rfl,rfl⟩
  ·rw [esz];simp [llen]
  ·show ((zeg M owner).map (·.1)).toArray.toList.Pairwise (· < ·)
   exact zhI M owner
  ·intro j hj
   have hj':j∈(zeg M owner).map (·.1):=hj
   obtain ⟨⟨j',k⟩,hm,rfl⟩:=List.mem_map.mp hj'
   have:=(Array.getElem?_eq_some_iff.mp ((zdr O.sz).mp hm)).1
   rw [O.sz] at this
   show j'<=M
   omega
  ·rw [esz];exact few
  ·intro i j h x e1 e2
   have e1':((zeg M owner).map (·.1))[i]?=some j:=by simpa using e1
   rw [← qE,etl,zqF _ _ hall,qj] at e2
   rw [qj] at e1'
   obtain ⟨⟨j',k⟩,hm,rfl⟩:=oMd e1'
   rw [hm] at e2
   have e2':es[k]?=some (h,x):=e2
   have ho:=(zdr O.sz).mp (qK hm)
   obtain ⟨n,hn,q⟩:=O.rc j' k h ho (by simp [e2'])
   refine ⟨n,hn,fun m hm'=>?_⟩
   have hnf:=q m hm'
   have hle:=zvu M h m
   have hlt:J M h m < owner.size:=by rw [O.sz];omega
   cases c:owner[J M h m] with
   | none =>
    rw [zd3.mpr (by simp [hlt,c])] at hnf;cases hnf
   | some k' =>
    show J M h m∈(zeg M owner).map (·.1)
    exact List.mem_map.mpr ⟨(J M h m,k'),(zdr O.sz).mpr (by simp [hlt,c]),rfl⟩
  ·rw [etl,List.mem_filterMap]
   constructor
   ·rintro ⟨k,_,hk⟩
    rw [← qE] at hk
    exact qK hk
   ·intro he
    obtain ⟨k,hk⟩:=List.mem_iff_getElem?.mp he
    rw [qE] at hk
    have hlt:=(Array.getElem?_eq_some_iff.mp hk).1
    obtain ⟨j,hj⟩:=O.on k (by rw [hlen];exact hlt)
    exact ⟨k,List.mem_map.mpr ⟨(j,k),(zdr O.sz).mpr hj,rfl⟩,hk⟩
def Mk (M:Nat):Prop:=M=7\/M=31\/M=127\/M=511
theorem Mk.full {M:Nat} (h:Mk M):Full M:=by
 rcases h with h | h | h | h <;> subst h
 ·exact zt6
 ·exact zt7
 ·exact zr0
 ·exact zrZ
theorem Mk.grow {M n:Nat} (h:Mk M) (h1:n*5 < M*3) (h2:¬ (n+1)*5 < M*3) (hn:n<=300):Mk (SetTable.sizeAbove (SetTable.grown (n+1)) - 1)/\(n+1)*5 < (SetTable.sizeAbove (SetTable.grown (n+1)) - 1)*3/\SetTable.sizeAbove (SetTable.grown (n+1))<=512:=by
 rcases h with h | h | h | h <;> subst h
 ·have:n=4:=by omega
  subst this
  exact ⟨.inr (.inl (by decide)),by decide,by decide⟩
 ·have:n=18:=by omega
  subst this
  exact ⟨.inr (.inr (.inl (by decide))),by decide,by decide⟩
 ·have:n=76:=by omega
  subst this
  exact ⟨.inr (.inr (.inr (by decide))),by decide,by decide⟩
 ·omega
end ST
end
section
namespace ST
open PySem PySem.Spec PyProof.Rows
section
variable {prog:Program} {w:World} {A:Around} {R:Result->Shared->Prop} {I:Addr} {fp wr:List Addr} {G:Array GenState->Array GenState->Prop} {n:Nat} {P:Nat->Value->Prop} {St:Nat->Shared->Prop}
def zvU (prog:Program) (w:World) (A:Around) (S:Addr) (Ba:Heap->Prop) (P:Nat->Value->Prop) (n:Nat) (J:Nat->Obj->Prop):Prop :=
 ∀ (i:Nat) (v:Value) (s:Shared) (o:Obj) (Q:Bool->Shared->Prop) (E:Value->Shared->Prop),i < n->P i v->s.heap.get? S=some o->J i o->Ba s.heap ->
  (∀ b h' tk o',s.toks<=tk->Heap.SameBut S s.heap h'->h'.get? S=some o'->J (i+1) o'->Q b { s with heap:=h',toks:=tk })->wpAny (model prog w) A (setAdd S v) Q E s
theorem zpb (W:WalksS prog w A.in1 I fp wr G n P St) (S:Addr) (hSf:S∉fp) (Ba:Heap->Prop) (hBa:∀ h h',Ba h->(∀ b o,b∉S::wr->h.get? b=some o->h'.get? b=some o)->Ba h') (J:Nat->Obj->Prop) (hadd:zvU prog w A.in1 S Ba P n J) :
  ∀ (k i:Nat) (s:Shared) (o:Obj),n - i=k->i<=n->St i s->s.heap.get? S=some o->J i o->Ba s.heap ->
   (∀ s' o',Moved (S::wr) G s s'->s'.heap.get? S=some o'->J n o'->R (.ok (.ret .none)) s') ->
   codeAny (model prog w) A (.builtin "set.update.loop" ⟨[.ref S,.ref I],[]⟩) R s:=by
 have hSw:S∉wr:=fun h=>hSf (W.sub _ h)
 have hsub:∀ b∈wr,b∈S::wr:=fun b hb=>qg _ hb
 intro k
 induction k with
 | zero =>
  intro i s o hk hi hst hS hJ hB hR
  have hin:i=n:=by omega
  subst hin
  refine codeAny_builtin F.entry_set_update_loop ?_
  rw [Around.under_plainId F.plain_set_update_loop _]
  show wpAny _ A.in1 (pyNext (.ref I) >>= _) _ _ s
  refine qu (W.done s _ _ hst fun s' hm=>?_)
  show wpAny _ A.in1 (ret Value.none) _ _ s'
  exact qx (hR s' o (hm.mono hsub) (hm.heap S _ hSw hS) hJ)
 | succ k ih =>
  intro i s o hk hi hst hS hJ hB hR
  have hlt:i < n:=by omega
  refine codeAny_builtin F.entry_set_update_loop ?_
  rw [Around.under_plainId F.plain_set_update_loop _]
  show wpAny _ A.in1 (pyNext (.ref I) >>= _) _ _ s
  refine qu (W.item i s _ _ hlt hst fun v s' hP hst' hm=>?_)
  show wpAny _ A.in1 (holding [v] (setAdd S v) >>= _) _ _ s'
  refine qu (wpAny_holding ?_)
  refine hadd i v s' o _ _ hlt hP (hm.heap S _ hSw hS) hJ (hBa _ _ hB fun b o hb e=>hm.heap b o (fun z=>hb (hsub b z)) e) fun b h' tk o' htk hsb hS' hJ'=>?_
  refine qx ⟨plainId_quiet F.plain_set_update_loop _,ih (i+1) _ o' (by omega) hlt (W.frame _ s' _ _ hst' htk fun b hb o e=>?_) hS' hJ' ?_ fun s'' o'' hm'' hS'' hJ''=>?_⟩
  ·rw [hsb.2 b (fun h:b=S=>hSf (by rw [← h];exact hb))];exact e
  ·refine hBa _ _ (hBa _ _ hB fun b o hb e=>hm.heap b o (fun z=>hb (hsub b z)) e) fun b o hb e=>?_
   show h'.get? b=some o
   rw [hsb.2 b (fun h:b=S=>hb (by rw [h];exact qf))];exact e
  ·refine hR s'' o'' (Moved.trans W.gtrans ((hm.mono hsub).then_heap htk fun b o hb e=>?_) hm'') hS'' hJ''
   rw [hsb.2 b (fun h:b=S=>hb (by rw [h];exact qf))];exact e
end
section
variable {prog:Program} {w:World} {A:Around} {E:Value->Shared->Prop} {s:Shared}
set_option maxRecDepth 100000 in
set_option maxHeartbeats 3200000 in
theorem zg2 {l:Addr} {items:Array Value} {Q:Value->Shared->Prop} (hh:A.handled=none) (hl:s.heap.IsList l items) (J:Nat->Obj->Prop)
  (hJ0:∀ led:Bool,J 0 { cls:=.type "set",dict:=none,data:=.set #[] 0 (.fresh 0 0 led) })
  (hadd:∀ A':Around,A'.units<=A.units+16->zvU prog w A' s.heap.objs.size (fun h=>∀ b o,b < s.heap.objs.size->s.heap.get? b=some o->h.get? b=some o) (fun i v=>items[i]?=some v) items.size J)
  (h:∀ (h':Heap) (tk:Nat) (o:Obj),h'.get? s.heap.objs.size=some o->J items.size o ->
   (∀ b o,b < s.heap.objs.size->s.heap.get? b=some o->h'.get? b=some o)->Q (.ref s.heap.objs.size) { s with heap:=h',toks:=tk }) :
  wpAny (model prog w) A (call (.type "set") [.ref l]) Q E s:=by
 obtain ⟨c,tl,hmro⟩:=F.called_set.mro
 have hmade:=F.called_set.made
 have hsub:=F.called_set.sub
 refine wpAny_call (codeAny_of_tree ?_)
 show wpAny _ _ (callAny (.type "set") _) _ _ _
 refine qx ⟨Code.quiet_builtin _ (by decide +kernel),codeAny_builtin F.entry_type_call ?_⟩
 rw [Around.under_plain (weight_type_call_type "set" [.ref l] []) rfl]
 have h1:=F.called_set.notType
 have h2:=F.called_set.canCreate
 have hct:=F.typeCall_set_1 (.ref l)
 repeat (any_goals (first | assumption | wp_step))
 refine codeAny_mono (code_set_new_1 (.ref l) (E:=E) (Q₁:=fun obj s₁=>∃ led:Bool,obj=.ref s.heap.objs.size/\s₁={ s with heap:=s.heap.push { cls:=.type "set",dict:=none,data:=.set #[] 0 (.fresh 0 0 led) } }) fun led=>⟨led,rfl,rfl⟩) fun r s₁ hr=>?_
 cases r with
 | error e=>exact hr
 | ok fl =>
  cases fl with
  | ret obj =>
   obtain ⟨led,rfl,rfl⟩:=hr
   have hS:(s.heap.push { cls:=.type "set",dict:=none,data:=.set #[] 0 (.fresh 0 0 led) }).get? s.heap.objs.size=some { cls:=.type "set",dict:=none,data:=.set #[] 0 (.fresh 0 0 led) }:=qC _ rfl
   have hT:Shared.TypeIs { s with heap:=s.heap.push { cls:=.type "set",dict:=none,data:=.set #[] 0 (.fresh 0 0 led) } } (.ref s.heap.objs.size) "set":=⟨_,hS,rfl⟩
   have hli:=F.called_set.init.lookup
   have hbi:=F.called_set.init.bind (.ref s.heap.objs.size)
   repeat (any_goals (first | assumption | wp_step))
   refine codeAny_mono (codeAny_call_builtin (R:=wants (fun r s₂=>r=.none/\∃ h' tk o,s₂={ s with heap:=h',toks:=tk }/\h'.get? s.heap.objs.size=some o/\J items.size o /\
     (∀ b o,b < s.heap.objs.size->s.heap.get? b=some o->h'.get? b=some o)) E) F.called_set.init.plain F.entry_set_init (check_set_init_1 hT ?_)) fun r₂ s₂ hr₂=>?_
   ·obtain ⟨ol,hol,hcl,nl,hdl⟩:=hl
    obtain ⟨ocls,odict,odata,oslots⟩:=ol
    simp only at hcl hdl
    subst hcl;subst hdl
    have hol':(s.heap.push { cls:=.type "set",dict:=none,data:=.set #[] 0 (.fresh 0 0 led) }).get? l=some { cls:=.type "list",dict:=odict,data:=.seq items nl,slots:=oslots }:=qq _ hol
    have hsls:=F.sub_list_set
    have hslf:=F.sub_list_frozenset
    have hne:(Value.type "list"==Value.type "dict")=false:=by decide
    have hl1:(s.heap.push { cls:=.type "set",dict:=none,data:=.set #[] 0 (.fresh 0 0 led) }).IsList l items:=⟨_,hol',rfl,nl,rfl⟩
    unfold Builtin.«set.__init__» noKeywords Builtin.Frozenset.updateFrom
    generalize hPI:pyIter=PI
    wp_walk
    subst hPI
    refine wpAny_pyIter_list hl1 ?_
    refine qu (wpAny_runValue ?_)
    have hlS:l < s.heap.objs.size:=qr hol
    have hh3:A.in1.in1.in1.handled=none:=by simp [hh]
    have hneI:l≠(s.heap.push { cls:=.type "set",dict:=none,data:=.set #[] 0 (.fresh 0 0 led) }).objs.size:=by
     rw [Heap.size_push];exact qz (Nat.lt_succ_of_lt hlS)
    have hSf:s.heap.objs.size∉[(s.heap.push { cls:=.type "set",dict:=none,data:=.set #[] 0 (.fresh 0 0 led) }).objs.size,l]:=by
     rw [Heap.size_push];simp only [qG,List.mem_singleton,qF,or_false,not_or]
     exact ⟨qz (Nat.lt_succ_self _),Nat.ne_of_gt hlS⟩
    have hget:((s.heap.push { cls:=.type "set",dict:=none,data:=.set #[] 0 (.fresh 0 0 led) }).push { cls:=.type "list_iterator",data:=.fields #[.ref l,.int 0 0] }).get? s.heap.objs.size
       = some { cls:=.type "set",dict:=none,data:=.set #[] 0 (.fresh 0 0 led) }:=qq _ hS
    refine zpb ((Walks.list hh3 _ l hneI items).toS) s.heap.objs.size
     hSf (fun h=>∀ b o,b < s.heap.objs.size->s.heap.get? b=some o->h.get? b=some o) (fun h h' hB hk b o hb e=>hk b o ?_ (hB b o hb e)) J (hadd _ (by show A.units+3<=_;omega)) (items.size - 0) 0 _ _ (by omega) (Nat.zero_le _)
     ⟨⟨_,qC _ rfl,rfl,rfl⟩,(hl1.push _)⟩ hget (hJ0 led) (fun b o hb e=>qq _ (qq _ e)) ?hR
    ·have hb1:b≠s.heap.objs.size:=qz hb
     have hb2:b≠(s.heap.push { cls:=.type "set",dict:=none,data:=.set #[] 0 (.fresh 0 0 led) }).objs.size:=by
      rw [Heap.size_push];exact qz (Nat.lt_succ_of_lt hb)
     simp only [qG,List.mem_singleton,qF,or_false,not_or];exact ⟨hb1,hb2⟩
    case hR =>
     intro s' o' hm hS' hJ'
     obtain ⟨h',g',d',tk',os'⟩:=s'
     have eg:g'=s.gens:=hm.gens
     have ed:d'=s.drawn:=hm.drawn
     have eo:os'=s.os:=hm.os
     subst eg;subst ed;subst eo
     show wpAny _ _ _ _ _ _
     refine qx ?_
     show wpAny _ _ (ret Value.none) _ _ _
     refine qx ⟨rfl,h',tk',o',rfl,hS',hJ',fun b o hb e=>?_⟩
     have hb1:b≠s.heap.objs.size:=qz hb
     have hb2:b≠(s.heap.push { cls:=.type "set",dict:=none,data:=.set #[] 0 (.fresh 0 0 led) }).objs.size:=by
      rw [Heap.size_push];exact qz (Nat.lt_succ_of_lt hb)
     exact hm.heap b o (by simp only [qG,List.mem_singleton,qF,or_false,not_or];exact ⟨hb1,hb2⟩) (qq _ (qq _ e))
   ·cases r₂ with
    | error e=>exact hr₂
    | ok fl₂ =>
     cases fl₂ with
     | ret r =>
      obtain ⟨rfl,h',tk,o',rfl,hS',hJ',hk'⟩:=hr₂
      repeat (any_goals (first | assumption | wp_step))
      exact h _ _ _ hS' hJ' hk'
     | _=>exact hr₂.elim
  | _=>exact hr.elim
end
end ST
end
section
namespace ST
open PySem PySem.Spec PyProof.Rows
def dd {κ:Type} [DecidableEq κ] (l:List κ):List κ:=l.foldl (fun a k=>if k∈a then a else a++[k]) []
theorem zld {κ:Type} [DecidableEq κ] (l:List κ) (k:κ):dd (l++[k])=if k∈dd l then dd l else dd l++[k]:=by
 unfold dd;rw [List.foldl_append];rfl
theorem zkm {κ:Type} [DecidableEq κ] (l:List κ):(dd l).length<=l.length:=by
 have key:∀ (l a:List κ),(l.foldl (fun a k=>if k∈a then a else a++[k]) a).length<=a.length+l.length:=by
  intro l
  induction l with
  | nil=>intro a;exact qt _
  | cons k r ih =>
   intro a
   rw [List.foldl_cons]
   refine qH (ih _) ?_
   split
   ·simp only [qh];omega
   ·simp only [qi,qh,qk];omega
 have:=key l []
 simpa [dd] using this
section
variable {prog:Program} {w:World} {κ:Type} [DecidableEq κ] {knd:KeyKind prog w κ} {A:Around} {E:Value->Shared->Prop} {s:Shared}
theorem zgv {ks:List κ} {a:Addr} {Q:Bool->Shared->Prop} (hk:IsTupleKey knd s.heap ks a) (hsc:∀ v k,knd.is k v=true->v.scannable=true) (h:∀ b,Q b s):wpAny (model prog w) A (hashByValue 8 (.ref a)) Q E s:=by
 have hT:=hk.typeIs
 obtain ⟨o,items,n,ho,_,hd,hi⟩:=hk
 unfold hashByValue
 refine qu (wpAny_specialOf hT F.slot_tuple_hash.lookup ?_)
 refine qu (wpAny_seqItems ho hd ?_)
 refine qu ?_
 show wpAny _ _ (forIn items _ _) _ _ s
 rw [← Array.forIn_toList]
 have hall:∀ v∈items.toList,v.scannable=true:=by
  have:∀ {x:List κ} {vs:List Value},ItemsAre knd x vs->∀ v∈vs,v.scannable=true:=by
   intro x vs q
   induction q with
   | nil=>intro v hv;cases hv
   | cons h1 _ ih =>
    intro v hv
    rcases List.mem_cons.mp hv with rfl | hv
    ·exact hsc _ _ h1
    ·exact ih v hv
  exact this hi
 refine wpAny_forIn_list _ (fun zc2 r s'=>s'=s/\∀ v∈zc2,v.scannable=true) _ ?_ ?_ _ _ ⟨rfl,hall⟩
 ·rintro v zc2 r s' ⟨rfl,hv⟩
  rw [hashByValue_scannable _ (hv v qf)]
  refine qu (qx ?_)
  cases hp:plainKind v with
  | true =>
   simp only [Bool.not_true,qo,if_false]
   exact qx ⟨rfl,fun u hu'=>hv u (qg _ hu')⟩
  | false =>
   simp only [Bool.not_false,if_true]
   first | exact qx (qx (h _)) | exact qx (h _) | exact qu (qx (qx (qx (h _))))
 ·rintro ⟨r1,r2⟩ s' ⟨rfl,_⟩
  first | exact qx (h _) | (cases r1 <;> exact qx (h _))
theorem zf2 {ks:List κ} {a:Addr} {Q:Bool->Shared->Prop} (hk:IsTupleKey knd s.heap ks a) (h:Q false s):wpAny (model prog w) A (ofAClassStatement 8 (.ref a)) Q E s:=by
 have hT:=hk.typeIs
 obtain ⟨o,items,n,ho,_,hd,hi⟩:=hk
 unfold ofAClassStatement
 refine qu (wpAny_typeOf hT ?_)
 dsimp only
 rw [qR (by decide)]
 refine qu (qx ?_)
 simp only [Bool.not_true,qo,if_false]
 refine qu (wpAny_seqItems ho hd ?_)
 refine qu ?_
 show wpAny _ _ (forIn items _ _) _ _ s
 rw [← Array.forIn_toList]
 refine wpAny_forIn_list _ (fun zc2 r s'=>r.1=none/\s'=s/\∀ v∈zc2,carriedByValue v=true) _ ?_ ?_ _ _ ⟨rfl,rfl,hi.byValue⟩
 ·rintro v zc2 r s' ⟨hr,rfl,hv⟩
  have e:ofAClassStatement 7 v=pure false:=by
   have:=hv v qf
   cases v with
   | ref b=>simp [carriedByValue] at this
   | _=>rfl
  rw [e]
  refine qu (qx ?_)
  simp only [qo,if_false]
  exact qx ⟨rfl,rfl,fun u hu'=>hv u (qg _ hu')⟩
 ·rintro ⟨r1,r2⟩ s' ⟨hr,rfl,_⟩
  simp only at hr
  subst hr
  exact qx h
theorem zsF {ks:List κ} {a:Addr} {Q:Bool->Shared->Prop} (hk:IsTupleKey knd s.heap ks a) (st:List Value) (hst:∀ y∈st,∃ k b,y=.ref b/\IsTupleKey knd s.heap k b) (h:Q false s):wpAny (model prog w) A (searchCouldBeSeen (.ref a) st) Q E s:=by
 unfold searchCouldBeSeen
 refine qu ?_
 refine wpAny_forIn_list _ (fun zc2 r s'=>r.1=none/\s'=s/\∀ y∈zc2,∃ k b,y=.ref b/\IsTupleKey knd s.heap k b) _ ?_ ?_ _ _ ⟨rfl,rfl,hst⟩
 ·rintro v zc2 r s' ⟨hr,rfl,hv⟩
  obtain ⟨k,b,rfl,hb⟩:=hv v qf
  dsimp only
  split
  ·exact qx ⟨rfl,rfl,fun u hu'=>hv u (qg _ hu')⟩
  ·refine qu (wpAny_eqIsQuiet_tuple hk ?_)
   simp only [Bool.not_true,qo,if_false]
   refine qu (wpAny_eqIsQuiet_tuple hb ?_)
   simp only [Bool.not_true,qo,if_false]
   refine qu (zf2 hk ?_)
   simp only [qo,if_false]
   refine qu (zf2 hb ?_)
   simp only [qo,if_false]
   exact qx ⟨rfl,rfl,fun u hu'=>hv u (qg _ hu')⟩
 ·rintro ⟨r1,r2⟩ s' ⟨hr,rfl,_⟩
  simp only at hr
  subst hr
  exact qx h
end
end ST
end
section
namespace ST
open PySem PySem.Spec PyProof.Rows
theorem zhB {t:SetTable} {es:Array (Int×Value)} (T:Tb t es) {hashAt:Nat->Int} {h:Int} {p:SetTable.Probe} {r:Option SetTable.Met} {n n0:Nat} (hp:t.probe hashAt h p=r) (hpp:p=zda (it t.mask h n)) (hn:n<=n0) (hn0:n0 < 10*(t.mask+15))
  (hf:J t.mask h n0∉t.place.toList) (ho:∀ m,m < n0->J t.mask h m∈t.place.toList) :
  (∃ n' i,n<=n'/\n' < n0/\t.place[i]?=some (J t.mask h n')/\hashAt i=h/\(∀ m i,n<=m->m < n'->t.place[i]?=some (J t.mask h m)->hashAt i≠h)/\r=some (.candidate (J t.mask h n') i (zda (it t.mask h (n'+1))))) \/
  ((∀ m i,n<=m->m < n0->t.place[i]?=some (J t.mask h m)->hashAt i≠h)/\r=some (.empty (J t.mask h n0) none)):=by
 subst hpp
 subst hp
 unfold SetTable.probe
 exact T.probe_go hashAt h hf ho (10*SetTable.turns t.mask) n hn (by unfold SetTable.turns;omega)
theorem zkW {t:SetTable} {es:Array (Int×Value)} (T:Tb t es) {hashAt:Nat->Int} {h:Int} {p:SetTable.Probe} {n n0:Nat} (hp:∀ met,t.probe hashAt h p=some met->False) (hpp:p=zda (it t.mask h n)) (hn:n<=n0) (hn0:n0 < 10*(t.mask+15))
  (hf:J t.mask h n0∉t.place.toList) (ho:∀ m,m < n0->J t.mask h m∈t.place.toList):False:=by
 rcases zhB T (r:=t.probe hashAt h p) rfl hpp hn hn0 hf ho with ⟨n',i,_,_,_,_,_,g6⟩ | ⟨_,g2⟩
 ·exact hp _ g6
 ·exact hp _ g2
section
variable {prog:Program} {w:World} {κ:Type} [DecidableEq κ] {knd:KeyKind prog w κ} {A:Around} {E:Value->Shared->Prop} {s:Shared}
def zup (knd:KeyKind prog w κ) (h:Heap) (es:Array (Int×Value)):Prop:=∀ (i:Nat) e,es[i]?=some e->∃ k b,e=(tupleKeyHash knd k,.ref b)/\IsTupleKey knd h k b
theorem Mk.odd {M:Nat} (h:Mk M):(M % 2==0)=false:=by
 rcases h with rfl | rfl | rfl | rfl <;> rfl
theorem zni {S a:Addr} {o:Obj} {es:Array (Int×Value)} {ep:Nat} {t:SetTable} {k:List κ} {n0:Nat} {Q:SetFound->Shared->Prop} (hu:A.units < cLine) (ho:s.heap.get? S=some o) (hd:o.data=.set es ep t) (T:Tb t es) (hM:Mk t.mask)
  (hk:IsTupleKey knd s.heap k a) (he:zup knd s.heap es) (hf:J t.mask (tupleKeyHash knd k) n0∉t.place.toList) (hocc:∀ m,m < n0->J t.mask (tupleKeyHash knd k) m∈t.place.toList) (hn0:n0 < 10*(t.mask+15))
  (hyes:∀ (i:Nat) (b:Addr),es[i]?=some (tupleKeyHash knd k,.ref b)->IsTupleKey knd s.heap k b->Q (.there none) s)
  (hno:(∀ (i:Nat) (b:Addr),es[i]?=some (tupleKeyHash knd k,.ref b)->¬ IsTupleKey knd s.heap k b)->Q (.free (J t.mask (tupleKeyHash knd k) n0) false) s) :
  ∀ (fuel n:Nat) (stand:Option SetTable.Probe),n0 - n < fuel->n<=n0->(stand.getD (t.probeStart (tupleKeyHash knd k))=zda (it t.mask (tupleKeyHash knd k) n)) ->
   (∀ (m i:Nat) (b:Addr),m < n->t.place[i]?=some (J t.mask (tupleKeyHash knd k) m)->es[i]?=some (tupleKeyHash knd k,.ref b)->¬ IsTupleKey knd s.heap k b) ->
   wpAny (model prog w) A (setSearchFrom S (.ref a) (tupleKeyHash knd k) true fuel stand) Q E s:=by
 intro fuel
 induction fuel with
 | zero=>intro n stand h1;omega
 | succ fuel ih =>
  intro n stand h1 h2 hs hw
  unfold setSearchFrom
  refine qu (wpAny_setState_of ho hd T.fits ?_)
  dsimp only
  have hg:t.gaveWay=false:=hM.odd
  rw [hg]
  simp only [qo,if_false]
  split
  ·rename_i met hp
   rcases zhB T hp hs h2 hn0 hf hocc with ⟨n',i,g1,g2,g3,g4,g5,g6⟩ | ⟨g1,g2⟩
   ·cases g6
    have hi:i < es.size:=by
     have:=(Array.getElem?_eq_some_iff.mp g3).1
     rw [T.sz] at this
     exact this
    have hei:es[i]?=some es[i]:=by simp [hi]
    obtain ⟨k',b,e1,hb⟩:=he i _ hei
    rw [e1] at hei
    have hh:tupleKeyHash knd k'=tupleKeyHash knd k:=by
     have g4':((es[i]?).map (·.1)).getD 0=tupleKeyHash knd k:=g4
     rw [hei] at g4'
     exact g4'
    rw [hh] at hei
    have zc2:wpAny (model prog w) A (do
      let some (_,y):=es[i]? | unsupported "internal:set-entry"
      let equal ← holding [y] (eqBool y (.ref a))
      let (es',_,t') ← setState S
      if true && equal then return .there none
      let some same:=t'.sameMemory t.moves t.mask | unsupported "set.changed-during-lookup:is-the-new-block-at-the-old-address"
      let still ← match (if same then t'.slot (J t.mask (tupleKeyHash knd k) n') else .empty) with
       | .live i'=>match es'[i']? with
        | some (_,y')=>do pure (if ← isSame y' y then some i' else none)
        | none=>pure none
       | _=>pure none
      match still with
      | none=>rule "set.search.anew";setSearchFrom S (.ref a) (tupleKeyHash knd k) true fuel none
      | some i'=>if equal then return .there (some i') else setSearchFrom S (.ref a) (tupleKeyHash knd k) true fuel (some (zda (it t.mask (tupleKeyHash knd k) (n'+1))))) Q E s:=by
     rw [hei]
     dsimp only
     refine qu (wpAny_holding (wpAny_eqBool_tuple hu hb hk ?_))
     refine qu (wpAny_setState_of ho hd T.fits ?_)
     dsimp only
     by_cases hkk:k'=k
     ·subst hkk
      rw [qN rfl]
      simp only [Bool.true_and,if_true]
      exact qx (hyes i b hei hb)
     ·rw [qI hkk]
      simp only [Bool.true_and,qo,if_false]
      have hsm:t.sameMemory t.moves t.mask=some true:=by unfold SetTable.sameMemory;simp
      rw [hsm]
      dsimp only
      simp only [if_true]
      rw [T.live g3]
      dsimp only
      rw [hei]
      dsimp only
      refine qu (wpAny_isSame_ref_self ?_)
      simp only [if_true]
      refine qu (qx ?_)
      dsimp only
      refine ih (n'+1) _ (by omega) (by omega) rfl ?_
      intro m i2 b2 hm hp2 he2
      by_cases h3:m < n
      ·exact hw m i2 b2 h3 hp2 he2
      ·by_cases h4:m=n'
       ·subst h4
        have ei:i2=i:=by
         have q1:=T.live hp2
         have q2:=T.live g3
         rw [q1] at q2
         injection q2
        subst ei
        rw [hei] at he2
        cases he2
        exact fun z=>hkk (hb.inj z)
       ·exfalso
        refine g5 m i2 (by omega) (by omega) hp2 ?_
        show ((es[i2]?).map (·.1)).getD 0=_
        rw [he2]
        rfl
    cases hled:t.led with
    | true =>
     simp only [Bool.not_true,qo,if_false]
     exact zc2
    | false =>
     simp only [Bool.not_false,if_true]
     refine qu (zsF hk _ (fun y hy=>?_) ?_)
     ·obtain ⟨e,he1,rfl⟩:=List.mem_map.mp hy
      have he2:e∈es.toList:=by
       have:=Array.mem_toList_iff.mp he1
       rw [Array.mem_filter] at this
       exact Array.mem_toList_iff.mpr this.1
      obtain ⟨j,hj,ej⟩:=List.mem_iff_getElem.mp he2
      obtain ⟨k2,b2,q1,q2⟩:=he j e (by rw [← qE,List.getElem?_eq_getElem hj,ej])
      exact ⟨k2,b2,by rw [q1],q2⟩
     ·simp only [qo,if_false]
      exact zc2
   ·cases g2
    dsimp only
    refine qx (hno fun i b hei hb=>?_)
    have hi:i < es.size:=(Array.getElem?_eq_some_iff.mp hei).1
    have hpi:t.place[i]?=some t.place[i]! := by
     have:i < t.place.size:=by rw [T.sz];exact hi
     simp [this]
    obtain ⟨m,q1,q2⟩:=T.rc i _ _ _ hpi hei
    have hmem:J t.mask (tupleKeyHash knd k) m∈t.place.toList:=by
     rw [q1]
     rw [← qE] at hpi
     exact qK hpi
    have hm:m < n0:=by
     rcases Nat.lt_trichotomy m n0 with z | z | z
     ·exact z
     ·subst z;exact absurd hmem hf
     ·exact absurd (q2 n0 z) hf
    by_cases h3:m < n
    ·exact hw m i b h3 (by rw [q1];exact hpi) hei hb
    ·refine g1 m i (by omega) hm (by rw [q1];exact hpi) ?_
     show ((es[i]?).map (·.1)).getD 0=_
     rw [hei]
     rfl
  ·rename_i hp
   exact (zkW T hp hs h2 hn0 hf hocc).elim
structure TS (knd:KeyKind prog w κ) (h:Heap) (ks:List (List κ)) (o:Obj):Prop where
 cls:o.ExactSet
 ex:∃ es ep t,o.data=.set es ep t/\Tb t es/\Mk t.mask/\zup knd h es/\es.size=(dd ks).length/\(∀ k∈dd ks,∃ (i:Nat) (b:Addr),es[i]?=some (tupleKeyHash knd k,.ref b)/\IsTupleKey knd h k b)/\∀ (i:Nat) (k:List κ) (b:Addr),es[i]?=some (tupleKeyHash knd k,.ref b)->IsTupleKey knd h k b->k∈dd ks
theorem IsTupleKey.mono {h h':Heap} {k:List κ} {a:Addr} (x:IsTupleKey knd h k a) (q:∀ o,h.get? a=some o->h'.get? a=some o):IsTupleKey knd h' k a:=by
 obtain ⟨o,items,n,h1,h2⟩:=x
 exact ⟨o,items,n,q o h1,h2⟩
theorem zfB {es:Array (Int×Value)} {e:Int×Value}:e∈es.toList↔∃ i:Nat,es[i]?=some e:=by
 constructor
 ·intro h
  obtain ⟨i,hi,q⟩:=List.mem_iff_getElem.mp h
  exact ⟨i,by rw [← qE,List.getElem?_eq_getElem hi,q]⟩
 ·rintro ⟨i,h⟩
  rw [← qE] at h
  exact qK h
theorem zrG {h0:Heap} {ks:List (List κ)} {k:List κ} {a:Addr} {es es':Array (Int×Value)} (hk:IsTupleKey knd h0 k a) (hE:zup knd h0 es) (hsz:es.size=(dd ks).length) (hin:∀ k∈dd ks,∃ (i:Nat) (b:Addr),es[i]?=some (tupleKeyHash knd k,.ref b)/\IsTupleKey knd h0 k b)
  (hout:∀ (i:Nat) (k:List κ) (b:Addr),es[i]?=some (tupleKeyHash knd k,.ref b)->IsTupleKey knd h0 k b->k∈dd ks) (hnew:k∉dd ks) (mem:∀ e,e∈es'.toList↔e=(tupleKeyHash knd k,.ref a)\/e∈es.toList) (size:es'.size=es.size+1) :
  zup knd h0 es'/\es'.size=(dd (ks++[k])).length/\(∀ k'∈dd (ks++[k]),∃ (i:Nat) (b:Addr),es'[i]?=some (tupleKeyHash knd k',.ref b)/\IsTupleKey knd h0 k' b)/\∀ (i:Nat) (k':List κ) (b:Addr),es'[i]?=some (tupleKeyHash knd k',.ref b)->IsTupleKey knd h0 k' b->k'∈dd (ks++[k]):=by
 rw [zld,qS hnew]
 refine ⟨fun i e he=>?_,by rw [size,hsz,qi,qP],fun k' hk'=>?_,fun i k' b he hb=>?_⟩
 ·rcases (mem e).mp (zfB.mpr ⟨i,he⟩) with rfl | q
  ·exact ⟨k,a,rfl,hk⟩
  ·obtain ⟨j,q⟩:=zfB.mp q
   exact hE j e q
 ·rcases List.mem_append.mp hk' with q | q
  ·obtain ⟨i,b,q1,q2⟩:=hin k' q
   obtain ⟨j,q3⟩:=zfB.mp ((mem _).mpr (.inr (zfB.mpr ⟨i,q1⟩)))
   exact ⟨j,b,q3,q2⟩
  ·rw [List.mem_singleton.mp q]
   obtain ⟨j,q3⟩:=zfB.mp ((mem _).mpr (.inl rfl))
   exact ⟨j,a,q3,hk⟩
 ·rcases (mem _).mp (zfB.mpr ⟨i,he⟩) with q | q
  ·have e:b=a:=by have:=(Prod.mk.inj q).2;injection this
   subst e
   exact List.mem_append.mpr (.inr (List.mem_singleton.mpr (hb.inj hk)))
  ·obtain ⟨j,q⟩:=zfB.mp q
   exact List.mem_append.mpr (.inl (hout j k' b q hb))
theorem zix {h:Heap} {S:Addr} {o:Obj} {es es':Array (Int×Value)} {ep:Nat} {t t':SetTable} (ho:h.get? S=some o) (hd:o.data=.set es ep t):(h.update S (Obj.putSet es' t')).get? S=some { o with data:=.set es' (ep+1) t' }:=by
 have q:=Heap.get?_update_self (Obj.putSet es' t') ho (by rw [putSet_of es' t' hd];rfl)
 rwa [putSet_of es' t' hd] at q
set_option maxHeartbeats 1000000 in
theorem zoP {S a:Addr} {o:Obj} {h0:Heap} {ks:List (List κ)} {k:List κ} {Q:Bool->Shared->Prop} (hsc:∀ v k,knd.is k v=true->v.scannable=true) (hu:A.units < cLine) (ho:s.heap.get? S=some o) (T:TS knd h0 ks o) (hk:IsTupleKey knd h0 k a)
  (hB:∀ b o,h0.get? b=some o->s.heap.get? b=some o) (hlen:ks.length<=300)
  (h:∀ b h' tk o',s.toks<=tk->Heap.SameBut S s.heap h'->h'.get? S=some o'->TS knd h0 (ks++[k]) o'->Q b { s with heap:=h',toks:=tk }):wpAny (model prog w) A (setAdd S (.ref a)) Q E s:=by
 obtain ⟨hc,es,ep,t,hd,TB,hM,hE,hsz,hin,hout⟩:=T
 have up:∀ {k:List κ} {b:Addr},IsTupleKey knd h0 k b->IsTupleKey knd s.heap k b:=fun q=>IsTupleKey.mono q fun o e=>hB _ _ e
 have down:∀ {k k':List κ} {b:Addr},IsTupleKey knd h0 k' b->IsTupleKey knd s.heap k b->k=k':=fun q1 q2=>q2.inj (up q1)
 have hE':zup knd s.heap es:=fun i e he=>by
  obtain ⟨k,b,q1,q2⟩:=hE i e he
  exact ⟨k,b,q1,up q2⟩
 have hddl:=zkm ks
 obtain ⟨n0,f1,f2,f3⟩:=TB.first (tupleKeyHash knd k)
 unfold setAdd
 refine wpAny_holding (qu (wpAny_pyHash_tuple hu (up hk) ?_))
 unfold setAddHashed setAddHashedIn
 refine wpAny_holding (qu (wpAny_setState_of (s:={ s with toks:=s.toks+(k.length+1) }) ho hd TB.fits ?_))
 dsimp only
 rw [show byScan (.ref a) es=false from rfl]
 simp only [qo,if_false]
 unfold setSearch
 refine qu (zni (s:={ s with toks:=s.toks+(k.length+1) }) hu ho hd TB hM (up hk) hE' f2 f3 f1 (fun i b hei hb=>?_) (fun hall=>?_) 100000 0 none ?_ (Nat.zero_le _) rfl (fun m i b hm=>by omega))
 ·
  dsimp only
  obtain ⟨k',b',q1,q2⟩:=hE i _ hei
  have:b'=b:=by
   have:=(Prod.mk.inj q1).2
   injection this with e
   exact e.symm
  subst this
  have ek:=down q2 hb
  subst ek
  have hmem:=hout i k _ hei q2
  refine qx (h false s.heap _ o (by show s.toks<=s.toks+(k.length+1);omega) (Heap.SameBut.refl S s.heap) ho ⟨hc,es,ep,t,hd,TB,hM,hE,?_⟩)
  rw [zld,qR hmem]
  exact ⟨hsz,hin,hout⟩
 ·
  dsimp only
  have hnew:k∉dd ks:=fun hm=>by
   obtain ⟨i,b,q1,q2⟩:=hin k hm
   exact hall i b q1 (up q2)
  have hpl:SetTable.below t.place (J t.mask (tupleKeyHash knd k) n0)<=es.size:=by
   have:=(zjD t.place (J t.mask (tupleKeyHash knd k) n0) TB.ri).1
   rw [TB.sz] at this
   exact this
  have hmaskle:t.mask<=511:=by rcases hM with e | e | e | e <;> omega
  have hmem:∀ e,e∈(SetTable.insertAt es (SetTable.below t.place (J t.mask (tupleKeyHash knd k) n0)) (tupleKeyHash knd k,Value.ref a)).toList↔e=(tupleKeyHash knd k,Value.ref a)\/e∈es.toList:=fun e=>by
   rw [zcX _ _ _ hpl]
   exact zgu _ _ _ _
  have hsize:(SetTable.insertAt es (SetTable.below t.place (J t.mask (tupleKeyHash knd k) n0)) (tupleKeyHash knd k,Value.ref a)).size=es.size+1:=by
   have:=congrArg List.length (zcX es _ (tupleKeyHash knd k,Value.ref a) hpl)
   simp only [Array.length_toList,qi,qh,qA,List.length_drop] at this
   omega
  have hpsz:(SetTable.insertAt t.place (SetTable.below t.place (J t.mask (tupleKeyHash knd k) n0)) (J t.mask (tupleKeyHash knd k) n0)).size=es.size+1:=by
   have:=congrArg List.length (zcX t.place _ (J t.mask (tupleKeyHash knd k) n0) (by rw [TB.sz];exact hpl))
   have h3:=TB.sz
   simp only [Array.length_toList,qi,qh,qA,List.length_drop] at this
   omega
  refine qu (wpAny_setState_of (s:={ s with toks:=s.toks+(k.length+1) }) ho hd TB.fits ?_)
  dsimp only
  have fin:∀ (es':Array (Int×Value)) (t':SetTable) (h':Heap) (o':Obj),Tb t' es'->Mk t'.mask->(∀ e,e∈es'.toList↔e=(tupleKeyHash knd k,Value.ref a)\/e∈es.toList)->es'.size=es.size+1->Heap.SameBut S s.heap h'->h'.get? S=some o'->o'.ExactSet->(∃ ep',o'.data=.set es' ep' t')->Q true { s with heap:=h',toks:=s.toks+(k.length+1) }:=fun es' t' h' o' q1 q2 q3 q4 q5 q6 q7 q8=>by
   obtain ⟨ep',q8⟩:=q8
   obtain ⟨w1,w2,w3,w4⟩:=zrG hk hE hsz hin hout hnew q3 q4
   exact h true h' _ o' (by omega) q5 q6 ⟨q7,es',ep',t',q8,q1,q2,w1,w2,w3,w4⟩
  have zc2:∀ pl:Bool,wpAny (model prog w) A (do
    storeSet S (SetTable.insertAt es (t.put (J t.mask (tupleKeyHash knd k) n0)).2 (tupleKeyHash knd k,Value.ref a)) { (t.put (J t.mask (tupleKeyHash knd k) n0)).1 with plain:=pl }
    if (!false && SetTable.tooFull { (t.put (J t.mask (tupleKeyHash knd k) n0)).1 with plain:=pl })=true then do
     setRelay S (SetTable.grown (es.size+1))
     pure true
    else pure true) Q E { s with toks:=s.toks+(k.length+1) }:=fun pl=>by
   refine qu (wpAny_storeSet_of (s:={ s with toks:=s.toks+(k.length+1) }) ho hd ?_ (by show (SetTable.insertAt es (SetTable.below t.place (J t.mask (tupleKeyHash knd k) n0)) (tupleKeyHash knd k,Value.ref a)).size<=sizeLine;rw [hsize,sizeLine_eq];omega))
   have hg1:=zix (es':=SetTable.insertAt es (t.put (J t.mask (tupleKeyHash knd k) n0)).2 (tupleKeyHash knd k,Value.ref a)) (t':={ (t.put (J t.mask (tupleKeyHash knd k) n0)).1 with plain:=pl }) ho hd
   have hsb1:=Heap.SameBut.update s.heap S (Obj.putSet (SetTable.insertAt es (t.put (J t.mask (tupleKeyHash knd k) n0)).2 (tupleKeyHash knd k,Value.ref a)) { (t.put (J t.mask (tupleKeyHash knd k) n0)).1 with plain:=pl })
   have hdum:(t.put (J t.mask (tupleKeyHash knd k) n0)).1.dummies=#[]:=by
    show (if SetTable.has t.dummies _ then _ else t.dummies)=#[]
    rw [TB.dm]
    rfl
   have hfill:SetTable.fill { (t.put (J t.mask (tupleKeyHash knd k) n0)).1 with plain:=pl }=es.size+1:=by
    show (SetTable.insertAt t.place _ _).size+(t.put (J t.mask (tupleKeyHash knd k) n0)).1.dummies.size=_
    rw [hdum]
    exact hpsz
   by_cases few:(es.size+1)*5 < t.mask*3
   ·have hfull:SetTable.tooFull { (t.put (J t.mask (tupleKeyHash knd k) n0)).1 with plain:=pl }=false:=by
     unfold SetTable.tooFull
     rw [hfill]
     exact qI (by show ¬ ((es.size+1)*5 ≥ t.mask*3);omega)
    rw [hfull]
    simp only [Bool.not_false,Bool.and_false,qo,if_false]
    refine qx (fin _ _ _ _ (TB.put (x:=.ref a) f2 f3 few pl) hM hmem hsize hsb1 hg1 hc ⟨_,rfl⟩)
   ·have hfull:SetTable.tooFull { (t.put (J t.mask (tupleKeyHash knd k) n0)).1 with plain:=pl }=true:=by
     unfold SetTable.tooFull
     rw [hfill]
     exact qN (by show ((es.size+1)*5 ≥ t.mask*3);omega)
    rw [hfull]
    simp only [Bool.not_false,Bool.and_true,if_true]
    obtain ⟨m1,m2,m3⟩:=hM.grow TB.few few (by omega)
    have hes1:(SetTable.insertAt es (t.put (J t.mask (tupleKeyHash knd k) n0)).2 (tupleKeyHash knd k,Value.ref a)).size=es.size+1:=hsize
    obtain ⟨t',order,r1,r2,r3,r4,r5,r6⟩:=Full.relaid (t:={ (t.put (J t.mask (tupleKeyHash knd k) n0)).1 with plain:=pl }) (es:=SetTable.insertAt es (t.put (J t.mask (tupleKeyHash knd k) n0)).2 (tupleKeyHash knd k,Value.ref a)) m1.full (by rw [hes1];exact m2)
    unfold setRelay
    have hfits:SetTable.fits { (t.put (J t.mask (tupleKeyHash knd k) n0)).1 with plain:=pl } (SetTable.insertAt es (t.put (J t.mask (tupleKeyHash knd k) n0)).2 (tupleKeyHash knd k,Value.ref a)).size=true:=by
     unfold SetTable.fits
     rw [hfill,hes1,Bool.and_eq_true]
     have:=TB.few
     exact ⟨by rw [beq_iff_eq];exact hpsz,qN (by show es.size+1<=t.mask;omega)⟩
    refine qu ?_
    refine qu (wpAny_setState_of (s:={ s with heap:=_,toks:=s.toks+(k.length+1) }) hg1 rfl hfits ?_)
    dsimp only
    rw [qS (by rw [sizeLine_eq];omega),r1]
    refine qu ?_
    show wpAny _ _ (if ((order.filterMap ((SetTable.insertAt es (t.put (J t.mask (tupleKeyHash knd k) n0)).2 (tupleKeyHash knd k,Value.ref a))[·]?)).size != (SetTable.insertAt es (t.put (J t.mask (tupleKeyHash knd k) n0)).2 (tupleKeyHash knd k,Value.ref a)).size)=true then _ else _) _ _ _
    rw [qS (by rw [r2];simp)]
    refine qx ?_
    dsimp only
    refine wpAny_storeSet_of (s:={ s with heap:=_,toks:=s.toks+(k.length+1) }) hg1 rfl ?_ (by rw [r2,hes1,sizeLine_eq];omega)
    refine qx (fin _ t' _ _ r3 (by rw [r5];exact m1) (fun e=>(r4 e).trans (hmem e)) (by rw [r2,hes1]) (hsb1.trans (Heap.SameBut.update _ S _)) (zix hg1 rfl) hc ⟨_,rfl⟩)
  split
  ·refine qu (zgv (s:={ s with toks:=s.toks+(k.length+1) }) (up hk) hsc fun bv=>?_)
   cases bv
   ·exact zc2 false
   ·exact zc2 _
  ·refine qu (qx ?_)
   exact zc2 _
 ·show n0 - 0 < 100000
  have:t.mask<=511:=by rcases hM with e | e | e | e <;> omega
  omega
end
end ST
end
section
namespace L2
open PySem PySem.Spec PyProof.Rows ST
instance (priority:=high) keyBEq:BEq Key:=instBEqOfDecidableEq
instance (priority:=high) keyLaw:LawfulBEq Key:=inferInstanceAs (@LawfulBEq Key instBEqOfDecidableEq)
def zvR (n:Nat) (o:Obj):Prop:=o.ExactSet/\∃ es ep t,o.data=.set es ep t/\t.fits es.size=true/\es.size=n
def zqS (p:Addr) (n:Nat):HO:=.ext fun h=>∃ o,h.get? p=some o/\zvR n o
section
variable {X:Cx}
theorem zlR {P:Program} {w:World} (v:Value) (k:Key) (h:(zby P w).is k v=true):v.scannable=true:=by
 rcases zbV h with ⟨i,t,rfl,rfl⟩ | ⟨x,t,rfl,rfl⟩ <;> rfl
def zwc:List V->Hp->VK->Prop:=fun xs H Q=>∃ a vs,xs=[.ref a]/\H a=some (.lst vs)/\vs.length<=300 /\
 ((∃ ks:List Key,vs=ks.map kV/\∀ p,H p=none->Q (.ref p) (upd H p (zqS p (dd ks).length))) \/
 (∃ ts:List (List Key),vs.length=ts.length/\(∀ (i:Nat) t,ts[i]?=some t->∃ b,vs[i]?=some (.ref b)/\H b=some (.tup (t.map kV)))/\∀ p,H p=none->Q (.ref p) (upd H p (zqS p (dd ts).length))))
theorem zpZ (hc:X.calm=true) (hu:X.A.units+66 < cLine):zhf X (.type "set") zwc:=by
 intro pins s σ H xs us Q I r h
 obtain ⟨a,vs,rfl,ha,hl,h⟩:=h
 obtain ⟨u,rfl,ru⟩:=zjM r
 cases ru
 obtain ⟨its,rv,pl,hz⟩:=I.list (.inl (.inl ha))
 have hlen:=rv.length
 have hsz:its.toArray.size=vs.length:=by rw [qy,hlen]
 have fin:∀ (n:Nat) (h':Heap) (tk:Nat) (o:Obj),h'.get? s.heap.objs.size=some o->zvR n o->(∀ b o,b < s.heap.objs.size->s.heap.get? b=some o->h'.get? b=some o) ->
   (∀ p,H p=none->Q (.ref p) (upd H p (zqS p n)))->EP X pins σ Q (.ref s.heap.objs.size) { s with heap:=h',toks:=tk }:=fun n h' tk o ho hn hk q=>by
  refine ⟨.ref s.heap.objs.size,_,I.laid (a:=s.heap.objs.size) (o:=zqS s.heap.objs.size n) (fun b u e=>hk b u (qr e) e) (qt _) ?_,rfl,q _ I.fresh⟩
  refine ⟨⟨o,ho,hn⟩,⟨o,ho⟩,fun h1 h2 hp hk2=>?_⟩
  obtain ⟨o1,q1,q2⟩:=hp
  exact ⟨o1,hk2 o1 q1,q2⟩
 rcases h with ⟨ks,rfl,q⟩ | ⟨ts,ht,hts,q⟩
 ·
  have hkl:ks.length=its.length:=by rw [← hlen,qe]
  refine zg2 (I.ok.hd hc) pl.isList (fun i o=>o.SetObjOf (zby X.prog X.w) (fun k=>decide (k∈dd (ks.take i))) (dd (ks.take i)).length) (fun led=>?_) (fun A' hA' i v sh o Q' E' hi hv ho hJ hB hQ=>?_) fun h' tk o ho hJ hk=>?_
  ·have:=setObjOf_fresh (knd:=zby X.prog X.w) led
   simpa [dd] using this
  ·have hi':i < ks.length:=by rw [qy] at hi;omega
   obtain ⟨u2,hu2,ru2⟩:=rv.get (i:=i) (x:=kV ks[i]) (by simp [hi'])
   have ev:v=u2:=by
    have hv':its[i]?=some v:=by simpa using hv
    rw [hu2] at hv'
    exact (qD hv').symm
   subst ev
   have hkey:=zpG (P:=X.prog) (w:=X.w) ru2
   have hle:(dd (ks.take i)).length<=300:=by
    have h1:=zkm (ks.take i)
    rw [qA] at h1
    rw [qe] at hl
    omega
   unfold setAdd
   refine wpAny_holding (qu ((zby X.prog X.w).pyHash hkey ?_))
   refine wpAny_setAddHashed_of (knd:=zby X.prog X.w) (s:={ sh with toks:=sh.toks+1 }) hkey (zlR _ _ hkey) (hJ.setOf ho (by unfold scanBound;omega)) (by unfold scanBound;omega) fun h' hsb hS2=>?_
   obtain ⟨o',ho',hso⟩:=hS2.objOf
   refine hQ _ h' _ o' (Nat.le_succ _) hsb ho' ?_
   have htk:ks.take (i+1)=ks.take i++[ks[i]]:=by rw [List.take_succ,List.getElem?_eq_getElem hi'];rfl
   show Obj.SetObjOf (zby X.prog X.w) o' (fun k=>decide (k∈dd (List.take (i+1) ks))) (dd (List.take (i+1) ks)).length
   rw [htk,zld]
   by_cases hm:ks[i]∈dd (ks.take i)
   ·rw [qR hm]
    rw [qR (by simpa using hm)] at hso
    have e:(fun k'=>decide (k'∈dd (ks.take i)) || decide (k'=ks[i]))=fun k'=>decide (k'∈dd (ks.take i)):=by
     funext k'
     by_cases hk':k'=ks[i]
     ·subst hk';simp [hm]
     ·simp [hk']
    rw [e] at hso
    exact hso
   ·rw [qS hm]
    rw [qS (by simpa using hm)] at hso
    have e:(fun k'=>decide (k'∈dd (ks.take i)) || decide (k'=ks[i]))=fun k'=>decide (k'∈dd (ks.take i)++[ks[i]]):=by
     funext k'
     rw [Bool.eq_iff_iff]
     simp
    rw [e] at hso
    simpa using hso
  ·have e:ks.take its.toArray.size=ks:=by rw [qy,← hkl];exact List.take_length
   rw [e] at hJ
   have hS:=hJ.setOf ho (by have:=zkm ks;rw [qe] at hl;unfold scanBound;omega)
   obtain ⟨o1,es,ep,t,v0,v1,v2,_,_,_,v3,v4⟩:=hS
   rw [ho] at v0
   cases v0
   exact fin _ h' tk o ho ⟨v1,es,ep,t,v2,v3,v4⟩ hk q
 ·
  have hkl:ts.length=its.length:=by rw [← hlen,ht]
  refine zg2 (I.ok.hd hc) pl.isList (fun i o=>ST.TS (zby X.prog X.w) s.heap (ts.take i) o) (fun led=>?_) (fun A' hA' i v sh o Q' E' hi hv ho hJ hB hQ=>?_) fun h' tk o ho hJ hk=>?_
  ·refine ⟨⟨rfl,rfl,rfl⟩,#[],0,SetTable.fresh 0 0 led,rfl,?_,.inl rfl,fun i e he=>by simp at he,rfl,fun k hk=>by simp [dd] at hk,fun i k b he=>by simp at he⟩
   exact ⟨zt6,rfl,rfl,by simp [SetTable.fresh],by simp [SetTable.fresh],by simp [SetTable.fresh],fun i j h x hp=>by simp [SetTable.fresh] at hp⟩
  ·have hi':i < ts.length:=by rw [qy] at hi;omega
   obtain ⟨b,hb1,hb2⟩:=hts i ts[i] (by simp [hi'])
   obtain ⟨u2,hu2,ru2⟩:=rv.get hb1
   have ev:v=u2:=by
    have hv':its[i]?=some v:=by simpa using hv
    rw [hu2] at hv'
    exact (qD hv').symm
   subst ev
   cases ru2
   have hkey:=zlU I.hok hb2
   have htk:ts.take (i+1)=ts.take i++[ts[i]]:=by rw [List.take_succ,List.getElem?_eq_getElem hi'];rfl
   refine zoP (fun v k=>zlR v k) (by omega) ho hJ hkey (fun b' o' e=>hB b' o' (qr e) e) (by rw [qA];have:=hl;omega) fun bb h' tk o' h1 h2 h3 h4=>hQ bb h' tk o' h1 h2 h3 (by show ST.TS _ _ (List.take (i+1) ts) o';rw [htk];exact h4)
  ·have e:ts.take its.toArray.size=ts:=by rw [qy,← hkl];exact List.take_length
   rw [e] at hJ
   obtain ⟨hc',es,ep,t,w1,w2,w3,w4,w5,w6,w7⟩:=hJ
   exact fin _ h' tk o ho ⟨hc',es,ep,t,w1,w2.fits,w5⟩ hk q
theorem zlh:zhf X (.builtin "len") (fun xs H Q=>∃ p n,xs=[.ref p]/\H p=some (zqS p n)/\n<=300/\Q (.int n) H):=by
 intro pins s σ H xs us Q I r h
 obtain ⟨p,n,rfl,hp,hn,q⟩:=h
 obtain ⟨u,rfl,ru⟩:=zjM r
 cases ru
 obtain ⟨⟨o,ho,hex,es,ep,t,w1,w2,w3⟩,_,_⟩:=I.hok p _ hp
 exact call_len_set ho hex w1 w2 (by omega) ⟨.int n,H,I.tok _,⟨_,by rw [w3]⟩,q⟩
end
end L2
end
section
namespace L2
open PySem PySem.Spec PyProof.Rows ST
def zfe:List D->Option (List (List Key))
 | []=>some []
 | .tup t::r=>(zhb t).bind fun k=>(zfe r).map (k::·)
 | _::_=>none
theorem ziv {Γ:Cn} {K:PySem.W.Frag} {G H:Hp} (gh:zcd G H):∀ {vs:List V} {ds:List D} {ts:List (List Key)},Reps Γ K G vs ds->zfe ds=some ts->vs.length=ts.length/\∀ (i:Nat) t,ts[i]?=some t->∃ b,vs[i]?=some (.ref b)/\H b=some (.tup (t.map kV))
 | _,[],ts,r,h=>by cases r;cases h;exact ⟨rfl,fun i t e=>by simp at e⟩
 | _,d::ds,ts,.cons h1 h2,h=>by
  cases d with
  | tup t =>
   unfold zfe at h
   obtain ⟨k,hk,h⟩:=oBd h
   obtain ⟨zs,hz,rfl⟩:=oMd h
   obtain ⟨a,us,rfl,ha,ra⟩:=h1.tup_inv
   have e:=zf7 ra hk
   subst e
   obtain ⟨q1,q2⟩:=ziv gh h2 hz
   refine ⟨by rw [qh,qh,q1],fun i t' e=>?_⟩
   cases i with
   | zero=>cases e;exact ⟨a,rfl,gh _ _ ha⟩
   | succ i=>exact q2 i t' e
  | _=>cases h
def zgr:D->Option D
 | .lst l=>if l.length<=300 then match zhb l with
  | some ks=>some (.int (dd ks).length)
  | none=>(zfe l).map fun ts=>.int (dd ts).length
  else none
 | _=>none
section
variable {Γ:Cn} {X:Cx} {e:Expr} {f:FE} {pos p p2 pos2:Pos}
theorem zoC (hc:X.calm=true) (hu:X.A.units+66 < cLine) (hgl:Gl X "len") (hml:X.mg "len"=none) (hgs:Gl X "set") (hms:X.mg "set"=none) (h:DE Γ X e f)
  (h1:starEach ([.Call (.Name "set" p2) [e] [] pos2]:List Expr) X.env=(false,eval (.Call (.Name "set" p2) [e] [] pos2) X.env)::starEach [] X.env:=by rfl) (h2:(backTo pos (starEach [] X.env)).any (·.1)=false:=by rfl)
  (h3:starEach ([e]:List Expr) X.env=(false,eval e X.env)::starEach [] X.env:=by rfl) (h4:(backTo pos2 (starEach [] X.env)).any (·.1)=false:=by rfl) :
  DE Γ X (.Call (.Name "len" p) [.Call (.Name "set" p2) [e] [] pos2] [] pos) (b1 zgr f):=⟨by
 refine (zlJ zlh hgl hml (by rfl) (zeH (zj3 (zpZ hc hu) hgs hms (by rfl) (zeH h.1 ziJ h3) (by decide) (by decide) h3 h4) ziJ h1) (by decide) (by decide) h1 h2).imp fun σ H Q=>?_
 rintro ⟨G₀,H₀,G,ρ,d,A,hq,k⟩
 unfold b1 at hq
 obtain ⟨x,hx,hl⟩:=oBd hq
 clear hq
 refine ⟨G₀,H₀,G,ρ,x,A,hx,fun v G1 H1 s1 r1=>?_⟩
 unfold zgr at hl
 split at hl
 ·rename_i l
  split at hl
  ·rename_i hz
   obtain ⟨a,vs,rfl,ha,ra⟩:=r1.lst_inv
   have go:∀ (n:Nat),n<=300->d=.int n->∀ p,H1 p=none->∃ p' n',[V.ref p]=[V.ref p']/\(upd H1 p (zqS p n)) p'=some (zqS p' n')/\n'<=300/\Q (.int n') (upd H1 p (zqS p n)):=fun n hn ed p hp=>by
    subst ed
    refine ⟨p,n,rfl,zaL,hn,k _ G1 _ (s1.trans (Step.newOwn s1.gh hp)) (.int _)⟩
   refine ⟨a,vs,rfl,s1.gh _ _ ha,by rw [ra.length];exact hz,?_⟩
   split at hl
   ·rename_i ks hk
    refine .inl ⟨ks,zf7 ra hk,go _ ?_ (qD hl).symm⟩
    have h5:=zkm ks
    have h6:ks.length=l.length:=by
     have:=zf7 ra hk
     rw [← ra.length,this,qe]
    omega
   ·obtain ⟨ts,ht,e1⟩:=oMd hl
    obtain ⟨q1,q2⟩:=ziv s1.gh ra ht
    refine .inr ⟨ts,q1,q2,go _ ?_ e1.symm⟩
    have h5:=zkm ts
    have h6:=ra.length
    omega
  ·cases hl
 ·cases hl⟩
end
end L2
end
section
namespace DT
open PySem PySem.Spec PyProof.Rows
theorem zrz:typeLookup (.type "list") "keys"=pure none:=by rw [typeLookup_type,builtinLookup_eq_fast];kernel_rfl
theorem zrA:typeLookup (.type "list") "__getattr__"=pure none:=by rw [typeLookup_type,builtinLookup_eq_fast];kernel_rfl
theorem znV {l:Addr} {u:Tok} {R:Result->Shared->Prop} {prog:Program} {w:World} {A:Around} {s:Shared} {xs:Array Value} {n:Nat} (hx:s.heap.get? l=some { cls:=.type "list",data:=.seq xs n }) (hA:A.handled=none)
  (h:∀ h' tk e,Heap.NewAttrErr s.heap h' e (.ref l) "keys"->R (.error (.ref e)) { s with heap:=h',toks:=tk }) :
  codeAny (model prog w) A (.call (.builtin "list.__getattribute__") ⟨[.ref l,.str "keys" u],[]⟩) R s:=by
 obtain ⟨hp,g,d,tk,os⟩:=s
 have hT:(⟨hp,g,d,tk,os⟩:Shared).TypeIs (.ref l) "list":=⟨_,hx,rfl⟩
 have f1:=zrz
 refine codeAny_call_builtin F.slot_list_getattribute.plain F.entry_list_ga (F.slot_list_getattribute.check _ _ _ _ _ _ _ _ hT (F.args_list_getattribute_2 _ _) ?_)
 unfold Builtin.«object.__getattribute__»
 repeat (any_goals (first | assumption | wp_step))
 have hsz:(Str.ofString "keys").length+100<=sizeLine:=by rw [PySem.ofString_length];decide
 refine wpAny_raiseAttrError (A:=A.in1) hA h ?_
 exact attrMsg_fits (by decide +kernel) hsz
set_option maxHeartbeats 4000000 in
theorem zn3 {l:Addr} {Q:Option Value->Shared->Prop} {prog:Program} {w:World} {A:Around} {E:Value->Shared->Prop} {s:Shared} {xs:Array Value} {n:Nat} (hx:s.heap.get? l=some { cls:=.type "list",data:=.seq xs n }) (hA:A.handled=none)
  (h:∀ h' tk,(∀ b ob,s.heap.get? b=some ob->h'.get? b=some ob)->Q none { s with heap:=h',toks:=tk }) :
  wpAny (model prog w) A (getAttr? (.ref l) "keys") Q E s:=by
 obtain ⟨hp,g,d,tk,os⟩:=s
 have hT:∀ tk',(⟨hp,g,d,tk',os⟩:Shared).TypeIs (.ref l) "list":=fun _=>⟨_,hx,rfl⟩
 have f1:=sub_AttributeError
 have f2:=F.slot_list_getattribute.lookup
 have f3:=F.slot_list_getattribute.bind (.ref l)
 have f5:=zrA
 unfold getAttr? getAttrBy?
 refine qu (wpAny_mkText ?_)
 refine qu (wpAny_attempt ?_)
 unfold getAttrBy
 refine wpAny_holding (qu (wpAny_typeOf (hT _) (qu (wpAny_of_eq f2 ?_))))
 show wpAny _ _ (getAttrByItsOwn _ _ _ _ _ _) _ _ _
 unfold getAttrByItsOwn
 refine qu (m:=hookBefore (Value.type "list")) (qx ?_)
 refine qu (wpAny_attempt (wpAny_holding ?_))
 show wpAny _ _ (boundAndCalled _ _ _) _ _ _
 unfold boundAndCalled
 refine qu (wpAny_of_eq f3 ?_)
 refine wpAny_call (znV (s:=⟨hp,g,d,tk+1,os⟩) hx hA fun h' tk' e hn=>?_)
 obtain ⟨t',u',he⟩:=hn.there
 have hE:Shared.TypeIs ⟨h',g,d,tk',os⟩ (.ref e) "AttributeError":=⟨_,he,rfl⟩
 show wpAny _ _ (getattributeRaised _ _ _ _ _ _ _) _ _ _
 unfold getattributeRaised
 refine qu (wpAny_isInstance hE f1 ?_)
 simp only [if_true]
 refine qu (m:=hookBehind (Value.type "list") none) (wpAny_of_eq f5 ?_)
 unfold hookOrError attributeErrorLeaves
 simp only [Bool.not_false,if_true]
 refine qu (wpAny_throw ?_)
 refine qu (wpAny_isInstance hE f1 ?_)
 simp only [if_true]
 exact qx (h h' tk' hn.keeps)
end DT
end
section
namespace DT
open PySem PySem.Spec PyProof.Rows
theorem ziM:entryFor table "dict.update.loop"=some Builtin.«dict.update.loop»:=entryFor_of_tree (by kernel_rfl)
theorem zeU:plainId "dict.update.loop"=true:=by decide +kernel
section
variable {prog:Program} {w:World} {A:Around} {R:Result->Shared->Prop} {I:Addr} {fp wr:List Addr} {G:Array GenState->Array GenState->Prop} {n:Nat} {P:Nat->Value->Prop} {St:Nat->Shared->Prop}
def zur (prog:Program) (w:World) (A:Around) (S:Addr) (h0:Heap) (P:Nat->Value->Prop) (n:Nat) (J:Nat->Obj->Prop):Prop :=
 ∀ (i:Nat) (b:Addr) (kv vv:Value) (s:Shared) (o:Obj) (Q:Unit->Shared->Prop) (E:Value->Shared->Prop),i < n->P i (.ref b)->h0.IsTuple b #[kv,vv]->s.heap.get? S=some o->J i o->(∀ b o,b < h0.objs.size->h0.get? b=some o->s.heap.get? b=some o) ->
  (∀ h' tk o',s.toks<=tk->Heap.SameBut S s.heap h'->h'.get? S=some o'->J (i+1) o'->Q () { s with heap:=h',toks:=tk })->wpAny (model prog w) A (dictSet S kv vv) Q E s
theorem zor (W:WalksS prog w A.in1 I fp wr G n P St) (S:Addr) (hSf:S∉fp) (h0:Heap) (hS0:h0.objs.size<=S) (hw0:∀ b∈wr,h0.objs.size<=b) (J:Nat->Obj->Prop) (hadd:zur prog w A.in1 S h0 P n J) (hP:∀ i v,P i v->∃ b kv vv,v=.ref b/\h0.IsTuple b #[kv,vv]) :
  ∀ (k i:Nat) (c:Int) (s:Shared) (o:Obj),n - i=k->i<=n->St i s->s.heap.get? S=some o->J i o->(∀ b o,b < h0.objs.size->h0.get? b=some o->s.heap.get? b=some o) ->
   (∀ s' o',Moved (S::wr) G s s'->s'.heap.get? S=some o'->J n o'->R (.ok (.ret .none)) s') ->
   codeAny (model prog w) A (.builtin "dict.update.loop" ⟨[.ref S,.ref I,rawInt c,.none],[]⟩) R s:=by
 have hSw:S∉wr:=fun h=>hSf (W.sub _ h)
 have hsub:∀ b∈wr,b∈S::wr:=fun b hb=>qg _ hb
 have keep:∀ {h h':Heap},(∀ b o,b < h0.objs.size->h0.get? b=some o->h.get? b=some o)->(∀ b o,b∉S::wr->h.get? b=some o->h'.get? b=some o)->∀ b o,b < h0.objs.size->h0.get? b=some o->h'.get? b=some o:=fun q1 q2 b o hb e=>q2 b o (fun z=>by
  rcases List.mem_cons.mp z with z | z
  ·rw [z] at hb;exact absurd hb (Nat.not_lt.mpr hS0)
  ·exact absurd hb (Nat.not_lt.mpr (hw0 b z))) (q1 b o hb e)
 intro k
 induction k with
 | zero =>
  intro i c s o hk hi hst hS hJ hB hR
  have hin:i=n:=by omega
  subst hin
  refine codeAny_builtin ziM ?_
  rw [Around.under_plainId zeU _]
  show wpAny _ A.in1 (pyNext (.ref I) >>= _) _ _ s
  refine qu (W.done s _ _ hst fun s' hm=>?_)
  show wpAny _ A.in1 (Builtin.Dict.addKeywords S [] >>= _) _ _ s'
  exact qu (qx (qx (hR s' o (hm.mono hsub) (hm.heap S _ hSw hS) hJ)))
 | succ k ih =>
  intro i c s o hk hi hst hS hJ hB hR
  have hlt:i < n:=by omega
  refine codeAny_builtin ziM ?_
  rw [Around.under_plainId zeU _]
  show wpAny _ A.in1 (pyNext (.ref I) >>= _) _ _ s
  refine qu (W.item i s _ _ hlt hst fun v s' hPv hst' hm=>?_)
  obtain ⟨b,kv,vv,rfl,hb⟩:=hP i v hPv
  have hB':=keep hB fun b o hb e=>hm.heap b o (fun z=>hb (hsub b z)) e
  obtain ⟨ob,hob,hoc,nn,hod⟩:=hb
  have hob':s'.heap.get? b=some ob:=hB' b ob (qr hob) hob
  have hTb:s'.TypeIs (.ref b) "tuple":=⟨_,hob',hoc⟩
  show wpAny _ A.in1 (holding [Value.ref b] _ >>= _) _ _ s'
  refine qu (wpAny_holding ?_)
  refine qu ?_
  refine wpAny_tryCatch ?_
  unfold Builtin.Dict.pairItems
  refine qu (wpAny_typeOf hTb ?_)
  rw [qR (by decide)]
  refine qu (wpAny_seqItems hob' hod (qx ?_))
  show wpAny _ A.in1 (holding [kv,vv] (dictSet S kv vv)) _ _ s'
  refine wpAny_holding (hadd i b kv vv s' o _ _ hlt hPv ⟨ob,hob,hoc,nn,hod⟩ (hm.heap S _ hSw hS) hJ hB' fun h' tk o' htk hsb hS' hJ'=>?_)
  refine qx ⟨plainId_quiet zeU _,ih (i+1) (c+1) _ o' (by omega) hlt (W.frame _ s' _ _ hst' htk fun b hb o e=>?_) hS' hJ' ?_ fun s'' o'' hm'' hS'' hJ''=>?_⟩
  ·rw [hsb.2 b (fun h:b=S=>hSf (by rw [← h];exact hb))];exact e
  ·refine keep hB' fun b o hb e=>?_
   show h'.get? b=some o
   rw [hsb.2 b (fun h:b=S=>hb (by rw [h];exact qf))];exact e
  ·refine hR s'' o'' (Moved.trans W.gtrans ((hm.mono hsub).then_heap htk fun b o hb e=>?_) hm'') hS'' hJ''
   rw [hsb.2 b (fun h:b=S=>hb (by rw [h];exact qf))];exact e
end
section
variable {prog:Program} {w:World} {A:Around} {E:Value->Shared->Prop} {s:Shared}
theorem call_dict_gen {l:Addr} {items:Array Value} {c:Nat} {Q:Value->Shared->Prop} (hh:A.handled=none) (hl:s.heap.get? l=some { cls:=.type "list",data:=.seq items c }) (J:Nat->Obj->Prop)
  (hJ0:J 0 { cls:=.type "dict",data:=.dict #[] })
  (hadd:∀ A':Around,A'.units<=A.units+16->zur prog w A' s.heap.objs.size s.heap (fun i v=>items[i]?=some v) items.size J)
  (hP:∀ (i:Nat) (v:Value),items[i]?=some v->∃ b kv vv,v=.ref b/\s.heap.IsTuple b #[kv,vv])
  (h:∀ (h':Heap) (tk:Nat) (o:Obj),h'.get? s.heap.objs.size=some o->J items.size o ->
   (∀ b o,b < s.heap.objs.size->s.heap.get? b=some o->h'.get? b=some o)->Q (.ref s.heap.objs.size) { s with heap:=h',toks:=tk }) :
  wpAny (model prog w) A (call (.type "dict") [.ref l]) Q E s:=by
 refine callType_codes (Q₁:=fun obj s₁=>obj=.ref s.heap.objs.size/\s₁={ s with heap:=s.heap.push { cls:=.type "dict",data:=.dict #[] } }) F.kt_called_dict (F.kt_typeCall_dict_1 _) F.entry_dict_init (kt_code_dict_new _ ⟨rfl,rfl⟩) ?_
 rintro obj s₁ ⟨rfl,rfl⟩
 have hnew:(s.heap.push { cls:=.type "dict",data:=.dict #[] }).get? s.heap.objs.size=some { cls:=.type "dict",data:=.dict #[] }:=qC _ rfl
 have hl1:(s.heap.push { cls:=.type "dict",data:=.dict #[] }).get? l=some { cls:=.type "list",data:=.seq items c }:=qq _ hl
 have hT:Shared.TypeIs { s with heap:=s.heap.push { cls:=.type "dict",data:=.dict #[] } } (.ref s.heap.objs.size) "dict":=⟨_,hnew,rfl⟩
 have hTl:Shared.TypeIs { s with heap:=s.heap.push { cls:=.type "dict",data:=.dict #[] } } (.ref l) "list":=⟨_,hl1,rfl⟩
 refine ⟨hT,F.args_dict_init_2 _ _,?_⟩
 unfold Builtin.«dict.__init__»
 refine qu ?_
 unfold Builtin.Dict.selfAndRest
 refine qu (wpAny_notOrdered_dict hT ?_)
 show wpAny _ _ (pure (s.heap.objs.size,[Value.ref l])) _ _ _
 refine qx ?_
 show wpAny _ _ (Builtin.Dict.updateFrom "dict.__init__" s.heap.objs.size (.ref l) [] .none) _ _ _
 unfold Builtin.Dict.updateFrom
 refine qu (wpAny_typeOf hTl ?_)
 rw [qR (by decide)]
 refine qu (zn3 (s:={ s with heap:=s.heap.push { cls:=.type "dict",data:=.dict #[] } }) (A:=A.in1.in1) hl1 hh fun h1 tk1 hk1=>?_)
 simp only [Option.isNone_none,if_true]
 refine qu (wpAny_rule ?_)
 have hl2:h1.IsList l items:=⟨_,hk1 _ _ hl1,rfl,_,rfl⟩
 refine qu (wpAny_pyIter_list (s:={ s with heap:=h1,toks:=tk1 }) hl2 ?_)
 refine qx ⟨plainId_quiet zeU _,?_⟩
 have hlS:l < s.heap.objs.size:=qr hl
 have hsz1:s.heap.objs.size < h1.objs.size:=qr (hk1 _ _ hnew)
 have hneI:l≠h1.objs.size:=qz (Nat.lt_trans hlS hsz1)
 have hSf:s.heap.objs.size∉[h1.objs.size,l]:=by
  simp only [qG,List.mem_singleton,qF,or_false,not_or]
  exact ⟨qz hsz1,Nat.ne_of_gt hlS⟩
 have old:∀ b o,b < s.heap.objs.size->s.heap.get? b=some o->h1.get? b=some o:=fun b o _ e=>hk1 _ _ (qq _ e)
 refine zor ((Walks.list (A:=A.in1.in1) (by simpa using hh) _ l hneI items).toS) s.heap.objs.size hSf s.heap (qt _) (fun b hb=>?_) J (hadd _ (by show A.units+2<=_;omega)) hP (items.size - 0) 0 0 _ _ (by omega) (Nat.zero_le _)
  ⟨⟨_,qC _ rfl,rfl,rfl⟩,hl2.push _⟩ (qq _ (hk1 _ _ hnew)) hJ0 (fun b o hb e=>qq _ (old b o hb e)) fun s' o' hm hS' hJ'=>?_
 ·have:b=h1.objs.size:=by simpa using hb
  rw [this];exact Nat.le_of_lt hsz1
 ·obtain ⟨h',g',d',tk',os'⟩:=s'
  have eg:g'=s.gens:=hm.gens
  have ed:d'=s.drawn:=hm.drawn
  have eo:os'=s.os:=hm.os
  subst eg;subst ed;subst eo
  refine ⟨rfl,h h' tk' o' hS' hJ' fun b o hb e=>hm.heap b o ?_ (qq _ (old b o hb e))⟩
  simp only [qG,List.mem_singleton,qF,or_false,not_or]
  exact ⟨qz hb,qz (Nat.lt_trans hb hsz1)⟩
end
end DT
end
section
namespace L2
open PySem PySem.Spec PyProof.Rows
section
variable {κ:Type} [DecidableEq κ]
def mrg (kvs ps:List (κ×V)):List (κ×V):=ps.foldl (fun acc kv=>ziF acc kv.1 kv.2) kvs
theorem zlQ (kvs ps:List (κ×V)) (p:κ×V):mrg kvs (ps++[p])=ziF (mrg kvs ps) p.1 p.2:=by unfold mrg;rw [List.foldl_append];rfl
theorem zpi (kvs:List (κ×V)) (k:κ) (v:V):(ziF kvs k v).length<=kvs.length+1:=by
 unfold ziF
 split
 ·rw [qe];omega
 ·rw [qi,qP];omega
theorem zhE:∀ (ps kvs:List (κ×V)),(mrg kvs ps).length<=kvs.length+ps.length
 | [],kvs=>qt _
 | p::ps,kvs=>by
  have h1:=zhE ps (ziF kvs p.1 p.2)
  have h2:=zpi kvs p.1 p.2
  show (mrg (ziF kvs p.1 p.2) ps).length<=_
  rw [qh]
  omega
end
section
variable {X:Cx}
def zs8:List V->Hp->VK->Prop:=fun xs H Q=>∃ (a:Addr) (vs:List V) (ps:List (Key×V)),xs=[.ref a]/\H a=some (.lst vs)/\vs.length=ps.length/\ps.length<=1000/\(∀ (i:Nat) p,ps[i]?=some p->∃ b,vs[i]?=some (.ref b)/\H b=some (.tup [kV p.1,p.2])) /\
 ∀ q,H q=none->Q (.ref q) (upd H q (.dK (mrg [] ps)))
theorem znJ {pins:List (Addr×Obj)} {σ:St} {H:Hp} {s:Shared} {b:Addr} {x y:V} (I:Inv X pins σ H s) (hb:H b=some (.tup [x,y])):∃ u v,zcN x u/\zcN y v/\s.heap.IsTuple b #[u,v]:=by
 obtain ⟨its,r,p,_⟩:=I.tuple (.inl (.inl hb))
 cases r with
 | cons r1 r2 =>
  cases r2 with
  | cons r2 r3 =>
   cases r3
   exact ⟨_,_,r1,r2,p⟩
theorem tuple_inj {h:Heap} {b:Addr} {x y:Array Value} (p:h.IsTuple b x) (q:h.IsTuple b y):x=y:=by
 obtain ⟨o,h1,_,n,h2⟩:=p
 obtain ⟨o',g1,_,m,g2⟩:=q
 rw [h1] at g1
 cases g1
 rw [h2] at g2
 cases g2
 rfl
theorem zmH (hc:X.calm=true) (hu:X.A.units+66 < cLine):zhf X (.type "dict") zs8:=by
 intro pins s σ H xs us Q I r h
 obtain ⟨a,vs,ps,rfl,ha,hl,hz,hp,q⟩:=h
 obtain ⟨u,rfl,ru⟩:=zjM r
 cases ru
 obtain ⟨z,its,n,rv,hlen,e⟩:=I.lstM ha
 have hsz:its.toArray.size=ps.length:=by rw [qy,← hlen,hl]
 have hit:∀ (i:Nat) (v:Value),its.toArray[i]?=some v->∃ p b u w,ps[i]?=some p/\v=.ref b/\zcN (kV p.1) u/\zcN p.2 w/\s.heap.IsTuple b #[u,w]:=fun i v hv=>by
  have hi:i < ps.length:=by rw [← hsz];exact (Array.getElem?_eq_some_iff.mp hv).1
  obtain ⟨b,hb1,hb2⟩:=hp i ps[i] (by simp [hi])
  obtain ⟨u2,hu2,ru2⟩:=rv.get hb1
  have hv':its[i]?=some v:=by simpa using hv
  rw [hu2] at hv'
  cases hv'
  cases ru2
  obtain ⟨u,w,r1,r2,r3⟩:=znJ I hb2
  exact ⟨ps[i],b,u,w,by simp [hi],rfl,r1,r2,r3⟩
 refine DT.call_dict_gen (I.ok.hd hc) e (fun i o=>∃ vs',KV (mrg [] (ps.take i)) vs'/\o.IsDictOf (zby X.prog X.w) vs') ?_ (fun A' hA' i b kv vv sh o Q' E' hi hv hb ho hJ hB hQ=>?_) (fun i v hv=>?_) fun h' tk o ho hJ hk=>?_
 ·obtain ⟨o,ho,hd⟩:=Heap.dictOf_iff.mp (Heap.DictOf.new (knd:=zby X.prog X.w) s.heap)
  have:o={ cls:=.type "dict",data:=.dict #[] }:=by
   have:=qC s.heap (o:={ cls:=.type "dict",data:=.dict #[] }) rfl
   rw [this] at ho
   exact (qD ho).symm
  subst this
  exact ⟨[],.nil,hd⟩
 ·obtain ⟨p,b',u,w,h1,h2,h3,h4,h5⟩:=hit i _ hv
  cases h2
  have e2:=tuple_inj hb h5
  have e3:kv=u/\vv=w:=by simpa using e2
  obtain ⟨rfl,rfl⟩:=e3
  obtain ⟨vs',k1,k2⟩:=hJ
  have hle:vs'.length<=1000:=by
   have q1:=k1.length
   have q2:=zhE (ps.take i) ([]:List (Key×V))
   rw [qA,qk] at q2
   omega
  refine wpAny_dictSet_pairs (zpG h3) (Heap.dictOf_iff.mpr ⟨o,ho,k2⟩) (fun h' hd' hsb=>?_) (by rw [sizeLine_eq];omega)
  obtain ⟨o',ho',hd''⟩:=Heap.dictOf_iff.mp hd'
  refine hQ h' _ o' (Nat.le_succ _) hsb ho' ⟨_,?_,hd''⟩
  have htk:ps.take (i+1)=ps.take i++[p]:=by rw [List.take_succ,h1];rfl
  rw [htk,zlQ]
  exact k1.put p.1 h4
 ·obtain ⟨p,b,u,w,h1,h2,h3,h4,h5⟩:=hit i v hv
  exact ⟨b,u,w,h2,h5⟩
 ·obtain ⟨vs',k1,k2⟩:=hJ
  rw [hsz,List.take_length] at k1
  refine ⟨.ref s.heap.objs.size,_,I.laid (a:=s.heap.objs.size) (o:=.dK (mrg [] ps)) (fun b u e=>hk b u (qr e) e) (qt _) ⟨?_,?_,vs',k1,Heap.dictOf_iff.mpr ⟨o,ho,k2⟩⟩,rfl,q _ I.fresh⟩
  ·have:=zhE ps ([]:List (Key×V))
   rw [qk] at this
   rw [sizeLine_eq]
   omega
  ·exact beq_eq_false_iff_ne.mpr (Ne.symm (qz I.big))
def zs7:List V->Hp->VK->Prop:=fun xs H Q=>∃ (a:Addr) (vs:List V) (ps:List (List Key×V)),xs=[.ref a]/\H a=some (.lst vs)/\vs.length=ps.length/\ps.length<=1000/\(∀ (i:Nat) p,ps[i]?=some p->∃ b kb,vs[i]?=some (.ref b)/\H b=some (.tup [.ref kb,p.2])/\H kb=some (.tup (p.1.map kV))) /\
 ∀ q,H q=none->Q (.ref q) (upd H q (.dT (mrg [] ps)))
theorem ztN {H:Hp} {P:List Key->Addr->Prop} (hP:∀ k b,H b=some (.tup (k.map kV))->P k b):∀ {kvs:List (List Key×V)} {xs:List (List Key×Addr×Value)},KT H kvs xs->∀ x∈xs,P x.1 x.2.1:=by
 intro kvs xs q
 induction q with
 | nil=>intro x hx;cases hx
 | @cons p y ps ys hq t ih =>
  intro x hx
  rcases List.mem_cons.mp hx with rfl | hx
  ·exact hP _ _ (by rw [← hq.1];exact hq.2.1)
  ·exact ih x hx
theorem zmG (hc:X.calm=true) (hu:X.A.units+66 < cLine):zhf X (.type "dict") zs7:=by
 intro pins s σ H xs us Q I r h
 obtain ⟨a,vs,ps,rfl,ha,hl,hz,hp,q⟩:=h
 obtain ⟨u,rfl,ru⟩:=zjM r
 cases ru
 obtain ⟨z,its,n,rv,hlen,e⟩:=I.lstM ha
 have hsz:its.toArray.size=ps.length:=by rw [qy,← hlen,hl]
 have hit:∀ (i:Nat) (v:Value),its.toArray[i]?=some v->∃ p b kb w,ps[i]?=some p/\v=.ref b/\H kb=some (.tup (p.1.map kV))/\zcN p.2 w/\s.heap.IsTuple b #[.ref kb,w]:=fun i v hv=>by
  have hi:i < ps.length:=by rw [← hsz];exact (Array.getElem?_eq_some_iff.mp hv).1
  obtain ⟨b,kb,hb1,hb2,hb3⟩:=hp i ps[i] (by simp [hi])
  obtain ⟨u2,hu2,ru2⟩:=rv.get hb1
  have hv':its[i]?=some v:=by simpa using hv
  rw [hu2] at hv'
  cases hv'
  cases ru2
  obtain ⟨u,w,r1,r2,r3⟩:=znJ I hb2
  cases r1
  exact ⟨ps[i],b,kb,w,by simp [hi],rfl,hb3,r2,r3⟩
 have isk:∀ {h':Heap},(∀ b o,b < s.heap.objs.size->s.heap.get? b=some o->h'.get? b=some o)->∀ k b,H b=some (.tup (k.map kV))->(tupleKind (zby X.prog X.w)).is h' k b:=fun hB k b hb=>ST.IsTupleKey.mono (zlU I.hok hb) fun o e=>hB _ _ (qr e) e
 refine DT.call_dict_gen (I.ok.hd hc) e (fun i o=>∃ xs',KT H (mrg [] (ps.take i)) xs'/\∃ es ep,o.ExactDict/\o.data=.dict es ep/\es.toList=xs'.map (entryOfKey (tupleKind (zby X.prog X.w)))/\(xs'.map (·.1)).Nodup) ?_ (fun A' hA' i b kv vv sh o Q' E' hi hv hb ho hJ hB hQ=>?_) (fun i v hv=>?_) fun h' tk o ho hJ hk=>?_
 ·exact ⟨[],.nil,#[],0,⟨rfl,rfl,rfl⟩,rfl,rfl,List.nodup_nil⟩
 ·obtain ⟨p,b',kb,w,h1,h2,h3,h4,h5⟩:=hit i _ hv
  cases h2
  have e2:=tuple_inj hb h5
  have e3:kv=.ref kb/\vv=w:=by simpa using e2
  obtain ⟨rfl,rfl⟩:=e3
  obtain ⟨xs',k1,es,ep,k2,k3,k4,k5⟩:=hJ
  have hle:xs'.length<=1000:=by
   have q1:=Paired.length k1
   have q2:=zhE (ps.take i) ([]:List (List Key×V))
   rw [qA,qk] at q2
   omega
  refine wpAny_dictSet_heap (knd:=tupleKind (zby X.prog X.w)) (show A'.units < cLine by omega) (isk hB _ _ h3) ⟨o,es,ep,ho,k2,k3,k4,ztN (isk hB) k1,k5⟩ (fun h' hd' hsb=>?_) (by rw [sizeLine_eq];omega)
  obtain ⟨o',es',ep',ho',w2,w3,w4,_,w5⟩:=hd'
  refine hQ h' _ o' (Nat.le_add_right _ _) hsb ho' ⟨_,?_,es',ep',w2,w3,w4,w5⟩
  have htk:ps.take (i+1)=ps.take i++[p]:=by rw [List.take_succ,h1];rfl
  rw [htk,zlQ]
  exact k1.put p.1 h3 h4
 ·obtain ⟨p,b,kb,w,h1,h2,h3,h4,h5⟩:=hit i v hv
  exact ⟨b,_,w,h2,h5⟩
 ·obtain ⟨xs',k1,es,ep,k2,k3,k4,k5⟩:=hJ
  rw [hsz,List.take_length] at k1
  refine ⟨.ref s.heap.objs.size,_,I.laid (a:=s.heap.objs.size) (o:=.dT (mrg [] ps)) (fun b u e=>hk b u (qr e) e) (qt _) ⟨?_,?_,xs',k1.keeps fun b ys e=>?_,o,es,ep,ho,k2,k3,k4,k5⟩,rfl,q _ I.fresh⟩
  ·have:=zhE ps ([]:List (List Key×V))
   rw [qk] at this
   rw [sizeLine_eq]
   omega
  ·exact beq_eq_false_iff_ne.mpr (Ne.symm (qz I.big))
  ·rw [zaF (zaC e I.fresh)];exact e
end
section
variable {Γ:Cn} {X:Cx}
def ziI:List D->Option (List (Key×D))
 | []=>some []
 | .tup [k,v]::r=>(zpT k).bind fun kk=>(ziI r).map ((kk,v)::·)
 | _::_=>none
def zhC:List D->Option (List (List Key×D))
 | []=>some []
 | .tup [.tup t,v]::r=>(zhb t).bind fun kk=>(zhC r).map ((kk,v)::·)
 | _::_=>none
def zuw {κ:Type} [DecidableEq κ] (ps:List (κ×D)):List (κ×D):=ps.foldl (fun acc kv=>zmu acc kv.1 kv.2) []
def zkl:List D->Option D
 | [.lst l]=>if l.length<=1000 then (ziI l).map fun ps=>.dk (zuw ps) else none
 | _=>none
def zl4:List D->Option D
 | [.lst l]=>if l.length<=1000 then (zhC l).map fun ps=>.dt (zuw ps) else none
 | _=>none
theorem zn1 {κ:Type} [DecidableEq κ] {K:PySem.W.Frag} {G:Hp}:∀ {us:List (κ×V)} {kvs:List (κ×D)} {acc:List (κ×V)} {acd:List (κ×D)},us.map (·.1)=kvs.map (·.1)->Reps Γ K G (us.map (·.2)) (kvs.map (·.2))->acc.map (·.1)=acd.map (·.1)->Reps Γ K G (acc.map (·.2)) (acd.map (·.2)) ->
  (mrg acc us).map (·.1)=(kvs.foldl (fun acc kv=>zmu acc kv.1 kv.2) acd).map (·.1)/\Reps Γ K G ((mrg acc us).map (·.2)) ((kvs.foldl (fun acc kv=>zmu acc kv.1 kv.2) acd).map (·.2))
 | [],[],_,_,_,_,e,r=>⟨e,r⟩
 | [],_::_,_,_,e,_,_,_=>by cases e
 | _::_,[],_,_,e,_,_,_=>by cases e
 | (k1,v)::us,(k2,d)::kvs,acc,acd,e,r,e0,r0=>by
  have e1:k1=k2:=(List.cons.inj e).1
  subst e1
  have r:Reps Γ K G (v::us.map (·.2)) (d::kvs.map (·.2)):=r
  cases r with
  | cons r1 r2 =>
   obtain ⟨w1,w2⟩:=zqz (k:=k1) r1 e0 r0
   exact zn1 (us:=us) (kvs:=kvs) (List.cons.inj e).2 r2 w1 w2
theorem zj5 {K:PySem.W.Frag} {G H:Hp} (gh:zcd G H):∀ {vs:List V} {ds:List D} {ps:List (Key×D)},Reps Γ K G vs ds->ziI ds=some ps ->
  ∃ us:List (Key×V),vs.length=us.length/\us.map (·.1)=ps.map (·.1)/\Reps Γ K G (us.map (·.2)) (ps.map (·.2))/\∀ (i:Nat) p,us[i]?=some p->∃ b,vs[i]?=some (.ref b)/\H b=some (.tup [kV p.1,p.2])
 | _,[],ps,r,h=>by cases r;cases h;exact ⟨[],rfl,rfl,.nil,fun i p e=>by simp at e⟩
 | _,d::ds,ps,.cons h1 h2,h=>by
  unfold ziI at h
  split at h
  ·rename_i heq;cases heq
  ·rename_i heq
   cases heq
   obtain ⟨kk,hk,h⟩:=oBd h
   obtain ⟨zs,hz,rfl⟩:=oMd h
   obtain ⟨us,q1,q2,q3,q4⟩:=zj5 gh h2 hz
   obtain ⟨a,ws,rfl,ha,ra⟩:=h1.tup_inv
   obtain ⟨x,y,rfl,rx,ry⟩:=ra.two
   have ex:=zla rx hk
   subst ex
   refine ⟨(kk,y)::us,by rw [qh,qh,q1],by simp [q2],.cons ry q3,fun i p e=>?_⟩
   cases i with
   | zero=>cases e;exact ⟨a,rfl,gh _ _ ha⟩
   | succ i=>exact q4 i p e
  ·cases h
theorem zj4 {K:PySem.W.Frag} {G H:Hp} (gh:zcd G H):∀ {vs:List V} {ds:List D} {ps:List (List Key×D)},Reps Γ K G vs ds->zhC ds=some ps ->
  ∃ us:List (List Key×V),vs.length=us.length/\us.map (·.1)=ps.map (·.1)/\Reps Γ K G (us.map (·.2)) (ps.map (·.2))/\∀ (i:Nat) p,us[i]?=some p->∃ b kb,vs[i]?=some (.ref b)/\H b=some (.tup [.ref kb,p.2])/\H kb=some (.tup (p.1.map kV))
 | _,[],ps,r,h=>by cases r;cases h;exact ⟨[],rfl,rfl,.nil,fun i p e=>by simp at e⟩
 | _,d::ds,ps,.cons h1 h2,h=>by
  unfold zhC at h
  split at h
  ·rename_i heq;cases heq
  ·rename_i heq
   cases heq
   obtain ⟨kk,hk,h⟩:=oBd h
   obtain ⟨zs,hz,rfl⟩:=oMd h
   obtain ⟨us,q1,q2,q3,q4⟩:=zj4 gh h2 hz
   obtain ⟨a,ws,rfl,ha,ra⟩:=h1.tup_inv
   obtain ⟨x,y,rfl,rx,ry⟩:=ra.two
   obtain ⟨kb,ks,rfl,hkb,rk⟩:=rx.tup_inv
   have ex:=zf7 rk hk
   subst ex
   refine ⟨(kk,y)::us,by rw [qh,qh,q1],by simp [q2],.cons ry q3,fun i p e=>?_⟩
   cases i with
   | zero=>cases e;exact ⟨a,kb,rfl,gh _ _ ha,gh _ _ hkb⟩
   | succ i=>exact q4 i p e
  ·cases h
theorem zlv (hc:X.calm=true) (hu:X.A.units+66 < cLine):TyD Γ X "dict" zkl:=⟨_,zmH hc hu,fun {G H vs ds z} gh r h Q k=>by
 unfold zkl at h
 split at h
 ·split at h
  ·rename_i hz
   obtain ⟨ps,hp,rfl⟩:=oMd h
   obtain ⟨v,rfl,r1⟩:=r.one
   obtain ⟨a,ws,rfl,ha,ra⟩:=r1.lst_inv
   obtain ⟨us,q1,q2,q3,q4⟩:=zj5 gh ra hp
   refine ⟨a,ws,us,rfl,gh _ _ ha,q1,by rw [← q1,ra.length];exact hz,q4,fun p hp=>?_⟩
   have s:=Step.new (o:=.dK (mrg [] us)) gh hp
   obtain ⟨w1,w2⟩:=zn1 (acc:=[]) (acd:=[]) q2 q3 rfl .nil
   exact k _ _ _ s (.dk zaL w1 (w2.mono s.gg))
  ·cases h
 ·cases h⟩
theorem zo3 (hc:X.calm=true) (hu:X.A.units+66 < cLine):TyD Γ X "dict" zl4:=⟨_,zmG hc hu,fun {G H vs ds z} gh r h Q k=>by
 unfold zl4 at h
 split at h
 ·split at h
  ·rename_i hz
   obtain ⟨ps,hp,rfl⟩:=oMd h
   obtain ⟨v,rfl,r1⟩:=r.one
   obtain ⟨a,ws,rfl,ha,ra⟩:=r1.lst_inv
   obtain ⟨us,q1,q2,q3,q4⟩:=zj4 gh ra hp
   refine ⟨a,ws,us,rfl,gh _ _ ha,q1,by rw [← q1,ra.length];exact hz,q4,fun p hp=>?_⟩
   have s:=Step.new (o:=.dT (mrg [] us)) gh hp
   obtain ⟨w1,w2⟩:=zn1 (acc:=[]) (acd:=[]) q2 q3 rfl .nil
   exact k _ _ _ s (.dt zaL w1 (w2.mono s.gg))
  ·cases h
 ·cases h⟩
end
end L2
end
section
namespace L2
open PySem PySem.Spec PyProof.Rows
section
variable {Γ:Cn} {X:Cx} {e:Expr} {es:List Expr} {fr:FA} {pos p2:Pos} {x:Str}
def zmq (fr:FA):FS:=fun ρ=>(fr ρ).map fun ds=>(.ow ds,ρ)
theorem zom (h:DO Γ X e fr):DS Γ X (.Return (some e) pos) (zmq fr):=⟨(zny h.1).imp fun E σ H=>by
 rintro ⟨G₀,H₀,G,ρ,fl,ρ',A,h,k⟩
 unfold zmq at h
 obtain ⟨ds,hd,h⟩:=oMd h
 cases h
 refine ⟨G₀,H₀,G,ρ,ds,A,hd,fun p vs G' H' s hp r=>?_⟩
 have hp0:H₀ p=none:=A.st.hh.free (s.hh.free hp)
 have hg:G' p=none:=s.gh.free hp
 have s2:=s.trans (Step.newOwn (o:=.lst vs) s.gh hp)
 exact k σ G' _ s.gg (A.step s2) p vs hp0 hg zaL r⟩
def spO (Γ:Cn) (K:PySem.W.Frag) (n:Nat) (F:List D->Option (List D)):Sp:=fun vs H Q _=>∃ G ds rs,zcd G H/\Reps Γ K G vs ds/\ds.length=n/\F ds=some rs/\∀ p us G' H',Step G H G' H'->H' p=none->Reps Γ K G' us rs->Q (.ref p) (upd H' p (.lst us))
def zsu (n:Nat) (g:FS):List D->Option (List D):=fun ds=>(g (ds.map (fun d=>some (Slot.sh d))++List.replicate n none)).bind fun r=>match r.1 with
 | .ow ds=>some ds
 | _=>none
theorem Fun.okO {P:Program} {w:World} {K:PySem.W.Frag} {mg:Str->Option Value} {base:Heap} {x qual:Str} {st:Stmt} {f:Addr} {fd:FuncData} {N ps:List Str} {k:Nat} {g:FS} (F:Fun K x qual st f fd) (S:FnScope N ps (zao st))
  (hbody:∀ (cdv:Value) (A:Around) (outer:List Env) (s:Shared) (H:Hp) (E:XK),Room k (A.deeper (envOfC qual (zao st) s.heap.objs.size f cdv)) ->
   DSs Γ (zkI CX0 P w K mg base N qual (zao st) f cdv A outer s H E).nox (zbv st) g):FnOk P w K mg base CX0 (k+1) f fd ps (spO Γ K ps.length (zsu (N.length - ps.length) g)):=by
 refine F.ok S (fun vs H Q E h=>?_) (fun cdv A outer s H vs Q E hr h=>?_)
 ·obtain ⟨G,ds,d,_,r,hl,_⟩:=h
  rw [r.length,hl]
 ·obtain ⟨G,ds,rs,gh,r,hl,hd,k⟩:=h
  refine ⟨_,(hbody cdv A outer s H E hr).1,?_⟩
  unfold zsu at hd
  obtain ⟨⟨fl,ρ'⟩,hg,hd⟩:=oBd hd
  refine ⟨G,H,G,_,fl,ρ',zho gh r (by rw [r.length,hl]),hg,fun σ' G' H' sm A'=>?_⟩
  cases fl with
  | rt d'=>cases hd
  | nx=>cases hd
  | bk=>cases hd
  | ct=>cases hd
  | nw d'=>cases hd
  | od d'=>cases hd
  | ow d' =>
   cases hd
   intro p us hp0 hg hp rr
   have st:Step G H G' (fun b=>if b=p then none else H' b):=by
    refine ⟨fun b o e=>?_,A'.st.gg,fun b o e=>?_,A'.st.out⟩
    ·show (if b=p then none else H' b)=some o
     rw [qS (zaC e hp0)];exact A'.st.hh b o e
    ·show (if b=p then none else H' b)=some o
     rw [qS (zaC e hg)];exact A'.st.gh b o e
   have:=k p us G' _ st (qR rfl) rr
   have hf:upd (fun b=>if b=p then none else H' b) p (.lst us)=H':=by
    funext b
    by_cases hb:b=p
    ·subst hb;rw [zaL,hp]
    ·rw [zaF hb];exact qS hb
   rwa [hf] at this
end
structure CalO (Γ:Cn) (P:Program) (w:World) (K:PySem.W.Frag) (mg:Str->Option Value) (base:Heap) (x:Str) (n k:Nat) (F:List D->Option (List D)):Prop where
 ex:∃ f fd ps,FnOk P w K mg base CX0 k f fd ps (spO Γ K n F)/\mg x=some (.ref f)/\PySem.W.keepIn K (.ref f)=true/\zdG K fd ps []
def cFO (F:List D->Option (List D)) (fr:FA):FA:=fun ρ=>(fr ρ).bind F
section
variable {Γ:Cn} {X:Cx} {e:Expr} {es:List Expr} {fr:FA} {pos p:Pos}
theorem zuc {x:Str} {n k:Nat} {F:List D->Option (List D)} (C:CalO Γ X.prog X.w X.K X.mg X.base x n k F) {j:Nat} (hr:Room j X.A) (hk:k<=j) (hg:Gl X x) (ha:DA Γ X (e::es) fr) (hn:∀ ρ ds,fr ρ=some ds->ds.length=n)
  (hdb:(x==("__debug__":Str))=false:=by decide) (he:starEach (e::es) X.env=(false,eval e X.env)::starEach es X.env:=by rfl) (hpl:(backTo pos (starEach es X.env)).any (·.1)=false:=by rfl) :
  DO Γ X (.Call (.Name x p) (e::es) [] pos) (cFO F fr):=⟨by
 obtain ⟨f,fd,ps,h1,h2,h3,h4⟩:=C.ex
 refine (zkX h1 (hr.mono hk) hg h2 h3 h4 .nil zkZ ha.1 hdb he hpl).imp fun σ H Q=>?_
 rintro ⟨G₀,H₀,G,ρ,d,A,h,k⟩
 unfold cFO at h
 obtain ⟨ds,hd,h⟩:=oBd h
 refine ⟨G₀,H₀,G,ρ,ds,A,hd,fun vs G1 H1 s1 r1=>?_⟩
 show spO Γ X.K n F (vs++[]) H1 Q E0
 rw [List.append_nil]
 exact ⟨G1,ds,d,s1.gh,r1,hn ρ ds hd,h,fun p us G' H' s hp r=>k p us G' H' (s1.trans s) hp r⟩⟩
theorem Dfn.calO {P:Program} {w:World} {K:PySem.W.Frag} {mg:Str->Option Value} {base:Heap} {x:Str} {st:Stmt} {N ps:List Str} {k:Nat} {g:FS} (F:Dfn K mg x st) (S:FnScope N ps (zao st))
  (hb:∀ (kV doc pm:Value) (an:Option Addr) (cdv ct:Value) (us:List Value),us.length=ps.length->bindArgs (PySem.W.fnOf x x (zcJ st) (zbv st) (zao st) .none kV doc pm an cdv ct) ⟨us,[]⟩=pure (ps.zip us))
  (hbody:∀ (f:Addr) (cdv:Value) (A:Around) (outer:List Env) (s:Shared) (H:Hp) (E:XK),Room k (A.deeper (envOfC x (zao st) s.heap.objs.size f cdv)) ->
   DSs Γ (zkI CX0 P w K mg base N x (zao st) f cdv A outer s H E).nox (zbv st) g):CalO Γ P w K mg base x ps.length (k+1) (zsu (N.length - ps.length) g):=by
 obtain ⟨f,fd,h1,h2⟩:=F.ex
 exact ⟨f,fd,ps,h1.okO S (hbody f),h2,h1.kp,h1.binds hb⟩
theorem Dfn.none {P:Program} {w:World} {K:PySem.W.Frag} {mg:Str->Option Value} {base:Heap} {x:Str} {st:Stmt} {ps:List Str} {k:Nat} (F:Dfn K mg x st)
  (hb:∀ (kV doc pm:Value) (an:Option Addr) (cdv ct:Value) (us:List Value),us.length=ps.length->bindArgs (PySem.W.fnOf x x (zcJ st) (zbv st) (zao st) .none kV doc pm an cdv ct) ⟨us,[]⟩=pure (ps.zip us))
  : Cal Γ P w K mg base x ps.length k (fun _=>Option.none):=by
 obtain ⟨f,fd,h1,h2⟩:=F.ex
 refine ⟨f,fd,ps,⟨fun vs H Q E h=>?_,fun A outer s H args us vs Q E hr I b v h=>?_⟩,h2,h1.kp,h1.binds hb⟩
 ·obtain ⟨_,_,_,_,_,_,z,_⟩:=h
  cases z
 ·obtain ⟨_,_,_,_,_,_,z,_⟩:=h
  cases z
end
end L2
end
section
namespace L2
open PySem PySem.Spec PyProof.Rows
def orG (g g':D->D->Option D) (x y:D):Option D:=match g x y with
 | some z=>some z
 | none=>g' x y
section
variable {Γ:Cn} {X:Cx} {a b c e:Expr} {fa fb:FE} {op:CmpOp} {g g':D->D->Option D}
theorem ztw {x y z:D} (h:orG g g' x y=some z):g x y=some z\/g' x y=some z:=by
 unfold orG at h
 split at h
 ·rename_i q;cases h;exact .inl q
 ·exact .inr h
theorem CmpD.or (h:CmpD Γ X op g) (h':CmpD Γ X op g'):CmpD Γ X op (orG g g'):=by
 obtain ⟨r,o,d⟩:=h.ex
 obtain ⟨r',o',d'⟩:=h'.ex
 refine ⟨_,o.or o',fun {G H v u x y z} gh r1 r2 q Q k=>?_⟩
 rcases ztw q with q | q
 ·exact .inl (d gh r1 r2 q Q k)
 ·exact .inr (d' gh r1 r2 q Q k)
def neA:=orG neD zrD
theorem zma (hu:X.A.units+64 < cLine):CmpD Γ X .NotEq neA:=zuk.or (zuj hu)
theorem DfnM.mk' {K:PySem.W.Frag} {C f:Addr} {c m qual:Str} {st:Stmt} {oc:Value} {od an:Option Addr} {osl:Array (Option Value)} {kV doc pm cdv ct:Value} (a:PySem.W.findIn K (.ref C) m=some (some (.ref f))) (i:PySem.W.isFn K (.ref f)=true)
  (l:K.lookup f=some ⟨oc,od,.func (PySem.W.fnOf m qual (zcJ st) (zbv st) (zao st) .none kV doc pm an cdv ct),osl⟩) (cd:PySem.W.codeIn K cdv qual=true) (k:PySem.W.keepIn K (.ref f)=true):DfnM K C c m qual st:=⟨f,_,zoe l cd k,a,i⟩
end
section
variable {ρ:za1} {f1 f2 f3 f4 f5 f6 f7:FE}
theorem ln1:∀ ρ ds,zac f1 zak ρ=some ds->ds.length=1:=zdE fun _ _ h=>zp5 h
theorem ln2:∀ ρ ds,zac f1 (zac f2 zak) ρ=some ds->ds.length=2:=zdE ln1
theorem ln3:∀ ρ ds,zac f1 (zac f2 (zac f3 zak)) ρ=some ds->ds.length=3:=zdE ln2
theorem ln4:∀ ρ ds,zac f1 (zac f2 (zac f3 (zac f4 zak))) ρ=some ds->ds.length=4:=zdE ln3
theorem ln5:∀ ρ ds,zac f1 (zac f2 (zac f3 (zac f4 (zac f5 zak)))) ρ=some ds->ds.length=5:=zdE ln4
theorem ln6:∀ ρ ds,zac f1 (zac f2 (zac f3 (zac f4 (zac f5 (zac f6 zak))))) ρ=some ds->ds.length=6:=zdE ln5
theorem ln7:∀ ρ ds,zac f1 (zac f2 (zac f3 (zac f4 (zac f5 (zac f6 (zac f7 zak)))))) ρ=some ds->ds.length=7:=zdE ln6
end
end L2
end
section
namespace L2
open PySem PySem.Spec PyProof.Rows
section
variable {Γ:Cn} {K:PySem.W.Frag} {G₀ H₀ G H:Hp} {ρ:za1} {σ:St}
end
section
variable {Γ:Cn} {X:Cx} {a b c e value:Expr} {es:List Expr} {f fk fv:FE} {fr:FA} {pos pos' p dp:Pos} {g:FS} {x:Str} {sts:List Stmt}
end
end L2
end
section
namespace L2
open PySem PySem.Spec PyProof.Rows
section
variable {Γ:Cn} {X:Cx} {e c:Expr} {es:List Expr} {fr:FA} {pos p2 p pos':Pos} {x:Str} {ft:FT}
def zv7 (Γ:Cn) (K:PySem.W.Frag) (n:Nat) (F:List D->Option (List (Key×D))):Sp:=fun vs H Q _=>∃ G ds rs,zcd G H/\Reps Γ K G vs ds/\ds.length=n/\F ds=some rs/\∀ p us G' H',Step G H G' H'->H' p=none->us.map (·.1)=rs.map (·.1)->Reps Γ K G' (us.map (·.2)) (rs.map (·.2))->Q (.ref p) (upd H' p (.dK us))
structure CalD (Γ:Cn) (P:Program) (w:World) (K:PySem.W.Frag) (mg:Str->Option Value) (base:Heap) (x:Str) (n k:Nat) (F:List D->Option (List (Key×D))):Prop where
 ex:∃ f fd ps,FnOk P w K mg base CX0 k f fd ps (zv7 Γ K n F)/\mg x=some (.ref f)/\PySem.W.keepIn K (.ref f)=true/\zdG K fd ps []
end
end L2
end
section
namespace L2
open PySem PySem.Spec PyProof.Rows
section
variable {X:Cx} {pins:List (Addr×Obj)} {σ:St} {H H':Hp} {s:Shared} {h':Heap}
end
section
variable {Γ:Cn} {X:Cx} {e c o tg:Expr} {es:List Expr} {fr:FA} {pos p2 p pos' apos cpos:Pos} {x:Str} {ft:FT}
mutual
theorem Rep.drop {K:PySem.W.Frag} {G G':Hp} {a:Addr} {ob:Obj} {u:List (Key×V)} (ha:G a=some (.frz ob (.dK u))) (hG:∀ b,b≠a->G' b=G b):∀ {v:V} {d:D},Rep Γ K G v d->Rep Γ K G' v d
 | _,_,.non=>.non
 | _,_,.bl b=>.bl b
 | _,_,.int i=>.int i
 | _,_,.str x=>.str x
 | _,_,.ty x=>.ty x
 | _,_,.tup h r=>.tup ((hG _ (zii h ha (by intro z;cases z))).trans h) (Reps.drop' ha hG r)
 | _,_,.lst h r=>.lst ((hG _ (zii h ha (by intro z;cases z))).trans h) (Reps.drop' ha hG r)
 | _,_,.scr h=>.scr (by
   rcases h with (h | ⟨ob',h⟩) | h
   ·exact .inl (.inl ((hG _ (zii h ha (by intro z;cases z))).trans h))
   ·exact .inl (.inr ⟨ob',(hG _ (zii h ha (by intro z;cases z))).trans h⟩)
   ·exact .inr h)
 | _,_,.dk h e r=>.dk ((hG _ (zii h ha (by intro z;cases z))).trans h) e (Reps.drop' ha hG r)
 | _,_,.dt h e r=>.dt ((hG _ (zii h ha (by intro z;cases z))).trans h) e (Reps.drop' ha hG r)
 | _,_,.ins h c e r=>.ins ((hG _ (zii h ha (by intro z;cases z))).trans h) c e (Reps.drop' ha hG r)
theorem Reps.drop' {K:PySem.W.Frag} {G G':Hp} {a:Addr} {ob:Obj} {u:List (Key×V)} (ha:G a=some (.frz ob (.dK u))) (hG:∀ b,b≠a->G' b=G b):∀ {vs:List V} {ds:List D},Reps Γ K G vs ds->Reps Γ K G' vs ds
 | _,_,.nil=>.nil
 | _,_,.cons h r=>.cons (Rep.drop ha hG h) (Reps.drop' ha hG r)
end
open Classical in
end
end L2
end
section
namespace L2
open PySem PySem.Spec PyProof.Rows PyProof
section
variable {prog:Program} {w:World} {A:Around} {R:Result->Shared->Prop} {I:Addr} {fp wr:List Addr} {n:Nat} {P:Nat->Value->Prop} {St:Nat->Heap->Prop}
end
section
variable {prog:Program} {w:World} {A:Around} {E:Value->Shared->Prop} {s:Shared}
end
section
variable {Γ:Cn} {X:Cx} {e:Expr} {f:FE} {pos p:Pos}
end
end L2
end
section
namespace L2
open PySem PySem.Spec PyProof.Rows
def TDn (Γ:Cn) (K:PySem.W.Frag) (f:FE):TE:=fun σ H Q=>∃ G₀ H₀ G ρ d,At Γ K G₀ H₀ G H ρ σ/\f ρ=some d/\∀ v G' H',Step G H G' H'->Rep Γ K G' v d->NewL H G' v d->Q v H'
structure DN (Γ:Cn) (X:Cx) (e:Expr) (f:FE):Prop where
 out:PE X e (TDn Γ X.K f)
section
variable {Γ:Cn} {X:Cx} {a b c e tg iter:Expr} {es:List Expr} {fa fb fc f fe:FE} {fr fi:FA} {pos p p2 pos':Pos} {ft:FT} {g:FG} {x:Str}
variable {scope:Scope} {N':List Str} {fv:List (Option Nat)} {ifs:List Expr} {elt:Expr}
structure DBn (Γ:Cn) (X:Cx) (N':List Str) (scope:Scope) (tg:Expr) (ifs:List Expr) (elt:Expr) (g:FG) (ft:FT) (fe:FE):Prop where
 out:∀ (cl:List (Str×Addr)) (C:Addr) (s₀:Shared) (H₀:Hp) (fp:List Addr),DG Γ (zdh X N' scope cl C s₀ H₀ fp) tg g/\DTs Γ (zdh X N' scope cl C s₀ H₀ fp) ifs ft/\DN Γ (zdh X N' scope cl C s₀ H₀ fp) elt fe
end
def spN (Γ:Cn) (K:PySem.W.Frag) (n:Nat) (F:List D->Option D):Sp:=fun vs H Q _=>∃ G ds d,zcd G H/\Reps Γ K G vs ds/\ds.length=n/\F ds=some d/\∀ v G' H',Step G H G' H'->Rep Γ K G' v d->NewL H G' v d->Q v H'
section
variable {Γ:Cn} {P:Program} {w:World} {K:PySem.W.Frag} {mg:Str->Option Value} {base:Heap}
structure CalN (Γ:Cn) (P:Program) (w:World) (K:PySem.W.Frag) (mg:Str->Option Value) (base:Heap) (x:Str) (n k:Nat) (F:List D->Option D):Prop where
 ex:∃ f fd ps,FnOk P w K mg base CX0 k f fd ps (spN Γ K n F)/\mg x=some (.ref f)/\PySem.W.keepIn K (.ref f)=true/\zdG K fd ps []
structure CalMN (Γ:Cn) (P:Program) (w:World) (K:PySem.W.Frag) (mg:Str->Option Value) (base:Heap) (c m:Str) (n k:Nat) (F:List D->Option D):Prop where
 ex:∃ C f fd ps,Γ.cls c=some C/\Cls K C/\Meth K C m f/\FnOk P w K mg base CX0 k f fd ps (spN Γ K n F)/\zdG K fd ps []
structure CalMO (Γ:Cn) (P:Program) (w:World) (K:PySem.W.Frag) (mg:Str->Option Value) (base:Heap) (c m:Str) (n k:Nat) (F:List D->Option (List D)):Prop where
 ex:∃ C f fd ps,Γ.cls c=some C/\Cls K C/\Meth K C m f/\FnOk P w K mg base CX0 k f fd ps (spO Γ K n F)/\zdG K fd ps []
end
section
variable {Γ:Cn} {X:Cx} {e o:Expr} {es:List Expr} {fo f:FE} {fr:FA} {pos p apos pos':Pos} {c m x:Str}
end
end L2
end
section
namespace L2
open PySem PySem.Spec PyProof.Rows
structure Fly (P:Program) (w:World) (base:Heap) (outer:List Env) (H H':Hp) (s:Shared) (B:Heap) (e:Addr) (cls a0:Value) (h:Heap):Prop where
 bst:base.StaysIn B
 keep:∀ b o,s.heap.get? b=some o->H b=none->b∉frs outer->B.get? b=some o
 slot:∀ b o,s.heap.get? b=some o->H b=none->b∈frs outer->∃ sl,h.get? b=some { o with slots:=sl }
 nofl:∀ b o,s.heap.get? b=some o->b∈frs outer->∀ vs,o.data≠.fields vs
 free:∀ b o,s.heap.get? b=some o->H b=none->H' b=none
 there:∀ b o,s.heap.get? b=some o->b∉frs outer->∃ o',B.get? b=some o'
 frf:∀ b∈frs outer,H b=none
 tups:∀ b xs,H b=some (.tup xs)->H' b=some (.tup xs)
 frzs:∀ b o u,H b=some (.frz o u)->H' b=some (.frz o u)
 tbls:∀ b ps,H b=some (.tbl ps)->∃ more,H' b=some (.tbl (ps++more))
 hok:HOk P w H' B
 fly:Heap.FlyingW B outer e cls a0 h
 new:H' e=none
section
variable {P:Program} {w:World} {base B:Heap} {outer:List Env} {H H':Hp} {s:Shared} {e:Addr} {cls a0:Value} {h h':Heap}
end
def CXO (P:Program) (w:World) (base:Heap):CXT:=fun outer H s E e s' =>
 ∃ a cls a0 B H',e=.ref a/\s'.os=s.os/\AllBare s'.gens/\Fly P w base outer H H' s B a cls a0 s'.heap/\E cls none H'
section
variable {P:Program} {w:World} {K:PySem.W.Frag} {mg:Str->Option Value} {base:Heap} {N:List Str} {qual:Str} {scope:Scope} {f:Addr} {cd:Value} {A:Around} {outer:List Env} {s₀:Shared} {H₀:Hp} {E:XK}
 {pins:List (Addr×Obj)} {σ:St} {H:Hp} {s:Shared} {h1:Heap} {e:Addr} {cls:Value} {vs:List Value}
end
end L2
end
section
namespace L2
open PySem PySem.Spec PyProof.Rows
def zvx (Γ:Cn) (K:PySem.W.Frag) (n:String) (R:Hp->Prop) (E:Ends) (H₀ G' H':Hp) (σ':St) (fl:Fl):Prop:=(fl=.rt (.ty n)->R H')/\(fl≠.rt (.ty n)->zuA Γ K E H₀ G' H' σ' fl)
def TDx (Γ:Cn) (K:PySem.W.Frag) (n:String) (R:Hp->Prop) (g:FS):TS:=fun E σ H=>∃ G₀ H₀ G ρ fl ρ',At Γ K G₀ H₀ G H ρ σ/\g ρ=some (fl,ρ')/\∀ σ' G' H',zcd G G'->At Γ K G₀ H₀ G' H' ρ' σ'->zvx Γ K n R E H₀ G' H' σ' fl
structure DX (Γ:Cn) (X:Cx) (n:String) (R:Hp->Prop) (st:Stmt) (g:FS):Prop where
 out:PS X st (TDx Γ X.K n R g)
structure DXs (Γ:Cn) (X:Cx) (n:String) (R:Hp->Prop) (st:List Stmt) (g:FS):Prop where
 out:PSs X st (TDx Γ X.K n R g)
section
variable {Γ:Cn} {X:Cx} {n:String} {R:Hp->Prop} {c tg iter:Expr} {fi:FA} {pos:Pos} {g g':FS} {st:Stmt} {sts:List Stmt} {ft:FT} {gg:FG}
end
section
variable {Γ:Cn} {P:Program} {w:World} {K:PySem.W.Frag} {mg:Str->Option Value} {base:Heap} {N:List Str} {qual:Str} {scope:Scope} {f C:Addr} {cd:Value} {A:Around} {outer:List Env} {s₀:Shared} {H₀:Hp} {E:XK}
 {R:Hp->Prop} {n:String} {x:Str} {np cpos pos:Pos} {e₀:Expr} {zc2:List Expr} {fr:FA} {Bn newId initId:String} {bmB:List Value}
end
def spX (Γ:Cn) (K:PySem.W.Frag) (m:Nat) (F:List D->Option D) (n:String) (C:Addr):Sp:=fun vs H Q E=>∃ G ds d,zcd G H/\Reps Γ K G vs ds/\ds.length=m/\F ds=some d /\
 (d=.ty n->∀ G' H',Step G H G' H'->E (.ref C) none H')/\(d≠.ty n->∀ v G' H',Step G H G' H'->Rep Γ K G' v d->Q v H')
section
variable {Γ:Cn} {P:Program} {w:World} {K:PySem.W.Frag} {mg:Str->Option Value} {base:Heap}
structure CalX (Γ:Cn) (P:Program) (w:World) (K:PySem.W.Frag) (mg:Str->Option Value) (base:Heap) (x:Str) (m k:Nat) (F:List D->Option D) (n:String) (C:Addr):Prop where
 ex:∃ f fd ps,FnOk P w K mg base (CXO P w base) k f fd ps (spX Γ K m F n C)/\mg x=some (.ref f)/\PySem.W.keepIn K (.ref f)=true/\zdG K fd ps []
end
end L2
end
section
namespace L2
open PySem PySem.Spec PyProof.Rows
def zvv (a:Addr) (cls:Value) (h:Heap):Prop:=∃ o vs,h.get? a=some o/\o.cls=cls/\o.data=.fields vs
section
variable {P:Program} {w:World} {base B:Heap} {outer:List Env} {H H':Hp} {s:Shared} {e:Addr} {cls a0:Value} {h h':Heap}
end
section
variable {X:Cx} {pins:List (Addr×Obj)} {σ:St} {H:Hp} {s:Shared} {v:Value}
end
section
variable {X:Cx} {k:Nat} {f:Addr} {fd:FuncData} {ps:List Str} {sp:Sp} {fx cx n y:Str} {p p2 p3 cp py np ap hp pos:Pos} {e:Expr} {es:List Expr} {t:TA} {cv:Value} {i j:Nat}
end
end L2
end
section
namespace L2
open PySem PySem.Spec PyProof.Rows PySem.W Builtin Builtin.ObjectAttr Builtin.Getset_descriptor
structure ExcK (K:PySem.W.Frag) (C:Addr):Prop where
 cls:∃ cd,clsIn K C=some cd
 ga:findIn K (.ref C) "__getattribute__"=some (some (.builtin "BaseException.__getattribute__"))
 noga:findIn K (.ref C) "__getattr__"=some none
 lk:findIn K (.ref C) "__class__"=some (some (.builtin "object.__class__"))
 gs:specialIn K (.builtin "object.__class__") "__get__"=some (some (.builtin "getset_descriptor.__get__"))
 takes:takesIn K (.builtin "object.__class__")=some true
 mro:mroIn K C (.type "object")=some true
 base:subIn K (.ref C) (.type "BaseException")=some true
section
variable {prog:Program} {w:World} {A:Around} {E:Value->Shared->Prop} {s:Shared} {K:PySem.W.Frag} {x C:Addr} {M:Model} {h:Heap}
end
end L2
end
section
namespace L2
open PySem PySem.Spec PyProof.Rows
section
variable {Γ:Cn} {X:Cx} {a b c e o i:Expr} {es:List Expr} {fa fb fc f fo fk fx:FE} {fr fi:FA} {pos p apos cpos:Pos}
end
end L2
end
section
namespace L2
open PySem PySem.Spec PyProof.Rows
section
variable {Γ:Cn} {X:Cx} {a:Expr} {fa:FE} {pos:Pos}
theorem zoA (h:DE Γ X a fa):DE Γ X (.UnaryOp .USub a pos) (b1 ztK fa):=⟨fun pins s σ H Q I=>by
 rintro ⟨G₀,H₀,G,ρ,d,A,hq,k⟩
 unfold b1 at hq
 obtain ⟨x,hx,hq⟩:=oBd hq
 refine UnaryOp_ (thn (h.1 pins s σ H (fun v H'=>∃ G',Step G H G' H'/\Rep Γ X.K G' v x) I ⟨G₀,H₀,G,ρ,x,A,hx,fun v G' H' st r=>⟨G',st,r⟩⟩) fun v s1 ⟨v',H1,I1,r1,G1,st,rp⟩=>?_)
 unfold ztK at hq
 split at hq
 ·cases hq
  cases rp.int_inv
  obtain ⟨t,rfl⟩:=r1
  exact PyProof.Rows.neg_int ⟨.int _,H1,I1.tok _,⟨_,rfl⟩,k _ G1 H1 st (.int _)⟩
 ·cases hq⟩
end
def zvy:V->Option Value
 | .ref a=>some (.ref a)
 | .ty n=>some (.type n)
 | _=>none
inductive TyX (K:PySem.W.Frag) (H:Hp):V->Value->Prop where
 | non:TyX K H .non (.type "NoneType")
 | exc {a C:Addr}:H a=some (.ext (zvv a (.ref C)))->ExcK K C->TyX K H (.ref a) (.ref C)
inductive IsiC (K:PySem.W.Frag) (H:Hp) (t:Value):V->Bool->Prop where
 | one {c:V} {cv:Value} {b:Bool}:zvy c=some cv->PySem.W.kitOne K t cv=some b->IsiC K H t c b
 | tup {tp:Addr} {xs:List V} {its:List Value} {b:Bool}:H tp=some (.tup xs)->xs.mapM zvy=some its->PySem.W.kitAny K t its=some b->IsiC K H t (.ref tp) b
section
variable {X:Cx}
end
structure RefK (K:PySem.W.Frag) (mg:Str->Option Value) (CP CS CR CY CH CT:Addr):Prop where
 mP:mg "NoPlan"=some (.ref CP)
 mS:mg "ShopError"=some (.ref CS)
 mR:mg "NoRow"=some (.ref CR)
 mY:mg "NoSay"=some (.ref CY)
 mH:mg "NoShop"=some (.ref CH)
 mT:mg "NoTree"=some (.ref CT)
 exm:PySem.W.exmOne K (.ref CP) (.ref CS)=some true
 k0:PySem.W.kitOne K (.type "NoneType") (.ref CP)=some false
 k2:PySem.W.kitOne K (.ref CP) (.type "ValueError")=some true
 k3:PySem.W.kitAny K (.ref CP) [.ref CR,.ref CY,.ref CH,.ref CT]=some false
 exk:ExcK K CP
end L2
end
section
namespace L2
open PySem PySem.Spec PyProof.Rows
end L2
end
section
namespace L2
open PySem PySem.Spec PyProof.Rows
section
variable {α β:Type} {t:Sem α} {f:α->Sem β}
end
end L2
end
section
namespace L2
open PySem PySem.Spec PyProof.Rows PySem.W Builtin Builtin.ObjectAttr
def zvz:List Value:=[.type "ValueError",.type "Exception",.type "BaseException",.type "object"]
structure ExC (h:Heap) (C:Addr):Prop where
 ex:∃ nm q N bs bm sn sub ab col dd k0 k1 k2 k3 k5,h.get? C=some (excClassObj nm q C N bs bm true sn sub ab col dd k0 k1 k2 k3 k5 "ValueError.__new__")/\OwnTail h zvz bm
section
variable {prog:Program} {w:World} {A:Around} {E:Value->Shared->Prop} {s:Shared} {K:PySem.W.Frag} {C fI e t:Addr}
end
end L2
end
section
namespace L2
open PySem PySem.Spec PyProof.Rows PySem.W Builtin Builtin.ObjectAttr
section
variable {prog:Program} {w:World} {A:Around} {E:Value->Shared->Prop} {s:Shared} {K:PySem.W.Frag} {C fI e t:Addr} {name:Str} {v:Value}
end
end L2
end
section
namespace L2
open PySem PySem.Spec PyProof.Rows PySem.W Builtin Builtin.ObjectAttr Builtin.Getset_descriptor
def zws (a C dx:Addr) (h:Heap):Prop:=∃ o vs,h.get? a=some o/\o.cls=.ref C/\o.data=.fields vs/\o.dict=some dx
section
variable {prog:Program} {w:World} {A:Around} {E:Value->Shared->Prop} {s:Shared} {K:PySem.W.Frag} {x C dx:Addr} {name:Str} {v:Value} {mA:Str->Option Value}
end
end L2
end
section
namespace L2
open PySem PySem.Spec PyProof.Rows
structure XCls (K:PySem.W.Frag) (base:Heap) (C CS fI:Addr) (f:Str):Prop where
 cls:ExC base C
 sa:PySem.W.findIn K (.ref C) "__setattr__"=some (some (.builtin "object.__setattr__"))
 cd:∃ cd,PySem.W.clsIn K C=some cd/\cd.mro=.ref C::.ref CS::zvz/\cd.hasDict=true
 ob:PySem.W.mroIn K C (.type "object")=some true
 no:PySem.W.findIn K (.ref C) f=some none
 init:PySem.W.findIn K (.ref C) "__init__"=some (some (.ref fI))
 fn:PySem.W.isFn K (.ref fI)=true
 kp:PySem.W.keepIn K (.ref C)=true
section
variable {X:Cx} {pins:List (Addr×Obj)} {σ:St} {H:Hp} {s:Shared} {a C CS fI dx:Addr} {f:Str} {h':Heap}
variable {o e ea value:Expr} {es:List Expr} {ta tv:TE} {t:TA} {pos pos' p apos np cpos:Pos} {cx x:Str}
end
end L2
end
section
namespace L2
open PySem PySem.Spec PyProof.Rows
def del (G:Hp) (a:Addr):Hp:=fun b=>if b=a then none else G b
theorem zqJ {G:Hp} {a b:Addr} (h:b≠a):del G a b=G b:=by unfold del;rw [qS h]
section
variable {X:Cx} {k:Nat} {C CS fI:Addr} {fd:FuncData} {ps:List Str} {f x:Str} {p pos:Pos} {e:Expr} {es:List Expr} {t:TA}
end
section
variable {M:Model} {A:Around} {E:Value->Shared->Prop} {s:Shared} {env:Env}
end
section
variable {prog:Program} {w:World} {A:Around} {E:Value->Shared->Prop} {s:Shared} {env:Env}
end
end L2
end
section
namespace L2
open PySem PySem.Spec PyProof.Rows
def CXD (P:Program) (w:World) (base:Heap):CXT:=fun outer H s E e s' =>
 ∃ a C a0 B H' dx,e=.ref a/\s'.os=s.os/\AllBare s'.gens/\Fly P w base outer H H' s B a (.ref C) a0 s'.heap/\zws a C dx s'.heap/\E (.ref C) (some dx) H'
section
variable {P:Program} {w:World} {K:PySem.W.Frag} {mg:Str->Option Value} {base:Heap} {N:List Str} {qual:Str} {scope:Scope} {f:Addr} {cd:Value} {A:Around} {outer:List Env} {s₀:Shared} {H₀:Hp} {E:XK}
 {pins:List (Addr×Obj)} {σ:St} {H:Hp} {s:Shared} {e C t dx:Addr}
end
end L2
end
section
namespace L2
open PySem PySem.Spec PyProof.Rows
def xm (p:Str):D:=.tup [.ty "raise",.str p]
def zvw (Γ:Cn) (K:PySem.W.Frag) (R:Str->Hp->Prop) (E:Ends) (H₀ G' H':Hp) (σ':St) (fl:Fl):Prop:=(∀ p,fl=.rt (xm p)->R p H')/\((∀ p,fl≠.rt (xm p))->zuA Γ K E H₀ G' H' σ' fl)
def TDy (Γ:Cn) (K:PySem.W.Frag) (R:Str->Hp->Prop) (g:FS):TS:=fun E σ H=>∃ G₀ H₀ G ρ fl ρ',At Γ K G₀ H₀ G H ρ σ/\g ρ=some (fl,ρ')/\∀ σ' G' H',zcd G G'->At Γ K G₀ H₀ G' H' ρ' σ'->zvw Γ K R E H₀ G' H' σ' fl
structure DY (Γ:Cn) (X:Cx) (R:Str->Hp->Prop) (st:Stmt) (g:FS):Prop where
 out:PS X st (TDy Γ X.K R g)
structure DYs (Γ:Cn) (X:Cx) (R:Str->Hp->Prop) (st:List Stmt) (g:FS):Prop where
 out:PSs X st (TDy Γ X.K R g)
section
variable {Γ:Cn} {X:Cx} {R:Str->Hp->Prop} {c:Expr} {pos:Pos} {g g':FS} {st:Stmt} {sts:List Stmt} {ft:FT}
end
section
variable {Γ:Cn} {P:Program} {w:World} {K:PySem.W.Frag} {mg:Str->Option Value} {base:Heap} {N ps:List Str} {qual:Str} {scope:Scope} {f C CS fI:Addr} {fd:FuncData} {cd:Value} {A:Around} {outer:List Env} {s₀:Shared} {H₀:Hp} {E:XK}
 {R:Str->Hp->Prop} {x fl:Str} {np cpos pos:Pos} {e₀:Expr} {fr:FA} {k j:Nat}
end
end L2
end
section
namespace L2
open PySem PySem.Spec PyProof.Rows
def zv8 (Γ:Cn) (K:PySem.W.Frag) (C CN:Addr) (f:Str) (n:Nat) (F:List D->Option D):Sp:=fun vs H Q E=>∃ x dx H1 G ds d us,vs=.ref x::us/\H=upd (upd H1 dx (.own x)) x (.ins C dx [])/\H1 x=none/\H1 dx=none/\dx≠x/\zcd G H1/\Reps Γ K G us ds/\ds.length=n/\F ds=some d /\
 (∀ p,d=xm p->∀ G' H' dz,Step G H1 G' H'->H' dz=none->E (.ref CN) (some dz) (upd H' dz (.xd [(f,.str p)])))/\((∀ p,d≠xm p)->∀ G' H',Step G H1 G' H'->Rep Γ K G' (.ref x) d->Q .non H')
section
variable {Γ:Cn} {P:Program} {w:World} {K:PySem.W.Frag} {mg:Str->Option Value} {base:Heap} {c:Str} {attrs:List Str}
structure CalIY (Γ:Cn) (P:Program) (w:World) (K:PySem.W.Frag) (mg:Str->Option Value) (base:Heap) (c:Str) (CN:Addr) (fl:Str) (n k:Nat) (F:List D->Option D):Prop where
 ex:∃ C f fd ps,Γ.cls c=some C/\Mk K C f/\mg c=some (.ref C)/\FnOk P w K mg base (CXD P w base) k f fd ps (zv8 Γ K C CN fl n F)/\zdG K fd ps []
end
section
variable {P:Program} {w:World} {base B:Heap} {outer:List Env} {H H':Hp} {s:Shared} {e C dx:Addr} {cls a0:Value} {h:Heap}
end
section
variable {X:Cx} {k:Nat} {f C:Addr} {fd:FuncData} {ps:List Str} {sp:Sp} {fx cx n y:Str} {p p2 p3 cp py np ap hp pos:Pos} {e:Expr} {es:List Expr} {t:TA} {cv:Value} {i j:Nat}
end
end L2
end
section
namespace L2
open PySem PySem.Spec PyProof.Rows
section
variable {X:Cx}
end
mutual
def zje (n:Nat):D->Bool
 | .lst l=>(l.length != n) && zj6 n l
 | .tup l=>zj6 n l
 | .non=>true
 | .bl _=>true
 | .int _=>true
 | .str _=>true
 | _=>false
def zj6 (n:Nat):List D->Bool
 | []=>true
 | d::r=>zje n d && zj6 n r
end
section
variable {Γ:Cn} {K:PySem.W.Frag} {G:Hp} {a:Addr} {ws:List V}
mutual
theorem Rep.del (ha:G a=some (.lst ws)):∀ {v:V} {d:D},Rep Γ K G v d->zje ws.length d=true->Rep Γ K (del G a) v d
 | _,_,.non,_=>.non
 | _,_,.bl b,_=>.bl b
 | _,_,.int i,_=>.int i
 | _,_,.str x,_=>.str x
 | _,_,.ty x,h=>by simp [zje] at h
 | _,_,.tup g r,h=>.tup (by rw [zqJ (fun z=>by rw [z,ha] at g;cases g)];exact g) (Reps.del ha r (by unfold zje at h;exact h))
 | _,_,.lst g r,h=>by
  unfold zje at h
  rw [Bool.and_eq_true] at h
  exact .lst (by
   rw [zqJ (fun z=>by
    rw [z,ha] at g
    cases g
    rw [r.length] at h
    simp at h)]
   exact g) (Reps.del ha r h.2)
 | _,_,.scr g,h=>by simp [zje] at h
 | _,_,.dk g e r,h=>by simp [zje] at h
 | _,_,.dt g e r,h=>by simp [zje] at h
 | _,_,.ins g c e r,h=>by simp [zje] at h
theorem Reps.del (ha:G a=some (.lst ws)):∀ {vs:List V} {ds:List D},Reps Γ K G vs ds->zj6 ws.length ds=true->Reps Γ K (del G a) vs ds
 | _,_,.nil,_=>.nil
 | _,_,.cons g r,h=>by
  unfold zj6 at h
  rw [Bool.and_eq_true] at h
  exact .cons (Rep.del ha g h.1) (Reps.del ha r h.2)
end
end
section
variable {Γ:Cn} {X:Cx} {e:Expr} {f:FE} {pos p2 pc:Pos}
end
end L2
end
section
namespace L2
open PySem PySem.Spec PyProof.Rows
section
variable {g g':FS} {ft:FT} {fr:FA}
end
structure RefYK (K:PySem.W.Frag) (mg:Str->Option Value) (CN CS CG CM CP CR CY CT:Addr):Prop where
 mN:mg "NoShop"=some (.ref CN)
 mS:mg "ShopError"=some (.ref CS)
 mG:mg "Gone"=some (.ref CG)
 mM:mg "NoName"=some (.ref CM)
 mP:mg "NoPlan"=some (.ref CP)
 mR:mg "NoRow"=some (.ref CR)
 mY:mg "NoSay"=some (.ref CY)
 mT:mg "NoTree"=some (.ref CT)
 exm:PySem.W.exmOne K (.ref CN) (.ref CS)=some true
 k2:PySem.W.kitOne K (.ref CN) (.type "ValueError")=some true
 k3:PySem.W.kitAny K (.ref CN) [.ref CG,.ref CM,.ref CP,.ref CR,.ref CY,.ref CT]=some false
 exk:ExcK K CN
 hd:PySem.W.hasDictIn K CN=true
 no:zfd K CN "part"
end L2
end
section
namespace L2
open PySem PySem.Spec PyProof.Rows
end L2
end
section
namespace L2
open PySem PySem.Spec PyProof.Rows
section
variable {P:Program} {w:World} {K:PySem.W.Frag} {mg:Str->Option Value} {base:Heap} {N:List Str} {qual:Str} {scope:Scope} {f:Addr} {cd:Value} {A:Around} {outer:List Env} {s₀:Shared} {H₀:Hp} {E:XK}
end
section
variable {X:Cx} {k:Nat} {f:Addr} {fd:FuncData} {ps:List Str} {sp:Sp} {fx cx n y:Str} {p p2 p3 cp py np ap hp pos:Pos} {e:Expr} {es:List Expr} {t:TA} {cv:Value} {i j:Nat}
end
def zv6 (Γ:Cn) (K:PySem.W.Frag) (CN:Addr) (fl:Str) (n:Nat) (F:List D->Option D):Sp:=fun vs H Q E=>∃ G ds d,zcd G H/\Reps Γ K G vs ds/\ds.length=n/\F ds=some d /\
 (∀ p,d=xm p->∀ G' H' dz,Step G H G' H'->H' dz=none->E (.ref CN) (some dz) (upd H' dz (.xd [(fl,.str p)])))/\((∀ p,d≠xm p)->∀ v G' H',Step G H G' H'->Rep Γ K G' v d->Q v H')
structure CalSY (Γ:Cn) (P:Program) (w:World) (K:PySem.W.Frag) (mg:Str->Option Value) (base:Heap) (x:Str) (CN:Addr) (fl:Str) (n k:Nat) (F:List D->Option D):Prop where
 ex:∃ f fd ps,FnOk P w K mg base (CXD P w base) k f fd ps (zv6 Γ K CN fl n F)/\mg x=some (.ref f)/\PySem.W.keepIn K (.ref f)=true/\zdG K fd ps []
end L2
end
section
namespace L2
open PySem PySem.Spec PyProof.Rows
section
variable {Γ:Cn} {X:Cx} {e:Expr} {f:FE} {pos p2 pc:Pos}
end
end L2
end
section
namespace L2
open PySem PySem.Spec PyProof.Rows
structure RefZK (K:PySem.W.Frag) (mg:Str->Option Value) (CN CS CP CR CY:Addr):Prop where
 mN:mg "NoShop"=some (.ref CN)
 mS:mg "ShopError"=some (.ref CS)
 mP:mg "NoPlan"=some (.ref CP)
 mR:mg "NoRow"=some (.ref CR)
 mY:mg "NoSay"=some (.ref CY)
 exm:PySem.W.exmOne K (.ref CN) (.ref CS)=some true
 k2:PySem.W.kitOne K (.ref CN) (.type "ValueError")=some true
 k3:PySem.W.kitAny K (.ref CN) [.ref CP,.ref CR,.ref CY]=some false
 exk:ExcK K CN
 hd:PySem.W.hasDictIn K CN=true
 no:zfd K CN "part"
end L2
end
section
namespace L2
open PySem PySem.Spec PyProof.Rows PyProof
section
variable {Γ:Cn} {X:Cx}
end
end L2
end
section
namespace L2
open PySem PySem.Spec PyProof.Rows
section
variable {Γ:Cn} {X:Cx} {a b:Expr} {fa fb:FE} {pos:Pos}
end
end L2
end
section
namespace L2
open PySem PySem.Spec PyProof.Rows
section
variable {Γ:Cn} {K:PySem.W.Frag} {G:Hp}
end
section
variable {Γ:Cn} {X:Cx} {e:Expr} {f:FE} {g:FS} {pos apos:Pos} {x:Str}
end
end L2
end
section
namespace L2
open PySem PySem.Spec PyProof.Rows
section
variable {Γ:Cn} {X:Cx} {e tg iter:Expr} {es:List Expr} {fr fi:FA} {pos:Pos} {fn:za1->Option Nat}
variable {scope:Scope} {N':List Str} {fv:List (Option Nat)} {g:FG} {ft:FT} {ifs:List Expr}
end
end L2
end
section
namespace L2
open PySem PySem.Spec PyProof.Rows
section
variable {Γ:Cn} {X:Cx} {pos p1 p2:Pos}
end
end L2
end
section
namespace L2
open PySem PySem.Spec PyProof.Rows PyProof
section
variable {prog:Program} {w:World} {A:Around} {E:Value->Shared->Prop} {s:Shared}
end
section
variable {Γ:Cn} {X:Cx} {pos:Pos}
end
end L2
end
section
namespace L2
open PySem PySem.Spec PyProof.Rows
section
variable {Γ:Cn} {X:Cx} {pos:Pos} {a b:Expr} {fa fb:FE}
end
end L2
end
section
namespace L2
open PySem PySem.Spec PyProof.Rows
section
variable {Γ:Cn} {X:Cx} {a b:Expr} {fa fb:FE} {pos:Pos}
end
end L2
end
section
namespace L2
open PySem PySem.Spec PyProof.Rows
def bt (p:Addr) (H:Hp):Hp:=fun a=>if a=p then none else H a
theorem zfF {p:Addr} {H:Hp}:bt p H p=none:=qR rfl
theorem zdt {p a:Addr} {H:Hp} (h:a≠p):bt p H a=H a:=qS h
theorem zcK {p a:Addr} {H:Hp} {o:HO} (h:bt p H a=some o):a≠p/\H a=some o:=by
 unfold bt at h
 split at h
 ·cases h
 ·exact ⟨by assumption,h⟩
theorem SR.h0 {Γ:Cn} {K:PySem.W.Frag} {H₀ H₁ G H:Hp} {s:Slot} {v:V} {fp:List Addr} (r:SR Γ K H₀ G H s v fp) (h:∀ b∈fp,H₁ b=none):SR Γ K H₁ G H s v fp:=by
 cases r with
 | sh r=>exact .sh r
 | own h1 h2 h3 h4=>exact .own (h _ qf) h2 h3 h4
 | obj c h1 h2 h3 h4 h5 hs=>exact .obj c (h _ qf) h2 h3 h4 h5 hs
 | objd c h1 h2 h3 h4 h5 q1 q2 q3 q4 q5 hs=>exact .objd c (h _ qf) h2 h3 h4 h5 (h _ (qg _ qf)) q2 q3 q4 q5 hs
 | odk h1 h2 h3 h4 h5=>exact .odk (h _ qf) h2 h3 h4 h5
 | odt h1 h2 h3 h4 h5=>exact .odt (h _ qf) h2 h3 h4 h5
 | pin a=>exact .pin a
 | oll h1 h2 h3 h4 h5=>exact .oll (fun b hb=>⟨h b hb,(h1 b hb).2⟩) h2 h3 h4 h5
 | tlo h1 h2 h3 h4 h5 h6=>exact .tlo (h _ qf) h2 h3 h4 h5 h6
structure RAt (Γ:Cn) (K:PySem.W.Frag) (G₀ H₀ G H:Hp) (ρ:za1) (σ:St) (i:Nat) (p:Addr) (r:Int):Prop where
 at':At Γ K G₀ H₀ G (bt p H) ρ σ
 sl:ρ[i]?=some (some (.pin p))
 here:H p=some (.lst [.int r])
structure RStep (p:Addr) (r:Int) (G H G' H':Hp):Prop where
 st:Step G (bt p H) G' (bt p H')
 here:H' p=some (.lst [.int r])
section
variable {Γ:Cn} {K:PySem.W.Frag} {G₀ H₀ G G' H H' G1 H1 G2 H2:Hp} {ρ ρ':za1} {σ σ':St} {i:Nat} {p:Addr} {r r1 r2:Int}
theorem RAt.gp (A:RAt Γ K G₀ H₀ G H ρ σ i p r):G p=none:=A.at'.gh.free zfF
theorem RAt.gh (A:RAt Γ K G₀ H₀ G H ρ σ i p r):zcd G H:=fun b o e=>(zcK (A.at'.gh b o e)).2
theorem RAt.h0p (A:RAt Γ K G₀ H₀ G H ρ σ i p r):H₀ p=none:=A.at'.st.hh.free zfF
theorem RAt.var (A:RAt Γ K G₀ H₀ G H ρ σ i p r):σ[i]?=some (some (.ref p)):=by
 obtain ⟨v,fp,h1,h2⟩:=A.at'.get A.sl
 cases h2
 exact h1
theorem RAt.shut (A:RAt Γ K G₀ H₀ G H ρ σ i p r):At Γ K G₀ (upd H₀ p (.lst [.int r])) G H ρ σ:=by
 have st:=A.at'.st
 refine ⟨⟨fun b o e=>?_,st.gg,A.gh,fun b o e=>?_⟩,?_⟩
 ·by_cases hb:b=p
  ·subst hb;rw [zaL] at e;rw [← e];exact A.here
  ·rw [zaF hb] at e;exact (zcK (st.hh b o e)).2
 ·by_cases hb:b=p
  ·subst hb;rw [A.gp,st.gg.free A.gp]
  ·rw [zaF hb] at e;exact st.out b o e
 ·obtain ⟨fps,h,ap⟩:=A.at'.env.sl
  refine ⟨A.at'.env.len,fps,fun j s e=>?_,ap⟩
  obtain ⟨v,h1,h2⟩:=h j s e
  have hf:=h2.fpt
  have ne:∀ b∈fps j,b≠p:=fun b hb=>by
   obtain ⟨_,_,o,e⟩:=hf b hb
   exact (zcK e).1
  have h3:=h2.stay (H':=H) (.refl G) (fun b hb=>(hf b hb).2.1) (fun b hb=>(zdt (ne b hb)).symm)
  exact ⟨v,h1,h3.h0 fun b hb=>by rw [zaF (ne b hb)];exact (hf b hb).1⟩
theorem RAt.open' (A:RAt Γ K G₀ H₀ G H ρ σ i p r) (B:At Γ K G₀ (upd H₀ p (.lst [.int r])) G' H' ρ' σ') (hs:ρ'[i]?=ρ[i]?):RAt Γ K G₀ H₀ G' H' ρ' σ' i p r:=by
 have st:=B.st
 have hp:H' p=some (.lst [.int r]):=st.hh _ _ zaL
 have gp:G' p=none:=(st.out _ _ zaL).trans (A.at'.st.gg.free A.gp)
 have ne0:∀ b o,H₀ b=some o->b≠p:=fun b o e z=>by subst z;rw [A.h0p] at e;cases e
 have neg:∀ b o,G' b=some o->b≠p:=fun b o e z=>by subst z;rw [gp] at e;cases e
 refine ⟨⟨⟨fun b o e=>?_,st.gg,fun b o e=>?_,fun b o e=>st.out b o (by rw [zaF (ne0 b o e)];exact e)⟩,?_⟩,hs.trans A.sl,hp⟩
 ·rw [zdt (ne0 b o e)];exact st.hh b o (by rw [zaF (ne0 b o e)];exact e)
 ·rw [zdt (neg b o e)];exact st.gh b o e
 ·obtain ⟨fps,h,ap⟩:=B.env.sl
  refine ⟨B.env.len,fps,fun j s e=>?_,ap⟩
  obtain ⟨v,h1,h2⟩:=h j s e
  have hf:=h2.fpt
  have ne:∀ b∈fps j,b≠p:=fun b hb z=>by
   have:=(hf b hb).1
   rw [z,zaL] at this
   cases this
  have h3:=h2.stay (H':=bt p H') (.refl G') (fun b hb=>(hf b hb).2.1) (fun b hb=>zdt (ne b hb))
  exact ⟨v,h1,h3.h0 fun b hb=>by have:=(hf b hb).1;rwa [zaF (ne b hb)] at this⟩
theorem RAt.full (A:RAt Γ K G₀ H₀ G H ρ σ i p r):At Γ K G₀ H₀ G H ρ σ:=by
 have B:=A.shut
 have ne0:∀ b o,H₀ b=some o->b≠p:=fun b o e z=>by subst z;rw [A.h0p] at e;cases e
 refine ⟨⟨fun b o e=>B.st.hh b o (by rw [zaF (ne0 b o e)];exact e),B.st.gg,B.st.gh,A.at'.st.out⟩,?_⟩
 obtain ⟨fps,h,ap⟩:=B.env.sl
 refine ⟨B.env.len,fps,fun j s e=>?_,ap⟩
 obtain ⟨v,h1,h2⟩:=h j s e
 exact ⟨v,h1,h2.h0 fun b hb=>by
  have:=(h2.fpt b hb).1
  by_cases z:b=p
  ·rw [z];exact A.h0p
  ·rwa [zaF z] at this⟩
theorem RAt.pure (A:RAt Γ K G₀ H₀ G H ρ σ i p r) (s:Step G H G' H'):RStep p r G H G' H':=by
 have gp:G' p=none:=(s.out _ _ A.here).trans A.gp
 refine ⟨⟨fun b o e=>?_,s.gg,fun b o e=>?_,fun b o e=>s.out b o (zcK e).2⟩,s.hh _ _ A.here⟩
 ·rw [zdt (zcK e).1];exact s.hh b o (zcK e).2
 ·have:b≠p:=fun z=>by subst z;rw [gp] at e;cases e
  rw [zdt this];exact s.gh b o e
theorem RAt.step (A:RAt Γ K G₀ H₀ G H ρ σ i p r) (s:RStep p r1 G H G' H'):RAt Γ K G₀ H₀ G' H' ρ σ i p r1:=⟨A.at'.step s.st,A.sl,s.here⟩
theorem RStep.trans (a:RStep p r1 G H G1 H1) (b:RStep p r2 G1 H1 G2 H2):RStep p r2 G H G2 H2:=⟨a.st.trans b.st,b.here⟩
theorem RAt.refl (A:RAt Γ K G₀ H₀ G H ρ σ i p r):RStep p r G H G H:=⟨.refl A.at'.gh,A.here⟩
end
abbrev FR:=za1->Int->Option (D×Int)
abbrev FRt:=za1->Int->Option (Bool×Int)
abbrev FRa:=za1->Int->Option (List D×Int)
abbrev FRs:=za1->Int->Option (Fl×za1×Int)
def TDr (Γ:Cn) (K:PySem.W.Frag) (i:Nat) (f:FR):TE:=fun σ H Q=>∃ G₀ H₀ G ρ p r d r',RAt Γ K G₀ H₀ G H ρ σ i p r/\f ρ r=some (d,r')/\∀ v G' H',RStep p r' G H G' H'->Rep Γ K G' v d->Q v H'
def zqR (Γ:Cn) (K:PySem.W.Frag) (i:Nat) (f:FRt):TT:=fun σ H Q=>∃ G₀ H₀ G ρ p r d r',RAt Γ K G₀ H₀ G H ρ σ i p r/\f ρ r=some (d,r')/\∀ G' H',RStep p r' G H G' H'->Q d H'
def zwo (Γ:Cn) (K:PySem.W.Frag) (i:Nat) (f:FRa):TA:=fun σ H Q=>∃ G₀ H₀ G ρ p r d r',RAt Γ K G₀ H₀ G H ρ σ i p r/\f ρ r=some (d,r')/\∀ vs G' H',RStep p r' G H G' H'->Reps Γ K G' vs d->Q vs H'
def zuz (Γ:Cn) (K:PySem.W.Frag) (i:Nat) (f:FRa):TE:=fun σ H Q=>∃ G₀ H₀ G ρ p r d r',RAt Γ K G₀ H₀ G H ρ σ i p r/\f ρ r=some (d,r')/\∀ q vs G' H',RStep p r' G H G' H'->H' q=none->Reps Γ K G' vs d->Q (.ref q) (upd H' q (.lst vs))
def zvQ (Γ:Cn) (K:PySem.W.Frag) (i:Nat) (f:FRa):TI:=fun σ H R=>∃ G₀ H₀ G ρ p r d r',RAt Γ K G₀ H₀ G H ρ σ i p r/\f ρ r=some (d,r')/\∀ J G' H',RStep p r' G H G' H'->Yd Γ K J G' d->R J H'
def zp6 (Γ:Cn) (K:PySem.W.Frag) (i:Nat) (g:FRs):TS:=fun E σ H=>∃ G₀ H₀ G ρ p r fl ρ' r',RAt Γ K G₀ H₀ G H ρ σ i p r/\g ρ r=some (fl,ρ',r')/\∀ σ' G' H',zcd G G'->RAt Γ K G₀ H₀ G' H' ρ' σ' i p r'->zuA Γ K E H₀ G' H' σ' fl
structure RE (Γ:Cn) (X:Cx) (i:Nat) (e:Expr) (f:FR):Prop where
 out:PE X e (TDr Γ X.K i f)
structure RT (Γ:Cn) (X:Cx) (i:Nat) (e:Expr) (f:FRt):Prop where
 out:PT X e (zqR Γ X.K i f)
structure RW (Γ:Cn) (X:Cx) (i:Nat) (e:Expr) (f:FRt):Prop where
 out:PW X e (zqR Γ X.K i f)
structure RA (Γ:Cn) (X:Cx) (i:Nat) (es:List Expr) (f:FRa):Prop where
 out:PA X es (zwo Γ X.K i f)
structure RO (Γ:Cn) (X:Cx) (i:Nat) (e:Expr) (f:FRa):Prop where
 out:PE X e (zuz Γ X.K i f)
structure RI (Γ:Cn) (X:Cx) (i:Nat) (tg e:Expr) (f:FRa):Prop where
 out:PI X tg e (zvQ Γ X.K i f)
structure RS (Γ:Cn) (X:Cx) (i:Nat) (st:Stmt) (g:FRs):Prop where
 out:PS X st (zp6 Γ X.K i g)
structure RSs (Γ:Cn) (X:Cx) (i:Nat) (st:List Stmt) (g:FRs):Prop where
 out:PSs X st (zp6 Γ X.K i g)
def rb {α β:Type} (f:za1->Int->Option (α×Int)) (g:za1->α->Int->Option (β×Int)):za1->Int->Option (β×Int):=fun ρ r=>(f ρ r).bind fun x=>g ρ x.1 x.2
def rP {α:Type} (f:za1->Option α):za1->Int->Option (α×Int):=fun ρ r=>(f ρ).map fun d=>(d,r)
def rM {α β:Type} (f:za1->Int->Option (α×Int)) (g:α->Option β):za1->Int->Option (β×Int):=fun ρ r=>(f ρ r).bind fun x=>(g x.1).map fun d=>(d,x.2)
theorem zfz {α β:Type} {f:za1->Int->Option (α×Int)} {g:za1->α->Int->Option (β×Int)} {ρ:za1} {r r':Int} {b:β} (h:rb f g ρ r=some (b,r')):∃ a r1,f ρ r=some (a,r1)/\g ρ a r1=some (b,r'):=by
 obtain ⟨⟨a,r1⟩,h1,h2⟩:=oBd h
 exact ⟨a,r1,h1,h2⟩
theorem zfA {α:Type} {f:za1->Option α} {ρ:za1} {r r':Int} {b:α} (h:rP f ρ r=some (b,r')):f ρ=some b/\r'=r:=by
 obtain ⟨a,h1,h2⟩:=oMd h
 cases h2
 exact ⟨h1,rfl⟩
theorem zdm {α β:Type} {f:za1->Int->Option (α×Int)} {g:α->Option β} {ρ:za1} {r r':Int} {b:β} (h:rM f g ρ r=some (b,r')):∃ a,f ρ r=some (a,r')/\g a=some b:=by
 obtain ⟨⟨a,r1⟩,h1,h2⟩:=oBd h
 obtain ⟨b',h3,h4⟩:=oMd h2
 cases h4
 exact ⟨a,h1,h3⟩
section
variable {Γ:Cn} {X:Cx} {i:Nat} {a b c e tg iter:Expr} {es zc2:List Expr} {fa fb f:FR} {pos p2 p:Pos} {fr fi:FRa} {ft gt:FRt} {F:FE} {x:Str}
theorem zas (h:DE Γ X e F):RE Γ X i e (rP F):=⟨h.1.imp fun σ H Q=>by
 rintro ⟨G₀,H₀,G,ρ,p,r,d,r',A,h,k⟩
 obtain ⟨hd,rfl⟩:=zfA h
 exact ⟨G₀,H₀,G,ρ,d,A.full,hd,fun v G' H' s rv=>k v G' H' (A.pure s) rv⟩⟩
theorem ze2 {F:FT} (h:DT Γ X e F):RT Γ X i e (rP F):=⟨h.1.imp fun σ H Q=>by
 rintro ⟨G₀,H₀,G,ρ,p,r,d,r',A,h,k⟩
 obtain ⟨hd,rfl⟩:=zfA h
 exact ⟨G₀,H₀,G,ρ,d,A.full,hd,fun G' H' s=>k G' H' (A.pure s)⟩⟩
theorem zaJ {F:FA} (h:DA Γ X es F):RA Γ X i es (rP F):=⟨h.1.imp fun σ H Q=>by
 rintro ⟨G₀,H₀,G,ρ,p,r,d,r',A,h,k⟩
 obtain ⟨hd,rfl⟩:=zfA h
 exact ⟨G₀,H₀,G,ρ,d,A.full,hd,fun v G' H' s rv=>k v G' H' (A.pure s) rv⟩⟩
theorem zpg {F:FA} (h:DO Γ X e F):RO Γ X i e (rP F):=⟨h.1.imp fun σ H Q=>by
 rintro ⟨G₀,H₀,G,ρ,p,r,d,r',A,h,k⟩
 obtain ⟨hd,rfl⟩:=zfA h
 exact ⟨G₀,H₀,G,ρ,d,A.full,hd,fun q v G' H' s hq rv=>k q v G' H' (A.pure s) hq rv⟩⟩
theorem zms {F:FA} (h:DI Γ X tg e F):RI Γ X i tg e (rP F):=⟨h.1.imp fun σ H Q=>by
 rintro ⟨G₀,H₀,G,ρ,p,r,d,r',A,h,k⟩
 obtain ⟨hd,rfl⟩:=zfA h
 exact ⟨G₀,H₀,G,ρ,d,A.full,hd,fun v G' H' s rv=>k v G' H' (A.pure s) rv⟩⟩
def r2 (g:D->D->Option D) (fa fb:FR):FR:=rb fa fun ρ x r=>rM fb (fun y=>g x y) ρ r
theorem TDr.two {g:D->D->Option D} {q:R2} (hr:zkH Γ X.K g q):∀ σ H Q,TDr Γ X.K i (r2 g fa fb) σ H Q->tOp q (TDr Γ X.K i fa) (TDr Γ X.K i fb) σ H Q:=by
 rintro σ H Q ⟨G₀,H₀,G,ρ,p,r,d,r',A,h,k⟩
 obtain ⟨x,r1,ha,h⟩:=zfz h
 obtain ⟨y,hb,h⟩:=zdm h
 refine ⟨G₀,H₀,G,ρ,p,r,x,r1,A,ha,fun v G1 H1 s1 v1=>⟨G₀,H₀,G1,ρ,p,r1,y,r',A.step s1,hb,fun u G2 H2 s2 v2=>?_⟩⟩
 have A2:=(A.step s1).step s2
 exact hr A2.gh (v1.mono s2.st.gg) v2 h Q fun w G' H' s v=>k w G' H' ((s1.trans s2).trans (A2.pure s)) v
theorem zph {op:Operator} {g:D->D->Option D} {q:R2} (ho:OpR X (binaryOp op) q) (hr:zkH Γ X.K g q) (ha:RE Γ X i a fa) (hb:RE Γ X i b fb):RE Γ X i (.BinOp a op b pos) (r2 g fa fb):=⟨(ztm ho ha.1 hb.1).imp (TDr.two hr)⟩
theorem zqj {op:CmpOp} {g:D->D->Option D} (h:CmpD Γ X op g) (ha:RE Γ X i a fa) (hb:RE Γ X i b fb) (hm:behindInMarks op b=false):RE Γ X i (.Compare a [op] [b] pos) (r2 g fa fb):=⟨by
 obtain ⟨r,ho,hr⟩:=h.ex
 exact (znG ho ha.1 hb.1 hm).imp (TDr.two hr)⟩
theorem zeF (ha:RE Γ X i a fa) (hb:RE Γ X i b fb) (hs:zh2 b:=by intro _ _;rfl):RE Γ X i (.Subscript a b pos) (r2 ixD fa fb):=⟨(zpq zlV ha.1 hb.1 hs).imp (TDr.two zop)⟩
def blD:D->Option Bool
 | .bl b=>some b
 | _=>none
theorem zqR.val {f:FR}:∀ σ H Q,zqR Γ X.K i (rM f blD) σ H Q->TDr Γ X.K i f σ H fun x H'=>∃ k,x=.bl k/\Q k H':=by
 rintro σ H Q ⟨G₀,H₀,G,ρ,p,r,d,r',A,h,k⟩
 obtain ⟨d',hd,h⟩:=zdm h
 unfold blD at h
 split at h <;> cases h
 exact ⟨G₀,H₀,G,ρ,p,r,_,r',A,hd,fun v G' H' s r=>⟨d,r.bl_inv,k G' H' s⟩⟩
theorem zel {op:CmpOp} {g:D->D->Option D} (h:CmpD Γ X op g) (ha:RE Γ X i a fa) (hb:RE Γ X i b fb) (hm:behindInMarks op b=false):RT Γ X i (.Compare a [op] [b] pos) (rM (r2 g fa fb) blD):=⟨by
 obtain ⟨r,ho,hr⟩:=h.ex
 exact (znv ho ha.1 hb.1 hm).imp fun σ H Q q=>TDr.two hr σ H _ (zqR.val σ H Q q)⟩
theorem RW.rt (h:RW Γ X i e ft):RT Γ X i e ft:=⟨h.1.pt⟩
theorem zkS (h:RT Γ X i a ft):RW Γ X i (.BoolOp .And [a] pos) ft:=⟨znt h.1⟩
theorem zsX (h:RT Γ X i a ft):RW Γ X i (.BoolOp .Or [a] pos) ft:=⟨zql h.1⟩
def zqk (f g:FRt):FRt:=rb f fun ρ b r=>if b=true then g ρ r else some (false,r)
def rOr (f g:FRt):FRt:=rb f fun ρ b r=>if b=true then some (true,r) else g ρ r
theorem zlB (h:RT Γ X i a ft) (h':RW Γ X i (.BoolOp .And (b::zc2) pos) gt):RW Γ X i (.BoolOp .And (a::b::zc2) pos) (zqk ft gt):=⟨(zqm h.1 h'.1).imp fun σ H Q=>by
 rintro ⟨G₀,H₀,G,ρ,p,r,d,r',A,h,k⟩
 obtain ⟨c,r1,hc,h⟩:=zfz h
 refine ⟨G₀,H₀,G,ρ,p,r,c,r1,A,hc,fun G1 H1 s1=>?_⟩
 cases c with
 | true=>exact zn8 ⟨G₀,H₀,G1,ρ,p,r1,d,r',A.step s1,by simpa using h,fun G' H' s=>k G' H' (s1.trans s)⟩
 | false =>
  rw [qS qp] at h
  cases h
  exact zn9 (k _ _ s1)⟩
theorem zuQ (h:RT Γ X i a ft) (h':RW Γ X i (.BoolOp .Or (b::zc2) pos) gt):RW Γ X i (.BoolOp .Or (a::b::zc2) pos) (rOr ft gt):=⟨(zta h.1 h'.1).imp fun σ H Q=>by
 rintro ⟨G₀,H₀,G,ρ,p,r,d,r',A,h,k⟩
 obtain ⟨c,r1,hc,h⟩:=zfz h
 refine ⟨G₀,H₀,G,ρ,p,r,c,r1,A,hc,fun G1 H1 s1=>?_⟩
 cases c with
 | false=>exact zn9 ⟨G₀,H₀,G1,ρ,p,r1,d,r',A.step s1,by simpa using h,fun G' H' s=>k G' H' (s1.trans s)⟩
 | true =>
  rw [qR rfl] at h
  cases h
  exact zn8 (k _ _ s1)⟩
def zap (fa:FR) (fr:FRa):FRa:=rb fa fun ρ x r=>rM fr (fun l=>some (x::l)) ρ r
theorem zai (ha:RE Γ X i e fa) (hr:RA Γ X i es fr) (hs:starEach (e::es) X.env=(false,eval e X.env)::starEach es X.env:=by rfl):RA Γ X i (e::es) (zap fa fr):=⟨(zeH ha.1 hr.1 hs).imp fun σ H Q=>by
 rintro ⟨G₀,H₀,G,ρ,p,r,d,r',A,h,k⟩
 obtain ⟨x,r1,hx,h⟩:=zfz h
 obtain ⟨xs,hxs,h⟩:=zdm h
 cases h
 exact ⟨G₀,H₀,G,ρ,p,r,x,r1,A,hx,fun v G1 H1 s1 v1=>⟨G₀,H₀,G1,ρ,p,r1,xs,r',A.step s1,hxs,fun vs G2 H2 s2 v2=>k _ G2 H2 (s1.trans s2) (.cons (v1.mono s2.st.gg) v2)⟩⟩⟩
def szD (l:List D):Option (List D):=if l.length<=sizeLine then some l else none
theorem RO.re (h:RO Γ X i e fr):RE Γ X i e (rM fr fun l=>some (.lst l)):=⟨h.1.imp fun σ H Q=>by
 rintro ⟨G₀,H₀,G,ρ,p,r,d,r',A,h,k⟩
 obtain ⟨ds,hd,h⟩:=zdm h
 cases h
 exact ⟨G₀,H₀,G,ρ,p,r,ds,r',A,hd,fun q vs G' H' s hq rv=>zdz (A.step s).gh rv (fun w G2 H2 s2 r2=>k w G2 H2 (s.trans ((A.step s).pure s2)) r2) q hq⟩⟩
theorem zjY (h:RA Γ X i es fr):RO Γ X i (.List es pos) (rM fr szD):=⟨(zqt h.1).imp fun σ H Q=>by
 rintro ⟨G₀,H₀,G,ρ,p,r,d,r',A,h,k⟩
 obtain ⟨ds,hd,h⟩:=zdm h
 unfold szD at h
 split at h
 ·rename_i hz
  cases h
  exact ⟨G₀,H₀,G,ρ,p,r,d,r',A,hd,fun vs G' H' s v=>⟨by rw [v.length];exact hz,fun q hq=>k q vs G' H' s hq v⟩⟩
 ·cases h⟩
theorem zb9 {x1} (h:RA Γ X i es fr):RE Γ X i (.Tuple es x1 pos) (rM fr fun l=>(szD l).map .tup):=⟨(zqs h.1).imp fun σ H Q=>by
 rintro ⟨G₀,H₀,G,ρ,p,r,d,r',A,h,k⟩
 obtain ⟨ds,hd,h⟩:=zdm h
 unfold szD at h
 split at h
 ·rename_i hz
  cases h
  exact ⟨G₀,H₀,G,ρ,p,r,ds,r',A,hd,fun vs G' H' s v=>⟨by rw [v.length];exact hz,zjf (A.step s).gh v fun w G2 H2 s2 r2=>k w G2 H2 (s.trans ((A.step s).pure s2)) r2⟩⟩
 ·cases h⟩
theorem zrd {n k j:Nat} {F:List D->Option D} {c:Str} (C:CalI Γ X.prog X.w X.K X.mg X.base c n k F) (hr:Room j X.A) (hk:k+1<=j) (hg:Gl X c) (ha:RA Γ X i (e::es) fr) (hn:∀ ρ r ds r',fr ρ r=some (ds,r')->ds.length=n)
  (hdb:(c==("__debug__":Str))=false:=by decide) (he:starEach (e::es) X.env=(false,eval e X.env)::starEach es X.env:=by rfl) (hpl:(backTo pos (starEach es X.env)).any (·.1)=false:=by rfl) :
  RE Γ X i (.Call (.Name c p) (e::es) [] pos) (rM fr F):=⟨by
 obtain ⟨Ca,f,fd,ps,h0,h1,h2,h3,h4⟩:=C.ex
 refine (znE h1 h3 (hr.mono hk) hg h2 h4 .nil zkZ ha.1 hdb he hpl).imp fun σ H Q=>?_
 rintro ⟨G₀,H₀,G,ρ,p,r,d,r',A,h,k⟩
 obtain ⟨ds,hd,hq⟩:=zdm h
 refine ⟨G₀,H₀,G,ρ,p,r,ds,r',A,hd,fun vs G1 H1 s1 v1 x dx hx hdx hne=>?_⟩
 rw [List.append_nil]
 exact ⟨x,dx,H1,G1,ds,d,vs,rfl,rfl,hx,hdx,hne,(A.step s1).gh,v1,hn ρ r ds r' hd,hq,fun G' H' s r=>⟨rfl,k _ G' H' (s1.trans ((A.step s1).pure s)) r⟩⟩⟩
theorem zs1 {ρ:za1} {r r':Int} {ds:List D} (h:rP zak ρ r=some (ds,r')):ds.length=0:=by obtain ⟨h,_⟩:=zfA h;cases h;rfl
theorem zfy {n:Nat} (hn:∀ ρ r ds r',fr ρ r=some (ds,r')->ds.length=n):∀ ρ r ds r',zap fa fr ρ r=some (ds,r')->ds.length=n+1:=fun ρ r ds r' h=>by
 obtain ⟨x,r1,hx,h⟩:=zfz h
 obtain ⟨xs,hxs,h⟩:=zdm h
 cases h
 rw [qh,hn _ _ _ _ hxs]
theorem zf1 (hg:Gl X "range") (hm:X.mg "range"=none) (h:RA Γ X i [a] fr) (hs:starEach [a] X.env=[(false,eval a X.env)]:=by rfl):RI Γ X i tg (.Call (.Name "range" p) [a] [] pos) (rM fr zkT):=⟨(zj1 hg hm h.1 hs).imp fun σ H R=>by
 rintro ⟨G₀,H₀,G,ρ,p,r,d,r',A,h,k⟩
 obtain ⟨ds,hd,h⟩:=zdm h
 refine ⟨G₀,H₀,G,ρ,p,r,ds,r',A,hd,fun v G' H' s rv=>?_⟩
 unfold zkT at h
 split at h
 ·split at h
  ·rename_i hz
   cases h
   obtain ⟨v,rfl,r1⟩:=rv.one
   cases r1.int_inv
   exact ⟨_,rfl,hz.1,hz.2,k _ G' H' s ziU⟩
  ·cases h
 ·cases h⟩
end
end L2
end
section
namespace L2
open PySem PySem.Spec PyProof.Rows
section
variable {Γ:Cn} {X:Cx} {i:Nat} {a b c e tg iter:Expr} {es zc2:List Expr} {fa fb f:FR} {pos p2 p:Pos} {fr fi:FRa} {ft gt:FRt} {x y:Str} {st:Stmt} {sts:List Stmt} {g g':FRs} {gg:FG}
def zsc:D->D->Option D
 | .lst l,.int i=>some (.lst (zkn l (some i) none))
 | _,_=>none
theorem zs4 (he:RE Γ X i e fa) (hl:RE Γ X i a fb):RE Γ X i (.Subscript e (.Slice (some a) none none p2) pos) (r2 zsc fa fb):=⟨(zlI zne he.1 (znB hl.1) znC).imp fun σ H Q=>by
 rintro ⟨G₀,H₀,G,ρ,p,r,d,r',A,h,k⟩
 obtain ⟨x,r1,ha,h⟩:=zfz h
 obtain ⟨y,hb,h⟩:=zdm h
 unfold zsc at h
 split at h
 ·cases h
  refine ⟨G₀,H₀,G,ρ,p,r,_,r1,A,ha,fun v G1 H1 s1 v1=>⟨G₀,H₀,G1,ρ,p,r1,_,r',A.step s1,hb,fun u G2 H2 s2 v2=>⟨_,v2.int_inv,?_⟩⟩⟩
  have A2:=(A.step s1).step s2
  obtain ⟨a,vs,rfl,ha,rv⟩:=(v1.mono s2.st.gg).lst_inv
  exact ⟨a,vs,rfl,.inl (.inl (A2.gh _ _ ha)),zdz A2.gh (rv.cut _ _) fun w G4 H4 s4 r4=>k w G4 H4 ((s1.trans s2).trans (A2.pure s4)) r4⟩
 ·cases h⟩
theorem zaT (h:RS Γ X i st g):RSs Γ X i [st] g:=⟨znw h.1⟩
def zfa:FRs:=fun ρ r=>some (.nx,ρ,r)
theorem zbT:RSs Γ X i [] zfa:=⟨znx.imp fun E σ H=>by
 rintro ⟨G₀,H₀,G,ρ,p,r,fl,ρ',r',A,h,k⟩
 cases h
 exact k σ G H (.refl _) A⟩
def zbx (g g':FRs):FRs:=fun ρ r=>(g ρ r).bind fun x=>match x.1 with
 | .nx=>g' x.2.1 x.2.2
 | fl=>some (fl,x.2)
theorem zaw (h1:RS Γ X i st g) (h2:RSs Γ X i sts g'):RSs Γ X i (st::sts) (zbx g g'):=⟨(zlF h1.1 h2.1).imp fun E σ H=>by
 rintro ⟨G₀,H₀,G,ρ,p,r,fl,ρ',r',A,h,k⟩
 obtain ⟨⟨fl1,ρ1,r1⟩,h1,h⟩:=oBd h
 refine ⟨G₀,H₀,G,ρ,p,r,fl1,ρ1,r1,A,h1,fun σ1 G1 H1 sm A1=>?_⟩
 cases fl1 with
 | nx=>exact ⟨G₀,H₀,G1,ρ1,p,r1,fl,ρ',r',A1,h,fun σ' G' H' sm' A'=>k σ' G' H' (sm.trans sm') A'⟩
 | _=>cases h;exact k σ1 G1 H1 sm A1⟩
def zem (f:FR):FRs:=fun ρ r=>(f ρ r).map fun x=>(.rt x.1,ρ,x.2)
theorem zbY (h:RE Γ X i e f):RS Γ X i (.Return (some e) pos) (zem f):=⟨(zny h.1).imp fun E σ H=>by
 rintro ⟨G₀,H₀,G,ρ,p,r,fl,ρ',r',A,h,k⟩
 obtain ⟨⟨d,r1⟩,hd,h⟩:=oMd h
 cases h
 exact ⟨G₀,H₀,G,ρ,p,r,d,r1,A,hd,fun v G' H' s v1=>k σ G' H' s.st.gg (A.step s) v v1⟩⟩
theorem zhp {ρ:za1} {i j:Nat} {s:Option Slot} (h:j≠i):(ρ.set j s)[i]?=ρ[i]?:=qv h
def zcG (j:Nat) (f:FR):FRs:=fun ρ r=>(f ρ r).map fun x=>(.nx,ρ.set j (some (.sh x.1)),x.2)
theorem zbl (j:Nat) {pos':Pos} (hN:X.N.Nodup) (h:RE Γ X i e f) (hji:j≠i:=by decide) (hi:X.N[j]?=some x:=by rfl) (hx:Loc X.env.scope x:=by first | exact Or.inl rfl | exact Or.inr rfl) (hs:swapsWith e (some (.Name x pos')) pos.line X.env=pure false:=by rfl) (hf:X.fn x=true\/X.env.scope.names.lookup x=some .local:=by first | exact .inl rfl | exact .inr rfl | assumption) :
  RS Γ X i (.Assign [.Name x pos'] e pos) (zcG j f):=⟨(zlG hN hi hx h.1 hs hf).imp fun E σ H=>by
 rintro ⟨G₀,H₀,G,ρ,p,r,fl,ρ',r',A,h,k⟩
 obtain ⟨⟨d,r1⟩,hd,h⟩:=oMd h
 cases h
 exact ⟨G₀,H₀,G,ρ,p,r,d,r1,A,hd,fun v G' H' s v1=>k _ G' H' s.st.gg ⟨(A.step s).at'.setSh v1,(zhp hji).trans A.sl,s.here⟩⟩⟩
def zmS (j:Nat) (f:FRa):FRs:=fun ρ r=>(f ρ r).map fun x=>(.nx,ρ.set j (some (.own x.1)),x.2)
theorem zmc {p q:Addr} {H:Hp} {o:HO} (h:q≠p):bt p (upd H q o)=upd (bt p H) q o:=by
 funext b
 by_cases hb:b=q
 ·subst hb;rw [zdt h,zaL,zaL]
 ·rw [zaF hb]
  by_cases hp:b=p
  ·subst hp;rw [zfF,zfF]
  ·rw [zdt hp,zdt hp,zaF hb]
theorem zru {j:Nat} (hji:j≠i):∀ E σ H,zp6 Γ X.K i (zmS j fr) E σ H->zp9 (zuz Γ X.K i fr) (zkc j) E σ H:=by
 rintro E σ H ⟨G₀,H₀,G,ρ,p,r,fl,ρ',r',A,h,k⟩
 obtain ⟨⟨d,r1⟩,hd,h⟩:=oMd h
 cases h
 refine ⟨G₀,H₀,G,ρ,p,r,d,r1,A,hd,fun q vs G' H' s hq v1=>?_⟩
 have hqp:q≠p:=fun z=>by subst z;rw [s.here] at hq;cases hq
 refine k _ G' _ s.st.gg ⟨?_,(zhp hji).trans A.sl,by rw [zaF hqp.symm];exact s.here⟩
 rw [zmc hqp]
 exact (A.step s).at'.setOwn (by rw [zdt hqp];exact hq) v1
theorem zhy (j:Nat) {pos':Pos} (hN:X.N.Nodup) (h:RO Γ X i e fr) (hji:j≠i:=by decide) (hi:X.N[j]?=some x:=by rfl) (hx:Loc X.env.scope x:=by first | exact Or.inl rfl | exact Or.inr rfl) (hs:swapsWith e (some (.Name x pos')) pos.line X.env=pure false:=by rfl) (hf:X.fn x=true\/X.env.scope.names.lookup x=some .local:=by first | exact .inl rfl | exact .inr rfl | assumption) :
  RS Γ X i (.Assign [.Name x pos'] e pos) (zmS j fr):=⟨(zlG hN hi hx h.1 hs hf).imp (zru hji)⟩
def zkU (j:Nat) (g:FRs):FRs:=fun ρ r=>match ρ[j]? with
 | some (some (.own ds))=>g (ρ.set j (some (.sh (.lst ds)))) r
 | _=>none
theorem zp6.frz (j:Nat):∀ E σ H,zp6 Γ X.K i (zkU j g) E σ H->zp6 Γ X.K i g E σ H:=by
 rintro E σ H ⟨G₀,H₀,G,ρ,p,r,fl,ρ',r',A,h,k⟩
 unfold zkU at h
 split at h
 ·rename_i ds hi
  obtain ⟨G',sm,A'⟩:=A.at'.freeze hi
  have hji:j≠i:=fun z=>by subst z;rw [A.sl] at hi;cases hi
  exact ⟨G₀,H₀,G',_,p,r,fl,ρ',r',⟨A',(zhp hji).trans A.sl,A.here⟩,h,fun σ1 G1 H1 sm1 A1=>k σ1 G1 H1 (sm.trans sm1) A1⟩
 ·cases h
theorem zfx (j:Nat) (h:RSs Γ X i sts g):RSs Γ X i sts (zkU j g):=⟨h.1.imp (zp6.frz j)⟩
def qIf (ft:FRt) (g g':FRs):FRs:=fun ρ r=>(ft ρ r).bind fun c=>if c.1=true then g ρ c.2 else g' ρ c.2
theorem zdS {sa sb:List Stmt} (hc:RT Γ X i c ft) (ha:RSs Γ X i sa g) (hb:RSs Γ X i sb g'):RS Γ X i (.If c sa sb pos) (qIf ft g g'):=⟨(ztf hc.1 ha.1 hb.1).imp fun E σ H=>by
 rintro ⟨G₀,H₀,G,ρ,p,r,fl,ρ',r',A,h,k⟩
 obtain ⟨⟨x,r1⟩,hx,h⟩:=oBd h
 refine ⟨G₀,H₀,G,ρ,p,r,x,r1,A,hx,fun G1 H1 s1=>?_⟩
 cases x with
 | true=>exact zn8 ⟨G₀,H₀,G1,ρ,p,r1,fl,ρ',r',A.step s1,by simpa using h,fun σ2 G2 H2 sm2 A2=>k σ2 G2 H2 (s1.st.gg.trans sm2) A2⟩
 | false=>exact zn9 ⟨G₀,H₀,G1,ρ,p,r1,fl,ρ',r',A.step s1,by simpa using h,fun σ2 G2 H2 sm2 A2=>k σ2 G2 H2 (s1.st.gg.trans sm2) A2⟩⟩
def zhA (j:Nat) (f:FR):FRs:=fun ρ r=>match ρ[j]? with
 | some (some (.own ds))=>(f ρ r).bind fun d=>if ds.length < sizeLine then some (.nx,ρ.set j (some (.own (ds++[d.1]))),d.2) else none
 | _=>none
theorem zcE (j:Nat) {vp apos cpos:Pos} (h:RE Γ X i e f) (hN:X.N[j]?=some x:=by rfl) (hv:Vis X.env.scope x:=by first | exact Or.inl rfl | exact Or.inr (Or.inl rfl) | exact Or.inr (Or.inr rfl)) (hd:(x==("__debug__":Str))=false:=by decide)
  (hcd:(x==("__classdict__":Str))=false:=by decide)
  (hbase:attributeBase (.Name x vp) "append" X.env (eval (.Name x vp) X.env)=eval (.Name x vp) X.env:=by rfl)
  (hfew:((backTo cpos (starEach [e] X.env)).all (fun x=>!x.1) && (backToKw cpos (keywordEach [] X.env)).all (fun x=>x.1.isSome)
   && decide ([e].length+([]:List Keyword).length+(if ([]:List Keyword).isEmpty then 0 else 1) < 30))=true:=by rfl)
  (hline:(apos.endLine==cpos.line)=true:=by rfl) (hs:starEach [e] X.env=(false,eval e X.env)::starEach [] X.env:=by rfl) (hplain:(backTo cpos (starEach [] X.env)).any (·.1)=false:=by rfl)
  (hsw:swapsWith (.Call (.Attribute (.Name x vp) "append" apos) [e] [] cpos) none pos.line X.env=pure false:=by rfl) :
  RS Γ X i (.Expr (.Call (.Attribute (.Name x vp) "append" apos) [e] [] cpos) pos) (zhA j f):=⟨(zkV (zrs PySem.F.plainAttrs_list PySem.F.slot_list_append PySem.F.type_list_append zhD (zen hN hv hd hcd) (zeH h.1 ziJ hs) hbase hfew hline hs hplain) hsw).imp fun E σ H=>by
  rintro ⟨G₀,H₀,G,ρ,p,r,fl,ρ',r',A,h,k⟩
  unfold zhA at h
  split at h
  ·rename_i ds hi
   obtain ⟨⟨d,r1⟩,hd,h⟩:=oBd h
   split at h
   ·rename_i hz
    cases h
    obtain ⟨a,vs,h1,h2,h3,h4,h5⟩:=A.at'.env.own j ds hi
    have hji:j≠i:=fun z=>by subst z;rw [A.sl] at hi;cases hi
    have hap:=(zcK h4).1
    refine ⟨.ref a,h1,.inl ⟨rfl,vs,.inl (.inl (zcK h4).2)⟩,G₀,H₀,G,ρ,p,r,d,r1,A,hd,fun v G1 H1 s1 v1=>?_⟩
    have A1:=A.step s1
    refine ⟨a,vs,v,rfl,rfl,(zcK (s1.st.hh _ _ h4)).2,by rw [h5.length];exact hz,?_⟩
    refine k σ G1 _ s1.st.gg ⟨?_,(zhp hji).trans A.sl,by rw [zaF hap.symm];exact s1.here⟩
    rw [zmc hap]
    exact A1.at'.chOwn hi h1 ((h5.mono s1.st.gg).append (.cons v1 .nil))
   ·cases h
  ·cases h⟩
structure KpG (i:Nat) (g:FG):Prop where
 out:∀ d ρ ρ',g d ρ=some ρ'->ρ'[i]?=ρ[i]?
structure KpGs (i:Nat) (g:FGs):Prop where
 out:∀ d ρ ρ',g d ρ=some ρ'->ρ'[i]?=ρ[i]?
theorem zd2 {j:Nat} (h:j≠i):KpG i (zbt j):=⟨fun d ρ ρ' e=>by cases e;exact zhp h⟩
theorem zk3:KpGs i zij:=⟨fun d ρ ρ' e=>by unfold zij at e;split at e <;> cases e;rfl⟩
theorem zeW {g:FG} {gs:FGs} (h:KpG i g) (h':KpGs i gs):KpGs i (zdA g gs):=⟨fun d ρ ρ' e=>by
 unfold zdA at e
 split at e
 ·obtain ⟨ρ1,h1,e⟩:=oBd e
  first | exact (h'.1 _ _ _ e).trans (h.1 _ _ _ h1) | exact (h.1 _ _ _ e).trans (h'.1 _ _ _ h1)
 ·cases e⟩
theorem zn2 {n:Nat} {gs:FGs} (h:KpGs i gs):KpG i (zik n gs):=⟨fun d ρ ρ' e=>by
 unfold zik at e
 split at e
 ·first | exact h.1 _ _ _ e | (split at e;exact h.1 _ _ _ e;cases e)
 ·cases e⟩
theorem RAt.tgt {K:PySem.W.Frag} {G₀ H₀ G H:Hp} {ρ ρ':za1} {σ:St} {q:Addr} {r:Int} {v:V} {d:D} {Q:St->Hp->Prop} (A:RAt Γ K G₀ H₀ G H ρ σ i q r) (kp:KpG i gg) (rv:Rep Γ K G v d) (h:gg d ρ=some ρ') (k:∀ σ',RAt Γ K G₀ H₀ G H ρ' σ' i q r->Q σ' H):TDg Γ K gg v σ H Q :=
 ⟨_,_,G,ρ,d,ρ',A.shut,rv,h,fun σ' B=>k σ' (A.open' B (kp.1 _ _ _ h))⟩
def zs9 (gg:FG) (f:FR):FRs:=fun ρ r=>(f ρ r).bind fun d=>(gg d.1 ρ).map fun ρ'=>(.nx,ρ',d.2)
theorem zqf (kp:KpG i gg) (h:RE Γ X i e f) (hg:DG Γ X tg gg) (hs:swapsWithSole [tg] e pos.line X.env=pure false:=by rfl) (hw:swappedStores [tg] e X.env=pure none:=by rfl)
  (h1:(assignEach [tg] X.env).map (·.2)=[assign tg X.env]:=by rfl):RS Γ X i (.Assign [tg] e pos) (zs9 gg f):=⟨(zqp h.1 hg.pg hs hw h1).imp fun E σ H=>by
 rintro ⟨G₀,H₀,G,ρ,p,r,fl,ρ',r',A,h,k⟩
 obtain ⟨⟨d,r1⟩,hd,h⟩:=oBd h
 obtain ⟨ρ1,h1,h⟩:=oMd h
 cases h
 exact ⟨G₀,H₀,G,ρ,p,r,d,r1,A,hd,fun v G' H' s v1=>(A.step s).tgt kp v1 h1 fun σ' A'=>k σ' G' H' s.st.gg A'⟩⟩
def zsy (gg:FG) (body:FRs):List D->FRs
 | [],ρ,r=>some (.nx,ρ,r)
 | x::xs,ρ,r=>(gg x ρ).bind fun ρ1=>(body ρ1 r).bind fun y=>match y.1 with
  | .nx=>zsy gg body xs y.2.1 y.2.2
  | .rt d=>some (.rt d,y.2)
  | _=>none
def zjH (fi:FRa) (gg:FG) (body:FRs):FRs:=fun ρ r=>(fi ρ r).bind fun xs=>zsy gg body xs.1 ρ xs.2
theorem zhz {body:List Stmt} (kp:KpG i gg) (hp:PassesOwn (model X.prog X.w) X.A X.env X.xe) (hc:X.calm=true) (hi:RI Γ X i tg iter fi) (hg:DG Γ X tg gg) (hb:RSs Γ X i body g) (hs:∀ x,foldedSetIterable iter X.env x=pure x:=by intro _;rfl) :
  RS Γ X i (.For tg iter body [] pos) (zjH fi gg g):=⟨(zqn hp hc hi.1 hg.pg hb.1 hs).imp fun E σ H=>by
 rintro ⟨G₀,H₀,G,ρ,q,r,fl,ρ',r',A,h,k⟩
 obtain ⟨⟨xs,r0⟩,hx,h⟩:=oBd h
 refine ⟨G₀,H₀,G,ρ,q,r,xs,r0,A,hx,fun J G1 H1 s1 Y=>?_⟩
 refine ⟨fun n m σ' H'=>m=xs.length - n/\n<=xs.length/\∃ G' ρ1 r1,zcd G1 G'/\RAt Γ X.K G₀ H₀ G' H' ρ1 σ' i q r1/\zsy gg g (xs.drop n) ρ1 r1=some (fl,ρ',r'),⟨xs.length,rfl,Nat.zero_le _,G1,ρ,r0,.refl _,A.step s1,by rw [List.drop_zero];exact h⟩,?_⟩
 rintro n m σ' H' ⟨rfl,hi,G',ρ1,r1,sm,A',hr⟩
 by_cases hlt:n < xs.length
 ·right
  have hxi:xs[n]?=some xs[n]:=by simp [hlt]
  obtain ⟨go,yl⟩:=Y.go n _ G' H' hxi sm A'.gh
  have hdr:xs.drop n=xs[n]::xs.drop (n+1):=List.drop_eq_getElem_cons hlt
  rw [hdr] at hr
  unfold zsy at hr
  obtain ⟨ρ2,h2,hr⟩:=oBd hr
  obtain ⟨⟨fl3,ρ3,r3⟩,h3,hr⟩:=oBd hr
  refine ⟨go,fun σ3 H3=>fl3=.nx/\∃ G3,zcd G1 G3/\RAt Γ X.K G₀ H₀ G3 H3 ρ3 σ3 i q r3,fun σ3 H3 ⟨hfl,G3,sm3,A3⟩=>?_,fun x H2 hy=>?_⟩
  ·subst hfl
   exact ⟨xs.length - (n+1),by omega,rfl,hlt,G3,ρ3,r3,sm3,A3,hr⟩
  ·obtain ⟨G2,s2,v2⟩:=yl x H2 hy
   refine (A'.step (A'.pure s2)).tgt kp v2 h2 fun σ2 A2=>⟨G₀,H₀,G2,ρ2,q,r1,fl3,ρ3,r3,A2,h3,fun σ3 G3 H3 sm3 A3=>?_⟩
   have smm:zcd G1 G3:=(sm.trans s2.gg).trans sm3
   cases fl3 with
   | nx=>exact ⟨rfl,G3,smm,A3⟩
   | rt d=>cases hr;exact k σ3 G3 H3 (s1.st.gg.trans smm) A3
   | _=>cases hr
 ·left
  have e:n=xs.length:=by omega
  subst e
  rw [List.drop_length] at hr
  cases hr
  exact ⟨Y.stop G' H' sm A'.gh,k σ' G' H' (s1.st.gg.trans sm) A'⟩⟩
end
end L2
end
section
namespace L2
open PySem PySem.Spec PyProof.Rows
def zh4 (ρ:za1):Prop:=∀ (i:Nat) s,ρ[i]?=some (some s)->(∃ d,s=.sh d)\/∃ a,s=.pin a
theorem EnvRel.of0 {Γ:Cn} {K:PySem.W.Frag} {H₀ H₁ G H H':Hp} {ρ:za1} {σ:St} (E:EnvRel Γ K H₁ G H' ρ σ) (no:zh4 ρ):EnvRel Γ K H₀ G H ρ σ:=by
 obtain ⟨fps,h,ap⟩:=E.sl
 refine ⟨E.len,fun _=>[],fun j s e=>?_,fun _ _ _ _ _ _ _ b hb=>by cases hb⟩
 obtain ⟨v,h1,h2⟩:=h j s e
 rcases no j s e with ⟨d,rfl⟩ | ⟨a,rfl⟩
 ·generalize fps j=fp at h2
  cases h2 with | sh r=>exact ⟨v,h1,.sh r⟩
 ·generalize fps j=fp at h2
  cases h2 with | pin a=>exact ⟨_,h1,.pin a⟩
def fvR (fv:List (Option Nat)) (ρ:za1):za1:=fv.map fun o=>o.bind fun j=>match ρ[j]? with
 | some (some (.sh d))=>some (.sh d)
 | some (some (.pin a))=>some (.pin a)
 | _=>none
def zf9 (g:FG) (ft:FRt) (fe:FR):List D->za1->Int->Option (List D×Int)
 | [],_,r=>some ([],r)
 | x::xs,ρ,r=>(g x ρ).bind fun ρ1=>(ft ρ1 r).bind fun b=>if b.1=true then (fe ρ1 b.2).bind fun d=>(zf9 g ft fe xs ρ1 d.2).map fun l=>(d.1::l.1,l.2) else zf9 g ft fe xs ρ1 b.2
def zeM (fi:FRa) (g:FG) (ft:FRt) (fe:FR) (fv:List (Option Nat)):FRa:=rb fi fun ρ xs r=>if xs.length<=sizeLine then zf9 g ft fe xs (fvR fv ρ) r else none
section
variable {Γ:Cn} {X:Cx} {i i2 j2:Nat} {a b c e tg iter elt:Expr} {es zc2 ifs:List Expr} {fa fb f fe:FR} {pos p2 p:Pos} {fr fi:FRa} {ft gt:FRt} {x y:Str} {scope:Scope} {N':List Str} {fv:List (Option Nat)}
theorem zt4 {K:PySem.W.Frag} {G₀ H₀ G H:Hp} {ρ:za1} {σ:St} {q:Addr} {r:Int} (A:RAt Γ K G₀ H₀ G H ρ σ i q r) (hfv:fv[i2]?=some (some i)):RAt Γ K G (bt q H) G H (fvR fv ρ) (zlY fv σ) i2 q r/\zh4 (fvR fv ρ):=by
 have key:∀ (k:Nat) s,(fvR fv ρ)[k]?=some (some s)->∃ j,fv[k]?=some (some j)/\ρ[j]?=some (some s)/\((∃ d,s=.sh d)\/∃ a,s=.pin a):=fun k s e=>by
  unfold fvR at e
  rw [qj] at e
  obtain ⟨o,ho,e⟩:=oMd e
  cases o with
  | none=>cases e
  | some j =>
   simp only [qa] at e
   split at e <;> cases e
   ·exact ⟨j,ho,by assumption,.inl ⟨_,rfl⟩⟩
   ·exact ⟨j,ho,by assumption,.inr ⟨_,rfl⟩⟩
 have no:zh4 (fvR fv ρ):=fun k s e=>(key k s e).elim fun j h=>h.2.2
 refine ⟨⟨⟨.refl A.at'.gh,by simp [fvR,zlY],fun _=>[],fun k s e=>?_,fun _ _ _ _ _ _ _ b hb=>by cases hb⟩,?_,A.here⟩,no⟩
 ·obtain ⟨j,h1,h2,h3⟩:=key k s e
  obtain ⟨v,fp,h4,h5⟩:=A.at'.get h2
  refine ⟨v,by unfold zlY;rw [qj,h1];simp [h4],?_⟩
  rcases h3 with ⟨d,rfl⟩ | ⟨a,rfl⟩
  ·cases h5 with | sh r=>exact .sh r
  ·cases h5 with | pin a=>exact .pin a
 ·unfold fvR
  rw [qj,hfv]
  simp [A.sl]
structure RTs (Γ:Cn) (X:Cx) (i:Nat) (es:List Expr) (f:FRt):Prop where
 out:PTs X es (zqR Γ X.K i f)
theorem znq:RTs Γ X i [] (rP tT):=⟨znu.imp fun σ H Q=>by
 rintro ⟨G₀,H₀,G,ρ,p,r,b,r',A,h,k⟩
 cases h
 exact k G H A.refl⟩
theorem znp (h:RT Γ X i c ft):RTs Γ X i [c] ft:=⟨zrh h.1⟩
theorem ztH {ρ:za1} {j:Nat} {d:D} (h:zh4 ρ):zh4 (ρ.set j (some (.sh d))):=fun k s e=>by
 by_cases hk:k=j
 ·subst hk
  rcases Nat.lt_or_ge k ρ.length with q | q
  ·rw [List.getElem?_set_self q] at e;cases e;exact .inl ⟨_,rfl⟩
  ·rw [List.getElem?_eq_none (by simp;omega)] at e;cases e
 ·rw [qv (Ne.symm hk)] at e;exact h k s e
structure RB (Γ:Cn) (X:Cx) (i2 j2:Nat) (N':List Str) (scope:Scope) (tg:Expr) (ifs:List Expr) (elt:Expr) (ft:FRt) (fe:FR):Prop where
 out:∀ (cl:List (Str×Addr)) (C:Addr) (s₀:Shared) (H₀:Hp) (fp:List Addr),DG Γ (zdh X N' scope cl C s₀ H₀ fp) tg (zbt j2)/\RTs Γ (zdh X N' scope cl C s₀ H₀ fp) i2 ifs ft/\RE Γ (zdh X N' scope cl C s₀ H₀ fp) i2 elt fe
theorem RB.pb (h:RB Γ X i2 j2 N' scope tg ifs elt ft fe):PB X N' scope tg ifs elt (TDg Γ X.K (zbt j2)) (zqR Γ X.K i2 ft) (TDr Γ X.K i2 fe):=fun cl C s₀ H₀ fp=>⟨(h.1 cl C s₀ H₀ fp).1.pg,(h.1 cl C s₀ H₀ fp).2.1.1,(h.1 cl C s₀ H₀ fp).2.2.1⟩
theorem zl7 (hj:j2≠i2) (hfv:fv[i2]?=some (some i)):∀ σ H Q,zuz Γ X.K i (zeM fi (zbt j2) ft fe fv) σ H Q->tLC (zvQ Γ X.K i fi) (TDg Γ X.K (zbt j2)) (zqR Γ X.K i2 ft) (TDr Γ X.K i2 fe) fv σ H Q:=by
 rintro σ H Q ⟨G₀,H₀,G,ρ,q,r,ds,rz,A,h,k⟩
 obtain ⟨xs,r0,hx,h⟩:=zfz h
 split at h
 case isFalse=>cases h
 rename_i hz
 refine ⟨G₀,H₀,G,ρ,q,r,xs,r0,A,hx,fun J G1 H1 s1 Y acc hacc=>?_⟩
 have A1:=A.step s1
 have hap:acc≠q:=fun z=>by subst z;rw [s1.here] at hacc;cases hacc
 have gacc:G1 acc=none:=A1.gh.free hacc
 obtain ⟨A0,no0⟩:=zt4 (fv:=fv) A1 hfv
 refine ⟨fun n m ys σ' H'=>m=xs.length - n/\n<=xs.length/\ys.length<=n/\∃ G' ρ' r' done zc2,RAt Γ X.K G1 (bt q H1) G' H' ρ' σ' i2 q r'/\zh4 ρ'/\H' acc=some (.lst ys)/\G' acc=none/\Reps Γ X.K G' ys done/\zf9 (zbt j2) ft fe (xs.drop n) ρ' r'=some (zc2,rz)/\done++zc2=ds,?_,?_⟩
 ·refine ⟨xs.length,rfl,Nat.zero_le _,qt _,G1,fvR fv ρ,r0,[],ds,⟨⟨?_,A0.at'.env.of0 no0⟩,A0.sl,by rw [zaF hap.symm];exact s1.here⟩,no0,zaL,gacc,.nil,by rw [List.drop_zero];exact h,rfl⟩
  rw [zmc hap]
  exact Step.newOwn A1.at'.gh (by rw [zdt hap];exact hacc)
 ·rintro n m ys σ' H' ⟨hm,hi,hyi,G',ρ',r',done,zc2,A',no',hacc',gacc',ry,hr,hd⟩
  subst hm
  refine ⟨hacc',?_⟩
  by_cases hlt:n < xs.length
  ·right
   have hxi:xs[n]?=some xs[n]:=by simp [hlt]
   obtain ⟨go,yl⟩:=Y.go n _ G' H' hxi A'.at'.st.gg A'.gh
   refine ⟨go,fun x H2 hy=>?_⟩
   obtain ⟨G2,s2,v2⟩:=yl x H2 hy
   have t2:=A'.pure s2
   have A2:=A'.step t2
   have hdr:xs.drop n=xs[n]::xs.drop (n+1):=List.drop_eq_getElem_cons hlt
   rw [hdr] at hr
   unfold zf9 at hr
   obtain ⟨ρ1,h1,hr⟩:=oBd hr
   obtain ⟨⟨b,r2⟩,h2,hr⟩:=oBd hr
   refine A2.tgt (zd2 hj) v2 h1 fun σ2 A3=>⟨_,_,G2,ρ1,q,r',b,r2,A3,h2,fun G4 H4 s4=>?_⟩
   have no1:zh4 ρ1:=by cases h1;exact ztH no'
   have hb2:bt q H2 acc=some (.lst ys):=by rw [zdt hap];exact s2.hh _ _ hacc'
   have hb4:=s4.st.hh _ _ hb2
   have hG4:G4 acc=none:=(s4.st.out _ _ hb2).trans ((s2.out _ _ hacc').trans gacc')
   have A4:=A3.step s4
   cases b with
   | false =>
    rw [qS qp] at hr
    refine zn9 ⟨xs.length - (n+1),by omega,rfl,hlt,by omega,G4,ρ1,r2,done,zc2,A4,no1,(zcK hb4).2,hG4,(ry.mono s2.gg).mono s4.st.gg,hr,hd⟩
   | true =>
    rw [qR rfl] at hr
    obtain ⟨⟨d,r3⟩,h3,hr⟩:=oBd hr
    obtain ⟨⟨zs,r4⟩,h5,hr⟩:=oMd hr
    cases hr
    refine zn8 ⟨_,_,G4,ρ1,q,r2,d,r3,A4,h3,fun v G5 H5 s5 v5=>?_⟩
    have A5:=A4.step s5
    have hb5:=s5.st.hh _ _ hb4
    have hG5:G5 acc=none:=(s5.st.out _ _ hb4).trans hG4
    refine ⟨(zcK hb5).2,by omega,xs.length - (n+1),by omega,rfl,hlt,by rw [qi,qP];omega,G5,ρ1,r3,done++[d],zs,⟨⟨?_,A5.at'.env.of0 no1⟩,A5.sl,by rw [zaF hap.symm];exact s5.here⟩,no1,zaL,hG5,((((ry.mono s2.gg).mono s4.st.gg).mono s5.st.gg).append (.cons v5 .nil)),h5,by rw [List.append_assoc];exact hd⟩
    have st5:=A5.at'.st
    rw [zmc hap]
    refine ⟨fun b o e=>?_,st5.gg,fun b o e=>?_,st5.out⟩
    ·rw [zaF (zaC e (by rw [zdt hap];exact hacc))];exact st5.hh b o e
    ·rw [zaF (zaC e hG5)];exact st5.gh b o e
  ·left
   have e:n=xs.length:=by omega
   subst e
   rw [List.drop_length] at hr
   cases hr
   rw [List.append_nil] at hd
   subst hd
   refine ⟨Y.stop G' H' A'.at'.st.gg A'.gh,?_⟩
   have hf:H'=upd (bt acc H') acc (.lst ys):=by
    funext b
    by_cases hb:b=acc
    ·subst hb;rw [zaL];exact hacc'
    ·rw [zaF hb,zdt hb]
   rw [hf]
   have st':=A'.at'.st
   refine k acc ys G' (bt acc H') (s1.trans ⟨⟨fun b o e=>?_,st'.gg,fun b o e=>?_,st'.out⟩,by rw [zdt hap.symm];exact A'.here⟩) zfF ry
   ·have hne:=(zcK e).1
    have hna:b≠acc:=zaC (zcK e).2 hacc
    rw [zdt hne,zdt hna];exact (zcK (st'.hh b o e)).2
   ·have hne:=(zcK (st'.gh b o e)).1
    have hna:b≠acc:=zaC e gacc'
    rw [zdt hne,zdt hna];exact A'.gh b o e
theorem zuR (hj:j2≠i2) (hfv:fv[i2]?=some (some i)) (hc:X.calm=true) (S:CompScope X scope) (F:FvOk X N' scope fv) (hi:RI Γ X i tg iter fi) (hb:RB Γ X i2 j2 N' scope tg ifs elt ft fe) (hs:∀ x,foldedSetIterable iter X.env x=pure x:=by intro _;rfl) :
  RO Γ X i (.ListComp elt [⟨tg,iter,ifs,0⟩] scope pos) (zeM fi (zbt j2) ft fe fv):=⟨(ztq hc S F hi.1 hb.pb hs).imp (zl7 hj hfv)⟩
theorem zq3 {j:Nat} (hji:j≠i):∀ E σ H,zp6 Γ X.K i (zcG j (rM fr fun l=>some (.lst l))) E σ H->zp9 (zuz Γ X.K i fr) (zkc j) E σ H:=by
 rintro E σ H ⟨G₀,H₀,G,ρ,p,r,fl,ρ',r',A,h,k⟩
 obtain ⟨⟨d,r1⟩,hd,h⟩:=oMd h
 obtain ⟨ds,hd',e⟩:=zdm hd
 cases e
 cases h
 refine ⟨G₀,H₀,G,ρ,p,r,ds,r1,A,hd',fun q vs G' H' s hq v1=>?_⟩
 have A':=A.step s
 have s2:=Step.new (o:=.lst vs) A'.gh hq
 have t2:=A'.pure s2
 exact k _ _ _ (s.st.gg.trans t2.st.gg) ⟨(A'.step t2).at'.setSh (.lst zaL (v1.mono s2.gg)),(zhp hji).trans A.sl,t2.here⟩
theorem zq9 (j:Nat) {py spos:Pos} (hN:X.N.Nodup) (hji:j≠i) (hj:j2≠i2) (hfv:fv[i2]?=some (some i)) (hc:X.calm=true) (S:CompScope X scope) (F:FvOk X N' scope fv) (hi:RI Γ X i tg iter fi) (hb:RB Γ X i2 j2 N' scope tg ifs elt ft fe)
  (hy:X.N[j]?=some y:=by rfl) (hyl:X.env.scope.names.lookup y=some .local:=by rfl) (hsw:swapsWith (.ListComp elt [⟨tg,iter,ifs,0⟩] scope pos) (some (.Name y py)) spos.line X.env=pure true:=by rfl) (hs:∀ x,foldedSetIterable iter X.env x=pure x:=by intro _;rfl) :
  RS Γ X i (.Assign [.Name y py] (.ListComp elt [⟨tg,iter,ifs,0⟩] scope pos) spos) (zcG j (rM (zeM fi (zbt j2) ft fe fv) fun l=>some (.lst l))):=⟨(zrj hN hy hyl hc S F hi.1 hb.pb hsw hs).imp fun E σ H q=>zl7 hj hfv σ H _ (zq3 hji E σ H q)⟩
end
end L2
end
section
namespace L2
open PySem PySem.Spec PyProof.Rows
section
variable {Γ:Cn} {X:Cx} {i:Nat} {a b c e:Expr} {es:List Expr} {fa fb f:FR} {pos p2 p:Pos} {fr:FRa} {x y:Str}
theorem zdJ (ha:RE Γ X i a fa) (hb:RE Γ X i b fb):RE Γ X i (.BinOp a .Add b pos) (r2 zc6 fa fb):=zph znN zl3 ha hb
theorem zs3 (ha:RE Γ X i a fa) (hb:RE Γ X i b fb):RE Γ X i (.BinOp a .Sub b pos) (r2 ziX fa fb):=zph zqu (zkk fun x y z h=>by
 unfold ziX at h;split at h <;> cases h;exact ⟨_,_,rfl,rfl,rfl⟩) ha hb
theorem zre (ha:RE Γ X i a fa) (hb:RE Γ X i b fb):RE Γ X i (.BinOp a .FloorDiv b pos) (r2 zkg fa fb):=zph znM (zd4 fun x y z h=>by
 unfold zkg at h;split at h
 ·split at h <;> cases h;exact ⟨_,_,rfl,rfl,by assumption,rfl⟩
 ·cases h) ha hb
theorem zqh (ha:RE Γ X i a fa) (hb:RE Γ X i b fb):RE Γ X i (.BinOp a .Mod b pos) (r2 zmT fa fb):=zph zqv (zd4 fun x y z h=>by
 unfold zmT at h;split at h
 ·split at h <;> cases h;exact ⟨_,_,rfl,rfl,by assumption,rfl⟩
 ·cases h) ha hb
def zut:FR:=fun _ r=>some (.int r,r)
theorem zqi {vp pc:Pos} {kk} (hN:X.N[i]?=some x:=by rfl) (hv:Vis X.env.scope x:=by first | exact Or.inl rfl | exact Or.inr (Or.inl rfl) | exact Or.inr (Or.inr rfl)) (hd:(x==("__debug__":Str))=false:=by decide) (hcd:(x==("__classdict__":Str))=false:=by decide)
  (hs:zh2 (.Constant (.int 0) kk pc):=by intro _ _;rfl):RE Γ X i (.Subscript (.Name x vp) (.Constant (.int 0) kk pc) pos) zut:=⟨(zpq zlV (zen hN hv hd hcd) zj2 hs).imp fun σ H Q=>by
 rintro ⟨G₀,H₀,G,ρ,p,r,d,r',A,h,k⟩
 cases h
 exact ⟨_,A.var,.inl ⟨p,_,_,_,rfl,rfl,.inl (.inl A.here),rfl,k _ G H A.refl (.int _)⟩⟩⟩
def zuU (f:FR):FRs:=fun ρ r=>(f ρ r).bind fun x=>match x.1 with
 | .int n=>some (.nx,ρ,n)
 | _=>none
theorem zsY {vp pc:Pos} {kk} (h:RE Γ X i e f) (hN:X.N[i]?=some x:=by rfl) (hv:Vis X.env.scope x:=by first | exact Or.inl rfl | exact Or.inr (Or.inl rfl) | exact Or.inr (Or.inr rfl)) (hd:(x==("__debug__":Str))=false:=by decide) (hcd:(x==("__classdict__":Str))=false:=by decide)
  (hs:swapsWithSole [.Subscript (.Name x vp) (.Constant (.int 0) kk pc) p2] e pos.line X.env=pure false:=by rfl) (hw:swappedStores [.Subscript (.Name x vp) (.Constant (.int 0) kk pc) p2] e X.env=pure none:=by rfl) :
  RS Γ X i (.Assign [.Subscript (.Name x vp) (.Constant (.int 0) kk pc) p2] e pos) (zuU f):=⟨(zqp h.1 (ztk (zen hN hv hd hcd) zj2 zpc) hs hw).imp fun E σ H=>by
  rintro ⟨G₀,H₀,G,ρ,p,r,fl,ρ',r',A,h,k⟩
  obtain ⟨⟨d,r1⟩,hd,h⟩:=oBd h
  cases d with
  | int n =>
   cases h
   refine ⟨G₀,H₀,G,ρ,p,r,_,r1,A,hd,fun u G2 H2 s2 v2=>⟨_,A.var,?_⟩⟩
   have A2:=A.step s2
   cases v2.int_inv
   refine ⟨p,[.int r1],0,0,rfl,rfl,s2.here,rfl,k σ G2 _ s2.st.gg ⟨?_,A.sl,zaL⟩⟩
   have e:bt p (upd H2 p (.lst ([V.int r1].set 0 (.int r'))))=bt p H2:=by
    funext b
    by_cases hb:b=p
    ·subst hb;rw [zfF,zfF]
    ·rw [zdt hb,zdt hb,zaF hb]
   rw [e]
   exact A2.at'
  | _=>cases h⟩
def spR (Γ:Cn) (K:PySem.W.Frag) (n:Nat) (F:Addr->List D->Int->Option (D×Int)):Sp:=fun vs H Q _=>∃ G q r us ds d r',vs=.ref q::us/\zcd G (bt q H)/\H q=some (.lst [.int r])/\Reps Γ K G us ds/\ds.length=n/\F q ds r=some (d,r')/\∀ v G' H',RStep q r' G H G' H'->Rep Γ K G' v d->Q v H'
def zja (n:Nat) (g:FRs):Addr->List D->Int->Option (D×Int):=fun q ds r=>(g (some (.pin q)::(ds.map (fun d=>some (Slot.sh d))++List.replicate n none)) r).bind fun x=>match x.1 with
 | .rt d=>some (d,x.2.2)
 | .nx=>some (.non,x.2.2)
 | _=>none
theorem zm4 {K:PySem.W.Frag} {G H:Hp} {us:List V} {ds:List D} {N:List Str} {m:Nat} {q:Addr} {r:Int} (gh:zcd G (bt q H)) (hq:H q=some (.lst [.int r])) (rv:Reps Γ K G us ds) (hm:m=N.length - (us.length+1)):RAt Γ K G (bt q H) G H (some (.pin q)::(ds.map (fun d=>some (Slot.sh d))++List.replicate m none)) (zeq N (.ref q::us)) 0 q r:=by
 have B:=zho (N:=N.tail) (m:=m) gh rv (by rw [List.length_tail];omega)
 obtain ⟨fps,h,ap⟩:=B.env.sl
 have es:zeq N (.ref q::us)=some (.ref q)::zeq N.tail us:=by
  unfold zeq
  rw [ql,qm,qh,List.length_tail]
  congr 3
  omega
 refine ⟨⟨B.st,by rw [es,qh,qh,B.env.len],fun | 0=>[] | j+1=>fps j,fun j s e=>?_,fun j k s t hjk e1 e2=>?_⟩,rfl,hq⟩
 ·rw [es]
  cases j with
  | zero=>cases e;exact ⟨_,rfl,.pin q⟩
  | succ j=>exact h j s e
 ·cases j with
  | zero=>intro b hb;cases hb
  | succ j =>
   cases k with
   | zero=>intro b _ hb;cases hb
   | succ k=>exact ap j k s t (fun z=>hjk (by rw [z])) e1 e2
theorem Fun.okR {P:Program} {w:World} {K:PySem.W.Frag} {mg:Str->Option Value} {base:Heap} {x qual s0:Str} {st:Stmt} {f:Addr} {fd:FuncData} {N ps:List Str} {k:Nat} {g:FRs} (F:Fun K x qual st f fd) (S:FnScope N (s0::ps) (zao st))
  (hbody:∀ (cdv:Value) (A:Around) (outer:List Env) (s:Shared) (H:Hp) (E:XK),Room k (A.deeper (envOfC qual (zao st) s.heap.objs.size f cdv)) ->
   RSs Γ (zkI CX0 P w K mg base N qual (zao st) f cdv A outer s H E).nox 0 (zbv st) g):FnOk P w K mg base CX0 (k+1) f fd (s0::ps) (spR Γ K ps.length (zja (N.length - (ps.length+1)) g)):=by
 refine F.ok S (fun vs H Q E h=>?_) (fun cdv A outer s H vs Q E hr h=>?_)
 ·obtain ⟨G,q,r,us,ds,d,r',rfl,_,_,rv,hl,_⟩:=h
  rw [qh,qh,rv.length,hl]
 ·obtain ⟨G,q,r,us,ds,d,r',rfl,gh,hq,rv,hl,hd,k⟩:=h
  refine ⟨_,(hbody cdv A outer s H E hr).1,?_⟩
  unfold zja at hd
  obtain ⟨⟨fl,ρ',r1⟩,hg,hd⟩:=oBd hd
  refine ⟨G,bt q H,G,_,q,r,fl,ρ',r1,zm4 gh hq rv (by rw [rv.length,hl]),hg,fun σ' G' H' sm A'=>?_⟩
  cases fl with
  | rt d'=>cases hd;exact fun v rv=>k v G' H' ⟨A'.at'.st,A'.here⟩ rv
  | nx=>cases hd;exact k .non G' H' ⟨A'.at'.st,A'.here⟩ .non
  | _=>cases hd
structure CalR (Γ:Cn) (P:Program) (w:World) (K:PySem.W.Frag) (mg:Str->Option Value) (base:Heap) (x:Str) (n k:Nat) (F:Addr->List D->Int->Option (D×Int)):Prop where
 ex:∃ f fd ps,FnOk P w K mg base CX0 k f fd ps (spR Γ K n F)/\mg x=some (.ref f)/\PySem.W.keepIn K (.ref f)=true/\zdG K fd ps []
def zbn (F:Addr->List D->Int->Option (D×Int)) (i:Nat) (fr:FRa):FR:=fun ρ r=>match ρ[i]? with
 | some (some (.pin q))=>(fr ρ r).bind fun x=>F q x.1 x.2
 | _=>none
theorem zaG {n k:Nat} {F:Addr->List D->Int->Option (D×Int)} {q:Pos} (C:CalR Γ X.prog X.w X.K X.mg X.base x n k F) {j:Nat} (hr:Room j X.A) (hk:k<=j) (hg:Gl X x) (ha:RA Γ X i es fr) (hn:∀ ρ r ds r',fr ρ r=some (ds,r')->ds.length=n)
  (hN:X.N[i]?=some y:=by rfl) (hv:Vis X.env.scope y:=by first | exact Or.inl rfl | exact Or.inr (Or.inl rfl) | exact Or.inr (Or.inr rfl)) (hd:(y==("__debug__":Str))=false:=by decide) (hcd:(y==("__classdict__":Str))=false:=by decide)
  (hdb:(x==("__debug__":Str))=false:=by decide) (he:starEach (.Name y q::es) X.env=(false,eval (.Name y q) X.env)::starEach es X.env:=by rfl) (hpl:(backTo pos (starEach es X.env)).any (·.1)=false:=by rfl) :
  RE Γ X i (.Call (.Name x p) (.Name y q::es) [] pos) (zbn F i fr):=by
 obtain ⟨f,fd,ps,h1,h2,h3,h4⟩:=C.ex
 refine ⟨(zkX h1 (hr.mono hk) hg h2 h3 h4 .nil zkZ (zeH (zen hN hv hd hcd) ha.1 he) hdb he hpl).imp fun σ H Q=>?_⟩
 rintro ⟨G₀,H₀,G,ρ,p,r,d,r',A,h,k⟩
 unfold zbn at h
 rw [A.sl] at h
 obtain ⟨⟨ds,r1⟩,hd,h⟩:=oBd h
 refine ⟨_,A.var,G₀,H₀,G,ρ,p,r,ds,r1,A,hd,fun vs G1 H1 s1 v1=>?_⟩
 show spR Γ X.K n F (.ref p::(vs++[])) H1 Q E0
 rw [List.append_nil]
 exact ⟨G1,p,r1,vs,ds,d,r',rfl,(A.step s1).at'.gh,s1.here,v1,hn ρ r ds r1 hd,h,fun v G' H' s rv=>k v G' H' (s1.trans s) rv⟩
theorem Dfn.calR {P:Program} {w:World} {K:PySem.W.Frag} {mg:Str->Option Value} {base:Heap} {x s0:Str} {st:Stmt} {N ps:List Str} {k:Nat} {g:FRs} (F:Dfn K mg x st) (S:FnScope N (s0::ps) (zao st))
  (hb:∀ (kV doc pm:Value) (an:Option Addr) (cdv ct:Value) (us:List Value),us.length=(s0::ps).length->bindArgs (PySem.W.fnOf x x (zcJ st) (zbv st) (zao st) .none kV doc pm an cdv ct) ⟨us,[]⟩=pure ((s0::ps).zip us))
  (hbody:∀ (f:Addr) (cdv:Value) (A:Around) (outer:List Env) (s:Shared) (H:Hp) (E:XK),Room k (A.deeper (envOfC x (zao st) s.heap.objs.size f cdv)) ->
   RSs Γ (zkI CX0 P w K mg base N x (zao st) f cdv A outer s H E).nox 0 (zbv st) g):CalR Γ P w K mg base x ps.length (k+1) (zja (N.length - (ps.length+1)) g):=by
 obtain ⟨f,fd,h1,h2⟩:=F.ex
 exact ⟨f,fd,s0::ps,h1.okR S (hbody f),h2,h1.kp,h1.binds hb⟩
theorem Dfn.noneR {P:Program} {w:World} {K:PySem.W.Frag} {mg:Str->Option Value} {base:Heap} {x:Str} {st:Stmt} {ps:List Str} {n k:Nat} (F:Dfn K mg x st)
  (hb:∀ (kV doc pm:Value) (an:Option Addr) (cdv ct:Value) (us:List Value),us.length=ps.length->bindArgs (PySem.W.fnOf x x (zcJ st) (zbv st) (zao st) .none kV doc pm an cdv ct) ⟨us,[]⟩=pure (ps.zip us))
  : CalR Γ P w K mg base x n k (fun _ _ _=>Option.none):=by
 obtain ⟨f,fd,h1,h2⟩:=F.ex
 refine ⟨f,fd,ps,⟨fun vs H Q E h=>?_,fun A outer s H args us vs Q E hr I b v h=>?_⟩,h2,h1.kp,h1.binds hb⟩
 ·obtain ⟨_,_,_,_,_,_,_,_,_,_,_,_,z,_⟩:=h
  cases z
 ·obtain ⟨_,_,_,_,_,_,_,_,_,_,_,_,z,_⟩:=h
  cases z
open Classical in
def zq7 (j:Nat) (g:FRs):FS:=fun ρ=>match ρ[j]? with
 | some (some (.own [.int r]))=>if h:∃ z:Fl×za1 ,∃ r':Int,∀ q,g (ρ.set j (some (.pin q))) r=some (z.1,z.2.set j (some (.pin q)),r') then some ((choose h).1,(choose h).2.set j none) else none
 | _=>none
theorem At.drop {K:PySem.W.Frag} {G₀ H₀ G H:Hp} {ρ:za1} {σ:St} (A:At Γ K G₀ H₀ G H ρ σ) (j:Nat):At Γ K G₀ H₀ G H (ρ.set j none) σ:=by
 obtain ⟨fps,h,ap⟩:=A.env.sl
 have key:∀ (k:Nat) s,(ρ.set j none)[k]?=some (some s)->ρ[k]?=some (some s):=fun k s e=>by
  by_cases hk:j=k
  ·subst hk
   rcases Nat.lt_or_ge j ρ.length with z | z
   ·rw [List.getElem?_set_self z] at e;cases e
   ·rw [List.getElem?_eq_none (by simp;omega)] at e;cases e
  ·rwa [qv hk] at e
 exact ⟨A.st,by simp [A.env.len],fps,fun k s e=>h k s (key k s e),fun k l s t hkl e1 e2=>ap k l s t hkl (key _ _ e1) (key _ _ e2)⟩
theorem At.reg {K:PySem.W.Frag} {G₀ H₀ G H:Hp} {ρ:za1} {σ:St} {j:Nat} {r:Int} (A:At Γ K G₀ H₀ G H ρ σ) (hj:ρ[j]?=some (some (.own [.int r]))):∃ q,RAt Γ K G₀ H₀ G H (ρ.set j (some (.pin q))) σ j q r:=by
 obtain ⟨fps,h,ap⟩:=A.env.sl
 obtain ⟨v,h1,h2⟩:=h j _ hj
 have lt:j < ρ.length:=(List.getElem?_eq_some_iff.mp hj).1
 generalize hf:fps j=fp at h2
 cases h2 with
 | own q1 q2 q3 q4 =>
  rename_i a vs
  obtain ⟨v,rfl,rv⟩:=q4.one
  cases rv.int_inv
  have ne0:∀ b o,H₀ b=some o->b≠a:=fun b o e z=>by subst z;rw [q1] at e;cases e
  have neg:∀ b o,G b=some o->b≠a:=fun b o e z=>by subst z;rw [q2] at e;cases e
  have old:∀ (k:Nat) s,k≠j->(ρ.set j (some (.pin a)))[k]?=some (some s)->ρ[k]?=some (some s):=fun k s hk e=>by rwa [qv (Ne.symm hk)] at e
  refine ⟨a,⟨⟨fun b o e=>by rw [zdt (ne0 b o e)];exact A.st.hh b o e,A.st.gg,fun b o e=>by rw [zdt (neg b o e)];exact A.st.gh b o e,A.st.out⟩,by simp [A.env.len],fun k=>if k=j then [] else fps k,fun k s e=>?_,fun k l s t hkl e1 e2 b hb hb2=>?_⟩,by rw [List.getElem?_set_self lt],q3⟩
  ·by_cases hk:k=j
   ·subst hk
    rw [List.getElem?_set_self lt] at e
    cases e
    show ∃ v,_/\SR _ _ _ _ _ _ v (if k=k then [] else fps k)
    rw [qR rfl]
    exact ⟨_,h1,.pin a⟩
   ·show ∃ v,_/\SR _ _ _ _ _ _ v (if k=j then [] else fps k)
    rw [qS hk]
    obtain ⟨v,h3,h4⟩:=h k s (old k s hk e)
    refine ⟨v,h3,h4.stay (.refl G) (fun b hb=>(h4.fpt b hb).2.1) fun b hb=>zdt fun z=>?_⟩
    subst z
    exact ap k j s _ hk (old k s hk e) hj b hb (by rw [hf];exact qf)
  ·replace hb:b∈(if k=j then [] else fps k):=hb
   replace hb2:b∈(if l=j then [] else fps l):=hb2
   by_cases hk:k=j
   ·rw [qR hk] at hb;cases hb
   ·by_cases hl:l=j
    ·rw [qR hl] at hb2;cases hb2
    ·rw [qS hk] at hb
     rw [qS hl] at hb2
     exact ap k l s t hkl (old k s hk e1) (old l t hl e2) b hb hb2
theorem zr3 {j:Nat} {sts:List Stmt} {g:FRs} (h:RSs Γ X j sts g):DSs Γ X sts (zq7 j g):=⟨h.1.imp fun E σ H=>by
 rintro ⟨G₀,H₀,G,ρ,fl,ρ',A,h,k⟩
 unfold zq7 at h
 split at h
 ·rename_i r hj
  split at h
  ·rename_i hz
   cases h
   obtain ⟨q,B⟩:=A.reg hj
   obtain ⟨r',hz'⟩:=Classical.choose_spec hz
   refine ⟨G₀,H₀,G,_,q,r,_,_,r',B,hz' q,fun σ' G' H' sm A'=>k σ' G' H' sm ?_⟩
   have:=A'.full.drop j
   rwa [List.set_set] at this
  ·cases h
 ·cases h⟩
theorem zq6 {j:Nat} {g:FRs} {ρ:za1} {r r':Int} {fl:Fl} {ρ':za1} (h1:ρ[j]?=some (some (.own [.int r]))) (h2:∀ q,g (ρ.set j (some (.pin q))) r=some (fl,ρ'.set j (some (.pin q)),r')):zq7 j g ρ=some (fl,ρ'.set j none):=by
 unfold zq7
 rw [h1]
 have hz:∃ z:Fl×za1,∃ r':Int,∀ q,g (ρ.set j (some (.pin q))) r=some (z.1,z.2.set j (some (.pin q)),r'):=⟨(fl,ρ'),r',h2⟩
 show (@dite _ _ (Classical.propDecidable _) _ _)=_
 rw [dif_pos hz]
 obtain ⟨r1,hc⟩:=Classical.choose_spec hz
 have e:=(hc 0).symm.trans (h2 0)
 have e1:=qD e
 have e2:(Classical.choose hz).1=fl:=congrArg (·.1) e1
 have e3:(Classical.choose hz).2.set j (some (.pin 0))=ρ'.set j (some (.pin 0)):=congrArg (·.2.1) e1
 have e4:=congrArg (fun l:za1=>l.set j none) e3
 simp only [List.set_set] at e4
 rw [e2,e4]
end
end L2
end
section
namespace L2
open PySem PySem.Spec PyProof.Rows
section
variable {Γ:Cn} {X:Cx} {a b:Expr} {fa fb:FE} {pos:Pos}
def zsp (i j:Int):Prop:=i.natAbs.log2 < 4000/\j.natAbs.log2 < 4000
theorem zsp.ok {i j:Int} (h:zsp i j):IntMulOk i j:=by
 have e:∀ k:Int,k.natAbs.log2 < 4000->Builtin.Int.intBits k<=4000:=fun k hk=>by
  unfold Builtin.Int.intBits
  split <;> omega
 have h1:=e i h.1
 have h2:=e j h.2
 have hb:¬ ((Builtin.Int.intBits i:Int)+(Builtin.Int.intBits j:Int) > bitsLine):=by
  have:(8000:Int)<=bitsLine:=by decide
  omega
 unfold IntMulOk Builtin.Int.intTooBig
 rw [qI hb]
 simp
def ztL:D->D->Option D
 | .int i,.int j=>if i.natAbs.log2 < 4000/\j.natAbs.log2 < 4000 then some (.int (i*j)) else none
 | _,_=>none
theorem zrx:OpR X (binaryOp .Mult) (rI zsp fun i j=>.int (i*j)):=opI fun _ _ _ _ _ _ _ hc q=>mul_int q hc.ok
theorem zr8 (ha:DE Γ X a fa) (hb:DE Γ X b fb):DE Γ X (.BinOp a .Mult b pos) (b2 ztL fa fb):=zlc zrx (zd4 fun x y z h=>by
 unfold ztL at h;split at h
 ·split at h <;> cases h;exact ⟨_,_,rfl,rfl,by assumption,rfl⟩
 ·cases h) ha hb
theorem zq4 {i j:Nat} {fr:FA} (hji:j≠i):∀ E σ H,zp6 Γ X.K i (zcG j (rP (zbM fr))) E σ H->zp9 (TDo Γ X.K fr) (zkc j) E σ H:=by
 rintro E σ H ⟨G₀,H₀,G,ρ,p,r,fl,ρ',r',A,h,k⟩
 obtain ⟨⟨d,r1⟩,hd,h⟩:=oMd h
 obtain ⟨hd',rfl⟩:=zfA hd
 obtain ⟨ds,hd'',rfl⟩:=oMd hd'
 cases h
 refine ⟨G₀,H₀,G,ρ,ds,A.full,hd'',fun q vs G' H' s hq v1=>?_⟩
 have s1:=A.pure s
 have A':=A.step s1
 have s2:=Step.new (o:=.lst vs) A'.gh hq
 have t2:=A'.pure s2
 exact k _ _ _ (s1.st.gg.trans t2.st.gg) ⟨(A'.step t2).at'.setSh (.lst zaL (v1.mono s2.gg)),(zhp hji).trans A.sl,t2.here⟩
theorem zsZ {i:Nat} (j:Nat) {y:Str} {py spos:Pos} {scope:Scope} {N':List Str} {fv:List (Option Nat)} {gg:FG} {ft:FT} {fe:FE} {fi:FA} {ifs:List Expr} {tg iter elt:Expr} (hN:X.N.Nodup) (hji:j≠i) (hc:X.calm=true) (S:CompScope X scope) (F:FvOk X N' scope fv) (hi:DI Γ X tg iter fi) (hb:DB Γ X N' scope tg ifs elt gg ft fe)
  (hy:X.N[j]?=some y:=by rfl) (hyl:X.env.scope.names.lookup y=some .local:=by rfl) (hsw:swapsWith (.ListComp elt [⟨tg,iter,ifs,0⟩] scope pos) (some (.Name y py)) spos.line X.env=pure true:=by rfl) (hs:∀ x,foldedSetIterable iter X.env x=pure x:=by intro _;rfl) :
  RS Γ X i (.Assign [.Name y py] (.ListComp elt [⟨tg,iter,ifs,0⟩] scope pos) spos) (zcG j (rP (zbM (zbz fi gg ft fe fv)))):=⟨(zrj hN hy hyl hc S F hi.1 hb.pb hsw hs).imp fun E σ H q=>zjo (hb.1 [] 0 X.s₀ X.H₀ []).1.no σ H _ (zq4 hji E σ H q)⟩
theorem lr0:∀ (ρ:za1) r ds r',rP zak ρ r=some (ds,r')->ds.length=0:=fun _ _ _ _=>zs1
theorem lr1 {a:FR}:∀ (ρ:za1) r ds r',zap a (rP zak) ρ r=some (ds,r')->ds.length=1:=zfy lr0
theorem lr2 {a b:FR}:∀ (ρ:za1) r ds r',zap a (zap b (rP zak)) ρ r=some (ds,r')->ds.length=2:=zfy lr1
theorem lr3 {a b c:FR}:∀ (ρ:za1) r ds r',zap a (zap b (zap c (rP zak))) ρ r=some (ds,r')->ds.length=3:=zfy lr2
theorem lr7 {a b c d e f g:FR}:∀ (ρ:za1) r ds r',zap a (zap b (zap c (zap d (zap e (zap f (zap g (rP zak))))))) ρ r=some (ds,r')->ds.length=7:=zfy (zfy (zfy (zfy lr3)))
end
end L2
end
section
namespace L2
open PySem PySem.Spec PyProof.Rows
section
variable {Γ:Cn} {X:Cx} {a b c e tg iter:Expr} {fa fb f:FE} {pos p2 vp pc:Pos} {ft:FT} {g:FS} {i:Nat} {x:Str}
def inT (x y:D):Option Bool:=(pdD x).bind fun p=>(pdD y).bind fun q=>match q with
 | .tuple l=>if SeqAt.shaped p=true/\PyData.canLayAll0 l=true then some (l.any fun z=>PyData.eqv z p) else none
 | _=>none
def zoV (x y:D):Option D:=(inT x y).map D.bl
theorem ztC (hu:X.A.units+66 < cLine):OpR X (compareOp .In) (fun x y H Q=>∃ G d e b,zcd G H/\Rep Γ X.K G x d/\Rep Γ X.K G y e/\inT d e=some b/\Q (.bl b) H):=by
 intro pins s σ H x y v u Q I rx ry h
 obtain ⟨G,d,e,b,gh,r1,r2,hb,q⟩:=h
 unfold inT at hb
 obtain ⟨p,hp,hb⟩:=oBd hb
 obtain ⟨t,ht,hb⟩:=oBd hb
 split at hb
 ·split at hb
  ·rename_i l hz
   cases hb
   obtain ⟨as,a1⟩:=r1.reads I gh rx hp
   obtain ⟨bs,a2⟩:=r2.reads I gh ry ht
   obtain ⟨c1,c2⟩:=ziB hz.1
   have:=Nat.min_le_right (PyData.depthAll l) p.depth
   exact SeqAt.in_tuple_reads a2 a1 hz.2 c1 (by omega) ⟨.bl _,H,I,rfl,q⟩
  ·cases hb
 ·cases hb
theorem zqO (hu:X.A.units+66 < cLine):CmpD Γ X .In zoV:=⟨_,ztC (Γ:=Γ) hu,fun {G H v u x y z} gh r1 r2 h Q k=>by
 obtain ⟨b,hb,rfl⟩:=oMd h
 exact ⟨G,x,y,b,gh,r1,r2,hb,k _ G H (.refl gh) (.bl _)⟩⟩
def whL (ft:FT) (g:FS):Nat->FS
 | 0,_=>none
 | n+1,ρ=>(ft ρ).bind fun b=>if b=true then (g ρ).bind fun r=>match r.1 with
   | .nx=>whL ft g n r.2
   | .rt d=>some (.rt d,r.2)
   | _=>none
  else some (.nx,ρ)
theorem zpR (n:Nat) {body:List Stmt} (hp:PassesOwn (model X.prog X.w) X.A X.env X.xe) (hc:DT Γ X c ft) (hb:DSs Γ X body g):DS Γ X (.While c body [] pos) (whL ft g n):=⟨(zpl hp hc.1 hb.1).imp fun E σ H=>by
 rintro ⟨G₀,H₀,G,ρ,fl,ρ',A,h,k⟩
 refine ⟨fun m σ' H'=>∃ G' ρ1,zcd G G'/\At Γ X.K G₀ H₀ G' H' ρ1 σ'/\whL ft g m ρ1=some (fl,ρ'),⟨n,G,ρ,.refl _,A,h⟩,?_⟩
 rintro m σ' H' ⟨G',ρ1,sm,A',hr⟩
 cases m with
 | zero=>cases hr
 | succ m =>
  unfold whL at hr
  obtain ⟨b,hb,hr⟩:=oBd hr
  refine ⟨G₀,H₀,G',ρ1,b,A',hb,fun G1 H1 s1=>?_⟩
  cases b with
  | false =>
   rw [qS qp] at hr
   cases hr
   exact zn9 (k σ' G1 H1 (sm.trans s1.gg) (A'.step s1))
  | true =>
   rw [qR rfl] at hr
   obtain ⟨⟨fl2,ρ2⟩,h2,hr⟩:=oBd hr
   refine zn8 ⟨fun σ3 H3=>fl2=.nx/\∃ G3,zcd G G3/\At Γ X.K G₀ H₀ G3 H3 ρ2 σ3,fun σ3 H3 ⟨hfl,G3,sm3,A3⟩=>?_,G₀,H₀,G1,ρ1,fl2,ρ2,A'.step s1,h2,fun σ3 G3 H3 sm3 A3=>?_⟩
   ·subst hfl
    exact ⟨m,Nat.lt_succ_self _,G3,ρ2,sm3,A3,hr⟩
   ·have smm:=(sm.trans s1.gg).trans sm3
    cases fl2 with
    | nx=>exact ⟨rfl,G3,smm,A3⟩
    | rt d=>cases hr;exact k σ3 G3 H3 smm A3
    | _=>cases hr⟩
def zp8 (j k:Nat):FE:=fun ρ=>match ρ[j]? with
 | some (some (.own ds))=>ds[k]?
 | _=>none
theorem zp3 {α:Type} (l:List α) (n:Nat):atI l (n:Int)=l[n]?:=by
 unfold atI ixN
 rw [qR (by omega)]
 by_cases h:n < l.length
 ·rw [qR (by omega)];simp
 ·rw [qS (by omega)];simp;omega
theorem zoy (j k:Nat) {kk} (hN:X.N[j]?=some x:=by rfl) (hv:Vis X.env.scope x:=by first | exact Or.inl rfl | exact Or.inr (Or.inl rfl) | exact Or.inr (Or.inr rfl)) (hd:(x==("__debug__":Str))=false:=by decide) (hcd:(x==("__classdict__":Str))=false:=by decide)
  (hs:zh2 (.Constant (.int (k:Int)) kk pc):=by intro _ _;rfl):DE Γ X (.Subscript (.Name x vp) (.Constant (.int (k:Int)) kk pc) pos) (zp8 j k):=⟨(zpq zlV (zen hN hv hd hcd) zj2 hs).imp fun σ H Q=>by
 rintro ⟨G₀,H₀,G,ρ,d,A,h,kk⟩
 unfold zp8 at h
 split at h
 ·rename_i ds hi
  obtain ⟨a,vs,h1,h2,h3,h4,h5⟩:=A.env.own j ds hi
  obtain ⟨v,hv,rv⟩:=h5.get h
  exact ⟨_,h1,.inl ⟨a,vs,_,v,rfl,rfl,.inl (.inl h4),by rw [zp3];exact hv,kk v G H (.refl A.gh) rv⟩⟩
 ·cases h⟩
def zf4:D->Option (List D)
 | .lst l=>some l
 | _=>none
theorem zs2 {fr:FR} (h:RE Γ X i iter fr):RI Γ X i tg iter (rM fr zf4):=⟨(zqr h.1).imp fun σ H R=>by
 rintro ⟨G₀,H₀,G,ρ,p,r,ds,r',A,h,k⟩
 obtain ⟨d,hd,h⟩:=zdm h
 unfold zf4 at h
 split at h <;> cases h
 refine ⟨G₀,H₀,G,ρ,p,r,_,r',A,hd,fun v G' H' s rv=>?_⟩
 obtain ⟨a,vs,rfl,ha,rl⟩:=rv.lst_inv
 refine .inl ⟨a,rfl,⟨vs,.inl (.inl ((A.step s).gh _ _ ha))⟩,k _ G' H' s ?_⟩
 refine ⟨fun i d G2 H2 hd g1 g2=>?_,fun G2 H2 g1 g2=>⟨vs,.inl (.inl (g2 _ _ (g1 _ _ ha))),by rw [rl.length];exact qt _⟩⟩
 obtain ⟨v,hv,rv'⟩:=rl.get hd
 refine ⟨⟨vs,v,.inl (.inl (g2 _ _ (g1 _ _ ha))),hv⟩,fun x H3 ⟨e1,e2⟩=>?_⟩
 subst e1
 have:=e2 vs (.inl (.inl (g2 _ _ (g1 _ _ ha))))
 rw [hv] at this
 cases this
 exact ⟨G2,.refl g2,rv'.mono g1⟩⟩
end
end L2
end
section
namespace Law
open PySem L2
abbrev oS (d:D):Option Slot:=some (.sh d)
end Law
namespace L2
open PySem
abbrev FQ:=List D->Option D
end L2
namespace Law
open PySem L2
theorem dC {Γ:Cn} {X:Cx} {e:Expr} {es:List Expr} {fr:FA} {p pos:Pos} {x:Str} {n k:Nat} {F:FQ} (C:Cal Γ X.prog X.w X.K X.mg X.base x n k F) {j:Nat} (hr:Room j X.A) (ha:DA Γ X (e::es) fr) (hn:∀ ρ ds,fr ρ=some ds->ds.length=n) (hk:k<=j:=by decide) (hg:Gl X x:=by exact rfl) (hdb:(x==("__debug__":Str))=false:=by decide) (he:starEach (e::es) X.env=(false,eval e X.env)::starEach es X.env:=by rfl) (hpl:(backTo pos (starEach es X.env)).any (·.1)=false:=by rfl):DE Γ X (.Call (.Name x p) (e::es) [] pos) (cF F fr):=zoD C hr hk hg ha hn hdb he hpl
end Law
end
section
namespace Law
open PySem L2 PySem.Spec PyProof.Rows
abbrev ze0 (l:List D):Option D:=(szD l).map .tup
abbrev zmU (l:List D):Option D:=some (.lst l)
abbrev FQ':=Addr->List D->Int->Option (D×Int)
def top (i:Nat):Stmt:=PySem.Challenge.pw_shopbound_k51_trees_of_a_shop.main.body.getD i (.Pass ⟨0,0,0,0⟩)
abbrev zfu:Stmt:=top 65
abbrev zft:Stmt:=top 66
abbrev zdP:Stmt:=top 67
abbrev zeC:Stmt:=top 68
abbrev zeD:Stmt:=top 69
abbrev zgg:Stmt:=top 7
abbrev zfl:Stmt:=top 10
abbrev zgh:Stmt:=top 12
abbrev zgk:Stmt:=top 42
abbrev zhu:Stmt:=top 11
abbrev zeB:Stmt:=top 43
abbrev zht:Stmt:=top 8
abbrev zgl:Stmt:=top 44
abbrev zey:Stmt:=top 14
abbrev zec:Stmt:=top 45
abbrev zfm:Stmt:=top 13
abbrev zi6:Stmt:=top 46
abbrev zgm:Stmt:=top 47
abbrev zhs:Stmt:=top 48
abbrev zfp:Stmt:=top 49
abbrev zi9:Stmt:=top 50
abbrev zgn:Stmt:=top 51
abbrev zgj:Stmt:=top 52
abbrev zeA:Stmt:=top 53
abbrev zhv:Stmt:=top 54
abbrev zfq:Stmt:=top 55
abbrev zfo:Stmt:=top 56
abbrev zed:Stmt:=top 57
abbrev zgi:Stmt:=top 58
abbrev zez:Stmt:=top 59
abbrev zdl:Stmt:=top 60
abbrev zkR:Stmt:=top 62
abbrev zdy:Stmt:=zfC (top 63) 0
abbrev zee:Stmt:=top 71
abbrev zfw:Stmt:=top 70
abbrev zfs:Stmt:=top 72
abbrev zc9:Stmt:=zfC (top 63) 9
abbrev zcT:Stmt:=zfC (top 63) 7
abbrev zcU:Stmt:=zfC (top 63) 8
abbrev zef:Stmt:=top 73
abbrev zgp:Stmt:=top 76
abbrev zdO:Stmt:=top 74
abbrev zdx:Stmt:=zfC (top 63) 3
abbrev zc8:Stmt:=zfC (top 63) 6
abbrev zfv:Stmt:=top 75
abbrev zfr:Stmt:=top 77
abbrev zeE:Stmt:=top 78
abbrev zcz:Stmt:=zfC (top 18) 0
abbrev zhq:Stmt:=top 19
abbrev zfn:Stmt:=top 23
abbrev zi8:Stmt:=top 27
abbrev zi7:Stmt:=top 22
abbrev zhx:Stmt:=top 28
abbrev zeb:Stmt:=top 20
abbrev zgo:Stmt:=top 21
abbrev zex:Stmt:=top 24
abbrev zdw:Stmt:=top 25
abbrev zhw:Stmt:=top 26
abbrev zgf:Stmt:=top 29
abbrev zdN:Stmt:=top 30
abbrev zhr:Stmt:=top 79
def ze9 (mg:Str->Option Value):Tok:=match mg "LONGEST_NAME" with | some (.int _ t)=>t | _=>0
def zfX (mg:Str->Option Value):Tok:=match mg "MOST_AMOUNT" with | some (.int _ t)=>t | _=>0
def ze8 (mg:Str->Option Value):Tok:=match mg "MOST_BENCHES" with | some (.int _ t)=>t | _=>0
def zfW (mg:Str->Option Value):Tok:=match mg "MOST_BREAKS" with | some (.int _ t)=>t | _=>0
def ze7 (mg:Str->Option Value):Tok:=match mg "MOST_COUNTED" with | some (.int _ t)=>t | _=>0
def ze6 (mg:Str->Option Value):Tok:=match mg "MOST_HORIZON" with | some (.int _ t)=>t | _=>0
def zhm (mg:Str->Option Value):Tok:=match mg "MOST_JOBS" with | some (.int _ t)=>t | _=>0
def zgT (mg:Str->Option Value):Tok:=match mg "MOST_LINKS" with | some (.int _ t)=>t | _=>0
def zfV (mg:Str->Option Value):Tok:=match mg "MOST_SETUPS" with | some (.int _ t)=>t | _=>0
def zgS (mg:Str->Option Value):Tok:=match mg "MOST_STEPS" with | some (.int _ t)=>t | _=>0
def zfU (mg:Str->Option Value):Tok:=match mg "MOST_STOCKS" with | some (.int _ t)=>t | _=>0
def zhl (mg:Str->Option Value):Tok:=match mg "MOST_WAYS" with | some (.int _ t)=>t | _=>0
def zfT (mg:Str->Option Value):Tok:=match mg "MOST_WITHIN" with | some (.int _ t)=>t | _=>0
structure Bn (mg:Str->Option Value):Prop where
 z_all:mg "all"=none
 z_bool:mg "bool"=none
 z_dict:mg "dict"=none
 z_int:mg "int"=none
 z_isinstance:mg "isinstance"=none
 z_len:mg "len"=none
 z_list:mg "list"=none
 z_min:mg "min"=none
 z_range:mg "range"=none
 z_set:mg "set"=none
 z_str:mg "str"=none
 z_tuple:mg "tuple"=none
 c_LONGEST_NAME:mg "LONGEST_NAME"=some (.int 8 (ze9 mg))
 c_MOST_AMOUNT:mg "MOST_AMOUNT"=some (.int 1000000 (zfX mg))
 c_MOST_BENCHES:mg "MOST_BENCHES"=some (.int 8 (ze8 mg))
 c_MOST_BREAKS:mg "MOST_BREAKS"=some (.int 10 (zfW mg))
 c_MOST_COUNTED:mg "MOST_COUNTED"=some (.int 3000 (ze7 mg))
 c_MOST_HORIZON:mg "MOST_HORIZON"=some (.int 1000000 (ze6 mg))
 c_MOST_JOBS:mg "MOST_JOBS"=some (.int 40 (zhm mg))
 c_MOST_LINKS:mg "MOST_LINKS"=some (.int 100 (zgT mg))
 c_MOST_SETUPS:mg "MOST_SETUPS"=some (.int 100 (zfV mg))
 c_MOST_STEPS:mg "MOST_STEPS"=some (.int 40 (zgS mg))
 c_MOST_STOCKS:mg "MOST_STOCKS"=some (.int 6 (zfU mg))
 c_MOST_WAYS:mg "MOST_WAYS"=some (.int 4 (zhl mg))
 c_MOST_WITHIN:mg "MOST_WITHIN"=some (.int 40 (zfT mg))
def zfG:List Str:=["benches","steps","jobs","setups","links","stocks","horizon","bench_by_name","step_by_name","setup_by_names","job_by_step"]
def zck:List Str:=["steps","benches","jobs","stocks","horizon"]
end Law
end
section
set_option maxHeartbeats 4000000
namespace Law
open PySem L2 PySem.Spec PyProof.Rows
variable {Γ:Cn} {P:Program} {w:World} {K:PySem.W.Frag} {mg:Str->Option Value} {base:Heap}
local macro_rules | `(tactic| trivial)=>`(tactic| exact ⟨rfl,rfl,rfl,by decide +kernel,rfl,by decide +kernel,by decide +kernel⟩)
def zfN:List D->Option (List D):=zsu 2
  (zba (zfQ 2 (vC (.int 0))) (zba (sIf (toB (b2 ltD (vSh 1) (cF zc3 (zac (vSh 0) zak)))) (zfQ 2 (b2 ixD (vSh 0) (vSh 1))) zcA) (zba (sIf (toB (b2 geD (vSh 2) (b2 znA (vC (.int 10)) (vC (.int 18))))) (zmq (szF (zac (b2 zmT (vSh 2) (b2 ztL (b2 znA (vC (.int 10)) (vC (.int 60))) (b2 znA (vC (.int 10)) (vC (.int 60))))) zak))) zcA) (zba (zfQ 3 (b2 zc6 (b2 zmT (b2 zc6 (b2 zc6 (vSh 2) (b2 zqx (b2 zqx (vC (.int 104729)) (vSh 1)) (vSh 1))) (b2 zqx (vC (.int 15485863)) (cF zc3 (zac (vSh 0) zak)))) (vC (.int 2147483629))) (vC (.int 48271)))) (zmq (szF (zac (b2 zkg (b2 znA (b2 zc6 (b2 zqx (vSh 3) (vC (.int 982451653))) (vC (.int 7))) (vC (.int 7))) (vC (.int 1000003))) zak)))))))
theorem zdI:FnScope ["_law_script","_law_k","_law_cell","_law_mixed"] ["_law_script","_law_k"] (zao zfu):=by trivial
theorem zjA (F:Dfn K mg "_law_left" zfu) (B:Bn mg)  : CalO Γ P w K mg base "_law_left" 2 1 (zfN) :=
 F.calO (k:=0) zdI (fun _ _ _ _ _ _ us hl=>match us,hl with | [_,_],_=>rfl) fun f cdv A outer s H E hr =>
  (zat (zdC 2 zdI.nd zaf) (zat (zbB (zbs zlf (zab 1) (zaA zbG rfl B.z_len (by rfl) (zaa (zab 0) zae)) (zaR _)) (zau (zdC 2 zdI.nd (zaK (zab 0) (zab 1)))) zaO) (zat (zbB (zbs zvn (zab 2) (ziO zaf zaf) (zaR _)) (zau (zom (zbC (zaa (zoB (zab 2) (zr8 (ziO zaf zaf) (ziO zaf zaf))) zae)))) zaO) (zat (zdC 3 zdI.nd (zdg (zoB (zdg (zdg (zab 2) (zl5 (zl5 zaf (zab 1)) (zab 1))) (zl5 zaf (zaA zbG rfl B.z_len (by rfl) (zaa (zab 0) zae)))) zaf) zaf)) (zau (zom (zbC (zaa (zsa (ziO (zdg (zl5 (zab 3) zaf) zaf) zaf) zaf) zae))))))))
def zfM:FQ':=zja 1
  (zbx (zcG 2 (r2 zmT zut (rP (vSh 1)))) (zbx (zuU (r2 zkg zut (rP (vSh 1)))) (zem (rP (vSh 2)))))
theorem zgV:FnScope ["_law_left_here","_law_many","_law_found"] ["_law_left_here","_law_many"] (zao zft):=by trivial
theorem zjz (F:Dfn K mg "_law_pick" zft) (B:Bn mg)  : CalR Γ P w K mg base "_law_pick" 1 1 (zfM) :=
 F.calR (k:=0) zgV (fun _ _ _ _ _ _ us hl=>match us,hl with | [_,_],_=>rfl) fun f cdv A outer s H E hr =>
  (zaw (zbl 2 zgV.nd (zqh zqi (zas (zab 1)))) (zaw (zsY (zre zqi (zas (zab 1)))) (zaT (zbY (zas (zab 2))))))
def zd0 (zad:FQ'):FQ':=zja 4
  (zbx (zmS 3 (rP (szF zak))) (zbx (zjH (rM (zap (r2 zc6 (rP (vC (.int 1))) (zbn zad 0 (zap (rP (vC (.int 2))) (rP zak)))) (rP zak)) zkT) (zbt 4) (zbx (zcG 5 (rP (zbM (szF zak)))) (zbx (qIf (rM (r2 eqD (zbn zad 0 (zap (rP (vC (.int 3))) (rP zak))) (rP (vC (.int 1)))) blD) (zbx (zcG 6 (zbn zad 0 (zap (rP (vSh 2)) (rP zak)))) (zcG 5 (rM (rM (zap (rM (zap (rP (vSh 6)) (zap (r2 zc6 (rP (b2 zc6 (vSh 6) (vC (.int 1)))) (zbn zad 0 (zap (rP (b2 ziX (vSh 2) (vSh 6))) (rP zak)))) (rP zak))) ze0) (rP zak)) szD) zmU))) zfa) (zhA 3 (rP (zdj (szF (zac (b2 zc6 (b2 ixD (vC (.str "ab")) (vSh 4)) (vSh 1)) (zac (vSh 5) zak))))))))) (zkU 3 (zem (rP (vSh 3))))))
theorem zb0:FnScope ["_law_left_here","_law_pad","_law_horizon","_law_benches_here","_law_k","_law_breaks","_law_begin"] ["_law_left_here","_law_pad","_law_horizon"] (zao zdP):=by trivial
theorem zhe {zad:FQ'} (F:Dfn K mg "_law_benches" zdP) (B:Bn mg) (c__law_pick:CalR Γ P w K mg base "_law_pick" 1 1 zad):CalR Γ P w K mg base "_law_benches" 2 2 (zd0 zad) :=
 F.calR (k:=1) zb0 (fun _ _ _ _ _ _ us hl=>match us,hl with | [_,_,_],_=>rfl) fun f cdv A outer s H E hr =>
  (zaw (zhy 3 zb0.nd (zpg (zbC zae))) (zaw (zhz (zd2 (by decide)) PassesOwn.never rfl (zf1 rfl B.z_range (zai (zdJ (zas zaf) (zaG c__law_pick hr (by decide) rfl (zai (zas zaf) (zaJ zae)) lr1)) (zaJ zae))) (zaI 4 zb0.nd) (zaw (zbl 5 zb0.nd (zas (DO.de (zbC zae)))) (zaw (zdS (zel zb7 (zaG c__law_pick hr (by decide) rfl (zai (zas zaf) (zaJ zae)) lr1) (zas zaf) (zaR _)) (zaw (zbl 6 zb0.nd (zaG c__law_pick hr (by decide) rfl (zai (zas (zab 2)) (zaJ zae)) lr1)) (zaT (zbl 5 zb0.nd (RO.re (zjY (zai (zb9 (zai (zas (zab 6)) (zai (zdJ (zas (zdg (zab 6) zaf)) (zaG c__law_pick hr (by decide) rfl (zai (zas (zf8 (zab 2) (zab 6))) (zaJ zae)) lr1)) (zaJ zae)))) (zaJ zae))))))) zbT) (zaT (zcE 3 (zas (zb3 (zaa (zdg (zaK zaN (zab 4)) (zab 1)) (zaa (zab 5) zae))))))))) (zfx 3 (zaT (zbY (zas (zab 3)))))))
def zeP (zad:FQ'):FQ':=zja 4
  (zbx (zmS 4 (rP (szF zak))) (zbx (zjH (rM (zap (r2 zc6 (rP (vC (.int 1))) (zbn zad 0 (zap (rP (vC (.int 3))) (rP zak)))) (rP zak)) zkT) (zbt 5) (zbx (zcG 6 (zbn zad 0 (zap (rP (cF zc3 (zac (vSh 2) zak))) (rP zak)))) (zbx (zmS 7 (rM (zap (rM (zap (rP (b2 ixD (b2 ixD (vSh 2) (vSh 6)) (vC (.int 0)))) (zap (r2 zc6 (rP (vC (.int 1))) (zbn zad 0 (zap (rP (cF zpx (zac (vC (.int 3)) (zac (vSh 3) zak)))) (rP zak)))) (rP zak))) ze0) (rP zak)) szD)) (zbx (qIf (zqk (rP (toB (b2 eqD (cF zc3 (zac (vSh 2) zak)) (vC (.int 2))))) (zqk (rM (r2 eqD (zbn zad 0 (zap (rP (vC (.int 3))) (rP zak))) (rP (vC (.int 1)))) blD) (rP (toB (b2 ltD (vSh 5) (vC (.int 2))))))) (zhA 7 (rM (zap (rP (b2 ixD (b2 ixD (vSh 2) (b2 ziX (vC (.int 1)) (vSh 6))) (vC (.int 0)))) (zap (r2 zc6 (rP (vC (.int 1))) (zbn zad 0 (zap (rP (cF zpx (zac (vC (.int 3)) (zac (vSh 3) zak)))) (rP zak)))) (rP zak))) ze0)) zfa) (zkU 7 (zhA 4 (rM (zap (rP (b2 zc6 (vSh 1) (b2 ixD (vC (.str "stu")) (vSh 5)))) (zap (r2 ixD (rP (vC (.str "km"))) (zbn zad 0 (zap (rP (vC (.int 2))) (rP zak)))) (zap (rP (vSh 7)) (rP zak)))) ze0))))))) (zkU 4 (zem (rP (vSh 4))))))
theorem zcS:FnScope ["_law_left_here","_law_pad","_law_benches_here","_law_horizon","_law_steps_here","_law_k","_law_at","_law_ways"] ["_law_left_here","_law_pad","_law_benches_here","_law_horizon"] (zao zeC):=by trivial
theorem zir {zad:FQ'} (F:Dfn K mg "_law_steps" zeC) (B:Bn mg) (c__law_pick:CalR Γ P w K mg base "_law_pick" 1 1 zad):CalR Γ P w K mg base "_law_steps" 3 2 (zeP zad) :=
 F.calR (k:=1) zcS (fun _ _ _ _ _ _ us hl=>match us,hl with | [_,_,_,_],_=>rfl) fun f cdv A outer s H E hr =>
  (zaw (zhy 4 zcS.nd (zpg (zbC zae))) (zaw (zhz (zd2 (by decide)) PassesOwn.never rfl (zf1 rfl B.z_range (zai (zdJ (zas zaf) (zaG c__law_pick hr (by decide) rfl (zai (zas zaf) (zaJ zae)) lr1)) (zaJ zae))) (zaI 5 zcS.nd) (zaw (zbl 6 zcS.nd (zaG c__law_pick hr (by decide) rfl (zai (zas (zaA zbG rfl B.z_len (by rfl) (zaa (zab 2) zae))) (zaJ zae)) lr1)) (zaw (zhy 7 zcS.nd (zjY (zai (zb9 (zai (zas (zaK (zaK (zab 2) (zab 6)) zaf)) (zai (zdJ (zas zaf) (zaG c__law_pick hr (by decide) rfl (zai (zas (zaA (zmd rfl) rfl B.z_min (by rfl) (zaa zaf (zaa (zab 3) zae)))) (zaJ zae)) lr1)) (zaJ zae)))) (zaJ zae)))) (zaw (zdS (RW.rt (zlB (ze2 (zbs zb7 (zaA zbG rfl B.z_len (by rfl) (zaa (zab 2) zae)) zaf (zaR _))) (zlB (zel zb7 (zaG c__law_pick hr (by decide) rfl (zai (zas zaf) (zaJ zae)) lr1) (zas zaf) (zaR _)) (zkS (ze2 (zbs zlf (zab 5) zaf (zaR _))))))) (zaT (zcE 7 (zb9 (zai (zas (zaK (zaK (zab 2) (zf8 zaf (zab 6))) zaf)) (zai (zdJ (zas zaf) (zaG c__law_pick hr (by decide) rfl (zai (zas (zaA (zmd rfl) rfl B.z_min (by rfl) (zaa zaf (zaa (zab 3) zae)))) (zaJ zae)) lr1)) (zaJ zae)))))) zbT) (zfx 7 (zaT (zcE 4 (zb9 (zai (zas (zdg (zab 1) (zaK zaN (zab 5)))) (zai (zeF (zas zaN) (zaG c__law_pick hr (by decide) rfl (zai (zas zaf) (zaJ zae)) lr1)) (zai (zas (zab 7)) (zaJ zae)))))))))))) (zfx 4 (zaT (zbY (zas (zab 4)))))))
def zeQ (zad:FQ'):FQ':=zja 3
  (zbx (qIf (rOr (rP (toB (b2 ltD (cF zc3 (zac (vSh 1) zak)) (vC (.int 2))))) (rM (r2 neD (zbn zad 0 (zap (rP (vC (.int 3))) (rP zak))) (rP (vC (.int 1)))) blD)) (zem (rP (zbM (szF zak)))) zfa) (zbx (zcG 3 (zbn zad 0 (zap (rP (cF zc3 (zac (vSh 1) zak))) (rP zak)))) (zbx (zcG 4 (r2 zmT (r2 zc6 (rP (b2 zc6 (vSh 3) (vC (.int 1)))) (zbn zad 0 (zap (rP (b2 ziX (cF zc3 (zac (vSh 1) zak)) (vC (.int 1)))) (rP zak)))) (rP (cF zc3 (zac (vSh 1) zak))))) (zbx (zmS 5 (rM (zap (rM (zap (rP (b2 ixD (vSh 1) (vSh 3))) (zap (rP (b2 ixD (vSh 1) (vSh 4))) (zap (zbn zad 0 (zap (rP (cF zpx (zac (vC (.int 3)) (zac (b2 zc6 (vSh 2) (vC (.int 1))) zak)))) (rP zak))) (rP zak)))) ze0) (rP zak)) szD)) (zbx (qIf (rM (r2 eqD (zbn zad 0 (zap (rP (vC (.int 7))) (rP zak))) (rP (vC (.int 1)))) blD) (zhA 5 (rP (zdj (szF (zac (b2 ixD (vSh 1) (vSh 4)) (zac (b2 ixD (vSh 1) (vSh 3)) (zac (vC (.int 0)) zak))))))) zfa) (zkU 5 (zem (rP (vSh 5)))))))))
theorem zdp:FnScope ["_law_left_here","_law_names","_law_horizon","_law_at","_law_other","_law_links_here"] ["_law_left_here","_law_names","_law_horizon"] (zao zeD):=by trivial
theorem zis {zad:FQ'} (F:Dfn K mg "_law_links" zeD) (B:Bn mg) (c__law_pick:CalR Γ P w K mg base "_law_pick" 1 1 zad):CalR Γ P w K mg base "_law_links" 2 2 (zeQ zad) :=
 F.calR (k:=1) zdp (fun _ _ _ _ _ _ us hl=>match us,hl with | [_,_,_],_=>rfl) fun f cdv A outer s H E hr =>
  (zaw (zdS (RW.rt (zuQ (ze2 (zbs zlf (zaA zbG rfl B.z_len (by rfl) (zaa (zab 1) zae)) zaf (zaR _))) (zsX (zel zuk (zaG c__law_pick hr (by decide) rfl (zai (zas zaf) (zaJ zae)) lr1) (zas zaf) (zaR _))))) (zaT (zbY (zas (DO.de (zbC zae))))) zbT) (zaw (zbl 3 zdp.nd (zaG c__law_pick hr (by decide) rfl (zai (zas (zaA zbG rfl B.z_len (by rfl) (zaa (zab 1) zae))) (zaJ zae)) lr1)) (zaw (zbl 4 zdp.nd (zqh (zdJ (zas (zdg (zab 3) zaf)) (zaG c__law_pick hr (by decide) rfl (zai (zas (zf8 (zaA zbG rfl B.z_len (by rfl) (zaa (zab 1) zae)) zaf)) (zaJ zae)) lr1)) (zas (zaA zbG rfl B.z_len (by rfl) (zaa (zab 1) zae))))) (zaw (zhy 5 zdp.nd (zjY (zai (zb9 (zai (zas (zaK (zab 1) (zab 3))) (zai (zas (zaK (zab 1) (zab 4))) (zai (zaG c__law_pick hr (by decide) rfl (zai (zas (zaA (zmd rfl) rfl B.z_min (by rfl) (zaa zaf (zaa (zdg (zab 2) zaf) zae)))) (zaJ zae)) lr1) (zaJ zae))))) (zaJ zae)))) (zaw (zdS (zel zb7 (zaG c__law_pick hr (by decide) rfl (zai (zas zaf) (zaJ zae)) lr1) (zas zaf) (zaR _)) (zaT (zcE 5 (zas (zb3 (zaa (zaK (zab 1) (zab 4)) (zaa (zaK (zab 1) (zab 3)) (zaa zaf zae))))))) zbT) (zfx 5 (zaT (zbY (zas (zab 5))))))))))
def zgJ:FQ:=zcp 0
  (zbw (zc5 (cF zgt (zac (vSh 0) (zac (vC (.ty "int")) zak))) (zuv (cF zgt (zac (vSh 0) (zac (vC (.ty "bool")) zak))))))
theorem zkJ:FnScope ["thing"] ["thing"] (zao zgg):=by trivial
theorem zks (F:Dfn K mg "is_whole" zgg) (B:Bn mg)  : Cal Γ P w K mg base "is_whole" 1 1 (zgJ) :=
 F.cal (k:=0) zkJ (fun _ _ _ _ _ _ us hl=>match us,hl with | [_],_=>rfl) fun f cdv A outer s H E hr =>
  (zau (zaD (zbi (zaA zd5 rfl B.z_isinstance (by rfl) (zaa (zab 0) (zaa (zgB rfl B.z_int (by rfl)) zae))) (zb1 (zuf (zaA zd5 rfl B.z_isinstance (by rfl) (zaa (zab 0) (zaa (zgB rfl B.z_bool (by rfl)) zae))))))))
def zfH (zbq:FQ):FQ:=zcp 0
  (zbw (zc5 (cF zbq (zac (vSh 0) zak)) (chD leD leD (vSh 1) (vSh 0) (vSh 2))))
theorem zjS:FnScope ["thing","least","most"] ["thing","least","most"] (zao zfl):=by trivial
theorem zjr {zbq:FQ} (F:Dfn K mg "is_within" zfl) (B:Bn mg) (c_is_whole:Cal Γ P w K mg base "is_whole" 1 1 zbq):Cal Γ P w K mg base "is_within" 3 2 (zfH zbq) :=
 F.cal (k:=1) zjS (fun _ _ _ _ _ _ us hl=>match us,hl with | [_,_,_],_=>rfl) fun f cdv A outer s H E hr =>
  (zau (zaD (zbi (dC c_is_whole hr (zaa (zab 0) zae) ln1) (zb1 (zjn zkp zkp (zab 1) (zab 0) (zab 2))))))
def zgK:FQ:=zcp 0
  (zbw (zc5 (cF zgt (zac (vSh 0) (zac (vC (.ty "tuple")) zak))) (b2 eqD (cF zc3 (zac (vSh 0) zak)) (vSh 1))))
theorem zkK:FnScope ["thing","many"] ["thing","many"] (zao zgh):=by trivial
theorem zkt (F:Dfn K mg "is_tuple" zgh) (B:Bn mg)  : Cal Γ P w K mg base "is_tuple" 2 1 (zgK) :=
 F.cal (k:=0) zkK (fun _ _ _ _ _ _ us hl=>match us,hl with | [_,_],_=>rfl) fun f cdv A outer s H E hr =>
  (zau (zaD (zbi (zaA zd5 rfl B.z_isinstance (by rfl) (zaa (zab 0) (zaa (zgB rfl B.z_tuple (by rfl)) zae))) (zb1 (zdK zb7 (zaA zbG rfl B.z_len (by rfl) (zaa (zab 0) zae)) (zab 1) (zaR _))))))
def zgN (zal:FQ) (zag:FQ):FQ:=zcp 0
  (zba (sIf (orT (zca (toB (cF zag (zac (vSh 0) (zac (vC (.int 2)) zak))))) (orT (zca (toB (cF zal (zac (b2 ixD (vSh 0) (vC (.int 0))) (zac (vC (.int 0)) (zac (vSh 1) zak)))))) (zca (toB (cF zal (zac (b2 ixD (vSh 0) (vC (.int 1))) (zac (vC (.int 0)) (zac (vSh 1) zak)))))))) (zbw (vC (.bl false))) zcA) (zbw (b2 ltD (b2 ixD (vSh 0) (vC (.int 0))) (b2 ixD (vSh 0) (vC (.int 1))))))
theorem zkN:FnScope ["row","horizon"] ["row","horizon"] (zao zgk):=by trivial
theorem zkw {zal:FQ} {zag:FQ} (F:Dfn K mg "is_break" zgk) (B:Bn mg) (c_is_within:Cal Γ P w K mg base "is_within" 3 2 zal) (c_is_tuple:Cal Γ P w K mg base "is_tuple" 2 1 zag):Cal Γ P w K mg base "is_break" 2 3 (zgN zal zag) :=
 F.cal (k:=2) zkN (fun _ _ _ _ _ _ us hl=>match us,hl with | [_,_],_=>rfl) fun f cdv A outer s H E hr =>
  (zat (zbB (DW.dt (zdf (zaU (zaS (dC c_is_tuple hr (zaa (zab 0) (zaa zaf zae)) ln2))) (zdf (zaU (zaS (dC c_is_within hr (zaa (zaK (zab 0) zaf) (zaa zaf (zaa (zab 1) zae))) ln3))) (zcx (zaU (zaS (dC c_is_within hr (zaa (zaK (zab 0) zaf) (zaa zaf (zaa (zab 1) zae))) ln3))))))) (zau (zaD zdD)) zaO) (zau (zaD (zdK zlf (zaK (zab 0) zaf) (zaK (zab 0) zaf) (zaR _)))))
def zh8:FQ:=zcp 0
  (zbw (zc5 (cF zgt (zac (vSh 0) (zac (vC (.ty "list")) zak))) (chD leD leD (vSh 1) (cF zc3 (zac (vSh 0) zak)) (vSh 2))))
theorem zmn:FnScope ["thing","least","most"] ["thing","least","most"] (zao zhu):=by trivial
theorem zll (F:Dfn K mg "is_list" zhu) (B:Bn mg)  : Cal Γ P w K mg base "is_list" 3 1 (zh8) :=
 F.cal (k:=0) zmn (fun _ _ _ _ _ _ us hl=>match us,hl with | [_,_,_],_=>rfl) fun f cdv A outer s H E hr =>
  (zau (zaD (zbi (zaA zd5 rfl B.z_isinstance (by rfl) (zaa (zab 0) (zaa (zgB rfl B.z_list (by rfl)) zae))) (zb1 (zjn zkp zkp (zab 1) (zaA zbG rfl B.z_len (by rfl) (zaa (zab 0) zae)) (zab 2))))))
def zg5 (zcv:FQ) (zax:FQ):FQ:=zcp 0
  (zba (sIf (orT (zca (toB (cF zax (zac (vSh 0) (zac (vC (.int 0)) (zac (vC (.int 10)) zak)))))) (zca (toB (cF zjJ (zac (zbM (zbz (itF (vSh 0)) (zbt 0) tT (cF zcv (zac (vSh 0) (zac (vSh 1) zak))) [none,some 1])) zak))))) (zbw (vC (.bl false))) zcA) (zbw (cF zjJ (zac (zbM (zbz (itR zrb (zac (vC (.int 1)) (zac (cF zc3 (zac (vSh 0) zak)) zak))) (zbt 0) tT (b2 ltD (b2 ixD (b2 ixD (vSh 1) (b2 ziX (vSh 0) (vC (.int 1)))) (vC (.int 1))) (b2 ixD (b2 ixD (vSh 1) (vSh 0)) (vC (.int 0)))) [none,some 0])) zak))))
theorem zi5:FnScope ["breaks","horizon"] ["breaks","horizon"] (zao zeB):=by trivial
theorem ziq {zcv:FQ} {zax:FQ} (F:Dfn K mg "are_breaks" zeB) (B:Bn mg) (c_is_break:Cal Γ P w K mg base "is_break" 2 3 zcv) (c_is_list:Cal Γ P w K mg base "is_list" 3 1 zax):Cal Γ P w K mg base "are_breaks" 2 4 (zg5 zcv zax) :=
 F.cal (k:=3) zi5 (fun _ _ _ _ _ _ us hl=>match us,hl with | [_,_],_=>rfl) fun f cdv A outer s H E hr =>
  (zat (zbB (DW.dt (zdf (zaU (zaS (dC c_is_list hr (zaa (zab 0) (zaa zaf (zaa (zcf rfl B.c_MOST_BREAKS) zae))) ln3))) (zcx (zaU (zaS (zaA (zd6 rfl) rfl B.z_all (by rfl) (zaa (DO.de (zcQ rfl (CompScope.of rfl rfl) (FvOk.of (N':=["row","horizon"]) (fv:=[none,some 1]) rfl) (zbb (zab 0)) ⟨fun _ _ _ _ _=>⟨(zaI 0 (show (["row","horizon"]:List Str).Nodup by decide +kernel)),za6,(dC c_is_break hr (zaa (zab 0) (zaa (zab 1) zae)) ln2)⟩⟩)) zae))))))) (zau (zaD zdD)) zaO) (zau (zaD (zaA (zd6 rfl) rfl B.z_all (by rfl) (zaa (DO.de (zcQ rfl (CompScope.of rfl rfl) (FvOk.of (N':=["place","breaks"]) (fv:=[none,some 0]) rfl) (zos rfl B.z_range (zaa zaf (zaa (zaA zbG rfl B.z_len (by rfl) (zaa (zab 0) zae)) zae))) ⟨fun _ _ _ _ _=>⟨(zaI 0 (show (["place","breaks"]:List Str).Nodup by decide +kernel)),za6,(zdK zlf (zaK (zaK (zab 1) (zf8 (zab 0) zaf)) zaf) (zaK (zaK (zab 1) (zab 0)) zaf) (zaR _))⟩⟩)) zae)))))
def zkG:FQ:=zcp 0
  (zba (sIf (orT (zca (toB (cF zgt (zac (vSh 0) (zac (vC (.ty "str")) zak))))) (zca (toB (chD leD leD (vC (.int 1)) (cF zc3 (zac (vSh 0) zak)) (vC (.int 8)))))) (zbw (vC (.bl false))) zcA) (zbw (cF zjJ (zac (zbM (zbz (itS (vSh 0)) (zbt 0) tT (chD leD leD (vC (.str "a")) (vSh 0) (vC (.str "z"))) [none])) zak))))
theorem zmm:FnScope ["thing"] ["thing"] (zao zht):=by trivial
theorem zlk (F:Dfn K mg "is_name" zht) (B:Bn mg)  : Cal Γ P w K mg base "is_name" 1 1 (zkG) :=
 F.cal (k:=0) zmm (fun _ _ _ _ _ _ us hl=>match us,hl with | [_],_=>rfl) fun f cdv A outer s H E hr =>
  (zat (zbB (DW.dt (zdf (zaU (zaS (zaA zd5 rfl B.z_isinstance (by rfl) (zaa (zab 0) (zaa (zgB rfl B.z_str (by rfl)) zae))))) (zcx (zaU (zpQ zkp zkp zaf (zaA zbG rfl B.z_len (by rfl) (zaa (zab 0) zae)) (zcf rfl B.c_LONGEST_NAME)))))) (zau (zaD zdD)) zaO) (zau (zaD (zaA (zd6 rfl) rfl B.z_all (by rfl) (zaa (DO.de (zcQ rfl (CompScope.of rfl rfl) (FvOk.of (N':=["sign"]) (fv:=[none]) rfl) (zue (zab 0)) ⟨fun _ _ _ _ _=>⟨(zaI 0 (show (["sign"]:List Str).Nodup by decide +kernel)),za6,(zjn zkp zkp zaN (zab 0) zaN)⟩⟩)) zae)))))
def zgO (zb6:FQ) (zaE:FQ) (zag:FQ):FQ:=zcp 0
  (zbw (zc5 (cF zag (zac (vSh 0) (zac (vC (.int 2)) zak))) (zc5 (cF zaE (zac (b2 ixD (vSh 0) (vC (.int 0))) zak)) (cF zb6 (zac (b2 ixD (vSh 0) (vC (.int 1))) (zac (vSh 1) zak))))))
theorem zkO:FnScope ["row","horizon"] ["row","horizon"] (zao zgl):=by trivial
theorem zkx {zb6:FQ} {zaE:FQ} {zag:FQ} (F:Dfn K mg "is_bench" zgl) (B:Bn mg) (c_are_breaks:Cal Γ P w K mg base "are_breaks" 2 4 zb6) (c_is_name:Cal Γ P w K mg base "is_name" 1 1 zaE) (c_is_tuple:Cal Γ P w K mg base "is_tuple" 2 1 zag):Cal Γ P w K mg base "is_bench" 2 5 (zgO zb6 zaE zag) :=
 F.cal (k:=4) zkO (fun _ _ _ _ _ _ us hl=>match us,hl with | [_,_],_=>rfl) fun f cdv A outer s H E hr =>
  (zau (zaD (zbi (dC c_is_tuple hr (zaa (zab 0) (zaa zaf zae)) ln2) (zbi (dC c_is_name hr (zaa (zaK (zab 0) zaf) zae) ln1) (zb1 (dC c_are_breaks hr (zaa (zaK (zab 0) zaf) (zaa (zab 1) zae)) ln2))))))
def zdi:FQ:=zcp 0
  (zbw (b2 eqD (b1 zgr (vSh 0)) (cF zc3 (zac (vSh 0) zak))))
theorem zi2:FnScope ["things"] ["things"] (zao zey):=by trivial
theorem zim (F:Dfn K mg "are_unlike" zey) (B:Bn mg)  : Cal Γ P w K mg base "are_unlike" 1 1 (zdi) :=
 F.cal (k:=0) zi2 (fun _ _ _ _ _ _ us hl=>match us,hl with | [_],_=>rfl) fun f cdv A outer s H E hr =>
  (zau (zaD (zdK zb7 (zoC rfl (zqD hr) rfl B.z_len rfl B.z_set (zab 0)) (zaA zbG rfl B.z_len (by rfl) (zaa (zab 0) zae)) (zaR _))))
def zgc (zcw:FQ) (zax:FQ) (zam:FQ):FQ:=zcp 0
  (zba (sIf (orT (zca (toB (cF zax (zac (vSh 0) (zac (vC (.int 1)) (zac (vC (.int 8)) zak)))))) (zca (toB (cF zjJ (zac (zbM (zbz (itF (vSh 0)) (zbt 0) tT (cF zcw (zac (vSh 0) (zac (vSh 1) zak))) [none,some 1])) zak))))) (zbw (vC (.bl false))) zcA) (zbw (cF zam (zac (zbM (zbz (itF (vSh 0)) (zbt 0) tT (b2 ixD (vSh 0) (vC (.int 0))) [none])) zak))))
theorem zie:FnScope ["benches","horizon"] ["benches","horizon"] (zao zec):=by trivial
theorem zhX {zcw:FQ} {zax:FQ} {zam:FQ} (F:Dfn K mg "are_benches" zec) (B:Bn mg) (c_is_bench:Cal Γ P w K mg base "is_bench" 2 5 zcw) (c_is_list:Cal Γ P w K mg base "is_list" 3 1 zax) (c_are_unlike:Cal Γ P w K mg base "are_unlike" 1 1 zam):Cal Γ P w K mg base "are_benches" 2 6 (zgc zcw zax zam) :=
 F.cal (k:=5) zie (fun _ _ _ _ _ _ us hl=>match us,hl with | [_,_],_=>rfl) fun f cdv A outer s H E hr =>
  (zat (zbB (DW.dt (zdf (zaU (zaS (dC c_is_list hr (zaa (zab 0) (zaa zaf (zaa (zcf rfl B.c_MOST_BENCHES) zae))) ln3))) (zcx (zaU (zaS (zaA (zd6 rfl) rfl B.z_all (by rfl) (zaa (DO.de (zcQ rfl (CompScope.of rfl rfl) (FvOk.of (N':=["row","horizon"]) (fv:=[none,some 1]) rfl) (zbb (zab 0)) ⟨fun _ _ _ _ _=>⟨(zaI 0 (show (["row","horizon"]:List Str).Nodup by decide +kernel)),za6,(dC c_is_bench hr (zaa (zab 0) (zaa (zab 1) zae)) ln2)⟩⟩)) zae))))))) (zau (zaD zdD)) zaO) (zau (zaD (dC c_are_unlike hr (zaa (DO.de (zcQ rfl (CompScope.of rfl rfl) (FvOk.of (N':=["row"]) (fv:=[none]) rfl) (zbb (zab 0)) ⟨fun _ _ _ _ _=>⟨(zaI 0 (show (["row"]:List Str).Nodup by decide +kernel)),za6,(zaK (zab 0) zaf)⟩⟩)) zae) ln1))))
def zfI (zaE:FQ):FQ:=zcp 0
  (zbw (zc5 (cF zaE (zac (vSh 0) zak)) (b2 ztZ (vSh 0) (vSh 1))))
theorem zjU:FnScope ["thing","names"] ["thing","names"] (zao zfm):=by trivial
theorem zjs {zaE:FQ} (F:Dfn K mg "is_one_of" zfm) (B:Bn mg) (c_is_name:Cal Γ P w K mg base "is_name" 1 1 zaE):Cal Γ P w K mg base "is_one_of" 2 2 (zfI zaE) :=
 F.cal (k:=1) zjU (fun _ _ _ _ _ _ us hl=>match us,hl with | [_,_],_=>rfl) fun f cdv A outer s H E hr =>
  (zau (zaD (zbi (dC c_is_name hr (zaa (zab 0) zae) ln1) (zb1 (zdK (zul (zqD hr)) (zab 0) (zab 1) (by rfl))))))
def zjF (zal:FQ) (zan:FQ) (zag:FQ):FQ:=zcp 0
  (zbw (zc5 (cF zag (zac (vSh 0) (zac (vC (.int 2)) zak))) (zc5 (cF zan (zac (b2 ixD (vSh 0) (vC (.int 0))) (zac (vSh 1) zak))) (cF zal (zac (b2 ixD (vSh 0) (vC (.int 1))) (zac (vC (.int 1)) (zac (vSh 2) zak)))))))
theorem znj:FnScope ["row","bench_names","horizon"] ["row","bench_names","horizon"] (zao zi6):=by trivial
theorem zmI {zal:FQ} {zan:FQ} {zag:FQ} (F:Dfn K mg "is_way" zi6) (B:Bn mg) (c_is_within:Cal Γ P w K mg base "is_within" 3 2 zal) (c_is_one_of:Cal Γ P w K mg base "is_one_of" 2 2 zan) (c_is_tuple:Cal Γ P w K mg base "is_tuple" 2 1 zag):Cal Γ P w K mg base "is_way" 3 3 (zjF zal zan zag) :=
 F.cal (k:=2) znj (fun _ _ _ _ _ _ us hl=>match us,hl with | [_,_,_],_=>rfl) fun f cdv A outer s H E hr =>
  (zau (zaD (zbi (dC c_is_tuple hr (zaa (zab 0) (zaa zaf zae)) ln2) (zbi (dC c_is_one_of hr (zaa (zaK (zab 0) zaf) (zaa (zab 1) zae)) ln2) (zb1 (dC c_is_within hr (zaa (zaK (zab 0) zaf) (zaa zaf (zaa (zab 2) zae))) ln3))))))
def ziS (zdu:FQ) (zax:FQ) (zam:FQ):FQ:=zcp 0
  (zba (sIf (orT (zca (toB (cF zax (zac (vSh 0) (zac (vC (.int 1)) (zac (vC (.int 4)) zak)))))) (zca (toB (cF zjJ (zac (zbM (zbz (itF (vSh 0)) (zbt 0) tT (cF zdu (zac (vSh 0) (zac (vSh 1) (zac (vSh 2) zak)))) [none,some 1,some 2])) zak))))) (zbw (vC (.bl false))) zcA) (zbw (cF zam (zac (zbM (zbz (itF (vSh 0)) (zbt 0) tT (b2 ixD (vSh 0) (vC (.int 0))) [none])) zak))))
theorem zkP:FnScope ["ways","bench_names","horizon"] ["ways","bench_names","horizon"] (zao zgm):=by trivial
theorem zky {zdu:FQ} {zax:FQ} {zam:FQ} (F:Dfn K mg "are_ways" zgm) (B:Bn mg) (c_is_way:Cal Γ P w K mg base "is_way" 3 3 zdu) (c_is_list:Cal Γ P w K mg base "is_list" 3 1 zax) (c_are_unlike:Cal Γ P w K mg base "are_unlike" 1 1 zam):Cal Γ P w K mg base "are_ways" 3 4 (ziS zdu zax zam) :=
 F.cal (k:=3) zkP (fun _ _ _ _ _ _ us hl=>match us,hl with | [_,_,_],_=>rfl) fun f cdv A outer s H E hr =>
  (zat (zbB (DW.dt (zdf (zaU (zaS (dC c_is_list hr (zaa (zab 0) (zaa zaf (zaa (zcf rfl B.c_MOST_WAYS) zae))) ln3))) (zcx (zaU (zaS (zaA (zd6 rfl) rfl B.z_all (by rfl) (zaa (DO.de (zcQ rfl (CompScope.of rfl rfl) (FvOk.of (N':=["row","bench_names","horizon"]) (fv:=[none,some 1,some 2]) rfl) (zbb (zab 0)) ⟨fun _ _ _ _ _=>⟨(zaI 0 (show (["row","bench_names","horizon"]:List Str).Nodup by decide +kernel)),za6,(dC c_is_way hr (zaa (zab 0) (zaa (zab 1) (zaa (zab 2) zae))) ln3)⟩⟩)) zae))))))) (zau (zaD zdD)) zaO) (zau (zaD (dC c_are_unlike hr (zaa (DO.de (zcQ rfl (CompScope.of rfl rfl) (FvOk.of (N':=["row"]) (fv:=[none]) rfl) (zbb (zab 0)) ⟨fun _ _ _ _ _=>⟨(zaI 0 (show (["row"]:List Str).Nodup by decide +kernel)),za6,(zaK (zab 0) zaf)⟩⟩)) zae) ln1))))
def zh7 (zaE:FQ) (zag:FQ) (zcO:FQ):FQ:=zcp 0
  (zba (sIf (orT (zca (toB (cF zag (zac (vSh 0) (zac (vC (.int 3)) zak))))) (orT (zca (toB (cF zaE (zac (b2 ixD (vSh 0) (vC (.int 0))) zak)))) (zca (toB (cF zaE (zac (b2 ixD (vSh 0) (vC (.int 1))) zak)))))) (zbw (vC (.bl false))) zcA) (zbw (cF zcO (zac (b2 ixD (vSh 0) (vC (.int 2))) (zac (vSh 1) (zac (vSh 2) zak))))))
theorem zml:FnScope ["row","bench_names","horizon"] ["row","bench_names","horizon"] (zao zhs):=by trivial
theorem zlj {zaE:FQ} {zag:FQ} {zcO:FQ} (F:Dfn K mg "is_step" zhs) (B:Bn mg) (c_is_name:Cal Γ P w K mg base "is_name" 1 1 zaE) (c_is_tuple:Cal Γ P w K mg base "is_tuple" 2 1 zag) (c_are_ways:Cal Γ P w K mg base "are_ways" 3 4 zcO):Cal Γ P w K mg base "is_step" 3 5 (zh7 zaE zag zcO) :=
 F.cal (k:=4) zml (fun _ _ _ _ _ _ us hl=>match us,hl with | [_,_,_],_=>rfl) fun f cdv A outer s H E hr =>
  (zat (zbB (DW.dt (zdf (zaU (zaS (dC c_is_tuple hr (zaa (zab 0) (zaa zaf zae)) ln2))) (zdf (zaU (zaS (dC c_is_name hr (zaa (zaK (zab 0) zaf) zae) ln1))) (zcx (zaU (zaS (dC c_is_name hr (zaa (zaK (zab 0) zaf) zae) ln1))))))) (zau (zaD zdD)) zaO) (zau (zaD (dC c_are_ways hr (zaa (zaK (zab 0) zaf) (zaa (zab 1) (zaa (zab 2) zae))) ln3))))
def zib (zcZ:FQ) (zax:FQ) (zam:FQ):FQ:=zcp 0
  (zba (sIf (orT (zca (toB (cF zax (zac (vSh 0) (zac (vC (.int 1)) (zac (vC (.int 40)) zak)))))) (zca (toB (cF zjJ (zac (zbM (zbz (itF (vSh 0)) (zbt 0) tT (cF zcZ (zac (vSh 0) (zac (vSh 1) (zac (vSh 2) zak)))) [none,some 1,some 2])) zak))))) (zbw (vC (.bl false))) zcA) (zbw (cF zam (zac (zbM (zbz (itF (vSh 0)) (zbt 0) tT (b2 ixD (vSh 0) (vC (.int 0))) [none])) zak))))
theorem zjW:FnScope ["steps","bench_names","horizon"] ["steps","bench_names","horizon"] (zao zfp):=by trivial
theorem zjv {zcZ:FQ} {zax:FQ} {zam:FQ} (F:Dfn K mg "are_steps" zfp) (B:Bn mg) (c_is_step:Cal Γ P w K mg base "is_step" 3 5 zcZ) (c_is_list:Cal Γ P w K mg base "is_list" 3 1 zax) (c_are_unlike:Cal Γ P w K mg base "are_unlike" 1 1 zam):Cal Γ P w K mg base "are_steps" 3 6 (zib zcZ zax zam) :=
 F.cal (k:=5) zjW (fun _ _ _ _ _ _ us hl=>match us,hl with | [_,_,_],_=>rfl) fun f cdv A outer s H E hr =>
  (zat (zbB (DW.dt (zdf (zaU (zaS (dC c_is_list hr (zaa (zab 0) (zaa zaf (zaa (zcf rfl B.c_MOST_STEPS) zae))) ln3))) (zcx (zaU (zaS (zaA (zd6 rfl) rfl B.z_all (by rfl) (zaa (DO.de (zcQ rfl (CompScope.of rfl rfl) (FvOk.of (N':=["row","bench_names","horizon"]) (fv:=[none,some 1,some 2]) rfl) (zbb (zab 0)) ⟨fun _ _ _ _ _=>⟨(zaI 0 (show (["row","bench_names","horizon"]:List Str).Nodup by decide +kernel)),za6,(dC c_is_step hr (zaa (zab 0) (zaa (zab 1) (zaa (zab 2) zae))) ln3)⟩⟩)) zae))))))) (zau (zaD zdD)) zaO) (zau (zaD (dC c_are_unlike hr (zaa (DO.de (zcQ rfl (CompScope.of rfl rfl) (FvOk.of (N':=["row"]) (fv:=[none]) rfl) (zbb (zab 0)) ⟨fun _ _ _ _ _=>⟨(zaI 0 (show (["row"]:List Str).Nodup by decide +kernel)),za6,(zaK (zab 0) zaf)⟩⟩)) zae) ln1))))
def zmf (zaE:FQ) (zag:FQ) (zal:FQ) (zan:FQ) (zax:FQ):FQ:=zcp 0
  (zba (sIf (orT (zca (toB (cF zag (zac (vSh 0) (zac (vC (.int 5)) zak))))) (orT (zca (toB (cF zaE (zac (b2 ixD (vSh 0) (vC (.int 0))) zak)))) (zca (toB (cF zgt (zac (b2 ixD (vSh 0) (vC (.int 3))) (zac (vC (.ty "bool")) zak))))))) (zbw (vC (.bl false))) zcA) (zba (sIf (orT (zca (toB (cF zal (zac (b2 ixD (vSh 0) (vC (.int 1))) (zac (vC (.int 0)) (zac (vSh 2) zak)))))) (zca (toB (cF zal (zac (b2 ixD (vSh 0) (vC (.int 2))) (zac (vC (.int 0)) (zac (vSh 2) zak))))))) (zbw (vC (.bl false))) zcA) (zbw (zc5 (cF zax (zac (b2 ixD (vSh 0) (vC (.int 4))) (zac (vC (.int 1)) (zac (cF zc3 (zac (vSh 1) zak)) zak)))) (cF zjJ (zac (zbM (zbz (itF (b2 ixD (vSh 0) (vC (.int 4)))) (zbt 0) tT (cF zan (zac (vSh 0) (zac (vSh 1) zak))) [none,some 1])) zak))))))
theorem znl:FnScope ["row","step_names","horizon"] ["row","step_names","horizon"] (zao zi9):=by trivial
theorem zmL {zaE:FQ} {zag:FQ} {zal:FQ} {zan:FQ} {zax:FQ} (F:Dfn K mg "is_job" zi9) (B:Bn mg) (c_is_name:Cal Γ P w K mg base "is_name" 1 1 zaE) (c_is_tuple:Cal Γ P w K mg base "is_tuple" 2 1 zag) (c_is_within:Cal Γ P w K mg base "is_within" 3 2 zal) (c_is_one_of:Cal Γ P w K mg base "is_one_of" 2 2 zan) (c_is_list:Cal Γ P w K mg base "is_list" 3 1 zax):Cal Γ P w K mg base "is_job" 3 3 (zmf zaE zag zal zan zax) :=
 F.cal (k:=2) znl (fun _ _ _ _ _ _ us hl=>match us,hl with | [_,_,_],_=>rfl) fun f cdv A outer s H E hr =>
  (zat (zbB (DW.dt (zdf (zaU (zaS (dC c_is_tuple hr (zaa (zab 0) (zaa zaf zae)) ln2))) (zdf (zaU (zaS (dC c_is_name hr (zaa (zaK (zab 0) zaf) zae) ln1))) (zcx (zaU (zaS (zaA zd5 rfl B.z_isinstance (by rfl) (zaa (zaK (zab 0) zaf) (zaa (zgB rfl B.z_bool (by rfl)) zae))))))))) (zau (zaD zdD)) zaO) (zat (zbB (DW.dt (zdf (zaU (zaS (dC c_is_within hr (zaa (zaK (zab 0) zaf) (zaa zaf (zaa (zab 2) zae))) ln3))) (zcx (zaU (zaS (dC c_is_within hr (zaa (zaK (zab 0) zaf) (zaa zaf (zaa (zab 2) zae))) ln3)))))) (zau (zaD zdD)) zaO) (zau (zaD (zbi (dC c_is_list hr (zaa (zaK (zab 0) zaf) (zaa zaf (zaa (zaA zbG rfl B.z_len (by rfl) (zaa (zab 1) zae)) zae))) ln3) (zb1 (zaA (zd6 rfl) rfl B.z_all (by rfl) (zaa (DO.de (zcQ rfl (CompScope.of rfl rfl) (FvOk.of (N':=["name","step_names"]) (fv:=[none,some 1]) rfl) (zbb (zaK (zab 0) zaf)) ⟨fun _ _ _ _ _=>⟨(zaI 0 (show (["name","step_names"]:List Str).Nodup by decide +kernel)),za6,(dC c_is_one_of hr (zaa (zab 0) (zaa (zab 1) zae)) ln2)⟩⟩)) zae))))))))
def ziT (zdM:FQ) (zax:FQ) (zam:FQ):FQ:=zcp 2
  (zba (sIf (orT (zca (toB (cF zax (zac (vSh 0) (zac (vC (.int 0)) (zac (vC (.int 40)) zak)))))) (zca (toB (cF zjJ (zac (zbM (zbz (itF (vSh 0)) (zbt 0) tT (cF zdM (zac (vSh 0) (zac (vSh 1) (zac (vSh 2) zak)))) [none,some 1,some 2])) zak))))) (zbw (vC (.bl false))) zcA) (zba (zmr 3 (szF zak)) (zba (zig (itF (vSh 0)) (zbt 4) (znm 3 (b2 ixD (vSh 4) (vC (.int 4))))) (zoS 3 (zbw (zc5 (cF zam (zac (zbM (zbz (itF (vSh 0)) (zbt 0) tT (b2 ixD (vSh 0) (vC (.int 0))) [none])) zak)) (cF zam (zac (vSh 3) zak))))))))
theorem zfi:FnScope ["jobs","step_names","horizon","members","row"] ["jobs","step_names","horizon"] (zao zgn):=by trivial
theorem zkz {zdM:FQ} {zax:FQ} {zam:FQ} (F:Dfn K mg "are_jobs" zgn) (B:Bn mg) (c_is_job:Cal Γ P w K mg base "is_job" 3 3 zdM) (c_is_list:Cal Γ P w K mg base "is_list" 3 1 zax) (c_are_unlike:Cal Γ P w K mg base "are_unlike" 1 1 zam):Cal Γ P w K mg base "are_jobs" 3 4 (ziT zdM zax zam) :=
 F.cal (k:=3) zfi (fun _ _ _ _ _ _ us hl=>match us,hl with | [_,_,_],_=>rfl) fun f cdv A outer s H E hr =>
  (zat (zbB (DW.dt (zdf (zaU (zaS (dC c_is_list hr (zaa (zab 0) (zaa zaf (zaa (zcf rfl B.c_MOST_JOBS) zae))) ln3))) (zcx (zaU (zaS (zaA (zd6 rfl) rfl B.z_all (by rfl) (zaa (DO.de (zcQ rfl (CompScope.of rfl rfl) (FvOk.of (N':=["row","step_names","horizon"]) (fv:=[none,some 1,some 2]) rfl) (zbb (zab 0)) ⟨fun _ _ _ _ _=>⟨(zaI 0 (show (["row","step_names","horizon"]:List Str).Nodup by decide +kernel)),za6,(dC c_is_job hr (zaa (zab 0) (zaa (zab 1) (zaa (zab 2) zae))) ln3)⟩⟩)) zae))))))) (zau (zaD zdD)) zaO) (zat (zl2 3 zfi.nd (zbC zae)) (zat (ziN PassesOwn.never rfl (zbb (zab 0)) (zaI 4 zfi.nd) (zau (zhS 3 (zaK (zab 4) zaf)))) (zk9 3 (zau (zaD (zbi (dC c_are_unlike hr (zaa (DO.de (zcQ rfl (CompScope.of rfl rfl) (FvOk.of (N':=["row"]) (fv:=[none]) rfl) (zbb (zab 0)) ⟨fun _ _ _ _ _=>⟨(zaI 0 (show (["row"]:List Str).Nodup by decide +kernel)),za6,(zaK (zab 0) zaf)⟩⟩)) zae) ln1) (zb1 (dC c_are_unlike hr (zaa (zab 3) zae) ln1)))))))))
def zgM (zan:FQ) (zag:FQ) (zal:FQ) (zaE:FQ):FQ:=zcp 0
  (zba (sIf (orT (zca (toB (cF zag (zac (vSh 0) (zac (vC (.int 4)) zak))))) (zca (toB (cF zan (zac (b2 ixD (vSh 0) (vC (.int 0))) (zac (vSh 1) zak)))))) (zbw (vC (.bl false))) zcA) (zbw (zc5 (cF zaE (zac (b2 ixD (vSh 0) (vC (.int 1))) zak)) (zc5 (cF zaE (zac (b2 ixD (vSh 0) (vC (.int 2))) zak)) (cF zal (zac (b2 ixD (vSh 0) (vC (.int 3))) (zac (vC (.int 1)) (zac (vSh 2) zak))))))))
theorem zkM:FnScope ["row","bench_names","horizon"] ["row","bench_names","horizon"] (zao zgj):=by trivial
theorem zkv {zan:FQ} {zag:FQ} {zal:FQ} {zaE:FQ} (F:Dfn K mg "is_setup" zgj) (B:Bn mg) (c_is_one_of:Cal Γ P w K mg base "is_one_of" 2 2 zan) (c_is_tuple:Cal Γ P w K mg base "is_tuple" 2 1 zag) (c_is_within:Cal Γ P w K mg base "is_within" 3 2 zal) (c_is_name:Cal Γ P w K mg base "is_name" 1 1 zaE):Cal Γ P w K mg base "is_setup" 3 3 (zgM zan zag zal zaE) :=
 F.cal (k:=2) zkM (fun _ _ _ _ _ _ us hl=>match us,hl with | [_,_,_],_=>rfl) fun f cdv A outer s H E hr =>
  (zat (zbB (DW.dt (zdf (zaU (zaS (dC c_is_tuple hr (zaa (zab 0) (zaa zaf zae)) ln2))) (zcx (zaU (zaS (dC c_is_one_of hr (zaa (zaK (zab 0) zaf) (zaa (zab 1) zae)) ln2)))))) (zau (zaD zdD)) zaO) (zau (zaD (zbi (dC c_is_name hr (zaa (zaK (zab 0) zaf) zae) ln1) (zbi (dC c_is_name hr (zaa (zaK (zab 0) zaf) zae) ln1) (zb1 (dC c_is_within hr (zaa (zaK (zab 0) zaf) (zaa zaf (zaa (zab 2) zae))) ln3)))))))
def zg4 (zct:FQ) (zax:FQ) (zam:FQ):FQ:=zcp 0
  (zba (sIf (orT (zca (toB (cF zax (zac (vSh 0) (zac (vC (.int 0)) (zac (vC (.int 100)) zak)))))) (zca (toB (cF zjJ (zac (zbM (zbz (itF (vSh 0)) (zbt 0) tT (cF zct (zac (vSh 0) (zac (vSh 1) (zac (vSh 2) zak)))) [none,some 1,some 2])) zak))))) (zbw (vC (.bl false))) zcA) (zbw (cF zam (zac (zbM (zbz (itF (vSh 0)) (zbt 0) tT (slF (vSh 0) pN (pS (vC (.int 3)))) [none])) zak))))
theorem zi4:FnScope ["setups","bench_names","horizon"] ["setups","bench_names","horizon"] (zao zeA):=by trivial
theorem zio {zct:FQ} {zax:FQ} {zam:FQ} (F:Dfn K mg "are_setups" zeA) (B:Bn mg) (c_is_setup:Cal Γ P w K mg base "is_setup" 3 3 zct) (c_is_list:Cal Γ P w K mg base "is_list" 3 1 zax) (c_are_unlike:Cal Γ P w K mg base "are_unlike" 1 1 zam):Cal Γ P w K mg base "are_setups" 3 4 (zg4 zct zax zam) :=
 F.cal (k:=3) zi4 (fun _ _ _ _ _ _ us hl=>match us,hl with | [_,_,_],_=>rfl) fun f cdv A outer s H E hr =>
  (zat (zbB (DW.dt (zdf (zaU (zaS (dC c_is_list hr (zaa (zab 0) (zaa zaf (zaa (zcf rfl B.c_MOST_SETUPS) zae))) ln3))) (zcx (zaU (zaS (zaA (zd6 rfl) rfl B.z_all (by rfl) (zaa (DO.de (zcQ rfl (CompScope.of rfl rfl) (FvOk.of (N':=["row","bench_names","horizon"]) (fv:=[none,some 1,some 2]) rfl) (zbb (zab 0)) ⟨fun _ _ _ _ _=>⟨(zaI 0 (show (["row","bench_names","horizon"]:List Str).Nodup by decide +kernel)),za6,(dC c_is_setup hr (zaa (zab 0) (zaa (zab 1) (zaa (zab 2) zae))) ln3)⟩⟩)) zae))))))) (zau (zaD zdD)) zaO) (zau (zaD (dC c_are_unlike hr (zaa (DO.de (zcQ rfl (CompScope.of rfl rfl) (FvOk.of (N':=["row"]) (fv:=[none]) rfl) (zbb (zab 0)) ⟨fun _ _ _ _ _=>⟨(zaI 0 (show (["row"]:List Str).Nodup by decide +kernel)),za6,(zeZ (zab 0) zgA (zgz zaf))⟩⟩)) zae) ln1))))
def zh9 (zan:FQ) (zag:FQ) (zal:FQ):FQ:=zcp 0
  (zba (sIf (orT (zca (toB (cF zag (zac (vSh 0) (zac (vC (.int 3)) zak))))) (orT (zca (toB (cF zan (zac (b2 ixD (vSh 0) (vC (.int 0))) (zac (vSh 1) zak))))) (zca (toB (cF zan (zac (b2 ixD (vSh 0) (vC (.int 1))) (zac (vSh 1) zak))))))) (zbw (vC (.bl false))) zcA) (zbw (zc5 (b2 neA (b2 ixD (vSh 0) (vC (.int 0))) (b2 ixD (vSh 0) (vC (.int 1)))) (cF zal (zac (b2 ixD (vSh 0) (vC (.int 2))) (zac (vC (.int 0)) (zac (vSh 2) zak)))))))
theorem zmo:FnScope ["row","step_names","horizon"] ["row","step_names","horizon"] (zao zhv):=by trivial
theorem zlm {zan:FQ} {zag:FQ} {zal:FQ} (F:Dfn K mg "is_link" zhv) (B:Bn mg) (c_is_one_of:Cal Γ P w K mg base "is_one_of" 2 2 zan) (c_is_tuple:Cal Γ P w K mg base "is_tuple" 2 1 zag) (c_is_within:Cal Γ P w K mg base "is_within" 3 2 zal):Cal Γ P w K mg base "is_link" 3 3 (zh9 zan zag zal) :=
 F.cal (k:=2) zmo (fun _ _ _ _ _ _ us hl=>match us,hl with | [_,_,_],_=>rfl) fun f cdv A outer s H E hr =>
  (zat (zbB (DW.dt (zdf (zaU (zaS (dC c_is_tuple hr (zaa (zab 0) (zaa zaf zae)) ln2))) (zdf (zaU (zaS (dC c_is_one_of hr (zaa (zaK (zab 0) zaf) (zaa (zab 1) zae)) ln2))) (zcx (zaU (zaS (dC c_is_one_of hr (zaa (zaK (zab 0) zaf) (zaa (zab 1) zae)) ln2))))))) (zau (zaD zdD)) zaO) (zau (zaD (zbi (zdK (zma (zux hr)) (zaK (zab 0) zaf) (zaK (zab 0) zaf) (zaR _)) (zb1 (dC c_is_within hr (zaa (zaK (zab 0) zaf) (zaa zaf (zaa (zab 2) zae))) ln3))))))
def zic (zc0:FQ) (zax:FQ) (zam:FQ):FQ:=zcp 0
  (zba (sIf (orT (zca (toB (cF zax (zac (vSh 0) (zac (vC (.int 0)) (zac (vC (.int 100)) zak)))))) (zca (toB (cF zjJ (zac (zbM (zbz (itF (vSh 0)) (zbt 0) tT (cF zc0 (zac (vSh 0) (zac (vSh 1) (zac (vSh 2) zak)))) [none,some 1,some 2])) zak))))) (zbw (vC (.bl false))) zcA) (zbw (cF zam (zac (zbM (zbz (itF (vSh 0)) (zbt 0) tT (slF (vSh 0) pN (pS (vC (.int 2)))) [none])) zak))))
theorem zjX:FnScope ["links","step_names","horizon"] ["links","step_names","horizon"] (zao zfq):=by trivial
theorem zjw {zc0:FQ} {zax:FQ} {zam:FQ} (F:Dfn K mg "are_links" zfq) (B:Bn mg) (c_is_link:Cal Γ P w K mg base "is_link" 3 3 zc0) (c_is_list:Cal Γ P w K mg base "is_list" 3 1 zax) (c_are_unlike:Cal Γ P w K mg base "are_unlike" 1 1 zam):Cal Γ P w K mg base "are_links" 3 4 (zic zc0 zax zam) :=
 F.cal (k:=3) zjX (fun _ _ _ _ _ _ us hl=>match us,hl with | [_,_,_],_=>rfl) fun f cdv A outer s H E hr =>
  (zat (zbB (DW.dt (zdf (zaU (zaS (dC c_is_list hr (zaa (zab 0) (zaa zaf (zaa (zcf rfl B.c_MOST_LINKS) zae))) ln3))) (zcx (zaU (zaS (zaA (zd6 rfl) rfl B.z_all (by rfl) (zaa (DO.de (zcQ rfl (CompScope.of rfl rfl) (FvOk.of (N':=["row","step_names","horizon"]) (fv:=[none,some 1,some 2]) rfl) (zbb (zab 0)) ⟨fun _ _ _ _ _=>⟨(zaI 0 (show (["row","step_names","horizon"]:List Str).Nodup by decide +kernel)),za6,(dC c_is_link hr (zaa (zab 0) (zaa (zab 1) (zaa (zab 2) zae))) ln3)⟩⟩)) zae))))))) (zau (zaD zdD)) zaO) (zau (zaD (dC c_are_unlike hr (zaa (DO.de (zcQ rfl (CompScope.of rfl rfl) (FvOk.of (N':=["row"]) (fv:=[none]) rfl) (zbb (zab 0)) ⟨fun _ _ _ _ _=>⟨(zaI 0 (show (["row"]:List Str).Nodup by decide +kernel)),za6,(zeZ (zab 0) zgA (zgz zaf))⟩⟩)) zae) ln1))))
def zfK (zal:FQ) (zan:FQ) (zag:FQ):FQ:=zcp 0
  (zbw (zc5 (cF zag (zac (vSh 0) (zac (vC (.int 2)) zak))) (zc5 (cF zan (zac (b2 ixD (vSh 0) (vC (.int 0))) (zac (vSh 1) zak))) (cF zal (zac (b2 ixD (vSh 0) (vC (.int 1))) (zac (vC (.int 1)) (zac (vC (.int 1000000)) zak)))))))
theorem zjV:FnScope ["row","step_names"] ["row","step_names"] (zao zfo):=by trivial
theorem zju {zal:FQ} {zan:FQ} {zag:FQ} (F:Dfn K mg "is_amount" zfo) (B:Bn mg) (c_is_within:Cal Γ P w K mg base "is_within" 3 2 zal) (c_is_one_of:Cal Γ P w K mg base "is_one_of" 2 2 zan) (c_is_tuple:Cal Γ P w K mg base "is_tuple" 2 1 zag):Cal Γ P w K mg base "is_amount" 2 3 (zfK zal zan zag) :=
 F.cal (k:=2) zjV (fun _ _ _ _ _ _ us hl=>match us,hl with | [_,_],_=>rfl) fun f cdv A outer s H E hr =>
  (zau (zaD (zbi (dC c_is_tuple hr (zaa (zab 0) (zaa zaf zae)) ln2) (zbi (dC c_is_one_of hr (zaa (zaK (zab 0) zaf) (zaa (zab 1) zae)) ln2) (zb1 (dC c_is_within hr (zaa (zaK (zab 0) zaf) (zaa zaf (zaa (zcf rfl B.c_MOST_AMOUNT) zae))) ln3))))))
def zgd (zb8:FQ) (zax:FQ) (zam:FQ):FQ:=zcp 0
  (zba (sIf (orT (zca (toB (cF zax (zac (vSh 0) (zac (vC (.int 0)) (zac (cF zc3 (zac (vSh 1) zak)) zak)))))) (zca (toB (cF zjJ (zac (zbM (zbz (itF (vSh 0)) (zbt 0) tT (cF zb8 (zac (vSh 0) (zac (vSh 1) zak))) [none,some 1])) zak))))) (zbw (vC (.bl false))) zcA) (zbw (cF zam (zac (zbM (zbz (itF (vSh 0)) (zbt 0) tT (b2 ixD (vSh 0) (vC (.int 0))) [none])) zak))))
theorem zif:FnScope ["rows","step_names"] ["rows","step_names"] (zao zed):=by trivial
theorem zhY {zb8:FQ} {zax:FQ} {zam:FQ} (F:Dfn K mg "are_amounts" zed) (B:Bn mg) (c_is_amount:Cal Γ P w K mg base "is_amount" 2 3 zb8) (c_is_list:Cal Γ P w K mg base "is_list" 3 1 zax) (c_are_unlike:Cal Γ P w K mg base "are_unlike" 1 1 zam):Cal Γ P w K mg base "are_amounts" 2 4 (zgd zb8 zax zam) :=
 F.cal (k:=3) zif (fun _ _ _ _ _ _ us hl=>match us,hl with | [_,_],_=>rfl) fun f cdv A outer s H E hr =>
  (zat (zbB (DW.dt (zdf (zaU (zaS (dC c_is_list hr (zaa (zab 0) (zaa zaf (zaa (zaA zbG rfl B.z_len (by rfl) (zaa (zab 1) zae)) zae))) ln3))) (zcx (zaU (zaS (zaA (zd6 rfl) rfl B.z_all (by rfl) (zaa (DO.de (zcQ rfl (CompScope.of rfl rfl) (FvOk.of (N':=["row","step_names"]) (fv:=[none,some 1]) rfl) (zbb (zab 0)) ⟨fun _ _ _ _ _=>⟨(zaI 0 (show (["row","step_names"]:List Str).Nodup by decide +kernel)),za6,(dC c_is_amount hr (zaa (zab 0) (zaa (zab 1) zae)) ln2)⟩⟩)) zae))))))) (zau (zaD zdD)) zaO) (zau (zaD (dC c_are_unlike hr (zaa (DO.de (zcQ rfl (CompScope.of rfl rfl) (FvOk.of (N':=["row"]) (fv:=[none]) rfl) (zbb (zab 0)) ⟨fun _ _ _ _ _=>⟨(zaI 0 (show (["row"]:List Str).Nodup by decide +kernel)),za6,(zaK (zab 0) zaf)⟩⟩)) zae) ln1))))
def zgL (zaE:FQ) (zag:FQ) (zal:FQ) (zbE:FQ):FQ:=zcp 0
  (zba (sIf (orT (zca (toB (cF zag (zac (vSh 0) (zac (vC (.int 5)) zak))))) (zca (toB (cF zaE (zac (b2 ixD (vSh 0) (vC (.int 0))) zak))))) (zbw (vC (.bl false))) zcA) (zba (sIf (orT (zca (toB (cF zal (zac (b2 ixD (vSh 0) (vC (.int 2))) (zac (vC (.int 0)) (zac (vC (.int 1000000)) zak)))))) (zca (toB (cF zal (zac (b2 ixD (vSh 0) (vC (.int 1))) (zac (vC (.int 0)) (zac (b2 ixD (vSh 0) (vC (.int 2))) zak))))))) (zbw (vC (.bl false))) zcA) (zbw (zc5 (cF zbE (zac (b2 ixD (vSh 0) (vC (.int 3))) (zac (vSh 1) zak))) (cF zbE (zac (b2 ixD (vSh 0) (vC (.int 4))) (zac (vSh 1) zak)))))))
theorem zkL:FnScope ["row","step_names"] ["row","step_names"] (zao zgi):=by trivial
theorem zku {zaE:FQ} {zag:FQ} {zal:FQ} {zbE:FQ} (F:Dfn K mg "is_stock" zgi) (B:Bn mg) (c_is_name:Cal Γ P w K mg base "is_name" 1 1 zaE) (c_is_tuple:Cal Γ P w K mg base "is_tuple" 2 1 zag) (c_is_within:Cal Γ P w K mg base "is_within" 3 2 zal) (c_are_amounts:Cal Γ P w K mg base "are_amounts" 2 4 zbE):Cal Γ P w K mg base "is_stock" 2 5 (zgL zaE zag zal zbE) :=
 F.cal (k:=4) zkL (fun _ _ _ _ _ _ us hl=>match us,hl with | [_,_],_=>rfl) fun f cdv A outer s H E hr =>
  (zat (zbB (DW.dt (zdf (zaU (zaS (dC c_is_tuple hr (zaa (zab 0) (zaa zaf zae)) ln2))) (zcx (zaU (zaS (dC c_is_name hr (zaa (zaK (zab 0) zaf) zae) ln1)))))) (zau (zaD zdD)) zaO) (zat (zbB (DW.dt (zdf (zaU (zaS (dC c_is_within hr (zaa (zaK (zab 0) zaf) (zaa zaf (zaa (zcf rfl B.c_MOST_AMOUNT) zae))) ln3))) (zcx (zaU (zaS (dC c_is_within hr (zaa (zaK (zab 0) zaf) (zaa zaf (zaa (zaK (zab 0) zaf) zae))) ln3)))))) (zau (zaD zdD)) zaO) (zau (zaD (zbi (dC c_are_amounts hr (zaa (zaK (zab 0) zaf) (zaa (zab 1) zae)) ln2) (zb1 (dC c_are_amounts hr (zaa (zaK (zab 0) zaf) (zaa (zab 1) zae)) ln2)))))))
def zg3 (zcs:FQ) (zax:FQ) (zam:FQ):FQ:=zcp 0
  (zba (sIf (orT (zca (toB (cF zax (zac (vSh 0) (zac (vC (.int 0)) (zac (vC (.int 6)) zak)))))) (zca (toB (cF zjJ (zac (zbM (zbz (itF (vSh 0)) (zbt 0) tT (cF zcs (zac (vSh 0) (zac (vSh 1) zak))) [none,some 1])) zak))))) (zbw (vC (.bl false))) zcA) (zbw (cF zam (zac (zbM (zbz (itF (vSh 0)) (zbt 0) tT (b2 ixD (vSh 0) (vC (.int 0))) [none])) zak))))
theorem zi3:FnScope ["stocks","step_names"] ["stocks","step_names"] (zao zez):=by trivial
theorem zin {zcs:FQ} {zax:FQ} {zam:FQ} (F:Dfn K mg "are_stocks" zez) (B:Bn mg) (c_is_stock:Cal Γ P w K mg base "is_stock" 2 5 zcs) (c_is_list:Cal Γ P w K mg base "is_list" 3 1 zax) (c_are_unlike:Cal Γ P w K mg base "are_unlike" 1 1 zam):Cal Γ P w K mg base "are_stocks" 2 6 (zg3 zcs zax zam) :=
 F.cal (k:=5) zi3 (fun _ _ _ _ _ _ us hl=>match us,hl with | [_,_],_=>rfl) fun f cdv A outer s H E hr =>
  (zat (zbB (DW.dt (zdf (zaU (zaS (dC c_is_list hr (zaa (zab 0) (zaa zaf (zaa (zcf rfl B.c_MOST_STOCKS) zae))) ln3))) (zcx (zaU (zaS (zaA (zd6 rfl) rfl B.z_all (by rfl) (zaa (DO.de (zcQ rfl (CompScope.of rfl rfl) (FvOk.of (N':=["row","step_names"]) (fv:=[none,some 1]) rfl) (zbb (zab 0)) ⟨fun _ _ _ _ _=>⟨(zaI 0 (show (["row","step_names"]:List Str).Nodup by decide +kernel)),za6,(dC c_is_stock hr (zaa (zab 0) (zaa (zab 1) zae)) ln2)⟩⟩)) zae))))))) (zau (zaD zdD)) zaO) (zau (zaD (dC c_are_unlike hr (zaa (DO.de (zcQ rfl (CompScope.of rfl rfl) (FvOk.of (N':=["row"]) (fv:=[none]) rfl) (zbb (zab 0)) ⟨fun _ _ _ _ _=>⟨(zaI 0 (show (["row"]:List Str).Nodup by decide +kernel)),za6,(zaK (zab 0) zaf)⟩⟩)) zae) ln1))))
def zep (zal:FQ) (zbR:FQ) (zcm:FQ) (zcP:FQ) (zb5:FQ) (zcn:FQ) (zb4:FQ):FQ:=zcp 2
  (zba (sIf (zca (toB (cF zal (zac (vSh 6) (zac (vC (.int 1)) (zac (vC (.int 1000000)) zak)))))) (zbw (vC (.str "horizon"))) zcA) (zba (sIf (zca (toB (cF zbR (zac (vSh 0) (zac (vSh 6) zak))))) (zbw (vC (.str "benches"))) zcA) (zba (zfQ 7 (zbM (zbz (itF (vSh 0)) (zbt 0) tT (b2 ixD (vSh 0) (vC (.int 0))) [none]))) (zba (sIf (zca (toB (cF zcm (zac (vSh 1) (zac (vSh 7) (zac (vSh 6) zak)))))) (zbw (vC (.str "steps"))) zcA) (zba (zfQ 8 (zbM (zbz (itF (vSh 1)) (zbt 0) tT (b2 ixD (vSh 0) (vC (.int 0))) [none]))) (zba (sIf (zca (toB (cF zcP (zac (vSh 2) (zac (vSh 8) (zac (vSh 6) zak)))))) (zbw (vC (.str "jobs"))) zcA) (zba (sIf (zca (toB (cF zb5 (zac (vSh 3) (zac (vSh 7) (zac (vSh 6) zak)))))) (zbw (vC (.str "setups"))) zcA) (zba (sIf (zca (toB (cF zcn (zac (vSh 4) (zac (vSh 8) (zac (vSh 6) zak)))))) (zbw (vC (.str "links"))) zcA) (zba (sIf (zca (toB (cF zb4 (zac (vSh 5) (zac (vSh 8) zak))))) (zbw (vC (.str "stocks"))) zcA) (zbw (vC .non)))))))))))
theorem zc7:FnScope ["benches","steps","jobs","setups","links","stocks","horizon","bench_names","step_names"] ["benches","steps","jobs","setups","links","stocks","horizon"] (zao zdl):=by trivial
theorem zga {zal:FQ} {zbR:FQ} {zcm:FQ} {zcP:FQ} {zb5:FQ} {zcn:FQ} {zb4:FQ} (F:Dfn K mg "first_bad_part" zdl) (B:Bn mg) (c_is_within:Cal Γ P w K mg base "is_within" 3 2 zal) (c_are_benches:Cal Γ P w K mg base "are_benches" 2 6 zbR) (c_are_steps:Cal Γ P w K mg base "are_steps" 3 6 zcm) (c_are_jobs:Cal Γ P w K mg base "are_jobs" 3 4 zcP) (c_are_setups:Cal Γ P w K mg base "are_setups" 3 4 zb5) (c_are_links:Cal Γ P w K mg base "are_links" 3 4 zcn) (c_are_stocks:Cal Γ P w K mg base "are_stocks" 2 6 zb4):Cal Γ P w K mg base "first_bad_part" 7 7 (zep zal zbR zcm zcP zb5 zcn zb4) :=
 F.cal (k:=6) zc7 (fun _ _ _ _ _ _ us hl=>match us,hl with | [_,_,_,_,_,_,_],_=>rfl) fun f cdv A outer s H E hr =>
  (zat (zbB (zaU (zaS (dC c_is_within hr (zaa (zab 6) (zaa zaf (zaa (zcf rfl B.c_MOST_HORIZON) zae))) ln3))) (zau (zaD zaN)) zaO) (zat (zbB (zaU (zaS (dC c_are_benches hr (zaa (zab 0) (zaa (zab 6) zae)) ln2))) (zau (zaD zaN)) zaO) (zat (zub 7 zc7.nd rfl (CompScope.of rfl rfl) (FvOk.of (N':=["row"]) (fv:=[none]) rfl) (zbb (zab 0)) ⟨fun _ _ _ _ _=>⟨(zaI 0 (show (["row"]:List Str).Nodup by decide +kernel)),za6,(zaK (zab 0) zaf)⟩⟩) (zat (zbB (zaU (zaS (dC c_are_steps hr (zaa (zab 1) (zaa (zab 7) (zaa (zab 6) zae))) ln3))) (zau (zaD zaN)) zaO) (zat (zub 8 zc7.nd rfl (CompScope.of rfl rfl) (FvOk.of (N':=["row"]) (fv:=[none]) rfl) (zbb (zab 1)) ⟨fun _ _ _ _ _=>⟨(zaI 0 (show (["row"]:List Str).Nodup by decide +kernel)),za6,(zaK (zab 0) zaf)⟩⟩) (zat (zbB (zaU (zaS (dC c_are_jobs hr (zaa (zab 2) (zaa (zab 8) (zaa (zab 6) zae))) ln3))) (zau (zaD zaN)) zaO) (zat (zbB (zaU (zaS (dC c_are_setups hr (zaa (zab 3) (zaa (zab 7) (zaa (zab 6) zae))) ln3))) (zau (zaD zaN)) zaO) (zat (zbB (zaU (zaS (dC c_are_links hr (zaa (zab 4) (zaa (zab 8) (zaa (zab 6) zae))) ln3))) (zau (zaD zaN)) zaO) (zat (zbB (zaU (zaS (dC c_are_stocks hr (zaa (zab 5) (zaa (zab 8) zae)) ln2))) (zau (zaD zaN)) zaO) (zau (zaD zoz)))))))))))
def zdY (zbd:FQ):FQ:=zcp 0
  (zba (sIf (toB (cF zgt (zac (vSh 0) (zac (vC (.ty "list")) zak)))) (zbw (zbM (zbz (itF (vSh 0)) (zbt 0) tT (cF zbd (zac (vSh 0) zak)) [none]))) zcA) (zba (sIf (toB (cF zgt (zac (vSh 0) (zac (vC (.ty "tuple")) zak)))) (zbw (cF zmZ (zac (zbM (zbz (itF (vSh 0)) (zbt 0) tT (cF zbd (zac (vSh 0) zak)) [none])) zak))) zcA) (zbw (vSh 0))))
theorem zpd:FnScope ["thing"] ["thing"] (zao zkR):=by trivial
theorem zoI {k:Nat} {zbd:FQ} (F:Dfn K mg "fresh" zkR) (B:Bn mg) (c_fresh:Cal Γ P w K mg base "fresh" 1 k zbd):Cal Γ P w K mg base "fresh" 1 (k+1) (zdY zbd) :=
 F.cal (k:=k) zpd (fun _ _ _ _ _ _ us hl=>match us,hl with | [_],_=>rfl) fun f cdv A outer s H E hr =>
  (zat (zbB (zaS (zaA zd5 rfl B.z_isinstance (by rfl) (zaa (zab 0) (zaa (zgB rfl B.z_list (by rfl)) zae)))) (zau (zaD (DO.de (zcQ rfl (CompScope.of rfl rfl) (FvOk.of (N':=["part"]) (fv:=[none]) rfl) (zbb (zab 0)) ⟨fun _ _ _ _ _=>⟨(zaI 0 (show (["part"]:List Str).Nodup by decide +kernel)),za6,(zoD c_fresh hr (qt _) rfl (zaa (zab 0) zae) ln1)⟩⟩)))) zaO) (zat (zbB (zaS (zaA zd5 rfl B.z_isinstance (by rfl) (zaa (zab 0) (zaa (zgB rfl B.z_tuple (by rfl)) zae)))) (zau (zaD (zeL zo2 rfl B.z_tuple (by rfl) (zaa (DO.de (zcQ rfl (CompScope.of rfl rfl) (FvOk.of (N':=["part"]) (fv:=[none]) rfl) (zbb (zab 0)) ⟨fun _ _ _ _ _=>⟨(zaI 0 (show (["part"]:List Str).Nodup by decide +kernel)),za6,(zoD c_fresh hr (qt _) rfl (zaa (zab 0) zae) ln1)⟩⟩)) zae)))) zaO) (zau (zaD (zab 0)))))
def zeT (zbm:FQ) (zbd:FQ):FQ:=zqe 3 "Shop"
  (zba (zfQ 8 (cF zbm (zac (vSh 1) (zac (vSh 2) (zac (vSh 3) (zac (vSh 4) (zac (vSh 5) (zac (vSh 6) (zac (vSh 7) zak))))))))) (zba (sIf (toB (b2 zhM (vSh 8) (vC .non))) sNo zcA) (zba (zdQ "Shop" "benches" 0 (cF zbd (zac (vSh 1) zak))) (zba (zdQ "Shop" "steps" 0 (cF zbd (zac (vSh 2) zak))) (zba (zdQ "Shop" "jobs" 0 (cF zbd (zac (vSh 3) zak))) (zba (zdQ "Shop" "setups" 0 (cF zbd (zac (vSh 4) zak))) (zba (zdQ "Shop" "links" 0 (cF zbd (zac (vSh 5) zak))) (zba (zdQ "Shop" "stocks" 0 (cF zbd (zac (vSh 6) zak))) (zba (zdQ "Shop" "horizon" 0 (vSh 7)) (zba (zdQ "Shop" "bench_by_name" 0 (cF zkl (zac (zbM (zbz (itF (zih "Shop" "benches" 0)) (zbt 0) tT (zdj (szF (zac (b2 ixD (vSh 0) (vC (.int 0))) (zac (vSh 0) zak)))) [none])) zak))) (zba (zdQ "Shop" "step_by_name" 0 (cF zkl (zac (zbM (zbz (itF (zih "Shop" "steps" 0)) (zbt 0) tT (zdj (szF (zac (b2 ixD (vSh 0) (vC (.int 0))) (zac (vSh 0) zak)))) [none])) zak))) (zba (zdQ "Shop" "setup_by_names" 0 (cF zl4 (zac (zbM (zbz (itF (zih "Shop" "setups" 0)) (zbt 0) tT (zdj (szF (zac (slF (vSh 0) pN (pS (vC (.int 3)))) (zac (b2 ixD (vSh 0) (vC (.int 3))) zak)))) [none])) zak))) (zba (zss "Shop" "job_by_step" 0) (zig (itF (zih "Shop" "jobs" 0)) (zbt 9) (zig (itF (b2 ixD (vSh 9) (vC (.int 4)))) (zbt 10) (zdR "Shop" "job_by_step" 0 (vSh 10) (vSh 9)))))))))))))))))
theorem zcF:FnScope ["self","benches","steps","jobs","setups","links","stocks","horizon","part","row","step"] ["self","benches","steps","jobs","setups","links","stocks","horizon"] (zao zdy):=by trivial
theorem zgF {zbm:FQ} {zbd:FQ} {C:Addr} (O:ClsOk Γ K mg "Shop" C) (F:DfnM K C "Shop" "__init__" "Shop.__init__" zdy) (B:Bn mg) (c_first_bad_part:Cal Γ P w K mg base "first_bad_part" 7 7 zbm) (c_fresh:Cal Γ P w K mg base "fresh" 1 8 zbd) (cf_Shop:CF Γ K "Shop" zfG):CalI Γ P w K mg base "Shop" 7 9 (zeT zbm zbd) :=
 DfnM.calI (k:=8) O F zcF (fun _ _ _ _ _ _ us hl=>match us,hl with | [_,_,_,_,_,_,_,_],_=>rfl) fun f y cdv A outer s H E hr =>
  (zat (zdC 8 zcF.nd (dC (c_first_bad_part.re y) hr (zaa (zab 1) (zaa (zab 2) (zaa (zab 3) (zaa (zab 4) (zaa (zab 5) (zaa (zab 6) (zaa (zab 7) zae))))))) ln7)) (zat (zbB (zbs zmb (zab 8) zoz (zaR _)) (zau zmE) zaO) (zat (zcI 0 (cf_Shop.re y) (.head _) (dC (c_fresh.re y) hr (zaa (zab 1) zae) ln1)) (zat (zcI 0 (cf_Shop.re y) (.tail _ (.head _)) (dC (c_fresh.re y) hr (zaa (zab 2) zae) ln1)) (zat (zcI 0 (cf_Shop.re y) (.tail _ (.tail _ (.head _))) (dC (c_fresh.re y) hr (zaa (zab 3) zae) ln1)) (zat (zcI 0 (cf_Shop.re y) (.tail _ (.tail _ (.tail _ (.head _)))) (dC (c_fresh.re y) hr (zaa (zab 4) zae) ln1)) (zat (zcI 0 (cf_Shop.re y) (.tail _ (.tail _ (.tail _ (.tail _ (.head _))))) (dC (c_fresh.re y) hr (zaa (zab 5) zae) ln1)) (zat (zcI 0 (cf_Shop.re y) (.tail _ (.tail _ (.tail _ (.tail _ (.tail _ (.head _)))))) (dC (c_fresh.re y) hr (zaa (zab 6) zae) ln1)) (zat (zcI 0 (cf_Shop.re y) (.tail _ (.tail _ (.tail _ (.tail _ (.tail _ (.tail _ (.head _))))))) (zab 7)) (zat (zcI 0 (cf_Shop.re y) (.tail _ (.tail _ (.tail _ (.tail _ (.tail _ (.tail _ (.tail _ (.head _)))))))) (zeL (zlv rfl (zqD hr)) rfl B.z_dict (by rfl) (zaa (DO.de (zcQ rfl (CompScope.of rfl rfl) (FvOk.of (N':=["row"]) (fv:=[none]) rfl) (zbb (zjm 0 (cf_Shop.re y) (.head _))) ⟨fun _ _ _ _ _=>⟨(zaI 0 (show (["row"]:List Str).Nodup by decide +kernel)),za6,(zb3 (zaa (zaK (zab 0) zaf) (zaa (zab 0) zae)))⟩⟩)) zae))) (zat (zcI 0 (cf_Shop.re y) (.tail _ (.tail _ (.tail _ (.tail _ (.tail _ (.tail _ (.tail _ (.tail _ (.head _))))))))) (zeL (zlv rfl (zqD hr)) rfl B.z_dict (by rfl) (zaa (DO.de (zcQ rfl (CompScope.of rfl rfl) (FvOk.of (N':=["row"]) (fv:=[none]) rfl) (zbb (zjm 0 (cf_Shop.re y) (.tail _ (.head _)))) ⟨fun _ _ _ _ _=>⟨(zaI 0 (show (["row"]:List Str).Nodup by decide +kernel)),za6,(zb3 (zaa (zaK (zab 0) zaf) (zaa (zab 0) zae)))⟩⟩)) zae))) (zat (zcI 0 (cf_Shop.re y) (.tail _ (.tail _ (.tail _ (.tail _ (.tail _ (.tail _ (.tail _ (.tail _ (.tail _ (.head _)))))))))) (zeL (zo3 rfl (zqD hr)) rfl B.z_dict (by rfl) (zaa (DO.de (zcQ rfl (CompScope.of rfl rfl) (FvOk.of (N':=["row"]) (fv:=[none]) rfl) (zbb (zjm 0 (cf_Shop.re y) (.tail _ (.tail _ (.tail _ (.head _)))))) ⟨fun _ _ _ _ _=>⟨(zaI 0 (show (["row"]:List Str).Nodup by decide +kernel)),za6,(zb3 (zaa (zeZ (zab 0) zgA (zgz zaf)) (zaa (zaK (zab 0) zaf) zae)))⟩⟩)) zae))) (zat (zua 0 (cf_Shop.re y) (.tail _ (.tail _ (.tail _ (.tail _ (.tail _ (.tail _ (.tail _ (.tail _ (.tail _ (.tail _ (.head _)))))))))))) (zau (ziN PassesOwn.never rfl (zbb (zjm 0 (cf_Shop.re y) (.tail _ (.tail _ (.head _))))) (zaI 9 zcF.nd) (zau (ziN PassesOwn.never rfl (zbb (zaK (zab 9) zaf)) (zaI 10 zcF.nd) (zau (zon 0 (zqD hr) (cf_Shop.re y) (.tail _ (.tail _ (.tail _ (.tail _ (.tail _ (.tail _ (.tail _ (.tail _ (.tail _ (.tail _ (.head _))))))))))) (zab 10) (zab 9))))))))))))))))))))
def zej (zad:FQ'):FQ':=zja 4
  (zbx (qIf (rM (r2 eqD (zbn zad 0 (zap (rP (vC (.int 2))) (rP zak))) (rP (vC (.int 0)))) blD) (zem (rP (zbM (szF zak)))) zfa) (zbx (zcG 2 (zbn zad 0 (zap (rP (vC (.int 4))) (rP zak)))) (zbx (zcG 3 (zbn zad 0 (zap (rP (b2 zc6 (vSh 2) (vC (.int 1)))) (rP zak)))) (zbx (zcG 4 (rM (zeM (rP (itF (vSh 1))) (zbt 0) (rM (r2 eqD (zbn zad 1 (zap (rP (vC (.int 2))) (rP zak))) (rP (vC (.int 1)))) blD) (rM (zap (rP (vSh 0)) (zap (r2 zc6 (rP (vC (.int 1))) (zbn zad 1 (zap (rP (vC (.int 2))) (rP zak)))) (rP zak))) ze0) [none,some 0]) zmU)) (zbx (zcG 5 (rM (zeM (rP (itF (vSh 1))) (zbt 0) (rM (r2 eqD (zbn zad 1 (zap (rP (vC (.int 3))) (rP zak))) (rP (vC (.int 1)))) blD) (rM (zap (rP (vSh 0)) (zap (r2 zc6 (rP (vC (.int 1))) (zbn zad 1 (zap (rP (vC (.int 2))) (rP zak)))) (rP zak))) ze0) [none,some 0]) zmU)) (zem (rP (zbM (szF (zac (zdj (szF (zac (vC (.str "store")) (zac (vSh 3) (zac (vSh 2) (zac (vSh 4) (zac (vSh 5) zak))))))) zak))))))))))
theorem zcC:FnScope ["_law_left_here","_law_names","_law_room","_law_first","_law_takes","_law_puts"] ["_law_left_here","_law_names"] (zao zee):=by trivial
theorem zhZ {zad:FQ'} (F:Dfn K mg "_law_stocks" zee) (B:Bn mg) (c__law_pick:CalR Γ P w K mg base "_law_pick" 1 1 zad):CalR Γ P w K mg base "_law_stocks" 1 2 (zej zad) :=
 F.calR (k:=1) zcC (fun _ _ _ _ _ _ us hl=>match us,hl with | [_,_],_=>rfl) fun f cdv A outer s H E hr =>
  (zaw (zdS (zel zb7 (zaG c__law_pick hr (by decide) rfl (zai (zas zaf) (zaJ zae)) lr1) (zas zaf) (zaR _)) (zaT (zbY (zas (DO.de (zbC zae))))) zbT) (zaw (zbl 2 zcC.nd (zaG c__law_pick hr (by decide) rfl (zai (zas zaf) (zaJ zae)) lr1)) (zaw (zbl 3 zcC.nd (zaG c__law_pick hr (by decide) rfl (zai (zas (zdg (zab 2) zaf)) (zaJ zae)) lr1)) (zaw (zq9 4 zcC.nd (by decide) (by decide) rfl rfl (CompScope.of rfl rfl) (FvOk.of (N':=["_law_name","_law_left_here"]) (fv:=[none,some 0]) rfl) (zms (zbb (zab 1))) ⟨fun _ _ _ _ _=>⟨(zaI 0 (show (["_law_name","_law_left_here"]:List Str).Nodup by decide +kernel)),(znp (zel zb7 (zaG c__law_pick hr (by decide) rfl (zai (zas zaf) (zaJ zae)) lr1) (zas zaf) (zaR _))),(zb9 (zai (zas (zab 0)) (zai (zdJ (zas zaf) (zaG c__law_pick hr (by decide) rfl (zai (zas zaf) (zaJ zae)) lr1)) (zaJ zae))))⟩⟩) (zaw (zq9 5 zcC.nd (by decide) (by decide) rfl rfl (CompScope.of rfl rfl) (FvOk.of (N':=["_law_name","_law_left_here"]) (fv:=[none,some 0]) rfl) (zms (zbb (zab 1))) ⟨fun _ _ _ _ _=>⟨(zaI 0 (show (["_law_name","_law_left_here"]:List Str).Nodup by decide +kernel)),(znp (zel zb7 (zaG c__law_pick hr (by decide) rfl (zai (zas zaf) (zaJ zae)) lr1) (zas zaf) (zaR _))),(zb9 (zai (zas (zab 0)) (zai (zdJ (zas zaf) (zaG c__law_pick hr (by decide) rfl (zai (zas zaf) (zaJ zae)) lr1)) (zaJ zae))))⟩⟩) (zaT (zbY (zas (DO.de (zbC (zaa (zb3 (zaa zaN (zaa (zab 3) (zaa (zab 2) (zaa (zab 4) (zaa (zab 5) zae)))))) zae)))))))))))
def zfP (zad:FQ'):FQ':=zja 4
  (zbx (qIf (rM (r2 eqD (zbn zad 0 (zap (rP (vC (.int 2))) (rP zak))) (rP (vC (.int 0)))) blD) (zem (rP (zbM (szF zak)))) zfa) (zbx (zcG 3 (r2 zc6 (rP (vC (.int 1))) (zbn zad 0 (zap (rP (cF zc3 (zac (vSh 1) zak))) (rP zak))))) (zbx (zcG 4 (rP (slF (vSh 1) pN (pS (vSh 3))))) (zbx (qIf (rM (r2 eqD (zbn zad 0 (zap (rP (vC (.int 2))) (rP zak))) (rP (vC (.int 1)))) blD) (zcG 4 (rP (b1 zsv (vSh 4)))) zfa) (zbx (zcG 5 (r2 ixD (rP (zbM (szF (zac (vC (.int 0)) (zac (vC (.int 0)) (zac (vC (.int 1)) zak)))))) (zbn zad 0 (zap (rP (vC (.int 3))) (rP zak))))) (zbx (zmS 6 (rM (zap (rM (zap (rP (vC (.str "job"))) (zap (rP (vSh 5)) (zap (r2 ziX (rP (vSh 2)) (r2 ixD (rP (zbM (szF (zac (vC (.int 0)) (zac (vC (.int 0)) (zac (vC (.int 1)) zak)))))) (zbn zad 0 (zap (rP (vC (.int 3))) (rP zak))))) (zap (r2 eqD (zbn zad 0 (zap (rP (vC (.int 2))) (rP zak))) (rP (vC (.int 1)))) (zap (rP (vSh 4)) (rP zak)))))) ze0) (rP zak)) szD)) (zbx (qIf (zqk (rP (toB (b2 ltD (vSh 3) (cF zc3 (zac (vSh 1) zak))))) (rM (r2 eqD (zbn zad 0 (zap (rP (vC (.int 2))) (rP zak))) (rP (vC (.int 1)))) blD)) (zhA 6 (rM (zap (rP (vC (.str "more"))) (zap (rP (vC (.int 0))) (zap (rP (vSh 2)) (zap (r2 eqD (zbn zad 0 (zap (rP (vC (.int 2))) (rP zak))) (rP (vC (.int 1)))) (zap (rP (slF (vSh 1) (pS (vSh 3)) pN)) (rP zak)))))) ze0)) zfa) (zkU 6 (zem (rP (vSh 6)))))))))))
theorem zcL:FnScope ["_law_left_here","_law_names","_law_horizon","_law_many","_law_some","_law_early","_law_jobs_here"] ["_law_left_here","_law_names","_law_horizon"] (zao zfw):=by trivial
theorem zjC {zad:FQ'} (F:Dfn K mg "_law_jobs" zfw) (B:Bn mg) (c__law_pick:CalR Γ P w K mg base "_law_pick" 1 1 zad):CalR Γ P w K mg base "_law_jobs" 2 2 (zfP zad) :=
 F.calR (k:=1) zcL (fun _ _ _ _ _ _ us hl=>match us,hl with | [_,_,_],_=>rfl) fun f cdv A outer s H E hr =>
  (zaw (zdS (zel zb7 (zaG c__law_pick hr (by decide) rfl (zai (zas zaf) (zaJ zae)) lr1) (zas zaf) (zaR _)) (zaT (zbY (zas (DO.de (zbC zae))))) zbT) (zaw (zbl 3 zcL.nd (zdJ (zas zaf) (zaG c__law_pick hr (by decide) rfl (zai (zas (zaA zbG rfl B.z_len (by rfl) (zaa (zab 1) zae))) (zaJ zae)) lr1))) (zaw (zbl 4 zcL.nd (zas (zeZ (zab 1) zgA (zgz (zab 3))))) (zaw (zdS (zel zb7 (zaG c__law_pick hr (by decide) rfl (zai (zas zaf) (zaJ zae)) lr1) (zas zaf) (zaR _)) (zaT (zbl 4 zcL.nd (zas (zqL (zab 4))))) zbT) (zaw (zbl 5 zcL.nd (zeF (zas (DO.de (zbC (zaa zaf (zaa zaf (zaa zaf zae)))))) (zaG c__law_pick hr (by decide) rfl (zai (zas zaf) (zaJ zae)) lr1))) (zaw (zhy 6 zcL.nd (zjY (zai (zb9 (zai (zas zaN) (zai (zas (zab 5)) (zai (zs3 (zas (zab 2)) (zeF (zas (DO.de (zbC (zaa zaf (zaa zaf (zaa zaf zae)))))) (zaG c__law_pick hr (by decide) rfl (zai (zas zaf) (zaJ zae)) lr1))) (zai (zqj zb7 (zaG c__law_pick hr (by decide) rfl (zai (zas zaf) (zaJ zae)) lr1) (zas zaf) (zaR _)) (zai (zas (zab 4)) (zaJ zae))))))) (zaJ zae)))) (zaw (zdS (RW.rt (zlB (ze2 (zbs zlf (zab 3) (zaA zbG rfl B.z_len (by rfl) (zaa (zab 1) zae)) (zaR _))) (zkS (zel zb7 (zaG c__law_pick hr (by decide) rfl (zai (zas zaf) (zaJ zae)) lr1) (zas zaf) (zaR _))))) (zaT (zcE 6 (zb9 (zai (zas zaN) (zai (zas zaf) (zai (zas (zab 2)) (zai (zqj zb7 (zaG c__law_pick hr (by decide) rfl (zai (zas zaf) (zaJ zae)) lr1) (zas zaf) (zaR _)) (zai (zas (zeZ (zab 1) (zgz (zab 3)) zgA)) (zaJ zae))))))))) zbT) (zfx 6 (zaT (zbY (zas (zab 6))))))))))))
def zfL (zad:FQ') (zbf:FQ') (zbH:FQ') (zbI:FQ') (zbk:FQ) (zbu:FQ') (zbX:FQ'):FQ':=zja 9
  (zbx (zcG 1 (r2 zc6 (rP (vC (.int 2))) (zbn zad 0 (zap (rP (vC (.int 4))) (rP zak))))) (zbx (zcG 2 (r2 ixD (rP (zbM (szF (zac (vC (.str "")) (zac (vC (.str "x")) (zac (vC (.str "low")) (zac (vC (.str "abcdef")) zak))))))) (zbn zad 0 (zap (rP (vC (.int 4))) (rP zak))))) (zbx (zcG 3 (zbn zbf 0 (zap (rP (vSh 2)) (zap (rP (vSh 1)) (rP zak))))) (zbx (zcG 4 (zbn zbH 0 (zap (rP (vSh 2)) (zap (rP (vSh 3)) (zap (rP (vSh 1)) (rP zak)))))) (zbx (zcG 5 (rP (zbM (zbz (itF (vSh 4)) (zbt 0) tT (b2 ixD (vSh 0) (vC (.int 0))) [none])))) (zbx (zmS 6 (rP (szF zak))) (zbx (zjH (rP (itF (vSh 3))) (zik 2 (zdA (zbt 7) (zdA (zbt 8) zij))) (qIf (rM (r2 eqD (zbn zad 0 (zap (rP (vC (.int 3))) (rP zak))) (rP (vC (.int 1)))) blD) (zhA 6 (rM (zap (rP (vSh 7)) (zap (rP (vC (.str "k"))) (zap (r2 ixD (rP (vC (.str "km"))) (zbn zad 0 (zap (rP (vC (.int 2))) (rP zak)))) (zap (r2 zc6 (rP (vC (.int 1))) (zbn zad 0 (zap (rP (vC (.int 2))) (rP zak)))) (rP zak))))) ze0)) zfa)) (zbx (zcG 9 (zbn zbI 0 (zap (rP (vSh 5)) (zap (rP (vSh 1)) (rP zak))))) (zkU 6 (zem (rM (zap (rP (vSh 3)) (zap (rP (vSh 4)) (zap (zbn zbX 0 (zap (rP (vSh 5)) (zap (rP (vSh 1)) (rP zak)))) (zap (rP (vSh 6)) (zap (rP (vSh 9)) (zap (zbn zbu 0 (zap (rP (vSh 5)) (rP zak))) (zap (rP (vSh 1)) (rP zak)))))))) zbk)))))))))))
theorem zbF:FnScope ["_law_left_here","_law_horizon","_law_pad","_law_benches_here","_law_steps_here","_law_names","_law_setups","_law_bench","_law_breaks","_law_links_here"] ["_law_left_here"] (zao zfs):=by trivial
theorem zjy {zad:FQ'} {zbf:FQ'} {zbH:FQ'} {zbI:FQ'} {zbk:FQ} {zbu:FQ'} {zbX:FQ'} (F:Dfn K mg "_law_shop" zfs) (B:Bn mg) (c__law_pick:CalR Γ P w K mg base "_law_pick" 1 1 zad) (c__law_benches:CalR Γ P w K mg base "_law_benches" 2 2 zbf) (c__law_steps:CalR Γ P w K mg base "_law_steps" 3 2 zbH) (c__law_links:CalR Γ P w K mg base "_law_links" 2 2 zbI) (c_Shop___init__:CalI Γ P w K mg base "Shop" 7 9 zbk) (c__law_stocks:CalR Γ P w K mg base "_law_stocks" 1 2 zbu) (c__law_jobs:CalR Γ P w K mg base "_law_jobs" 2 2 zbX):CalR Γ P w K mg base "_law_shop" 0 11 (zfL zad zbf zbH zbI zbk zbu zbX) :=
 F.calR (k:=10) zbF (fun _ _ _ _ _ _ us hl=>match us,hl with | [_],_=>rfl) fun f cdv A outer s H E hr =>
  (zaw (zbl 1 zbF.nd (zdJ (zas zaf) (zaG c__law_pick hr (by decide) rfl (zai (zas zaf) (zaJ zae)) lr1))) (zaw (zbl 2 zbF.nd (zeF (zas (DO.de (zbC (zaa zaN (zaa zaN (zaa zaN (zaa zaN zae))))))) (zaG c__law_pick hr (by decide) rfl (zai (zas zaf) (zaJ zae)) lr1))) (zaw (zbl 3 zbF.nd (zaG c__law_benches hr (by decide) rfl (zai (zas (zab 2)) (zai (zas (zab 1)) (zaJ zae))) lr2)) (zaw (zbl 4 zbF.nd (zaG c__law_steps hr (by decide) rfl (zai (zas (zab 2)) (zai (zas (zab 3)) (zai (zas (zab 1)) (zaJ zae)))) lr3)) (zaw (zsZ 5 zbF.nd (by decide) rfl (CompScope.of rfl rfl) (FvOk.of (N':=["_law_step"]) (fv:=[none]) rfl) (zbb (zab 4)) ⟨fun _ _ _ _ _=>⟨(zaI 0 (show (["_law_step"]:List Str).Nodup by decide +kernel)),za6,(zaK (zab 0) zaf)⟩⟩) (zaw (zhy 6 zbF.nd (zpg (zbC zae))) (zaw (zhz (zn2 (zeW (zd2 (by decide)) (zeW (zd2 (by decide)) zk3))) PassesOwn.never rfl (zms (zbb (zab 3))) (zou (n:=2) rfl (zeY (zaI 7 zbF.nd) (zeY (zaI 8 zbF.nd) zlb))) (zaT (zdS (zel zb7 (zaG c__law_pick hr (by decide) rfl (zai (zas zaf) (zaJ zae)) lr1) (zas zaf) (zaR _)) (zaT (zcE 6 (zb9 (zai (zas (zab 7)) (zai (zas zaN) (zai (zeF (zas zaN) (zaG c__law_pick hr (by decide) rfl (zai (zas zaf) (zaJ zae)) lr1)) (zai (zdJ (zas zaf) (zaG c__law_pick hr (by decide) rfl (zai (zas zaf) (zaJ zae)) lr1)) (zaJ zae)))))))) zbT))) (zaw (zbl 9 zbF.nd (zaG c__law_links hr (by decide) rfl (zai (zas (zab 5)) (zai (zas (zab 1)) (zaJ zae))) lr2)) (zfx 6 (zaT (zbY (zrd c_Shop___init__ hr (by decide) rfl (zai (zas (zab 3)) (zai (zas (zab 4)) (zai (zaG c__law_jobs hr (by decide) rfl (zai (zas (zab 5)) (zai (zas (zab 1)) (zaJ zae))) lr2) (zai (zas (zab 6)) (zai (zas (zab 9)) (zai (zaG c__law_stocks hr (by decide) rfl (zai (zas (zab 5)) (zaJ zae)) lr1) (zai (zas (zab 1)) (zaJ zae)))))))) lr7))))))))))))
def zd9:FQ:=zcp 0
  (zbw (zbM (zbz (itF (zgZ "Shop" "steps" (vSh 0))) (zbt 0) tT (b2 ixD (vSh 0) (vC (.int 0))) [none])))
theorem zf0:FnScope ["self"] ["self"] (zao zc9):=by trivial
theorem zfE {C:Addr} (O:ClsOk Γ K mg "Shop" C) (F:DfnM K C "Shop" "step_names" "Shop.step_names" zc9) (B:Bn mg) (cf_Shop:CF Γ K "Shop" zfG):CalM Γ P w K mg base "Shop" "step_names" 1 1 (zd9) :=
 DfnM.cal (k:=0) O F zf0 (fun _ _ _ _ _ _ us hl=>match us,hl with | [_],_=>rfl) fun f cdv A outer s H E hr =>
  (zau (zaD (DO.de (zcQ rfl (CompScope.of rfl rfl) (FvOk.of (N':=["row"]) (fv:=[none]) rfl) (zbb (zcM cf_Shop (.tail _ (.head _)) (zab 0))) ⟨fun _ _ _ _ _=>⟨(zaI 0 (show (["row"]:List Str).Nodup by decide +kernel)),za6,(zaK (zab 0) zaf)⟩⟩))))
def zcY:FQ:=zcp 0
  (zbw (zgZ "Shop" "horizon" (vSh 0)))
theorem zfj:FnScope ["self"] ["self"] (zao zcT):=by trivial
theorem ze4 {C:Addr} (O:ClsOk Γ K mg "Shop" C) (F:DfnM K C "Shop" "last_moment" "Shop.last_moment" zcT) (B:Bn mg) (cf_Shop:CF Γ K "Shop" zfG):CalM Γ P w K mg base "Shop" "last_moment" 1 1 (zcY) :=
 DfnM.cal (k:=0) O F zfj (fun _ _ _ _ _ _ us hl=>match us,hl with | [_],_=>rfl) fun f cdv A outer s H E hr =>
  (zau (zaD (zcM cf_Shop (.tail _ (.tail _ (.tail _ (.tail _ (.tail _ (.tail _ (.head _))))))) (zab 0))))
def zdL:FQ:=zcp 0
  (zbw (zbM (zbz (itF (zgZ "Shop" "benches" (vSh 0))) (zbt 0) tT (b2 ixD (vSh 0) (vC (.int 0))) [none])))
theorem zfk:FnScope ["self"] ["self"] (zao zcU):=by trivial
theorem ze5 {C:Addr} (O:ClsOk Γ K mg "Shop" C) (F:DfnM K C "Shop" "bench_names" "Shop.bench_names" zcU) (B:Bn mg) (cf_Shop:CF Γ K "Shop" zfG):CalM Γ P w K mg base "Shop" "bench_names" 1 1 (zdL) :=
 DfnM.cal (k:=0) O F zfk (fun _ _ _ _ _ _ us hl=>match us,hl with | [_],_=>rfl) fun f cdv A outer s H E hr =>
  (zau (zaD (DO.de (zcQ rfl (CompScope.of rfl rfl) (FvOk.of (N':=["row"]) (fv:=[none]) rfl) (zbb (zcM cf_Shop (.head _) (zab 0))) ⟨fun _ _ _ _ _=>⟨(zaI 0 (show (["row"]:List Str).Nodup by decide +kernel)),za6,(zaK (zab 0) zaf)⟩⟩))))
def zek (zaq:FQ) (zad:FQ') (zaj:FQ) (zav:FQ):FQ':=zja 4
  (zbx (zcG 2 (rP (zbU "Shop" "step_names" zaq (vSh 1) zak))) (zbx (zcG 3 (r2 ixD (rP (vSh 2)) (zbn zad 0 (zap (rP (cF zc3 (zac (vSh 2) zak))) (rP zak))))) (zbx (zcG 4 (zbn zad 0 (zap (rP (vC (.int 4))) (rP zak)))) (zbx (qIf (rP (toB (b2 eqD (vSh 4) (vC (.int 0))))) (zem (rM (zap (rP (vC (.str "start"))) (zap (rP (vSh 3)) (zap (zbn zad 0 (zap (rP (b2 zc6 (zbU "Shop" "last_moment" zaj (vSh 1) zak) (vC (.int 2)))) (rP zak))) (rP zak)))) ze0)) zfa) (zbx (qIf (rP (toB (b2 eqD (vSh 4) (vC (.int 1))))) (zbx (zcG 5 (rP (zbU "Shop" "bench_names" zav (vSh 1) zak))) (zem (rM (zap (rP (vC (.str "on"))) (zap (rP (vSh 3)) (zap (r2 ixD (rP (vSh 5)) (zbn zad 0 (zap (rP (cF zc3 (zac (vSh 5) zak))) (rP zak)))) (rP zak)))) ze0))) zfa) (zbx (qIf (rP (toB (b2 eqD (vSh 4) (vC (.int 2))))) (zem (rM (zap (rP (vC (.str "order"))) (zap (rP (vSh 3)) (zap (r2 ixD (rP (vSh 2)) (zbn zad 0 (zap (rP (cF zc3 (zac (vSh 2) zak))) (rP zak)))) (rP zak)))) ze0)) zfa) (zem (rP (zdj (szF (zac (vC (.str "keep")) (zac (vSh 3) zak))))))))))))
theorem zcD:FnScope ["_law_left_here","_law_shop_here","_law_names","_law_step","_law_way","_law_benches_here"] ["_law_left_here","_law_shop_here"] (zao zef):=by trivial
theorem zh0 {zaq:FQ} {zad:FQ'} {zaj:FQ} {zav:FQ} (F:Dfn K mg "_law_choice" zef) (B:Bn mg) (c_Shop_step_names:CalM Γ P w K mg base "Shop" "step_names" 1 1 zaq) (c__law_pick:CalR Γ P w K mg base "_law_pick" 1 1 zad) (c_Shop_last_moment:CalM Γ P w K mg base "Shop" "last_moment" 1 1 zaj) (c_Shop_bench_names:CalM Γ P w K mg base "Shop" "bench_names" 1 1 zav):CalR Γ P w K mg base "_law_choice" 1 2 (zek zaq zad zaj zav) :=
 F.calR (k:=1) zcD (fun _ _ _ _ _ _ us hl=>match us,hl with | [_,_],_=>rfl) fun f cdv A outer s H E hr =>
  (zaw (zbl 2 zcD.nd (zas (za7 c_Shop_step_names hr (by decide) (zab 1)))) (zaw (zbl 3 zcD.nd (zeF (zas (zab 2)) (zaG c__law_pick hr (by decide) rfl (zai (zas (zaA zbG rfl B.z_len (by rfl) (zaa (zab 2) zae))) (zaJ zae)) lr1))) (zaw (zbl 4 zcD.nd (zaG c__law_pick hr (by decide) rfl (zai (zas zaf) (zaJ zae)) lr1)) (zaw (zdS (ze2 (zbs zb7 (zab 4) zaf (zaR _))) (zaT (zbY (zb9 (zai (zas zaN) (zai (zas (zab 3)) (zai (zaG c__law_pick hr (by decide) rfl (zai (zas (zdg (za7 c_Shop_last_moment hr (by decide) (zab 1)) zaf)) (zaJ zae)) lr1) (zaJ zae))))))) zbT) (zaw (zdS (ze2 (zbs zb7 (zab 4) zaf (zaR _))) (zaw (zbl 5 zcD.nd (zas (za7 c_Shop_bench_names hr (by decide) (zab 1)))) (zaT (zbY (zb9 (zai (zas zaN) (zai (zas (zab 3)) (zai (zeF (zas (zab 5)) (zaG c__law_pick hr (by decide) rfl (zai (zas (zaA zbG rfl B.z_len (by rfl) (zaa (zab 5) zae))) (zaJ zae)) lr1)) (zaJ zae)))))))) zbT) (zaw (zdS (ze2 (zbs zb7 (zab 4) zaf (zaR _))) (zaT (zbY (zb9 (zai (zas zaN) (zai (zas (zab 3)) (zai (zeF (zas (zab 2)) (zaG c__law_pick hr (by decide) rfl (zai (zas (zaA zbG rfl B.z_len (by rfl) (zaa (zab 2) zae))) (zaJ zae)) lr1)) (zaJ zae))))))) zbT) (zaT (zbY (zas (zb3 (zaa zaN (zaa (zab 3) zae))))))))))))
def zd7 (zaq:FQ) (zad:FQ') (zaQ:FQ') (zaX:FQ'):FQ':=zja 4
  (zbx (zcG 3 (rP (zbU "Shop" "step_names" zaq (vSh 1) zak))) (zbx (zcG 4 (zbn zad 0 (zap (rP (vC (.int 4))) (rP zak)))) (zbx (qIf (rP (zmO (toB (b2 eqD (vSh 4) (vC (.int 3)))) (toB (b2 gtD (vSh 2) (vC (.int 0)))))) (zbx (zcG 5 (zbn zaQ 0 (zap (rP (vSh 1)) (rP zak)))) (zem (rM (zap (rP (vC (.str "not"))) (zap (rP (vSh 5)) (zap (zbn zad 0 (zap (rP (vC (.int 2))) (rP zak))) (zap (zbn zaX 0 (zap (rP (vSh 1)) (zap (rP (b2 ziX (vSh 2) (vC (.int 1)))) (rP zak)))) (rP zak))))) ze0))) zfa) (zbx (qIf (rP (toB (b2 eqD (vSh 4) (vC (.int 2))))) (zem (rM (zap (rP (vC (.str "fit"))) (zap (r2 ixD (rP (vSh 3)) (zbn zad 0 (zap (rP (cF zc3 (zac (vSh 3) zak))) (rP zak)))) (rP zak))) ze0)) zfa) (zbx (zcG 6 (r2 ixD (rP (vSh 3)) (zbn zad 0 (zap (rP (cF zc3 (zac (vSh 3) zak))) (rP zak))))) (zem (rM (zap (rP (b2 ixD (zbM (szF (zac (vC (.str "low")) (zac (vC (.str "high")) zak)))) (b2 zmT (vSh 4) (vC (.int 2))))) (zap (rP (vSh 6)) (zap (r2 ixD (rP (vSh 3)) (zbn zad 0 (zap (rP (cF zc3 (zac (vSh 3) zak))) (rP zak)))) (rP zak)))) ze0)))))))
theorem zdv:FnScope ["_law_left_here","_law_shop_here","_law_deep","_law_names","_law_way","_law_choice_here","_law_one"] ["_law_left_here","_law_shop_here","_law_deep"] (zao zgp):=by trivial
theorem zkB {k:Nat} {zaq:FQ} {zad:FQ'} {zaQ:FQ'} {zaX:FQ'} (F:Dfn K mg "_law_row" zgp) (B:Bn mg) (c_Shop_step_names:CalM Γ P w K mg base "Shop" "step_names" 1 1 zaq) (c__law_pick:CalR Γ P w K mg base "_law_pick" 1 1 zad) (c__law_choice:CalR Γ P w K mg base "_law_choice" 1 2 zaQ) (c__law_tree:CalR Γ P w K mg base "_law_tree" 2 (12+k) zaX):CalR Γ P w K mg base "_law_row" 2 (12+k+1) (zd7 zaq zad zaQ zaX) :=
 F.calR (k:=12+k) zdv (fun _ _ _ _ _ _ us hl=>match us,hl with | [_,_,_],_=>rfl) fun f cdv A outer s H E hr =>
  (zaw (zbl 3 zdv.nd (zas (za7 c_Shop_step_names hr (by omega) (zab 1)))) (zaw (zbl 4 zdv.nd (zaG c__law_pick hr (by omega) rfl (zai (zas zaf) (zaJ zae)) lr1)) (zaw (zdS (ze2 (DW.dt (zki (zbs zb7 (zab 4) zaf (zaR _)) (zjl (zbs zlg (zab 2) zaf (zaR _)))))) (zaw (zbl 5 zdv.nd (zaG c__law_choice hr (by omega) rfl (zai (zas (zab 1)) (zaJ zae)) lr1)) (zaT (zbY (zb9 (zai (zas zaN) (zai (zas (zab 5)) (zai (zaG c__law_pick hr (by omega) rfl (zai (zas zaf) (zaJ zae)) lr1) (zai (zaG c__law_tree hr (by omega) rfl (zai (zas (zab 1)) (zai (zas (zf8 (zab 2) zaf)) (zaJ zae))) lr2) (zaJ zae))))))))) zbT) (zaw (zdS (ze2 (zbs zb7 (zab 4) zaf (zaR _))) (zaT (zbY (zb9 (zai (zas zaN) (zai (zeF (zas (zab 3)) (zaG c__law_pick hr (by omega) rfl (zai (zas (zaA zbG rfl B.z_len (by rfl) (zaa (zab 3) zae))) (zaJ zae)) lr1)) (zaJ zae)))))) zbT) (zaw (zbl 6 zdv.nd (zeF (zas (zab 3)) (zaG c__law_pick hr (by omega) rfl (zai (zas (zaA zbG rfl B.z_len (by rfl) (zaa (zab 3) zae))) (zaJ zae)) lr1))) (zaT (zbY (zb9 (zai (zas (zaK (DO.de (zbC (zaa zaN (zaa zaN zae)))) (zoB (zab 4) zaf))) (zai (zas (zab 6)) (zai (zeF (zas (zab 3)) (zaG c__law_pick hr (by omega) rfl (zai (zas (zaA zbG rfl B.z_len (by rfl) (zaa (zab 3) zae))) (zaJ zae)) lr1)) (zaJ zae))))))))))))
def zdZ (zad:FQ') (zaj:FQ):FQ':=zja 1
  (zbx (zcG 2 (zbn zad 0 (zap (rP (zbU "Shop" "last_moment" zaj (vSh 1) zak)) (rP zak)))) (zem (rM (zap (rP (vSh 2)) (zap (r2 zc6 (rP (b2 zc6 (vSh 2) (vC (.int 1)))) (zbn zad 0 (zap (rP (b2 ziX (zbU "Shop" "last_moment" zaj (vSh 1) zak) (vSh 2))) (rP zak)))) (rP zak))) ze0)))
theorem zev:FnScope ["_law_left_here","_law_shop_here","_law_low"] ["_law_left_here","_law_shop_here"] (zao zdO):=by trivial
theorem zhd {zad:FQ'} {zaj:FQ} (F:Dfn K mg "_law_stretch" zdO) (B:Bn mg) (c__law_pick:CalR Γ P w K mg base "_law_pick" 1 1 zad) (c_Shop_last_moment:CalM Γ P w K mg base "Shop" "last_moment" 1 1 zaj):CalR Γ P w K mg base "_law_stretch" 1 2 (zdZ zad zaj) :=
 F.calR (k:=1) zev (fun _ _ _ _ _ _ us hl=>match us,hl with | [_,_],_=>rfl) fun f cdv A outer s H E hr =>
  (zaw (zbl 2 zev.nd (zaG c__law_pick hr (by decide) rfl (zai (zas (za7 c_Shop_last_moment hr (by decide) (zab 1))) (zaJ zae)) lr1)) (zaT (zbY (zb9 (zai (zas (zab 2)) (zai (zdJ (zas (zdg (zab 2) zaf)) (zaG c__law_pick hr (by decide) rfl (zai (zas (zf8 (za7 c_Shop_last_moment hr (by decide) (zab 1)) (zab 2))) (zaJ zae)) lr1)) (zaJ zae)))))))
def zeS (zbd:FQ):FQ:=zcp 0
  (zbw (cF zbd (zac (zgZ "Shop" "jobs" (vSh 0)) zak)))
theorem zg8:FnScope ["self"] ["self"] (zao zdx):=by trivial
theorem zgE {zbd:FQ} {C:Addr} (O:ClsOk Γ K mg "Shop" C) (F:DfnM K C "Shop" "job_rows" "Shop.job_rows" zdx) (B:Bn mg) (c_fresh:Cal Γ P w K mg base "fresh" 1 8 zbd) (cf_Shop:CF Γ K "Shop" zfG):CalM Γ P w K mg base "Shop" "job_rows" 1 9 (zeS zbd) :=
 DfnM.cal (k:=8) O F zg8 (fun _ _ _ _ _ _ us hl=>match us,hl with | [_],_=>rfl) fun f cdv A outer s H E hr =>
  (zau (zaD (dC c_fresh hr (zaa (zcM cf_Shop (.tail _ (.tail _ (.head _))) (zab 0)) zae) ln1)))
def zd8 (zbd:FQ):FQ:=zcp 0
  (zbw (cF zbd (zac (zgZ "Shop" "stocks" (vSh 0)) zak)))
theorem zfZ:FnScope ["self"] ["self"] (zao zc8):=by trivial
theorem zfD {zbd:FQ} {C:Addr} (O:ClsOk Γ K mg "Shop" C) (F:DfnM K C "Shop" "stock_rows" "Shop.stock_rows" zc8) (B:Bn mg) (c_fresh:Cal Γ P w K mg base "fresh" 1 8 zbd) (cf_Shop:CF Γ K "Shop" zfG):CalM Γ P w K mg base "Shop" "stock_rows" 1 9 (zd8 zbd) :=
 DfnM.cal (k:=8) O F zfZ (fun _ _ _ _ _ _ us hl=>match us,hl with | [_],_=>rfl) fun f cdv A outer s H E hr =>
  (zau (zaD (dC c_fresh hr (zaa (zcM cf_Shop (.tail _ (.tail _ (.tail _ (.tail _ (.tail _ (.head _)))))) (zab 0)) zae) ln1)))
def zfO (zaq:FQ) (zad:FQ') (zbe:FQ') (zav:FQ) (zaB:FQ) (zay:FQ) (zaj:FQ):FQ':=zja 6
  (zbx (zcG 2 (rP (zbU "Shop" "step_names" zaq (vSh 1) zak))) (zbx (zcG 3 (zbn zad 0 (zap (rP (vC (.int 6))) (rP zak)))) (zbx (qIf (rP (toB (b2 eqD (vSh 3) (vC (.int 1))))) (zem (rM (zap (rP (vC (.str "ring"))) (zap (rM (zeM (rM (zap (r2 zc6 (rP (vC (.int 1))) (zbn zad 0 (zap (rP (vC (.int 3))) (rP zak)))) (rP zak)) zkT) (zbt 0) (rP tT) (r2 ixD (rP (vSh 1)) (zbn zad 2 (zap (rP (cF zc3 (zac (vSh 1) zak))) (rP zak)))) [none,some 2,some 0]) zmU) (rP zak))) ze0)) zfa) (zbx (qIf (rP (toB (b2 eqD (vSh 3) (vC (.int 2))))) (zbx (zs9 (zik 2 (zdA (zbt 4) (zdA (zbt 5) zij))) (zbn zbe 0 (zap (rP (vSh 1)) (rP zak)))) (zbx (zcG 6 (rP (zbU "Shop" "bench_names" zav (vSh 1) zak))) (zem (rM (zap (rP (vC (.str "stretch"))) (zap (r2 zsc (rP (vSh 6)) (zbn zad 0 (zap (rP (cF zc3 (zac (vSh 6) zak))) (rP zak)))) (zap (rP (vSh 4)) (zap (rP (vSh 5)) (rP zak))))) ze0)))) zfa) (zbx (qIf (rP (zmO (toB (b2 eqD (vSh 3) (vC (.int 3)))) (toB (b2 neA (zbU "Shop" "job_rows" zaB (vSh 1) zak) (zbM (szF zak)))))) (zbx (zs9 (zik 2 (zdA (zbt 4) (zdA (zbt 5) zij))) (zbn zbe 0 (zap (rP (vSh 1)) (rP zak)))) (zem (rM (zap (rP (vC (.str "together"))) (zap (r2 ixD (r2 ixD (rP (zbU "Shop" "job_rows" zaB (vSh 1) zak)) (zbn zad 0 (zap (rP (cF zc3 (zac (zbU "Shop" "job_rows" zaB (vSh 1) zak) zak))) (rP zak)))) (rP (vC (.int 0)))) (zap (rP (vSh 4)) (zap (rP (vSh 5)) (rP zak))))) ze0))) zfa) (zbx (qIf (rP (zmO (toB (b2 eqD (vSh 3) (vC (.int 4)))) (toB (b2 neA (zbU "Shop" "stock_rows" zay (vSh 1) zak) (zbM (szF zak)))))) (zbx (zcG 7 (zbn zad 0 (zap (rP (b2 zc6 (zbU "Shop" "last_moment" zaj (vSh 1) zak) (vC (.int 1)))) (rP zak)))) (zem (rM (zap (rP (vC (.str "stock"))) (zap (rP (b2 ixD (b2 ixD (zbU "Shop" "stock_rows" zay (vSh 1) zak) (vC (.int 0))) (vC (.int 0)))) (zap (rP (vSh 7)) (zap (r2 ixD (rP (zbM (szF (zac (vC (.str "less")) (zac (vC (.str "more")) zak))))) (zbn zad 0 (zap (rP (vC (.int 2))) (rP zak)))) (rP zak))))) ze0))) zfa) (zbx (qIf (rP (toB (b2 eqD (vSh 3) (vC (.int 5))))) (zem (rP (zdj (szF (zac (vC (.str "moved")) zak))))) zfa) (zem (rM (zap (rP (vC (.str "window"))) (zap (r2 ixD (rP (vSh 2)) (zbn zad 0 (zap (rP (cF zc3 (zac (vSh 2) zak))) (rP zak)))) (rP zak))) ze0)))))))))
theorem zbN:FnScope ["_law_left_here","_law_shop_here","_law_names","_law_way","_law_low","_law_high","_law_benches_here","_law_t"] ["_law_left_here","_law_shop_here"] (zao zfv):=by trivial
theorem zjB {zaq:FQ} {zad:FQ'} {zbe:FQ'} {zav:FQ} {zaB:FQ} {zay:FQ} {zaj:FQ} (F:Dfn K mg "_law_leaf" zfv) (B:Bn mg) (c_Shop_step_names:CalM Γ P w K mg base "Shop" "step_names" 1 1 zaq) (c__law_pick:CalR Γ P w K mg base "_law_pick" 1 1 zad) (c__law_stretch:CalR Γ P w K mg base "_law_stretch" 1 2 zbe) (c_Shop_bench_names:CalM Γ P w K mg base "Shop" "bench_names" 1 1 zav) (c_Shop_job_rows:CalM Γ P w K mg base "Shop" "job_rows" 1 9 zaB) (c_Shop_stock_rows:CalM Γ P w K mg base "Shop" "stock_rows" 1 9 zay) (c_Shop_last_moment:CalM Γ P w K mg base "Shop" "last_moment" 1 1 zaj):CalR Γ P w K mg base "_law_leaf" 1 10 (zfO zaq zad zbe zav zaB zay zaj) :=
 F.calR (k:=9) zbN (fun _ _ _ _ _ _ us hl=>match us,hl with | [_,_],_=>rfl) fun f cdv A outer s H E hr =>
  (zaw (zbl 2 zbN.nd (zas (za7 c_Shop_step_names hr (by decide) (zab 1)))) (zaw (zbl 3 zbN.nd (zaG c__law_pick hr (by decide) rfl (zai (zas zaf) (zaJ zae)) lr1)) (zaw (zdS (ze2 (zbs zb7 (zab 3) zaf (zaR _))) (zaT (zbY (zb9 (zai (zas zaN) (zai (RO.re (zuR (by decide) rfl rfl (CompScope.of rfl rfl) (FvOk.of (N':=["_law_k","_law_names","_law_left_here"]) (fv:=[none,some 2,some 0]) rfl) (zf1 rfl B.z_range (zai (zdJ (zas zaf) (zaG c__law_pick hr (by decide) rfl (zai (zas zaf) (zaJ zae)) lr1)) (zaJ zae))) ⟨fun _ _ _ _ _=>⟨(zaI 0 (show (["_law_k","_law_names","_law_left_here"]:List Str).Nodup by decide +kernel)),znq,(zeF (zas (zab 1)) (zaG c__law_pick hr (by decide) rfl (zai (zas (zaA zbG rfl B.z_len (by rfl) (zaa (zab 1) zae))) (zaJ zae)) lr1))⟩⟩)) (zaJ zae)))))) zbT) (zaw (zdS (ze2 (zbs zb7 (zab 3) zaf (zaR _))) (zaw (zqf (zn2 (zeW (zd2 (by decide)) (zeW (zd2 (by decide)) zk3))) (zaG c__law_stretch hr (by decide) rfl (zai (zas (zab 1)) (zaJ zae)) lr1) (zou (n:=2) rfl (zeY (zaI 4 zbN.nd) (zeY (zaI 5 zbN.nd) zlb)))) (zaw (zbl 6 zbN.nd (zas (za7 c_Shop_bench_names hr (by decide) (zab 1)))) (zaT (zbY (zb9 (zai (zas zaN) (zai (zs4 (zas (zab 6)) (zaG c__law_pick hr (by decide) rfl (zai (zas (zaA zbG rfl B.z_len (by rfl) (zaa (zab 6) zae))) (zaJ zae)) lr1)) (zai (zas (zab 4)) (zai (zas (zab 5)) (zaJ zae)))))))))) zbT) (zaw (zdS (ze2 (DW.dt (zki (zbs zb7 (zab 3) zaf (zaR _)) (zjl (zbs (zma (zux hr)) (za7 c_Shop_job_rows hr (by decide) (zab 1)) (DO.de (zbC zae)) (zaR _)))))) (zaw (zqf (zn2 (zeW (zd2 (by decide)) (zeW (zd2 (by decide)) zk3))) (zaG c__law_stretch hr (by decide) rfl (zai (zas (zab 1)) (zaJ zae)) lr1) (zou (n:=2) rfl (zeY (zaI 4 zbN.nd) (zeY (zaI 5 zbN.nd) zlb)))) (zaT (zbY (zb9 (zai (zas zaN) (zai (zeF (zeF (zas (za7 c_Shop_job_rows hr (by decide) (zab 1))) (zaG c__law_pick hr (by decide) rfl (zai (zas (zaA zbG rfl B.z_len (by rfl) (zaa (za7 c_Shop_job_rows hr (by decide) (zab 1)) zae))) (zaJ zae)) lr1)) (zas zaf)) (zai (zas (zab 4)) (zai (zas (zab 5)) (zaJ zae))))))))) zbT) (zaw (zdS (ze2 (DW.dt (zki (zbs zb7 (zab 3) zaf (zaR _)) (zjl (zbs (zma (zux hr)) (za7 c_Shop_stock_rows hr (by decide) (zab 1)) (DO.de (zbC zae)) (zaR _)))))) (zaw (zbl 7 zbN.nd (zaG c__law_pick hr (by decide) rfl (zai (zas (zdg (za7 c_Shop_last_moment hr (by decide) (zab 1)) zaf)) (zaJ zae)) lr1)) (zaT (zbY (zb9 (zai (zas zaN) (zai (zas (zaK (zaK (za7 c_Shop_stock_rows hr (by decide) (zab 1)) zaf) zaf)) (zai (zas (zab 7)) (zai (zeF (zas (DO.de (zbC (zaa zaN (zaa zaN zae))))) (zaG c__law_pick hr (by decide) rfl (zai (zas zaf) (zaJ zae)) lr1)) (zaJ zae))))))))) zbT) (zaw (zdS (ze2 (zbs zb7 (zab 3) zaf (zaR _))) (zaT (zbY (zas (zb3 (zaa zaN zae))))) zbT) (zaT (zbY (zb9 (zai (zas zaN) (zai (zeF (zas (zab 2)) (zaG c__law_pick hr (by decide) rfl (zai (zas (zaA zbG rfl B.z_len (by rfl) (zaa (zab 2) zae))) (zaJ zae)) lr1)) (zaJ zae)))))))))))))
def zei (zad:FQ') (F__law_row:FQ') (zaQ:FQ') (zaX:FQ') (zbL:FQ'):FQ':=zja 3
  (zbx (zcG 3 (rM (zeM (rM (zap (zbn zad 0 (zap (rP (vC (.int 3))) (rP zak))) (rP zak)) zkT) (zbt 0) (rP tT) (zbn F__law_row 1 (zap (rP (vSh 2)) (zap (rP (vSh 3)) (rP zak)))) [none,some 0,some 1,some 2]) zmU)) (zbx (qIf (zqk (rP (toB (b2 gtD (vSh 2) (vC (.int 0))))) (rM (r2 eqD (zbn zad 0 (zap (rP (vC (.int 2))) (rP zak))) (rP (vC (.int 1)))) blD)) (zbx (zcG 4 (zbn zaQ 0 (zap (rP (vSh 1)) (rP zak)))) (zbx (zcG 5 (zbn zaX 0 (zap (rP (vSh 1)) (zap (rP (b2 ziX (vSh 2) (vC (.int 1)))) (rP zak))))) (zem (rM (zap (rP (vSh 3)) (zap (rM (zap (rP (vC (.str "both"))) (zap (rP (vSh 4)) (zap (rP (vSh 5)) (zap (zbn zaX 0 (zap (rP (vSh 1)) (zap (rP (b2 ziX (vSh 2) (vC (.int 1)))) (rP zak)))) (rP zak))))) ze0) (rP zak))) ze0)))) zfa) (zem (rM (zap (rP (vSh 3)) (zap (zbn zbL 0 (zap (rP (vSh 1)) (rP zak))) (rP zak))) ze0))))
theorem zdH:FnScope ["_law_left_here","_law_shop_here","_law_deep","_law_rows","_law_choice_here","_law_one"] ["_law_left_here","_law_shop_here","_law_deep"] (zao zfr):=by trivial
theorem zjx {k:Nat} {zad:FQ'} {F__law_row:FQ'} {zaQ:FQ'} {zaX:FQ'} {zbL:FQ'} (F:Dfn K mg "_law_tree" zfr) (B:Bn mg) (c__law_pick:CalR Γ P w K mg base "_law_pick" 1 1 zad) (c__law_row:CalR Γ P w K mg base "_law_row" 2 (12+k+1) F__law_row) (c__law_choice:CalR Γ P w K mg base "_law_choice" 1 2 zaQ) (c__law_tree:CalR Γ P w K mg base "_law_tree" 2 (12+k) zaX) (c__law_leaf:CalR Γ P w K mg base "_law_leaf" 1 10 zbL):CalR Γ P w K mg base "_law_tree" 2 (12+k+2) (zei zad F__law_row zaQ zaX zbL) :=
 F.calR (k:=12+k+1) zdH (fun _ _ _ _ _ _ us hl=>match us,hl with | [_,_,_],_=>rfl) fun f cdv A outer s H E hr =>
  (zaw (zq9 3 zdH.nd (by decide) (by decide) rfl rfl (CompScope.of rfl rfl) (FvOk.of (N':=["_law_k","_law_left_here","_law_shop_here","_law_deep"]) (fv:=[none,some 0,some 1,some 2]) rfl) (zf1 rfl B.z_range (zai (zaG c__law_pick hr (by omega) rfl (zai (zas zaf) (zaJ zae)) lr1) (zaJ zae))) ⟨fun _ _ _ _ _=>⟨(zaI 0 (show (["_law_k","_law_left_here","_law_shop_here","_law_deep"]:List Str).Nodup by decide +kernel)),znq,(zaG c__law_row hr (by omega) rfl (zai (zas (zab 2)) (zai (zas (zab 3)) (zaJ zae))) lr2)⟩⟩) (zaw (zdS (RW.rt (zlB (ze2 (zbs zlg (zab 2) zaf (zaR _))) (zkS (zel zb7 (zaG c__law_pick hr (by omega) rfl (zai (zas zaf) (zaJ zae)) lr1) (zas zaf) (zaR _))))) (zaw (zbl 4 zdH.nd (zaG c__law_choice hr (by omega) rfl (zai (zas (zab 1)) (zaJ zae)) lr1)) (zaw (zbl 5 zdH.nd (zaG c__law_tree hr (by omega) rfl (zai (zas (zab 1)) (zai (zas (zf8 (zab 2) zaf)) (zaJ zae))) lr2)) (zaT (zbY (zb9 (zai (zas (zab 3)) (zai (zb9 (zai (zas zaN) (zai (zas (zab 4)) (zai (zas (zab 5)) (zai (zaG c__law_tree hr (by omega) rfl (zai (zas (zab 1)) (zai (zas (zf8 (zab 2) zaf)) (zaJ zae))) lr2) (zaJ zae)))))) (zaJ zae)))))))) zbT) (zaT (zbY (zb9 (zai (zas (zab 3)) (zai (zaG c__law_leaf hr (by omega) rfl (zai (zas (zab 1)) (zaJ zae)) lr1) (zaJ zae))))))))
def zeR (zaq:FQ) (zad:FQ') (zaj:FQ) (zav:FQ) (zay:FQ) (zaB:FQ):FQ':=zja 6
  (zbx (zcG 2 (rP (zbU "Shop" "step_names" zaq (vSh 1) zak))) (zbx (zcG 3 (r2 ixD (rP (zbM (szF (zac (b2 znA (vC (.int 10)) (vC (.int 39))) (zac (b2 ziX (vC (.int 0)) (b2 znA (vC (.int 10)) (vC (.int 39)))) (zac (b1 ztK (vC (.int 1))) (zac (vC (.int 0)) zak))))))) (zbn zad 0 (zap (rP (vC (.int 4))) (rP zak))))) (zbx (zmS 4 (rP (szF (zac (zdj (szF (zac (zbM (szF zak)) (zac (zdj (szF (zac (vC (.str "ring")) (zac (zbM (szF (zac (b2 ixD (vSh 2) (vC (.int 0))) (zac (b2 ixD (vSh 2) (vC (.int 0))) (zac (b2 ixD (vSh 2) (vC (.int 0))) zak))))) zak)))) zak)))) (zac (zdj (szF (zac (zbM (szF zak)) (zac (zdj (szF (zac (vC (.str "moved")) zak))) zak)))) (zac (zdj (szF (zac (zbM (szF zak)) (zac (zdj (szF (zac (vC (.str "ring")) (zac (slF (vSh 2) pN (pS (vC (.int 1)))) zak)))) zak)))) zak)))))) (zbx (zhA 4 (rP (zdj (szF (zac (zbM (szF zak)) (zac (zdj (szF (zac (vC (.str "stretch")) (zac (b1 zsv (zbU "Shop" "bench_names" zav (vSh 1) zak)) (zac (vC (.int 0)) (zac (zbU "Shop" "last_moment" zaj (vSh 1) zak) zak)))))) zak)))))) (zbx (zjH (rP (itF (zbM (szF (zac (vC (.int 0)) (zac (zbU "Shop" "last_moment" zaj (vSh 1) zak) zak)))))) (zbt 5) (zjH (rP (itF (zbU "Shop" "stock_rows" zay (vSh 1) zak))) (zbt 6) (zhA 4 (rP (zdj (szF (zac (zbM (szF zak)) (zac (zdj (szF (zac (vC (.str "stock")) (zac (b2 ixD (vSh 6) (vC (.int 0))) (zac (vSh 5) (zac (vC (.str "more")) zak)))))) zak)))))))) (zbx (zjH (rP (itF (zbU "Shop" "job_rows" zaB (vSh 1) zak))) (zbt 6) (zhA 4 (rP (zdj (szF (zac (zbM (szF zak)) (zac (zdj (szF (zac (vC (.str "together")) (zac (b2 ixD (vSh 6) (vC (.int 0))) (zac (vC (.int 0)) (zac (zbU "Shop" "last_moment" zaj (vSh 1) zak) zak)))))) zak))))))) (zbx (zcG 7 (rP (zdj (szF (zac (vC (.str "start")) (zac (b2 ixD (vSh 2) (b1 ztK (vC (.int 1)))) (zac (vSh 3) zak))))))) (zbx (zhA 4 (rP (zdj (szF (zac (zbM (szF (zac (zdj (szF (zac (vC (.str "not")) (zac (vSh 7) (zac (vC (.int 1)) (zac (zp8 4 0) zak)))))) zak))) (zac (zdj (szF (zac (vC (.str "both")) (zac (vSh 7) (zac (zp8 4 1) (zac (zp8 4 3) zak)))))) zak)))))) (zkU 4 (zem (rP (vSh 4))))))))))))
theorem zbO:FnScope ["_law_left_here","_law_shop_here","_law_names","_law_far","_law_some","_law_t","_law_row_here","_law_choice_here"] ["_law_left_here","_law_shop_here"] (zao zeE):=by trivial
theorem zit {zaq:FQ} {zad:FQ'} {zaj:FQ} {zav:FQ} {zay:FQ} {zaB:FQ} (F:Dfn K mg "_law_edges" zeE) (B:Bn mg) (c_Shop_step_names:CalM Γ P w K mg base "Shop" "step_names" 1 1 zaq) (c__law_pick:CalR Γ P w K mg base "_law_pick" 1 1 zad) (c_Shop_last_moment:CalM Γ P w K mg base "Shop" "last_moment" 1 1 zaj) (c_Shop_bench_names:CalM Γ P w K mg base "Shop" "bench_names" 1 1 zav) (c_Shop_stock_rows:CalM Γ P w K mg base "Shop" "stock_rows" 1 9 zay) (c_Shop_job_rows:CalM Γ P w K mg base "Shop" "job_rows" 1 9 zaB):CalR Γ P w K mg base "_law_edges" 1 10 (zeR zaq zad zaj zav zay zaB) :=
 F.calR (k:=9) zbO (fun _ _ _ _ _ _ us hl=>match us,hl with | [_,_],_=>rfl) fun f cdv A outer s H E hr =>
  (zaw (zbl 2 zbO.nd (zas (za7 c_Shop_step_names hr (by decide) (zab 1)))) (zaw (zbl 3 zbO.nd (zeF (zas (DO.de (zbC (zaa (ziO zaf zaf) (zaa (zf8 zaf (ziO zaf zaf)) (zaa (zoA zaf) (zaa zaf zae))))))) (zaG c__law_pick hr (by decide) rfl (zai (zas zaf) (zaJ zae)) lr1))) (zaw (zhy 4 zbO.nd (zpg (zbC (zaa (zb3 (zaa (DO.de (zbC zae)) (zaa (zb3 (zaa zaN (zaa (DO.de (zbC (zaa (zaK (zab 2) zaf) (zaa (zaK (zab 2) zaf) (zaa (zaK (zab 2) zaf) zae))))) zae))) zae))) (zaa (zb3 (zaa (DO.de (zbC zae)) (zaa (zb3 (zaa zaN zae)) zae))) (zaa (zb3 (zaa (DO.de (zbC zae)) (zaa (zb3 (zaa zaN (zaa (zeZ (zab 2) zgA (zgz zaf)) zae))) zae))) zae)))))) (zaw (zcE 4 (zas (zb3 (zaa (DO.de (zbC zae)) (zaa (zb3 (zaa zaN (zaa (zqL (za7 c_Shop_bench_names hr (by decide) (zab 1))) (zaa zaf (zaa (za7 c_Shop_last_moment hr (by decide) (zab 1)) zae))))) zae))))) (zaw (zhz (zd2 (by decide)) PassesOwn.never rfl (zms (zbb (DO.de (zbC (zaa zaf (zaa (za7 c_Shop_last_moment hr (by decide) (zab 1)) zae)))))) (zaI 5 zbO.nd) (zaT (zhz (zd2 (by decide)) PassesOwn.never rfl (zms (zbb (za7 c_Shop_stock_rows hr (by decide) (zab 1)))) (zaI 6 zbO.nd) (zaT (zcE 4 (zas (zb3 (zaa (DO.de (zbC zae)) (zaa (zb3 (zaa zaN (zaa (zaK (zab 6) zaf) (zaa (zab 5) (zaa zaN zae))))) zae))))))))) (zaw (zhz (zd2 (by decide)) PassesOwn.never rfl (zms (zbb (za7 c_Shop_job_rows hr (by decide) (zab 1)))) (zaI 6 zbO.nd) (zaT (zcE 4 (zas (zb3 (zaa (DO.de (zbC zae)) (zaa (zb3 (zaa zaN (zaa (zaK (zab 6) zaf) (zaa zaf (zaa (za7 c_Shop_last_moment hr (by decide) (zab 1)) zae))))) zae))))))) (zaw (zbl 7 zbO.nd (zas (zb3 (zaa zaN (zaa (zaK (zab 2) (zoA zaf)) (zaa (zab 3) zae)))))) (zaw (zcE 4 (zas (zb3 (zaa (DO.de (zbC (zaa (zb3 (zaa zaN (zaa (zab 7) (zaa zaf (zaa (zoy 4 0) zae))))) zae))) (zaa (zb3 (zaa zaN (zaa (zab 7) (zaa (zoy 4 1) (zaa (zoy 4 3) zae))))) zae))))) (zfx 4 (zaT (zbY (zas (zab 4)))))))))))))
def zcB (zaq:FQ) (zav:FQ) (zaB:FQ) (zay:FQ) (zaj:FQ):FQ:=zqe 0 "TreeNames"
  (zba (zdQ "TreeNames" "steps" 0 (zbU "Shop" "step_names" zaq (vSh 1) zak)) (zba (zdQ "TreeNames" "benches" 0 (zbU "Shop" "bench_names" zav (vSh 1) zak)) (zba (zdQ "TreeNames" "jobs" 0 (zbM (zbz (itF (zbU "Shop" "job_rows" zaB (vSh 1) zak)) (zbt 0) tT (b2 ixD (vSh 0) (vC (.int 0))) [none]))) (zba (zdQ "TreeNames" "stocks" 0 (zbM (zbz (itF (zbU "Shop" "stock_rows" zay (vSh 1) zak)) (zbt 0) tT (b2 ixD (vSh 0) (vC (.int 0))) [none]))) (zdQ "TreeNames" "horizon" 0 (zbU "Shop" "last_moment" zaj (vSh 1) zak))))))
theorem zew:FnScope ["self","shop"] ["self","shop"] (zao zcz):=by trivial
theorem zes {zaq:FQ} {zav:FQ} {zaB:FQ} {zay:FQ} {zaj:FQ} {C:Addr} (O:ClsOk Γ K mg "TreeNames" C) (F:DfnM K C "TreeNames" "__init__" "TreeNames.__init__" zcz) (B:Bn mg) (c_Shop_step_names:CalM Γ P w K mg base "Shop" "step_names" 1 1 zaq) (c_Shop_bench_names:CalM Γ P w K mg base "Shop" "bench_names" 1 1 zav) (c_Shop_job_rows:CalM Γ P w K mg base "Shop" "job_rows" 1 9 zaB) (c_Shop_stock_rows:CalM Γ P w K mg base "Shop" "stock_rows" 1 9 zay) (c_Shop_last_moment:CalM Γ P w K mg base "Shop" "last_moment" 1 1 zaj) (cf_TreeNames:CF Γ K "TreeNames" zck):CalI Γ P w K mg base "TreeNames" 1 10 (zcB zaq zav zaB zay zaj) :=
 DfnM.calI (k:=9) O F zew (fun _ _ _ _ _ _ us hl=>match us,hl with | [_,_],_=>rfl) fun f y cdv A outer s H E hr =>
  (zat (zcI 0 (cf_TreeNames.re y) (.head _) (za7 (c_Shop_step_names.re y) hr (by decide) (zab 1))) (zat (zcI 0 (cf_TreeNames.re y) (.tail _ (.head _)) (za7 (c_Shop_bench_names.re y) hr (by decide) (zab 1))) (zat (zcI 0 (cf_TreeNames.re y) (.tail _ (.tail _ (.head _))) (DO.de (zcQ rfl (CompScope.of rfl rfl) (FvOk.of (N':=["row"]) (fv:=[none]) rfl) (zbb (za7 (c_Shop_job_rows.re y) hr (by decide) (zab 1))) ⟨fun _ _ _ _ _=>⟨(zaI 0 (show (["row"]:List Str).Nodup by decide +kernel)),za6,(zaK (zab 0) zaf)⟩⟩))) (zat (zcI 0 (cf_TreeNames.re y) (.tail _ (.tail _ (.tail _ (.head _)))) (DO.de (zcQ rfl (CompScope.of rfl rfl) (FvOk.of (N':=["row"]) (fv:=[none]) rfl) (zbb (za7 (c_Shop_stock_rows.re y) hr (by decide) (zab 1))) ⟨fun _ _ _ _ _=>⟨(zaI 0 (show (["row"]:List Str).Nodup by decide +kernel)),za6,(zaK (zab 0) zaf)⟩⟩))) (zau (zcI 0 (cf_TreeNames.re y) (.tail _ (.tail _ (.tail _ (.tail _ (.head _))))) (za7 (c_Shop_last_moment.re y) hr (by decide) (zab 1))))))))
def zh6:FQ:=zcp 0
  (zba (sIf (zmO (toB (cF zgt (zac (vSh 0) (zac (vC (.ty "tuple")) zak)))) (zmO (toB (b2 gtD (cF zc3 (zac (vSh 0) zak)) (vC (.int 0)))) (toB (cF zgt (zac (b2 ixD (vSh 0) (vC (.int 0))) (zac (vC (.ty "str")) zak)))))) (zbw (b2 ixD (vSh 0) (vC (.int 0)))) zcA) (zbw (vC (.str ""))))
theorem zmk:FnScope ["thing"] ["thing"] (zao zhq):=by trivial
theorem zli (F:Dfn K mg "word_of" zhq) (B:Bn mg)  : Cal Γ P w K mg base "word_of" 1 1 (zh6) :=
 F.cal (k:=0) zmk (fun _ _ _ _ _ _ us hl=>match us,hl with | [_],_=>rfl) fun f cdv A outer s H E hr =>
  (zat (zbB (DW.dt (zki (zaS (zaA zd5 rfl B.z_isinstance (by rfl) (zaa (zab 0) (zaa (zgB rfl B.z_tuple (by rfl)) zae)))) (zki (zbs zlg (zaA zbG rfl B.z_len (by rfl) (zaa (zab 0) zae)) zaf (zaR _)) (zjl (zaS (zaA zd5 rfl B.z_isinstance (by rfl) (zaa (zaK (zab 0) zaf) (zaa (zgB rfl B.z_str (by rfl)) zae)))))))) (zau (zaD (zaK (zab 0) zaf))) zaO) (zau (zaD zaN)))
def zfJ (zaM:FQ) (zan:FQ) (zag:FQ) (zbq:FQ):FQ:=zcp 1
  (zba (zfQ 2 (cF zaM (zac (vSh 1) zak))) (zba (sIf (toB (b2 eqD (vSh 2) (vC (.str "keep")))) (zbw (zc5 (cF zag (zac (vSh 1) (zac (vC (.int 2)) zak))) (cF zan (zac (b2 ixD (vSh 1) (vC (.int 1))) (zac (zgZ "TreeNames" "steps" (vSh 0)) zak))))) zcA) (zba (sIf (orT (zca (toB (cF zag (zac (vSh 1) (zac (vC (.int 3)) zak))))) (zca (toB (cF zan (zac (b2 ixD (vSh 1) (vC (.int 1))) (zac (zgZ "TreeNames" "steps" (vSh 0)) zak)))))) (zbw (vC (.bl false))) zcA) (zba (sIf (toB (b2 eqD (vSh 2) (vC (.str "start")))) (zbw (cF zbq (zac (b2 ixD (vSh 1) (vC (.int 2))) zak))) zcA) (zba (sIf (toB (b2 eqD (vSh 2) (vC (.str "on")))) (zbw (cF zan (zac (b2 ixD (vSh 1) (vC (.int 2))) (zac (zgZ "TreeNames" "benches" (vSh 0)) zak)))) zcA) (zbw (zc5 (b2 eqD (vSh 2) (vC (.str "order"))) (cF zan (zac (b2 ixD (vSh 1) (vC (.int 2))) (zac (zgZ "TreeNames" "steps" (vSh 0)) zak))))))))))
theorem zgU:FnScope ["names","thing","word"] ["names","thing"] (zao zfn):=by trivial
theorem zjt {zaM:FQ} {zan:FQ} {zag:FQ} {zbq:FQ} (F:Dfn K mg "is_choice" zfn) (B:Bn mg) (c_word_of:Cal Γ P w K mg base "word_of" 1 1 zaM) (c_is_one_of:Cal Γ P w K mg base "is_one_of" 2 2 zan) (c_is_tuple:Cal Γ P w K mg base "is_tuple" 2 1 zag) (c_is_whole:Cal Γ P w K mg base "is_whole" 1 1 zbq) (cf_TreeNames:CF Γ K "TreeNames" zck):Cal Γ P w K mg base "is_choice" 2 3 (zfJ zaM zan zag zbq) :=
 F.cal (k:=2) zgU (fun _ _ _ _ _ _ us hl=>match us,hl with | [_,_],_=>rfl) fun f cdv A outer s H E hr =>
  (zat (zdC 2 zgU.nd (dC c_word_of hr (zaa (zab 1) zae) ln1)) (zat (zbB (zbs zb7 (zab 2) zaN (zaR _)) (zau (zaD (zbi (dC c_is_tuple hr (zaa (zab 1) (zaa zaf zae)) ln2) (zb1 (dC c_is_one_of hr (zaa (zaK (zab 1) zaf) (zaa (zcM cf_TreeNames (.head _) (zab 0)) zae)) ln2))))) zaO) (zat (zbB (DW.dt (zdf (zaU (zaS (dC c_is_tuple hr (zaa (zab 1) (zaa zaf zae)) ln2))) (zcx (zaU (zaS (dC c_is_one_of hr (zaa (zaK (zab 1) zaf) (zaa (zcM cf_TreeNames (.head _) (zab 0)) zae)) ln2)))))) (zau (zaD zdD)) zaO) (zat (zbB (zbs zb7 (zab 2) zaN (zaR _)) (zau (zaD (dC c_is_whole hr (zaa (zaK (zab 1) zaf) zae) ln1))) zaO) (zat (zbB (zbs zb7 (zab 2) zaN (zaR _)) (zau (zaD (dC c_is_one_of hr (zaa (zaK (zab 1) zaf) (zaa (zcM cf_TreeNames (.tail _ (.head _)) (zab 0)) zae)) ln2))) zaO) (zau (zaD (zbi (zdK zb7 (zab 2) zaN (zaR _)) (zb1 (dC c_is_one_of hr (zaa (zaK (zab 1) zaf) (zaa (zcM cf_TreeNames (.head _) (zab 0)) zae)) ln2))))))))))
def zhi (zal:FQ) (zbc:FQ) (zag:FQ) (zaM:FQ):FQ:=zcp 0
  (zbw (zc5 (b2 eqD (cF zaM (zac (vSh 1) zak)) (vC (.str "not"))) (zc5 (cF zag (zac (vSh 1) (zac (vC (.int 4)) zak))) (zc5 (cF zbc (zac (vSh 0) (zac (b2 ixD (vSh 1) (vC (.int 1))) zak))) (cF zal (zac (b2 ixD (vSh 1) (vC (.int 2))) (zac (vC (.int 0)) (zac (vC (.int 1)) zak))))))))
theorem znk:FnScope ["names","thing"] ["names","thing"] (zao zi8):=by trivial
theorem zmK {zal:FQ} {zbc:FQ} {zag:FQ} {zaM:FQ} (F:Dfn K mg "is_not" zi8) (B:Bn mg) (c_is_within:Cal Γ P w K mg base "is_within" 3 2 zal) (c_is_choice:Cal Γ P w K mg base "is_choice" 2 3 zbc) (c_is_tuple:Cal Γ P w K mg base "is_tuple" 2 1 zag) (c_word_of:Cal Γ P w K mg base "word_of" 1 1 zaM):Cal Γ P w K mg base "is_not" 2 4 (zhi zal zbc zag zaM) :=
 F.cal (k:=3) znk (fun _ _ _ _ _ _ us hl=>match us,hl with | [_,_],_=>rfl) fun f cdv A outer s H E hr =>
  (zau (zaD (zbi (zdK zb7 (dC c_word_of hr (zaa (zab 1) zae) ln1) zaN (zaR _)) (zbi (dC c_is_tuple hr (zaa (zab 1) (zaa zaf zae)) ln2) (zbi (dC c_is_choice hr (zaa (zab 0) (zaa (zaK (zab 1) zaf) zae)) ln2) (zb1 (dC c_is_within hr (zaa (zaK (zab 1) zaf) (zaa zaf (zaa zaf zae))) ln3)))))))
def zjG (zaM:FQ) (zan:FQ) (zag:FQ):FQ:=zcp 1
  (zba (zfQ 2 (cF zaM (zac (vSh 1) zak))) (zba (sIf (toB (b2 zoV (vSh 2) (zdj (szF (zac (vC (.str "low")) (zac (vC (.str "high")) zak)))))) (zbw (zc5 (cF zag (zac (vSh 1) (zac (vC (.int 3)) zak))) (zc5 (cF zan (zac (b2 ixD (vSh 1) (vC (.int 1))) (zac (zgZ "TreeNames" "steps" (vSh 0)) zak))) (cF zan (zac (b2 ixD (vSh 1) (vC (.int 2))) (zac (zgZ "TreeNames" "steps" (vSh 0)) zak)))))) zcA) (zbw (zc5 (b2 eqD (vSh 2) (vC (.str "fit"))) (zc5 (cF zag (zac (vSh 1) (zac (vC (.int 2)) zak))) (cF zan (zac (b2 ixD (vSh 1) (vC (.int 1))) (zac (zgZ "TreeNames" "steps" (vSh 0)) zak))))))))
theorem zjT:FnScope ["names","thing","word"] ["names","thing"] (zao zi7):=by trivial
theorem zmJ {zaM:FQ} {zan:FQ} {zag:FQ} (F:Dfn K mg "is_row" zi7) (B:Bn mg) (c_word_of:Cal Γ P w K mg base "word_of" 1 1 zaM) (c_is_one_of:Cal Γ P w K mg base "is_one_of" 2 2 zan) (c_is_tuple:Cal Γ P w K mg base "is_tuple" 2 1 zag) (cf_TreeNames:CF Γ K "TreeNames" zck):Cal Γ P w K mg base "is_row" 2 3 (zjG zaM zan zag) :=
 F.cal (k:=2) zjT (fun _ _ _ _ _ _ us hl=>match us,hl with | [_,_],_=>rfl) fun f cdv A outer s H E hr =>
  (zat (zdC 2 zjT.nd (dC c_word_of hr (zaa (zab 1) zae) ln1)) (zat (zbB (zbs (zqO (zqD hr)) (zab 2) (zb3 (zaa zaN (zaa zaN zae))) (by rfl)) (zau (zaD (zbi (dC c_is_tuple hr (zaa (zab 1) (zaa zaf zae)) ln2) (zbi (dC c_is_one_of hr (zaa (zaK (zab 1) zaf) (zaa (zcM cf_TreeNames (.head _) (zab 0)) zae)) ln2) (zb1 (dC c_is_one_of hr (zaa (zaK (zab 1) zaf) (zaa (zcM cf_TreeNames (.head _) (zab 0)) zae)) ln2)))))) zaO) (zau (zaD (zbi (zdK zb7 (zab 2) zaN (zaR _)) (zbi (dC c_is_tuple hr (zaa (zab 1) (zaa zaf zae)) ln2) (zb1 (dC c_is_one_of hr (zaa (zaK (zab 1) zaf) (zaa (zcM cf_TreeNames (.head _) (zab 0)) zae)) ln2))))))))
def zgb (zbc:FQ) (zag:FQ) (zaM:FQ):FQ:=zcp 0
  (zbw (zc5 (b2 eqD (cF zaM (zac (vSh 1) zak)) (vC (.str "both"))) (zc5 (cF zag (zac (vSh 1) (zac (vC (.int 4)) zak))) (cF zbc (zac (vSh 0) (zac (b2 ixD (vSh 1) (vC (.int 1))) zak))))))
theorem zmp:FnScope ["names","thing"] ["names","thing"] (zao zhx):=by trivial
theorem zlo {zbc:FQ} {zag:FQ} {zaM:FQ} (F:Dfn K mg "is_both" zhx) (B:Bn mg) (c_is_choice:Cal Γ P w K mg base "is_choice" 2 3 zbc) (c_is_tuple:Cal Γ P w K mg base "is_tuple" 2 1 zag) (c_word_of:Cal Γ P w K mg base "word_of" 1 1 zaM):Cal Γ P w K mg base "is_both" 2 4 (zgb zbc zag zaM) :=
 F.cal (k:=3) zmp (fun _ _ _ _ _ _ us hl=>match us,hl with | [_,_],_=>rfl) fun f cdv A outer s H E hr =>
  (zau (zaD (zbi (zdK zb7 (dC c_word_of hr (zaa (zab 1) zae) ln1) zaN (zaR _)) (zbi (dC c_is_tuple hr (zaa (zab 1) (zaa zaf zae)) ln2) (zb1 (dC c_is_choice hr (zaa (zab 0) (zaa (zaK (zab 1) zaf) zae)) ln2))))))
def zeh (zan:FQ):FQ:=zcp 0
  (zbw (zc5 (cF zgt (zac (vSh 0) (zac (vC (.ty "list")) zak))) (zc5 (b2 gtD (cF zc3 (zac (vSh 0) zak)) (vC (.int 0))) (cF zjJ (zac (zbM (zbz (itF (vSh 0)) (zbt 0) tT (cF zan (zac (vSh 0) (zac (vSh 1) zak))) [none,some 1])) zak)))))
theorem zid:FnScope ["things","names"] ["things","names"] (zao zeb):=by trivial
theorem zhW {zan:FQ} (F:Dfn K mg "are_some_of" zeb) (B:Bn mg) (c_is_one_of:Cal Γ P w K mg base "is_one_of" 2 2 zan):Cal Γ P w K mg base "are_some_of" 2 3 (zeh zan) :=
 F.cal (k:=2) zid (fun _ _ _ _ _ _ us hl=>match us,hl with | [_,_],_=>rfl) fun f cdv A outer s H E hr =>
  (zau (zaD (zbi (zaA zd5 rfl B.z_isinstance (by rfl) (zaa (zab 0) (zaa (zgB rfl B.z_list (by rfl)) zae))) (zbi (zdK zlg (zaA zbG rfl B.z_len (by rfl) (zaa (zab 0) zae)) zaf (zaR _)) (zb1 (zaA (zd6 rfl) rfl B.z_all (by rfl) (zaa (DO.de (zcQ rfl (CompScope.of rfl rfl) (FvOk.of (N':=["name","names"]) (fv:=[none,some 1]) rfl) (zbb (zab 0)) ⟨fun _ _ _ _ _=>⟨(zaI 0 (show (["name","names"]:List Str).Nodup by decide +kernel)),za6,(dC c_is_one_of hr (zaa (zab 0) (zaa (zab 1) zae)) ln2)⟩⟩)) zae)))))))
def zgP (zal:FQ):FQ:=zcp 0
  (zbw (zc5 (cF zal (zac (vSh 0) (zac (vC (.int 0)) (zac (vSh 2) zak)))) (zc5 (cF zal (zac (vSh 1) (zac (vC (.int 0)) (zac (vSh 2) zak)))) (b2 ltD (vSh 0) (vSh 1)))))
theorem zkQ:FnScope ["l","r","horizon"] ["l","r","horizon"] (zao zgo):=by trivial
theorem zkA {zal:FQ} (F:Dfn K mg "are_ends" zgo) (B:Bn mg) (c_is_within:Cal Γ P w K mg base "is_within" 3 2 zal):Cal Γ P w K mg base "are_ends" 3 3 (zgP zal) :=
 F.cal (k:=2) zkQ (fun _ _ _ _ _ _ us hl=>match us,hl with | [_,_,_],_=>rfl) fun f cdv A outer s H E hr =>
  (zau (zaD (zbi (dC c_is_within hr (zaa (zab 0) (zaa zaf (zaa (zab 2) zae))) ln3) (zbi (dC c_is_within hr (zaa (zab 1) (zaa zaf (zaa (zab 2) zae))) ln3) (zb1 (zdK zlf (zab 0) (zab 1) (zaR _)))))))
def zeO (zbr:FQ) (zam:FQ) (zaW:FQ):FQ:=zcp 0
  (zbw (zc5 (cF zaW (zac (vSh 1) (zac (zgZ "TreeNames" "benches" (vSh 0)) zak))) (zc5 (cF zam (zac (vSh 1) zak)) (cF zbr (zac (vSh 2) (zac (vSh 3) (zac (zgZ "TreeNames" "horizon" (vSh 0)) zak)))))))
theorem zi1:FnScope ["names","benches","l","r"] ["names","benches","l","r"] (zao zex):=by trivial
theorem zil {zbr:FQ} {zam:FQ} {zaW:FQ} (F:Dfn K mg "is_stretch" zex) (B:Bn mg) (c_are_ends:Cal Γ P w K mg base "are_ends" 3 3 zbr) (c_are_unlike:Cal Γ P w K mg base "are_unlike" 1 1 zam) (c_are_some_of:Cal Γ P w K mg base "are_some_of" 2 3 zaW) (cf_TreeNames:CF Γ K "TreeNames" zck):Cal Γ P w K mg base "is_stretch" 4 4 (zeO zbr zam zaW) :=
 F.cal (k:=3) zi1 (fun _ _ _ _ _ _ us hl=>match us,hl with | [_,_,_,_],_=>rfl) fun f cdv A outer s H E hr =>
  (zau (zaD (zbi (dC c_are_some_of hr (zaa (zab 1) (zaa (zcM cf_TreeNames (.tail _ (.head _)) (zab 0)) zae)) ln2) (zbi (dC c_are_unlike hr (zaa (zab 1) zae) ln1) (zb1 (dC c_are_ends hr (zaa (zab 2) (zaa (zab 3) (zaa (zcM cf_TreeNames (.tail _ (.tail _ (.tail _ (.tail _ (.head _))))) (zab 0)) zae))) ln3))))))
def zdF (zal:FQ) (zan:FQ):FQ:=zcp 0
  (zba (sIf (orT (zca (toB (cF zan (zac (vSh 1) (zac (zgZ "TreeNames" "stocks" (vSh 0)) zak))))) (zca (toB (cF zal (zac (vSh 2) (zac (vC (.int 0)) (zac (zgZ "TreeNames" "horizon" (vSh 0)) zak))))))) (zbw (vC (.bl false))) zcA) (zbw (zc5 (cF zgt (zac (vSh 3) (zac (vC (.ty "str")) zak))) (b2 zoV (vSh 3) (zdj (szF (zac (vC (.str "less")) (zac (vC (.str "more")) zak))))))))
theorem zg7:FnScope ["names","stock","t","word"] ["names","stock","t","word"] (zao zdw):=by trivial
theorem zgD {zal:FQ} {zan:FQ} (F:Dfn K mg "is_stock_leaf" zdw) (B:Bn mg) (c_is_within:Cal Γ P w K mg base "is_within" 3 2 zal) (c_is_one_of:Cal Γ P w K mg base "is_one_of" 2 2 zan) (cf_TreeNames:CF Γ K "TreeNames" zck):Cal Γ P w K mg base "is_stock_leaf" 4 3 (zdF zal zan) :=
 F.cal (k:=2) zg7 (fun _ _ _ _ _ _ us hl=>match us,hl with | [_,_,_,_],_=>rfl) fun f cdv A outer s H E hr =>
  (zat (zbB (DW.dt (zdf (zaU (zaS (dC c_is_one_of hr (zaa (zab 1) (zaa (zcM cf_TreeNames (.tail _ (.tail _ (.tail _ (.head _)))) (zab 0)) zae)) ln2))) (zcx (zaU (zaS (dC c_is_within hr (zaa (zab 2) (zaa zaf (zaa (zcM cf_TreeNames (.tail _ (.tail _ (.tail _ (.tail _ (.head _))))) (zab 0)) zae))) ln3)))))) (zau (zaD zdD)) zaO) (zau (zaD (zbi (zaA zd5 rfl B.z_isinstance (by rfl) (zaa (zab 3) (zaa (zgB rfl B.z_str (by rfl)) zae))) (zb1 (zdK (zqO (zqD hr)) (zab 3) (zb3 (zaa zaN (zaa zaN zae))) (by rfl)))))))
def zia (zaM:FQ) (zag:FQ) (zan:FQ) (zaW:FQ) (zbQ:FQ) (zbr:FQ) (zbj:FQ):FQ:=zcp 1
  (zba (zfQ 2 (cF zaM (zac (vSh 1) zak))) (zba (sIf (toB (b2 eqD (vSh 2) (vC (.str "moved")))) (zbw (cF zag (zac (vSh 1) (zac (vC (.int 1)) zak)))) zcA) (zba (sIf (toB (b2 eqD (vSh 2) (vC (.str "window")))) (zbw (zc5 (cF zag (zac (vSh 1) (zac (vC (.int 2)) zak))) (cF zan (zac (b2 ixD (vSh 1) (vC (.int 1))) (zac (zgZ "TreeNames" "steps" (vSh 0)) zak))))) zcA) (zba (sIf (toB (b2 eqD (vSh 2) (vC (.str "ring")))) (zbw (zc5 (cF zag (zac (vSh 1) (zac (vC (.int 2)) zak))) (cF zaW (zac (b2 ixD (vSh 1) (vC (.int 1))) (zac (zgZ "TreeNames" "steps" (vSh 0)) zak))))) zcA) (zba (sIf (zca (toB (cF zag (zac (vSh 1) (zac (vC (.int 4)) zak))))) (zbw (vC (.bl false))) zcA) (zba (sIf (toB (b2 eqD (vSh 2) (vC (.str "stretch")))) (zbw (cF zbQ (zac (vSh 0) (zac (b2 ixD (vSh 1) (vC (.int 1))) (zac (b2 ixD (vSh 1) (vC (.int 2))) (zac (b2 ixD (vSh 1) (vC (.int 3))) zak)))))) zcA) (zba (sIf (toB (b2 eqD (vSh 2) (vC (.str "together")))) (zbw (zc5 (cF zan (zac (b2 ixD (vSh 1) (vC (.int 1))) (zac (zgZ "TreeNames" "jobs" (vSh 0)) zak))) (cF zbr (zac (b2 ixD (vSh 1) (vC (.int 2))) (zac (b2 ixD (vSh 1) (vC (.int 3))) (zac (zgZ "TreeNames" "horizon" (vSh 0)) zak)))))) zcA) (zbw (zc5 (b2 eqD (vSh 2) (vC (.str "stock"))) (cF zbj (zac (vSh 0) (zac (b2 ixD (vSh 1) (vC (.int 1))) (zac (b2 ixD (vSh 1) (vC (.int 2))) (zac (b2 ixD (vSh 1) (vC (.int 3))) zak))))))))))))))
theorem ziD:FnScope ["names","thing","word"] ["names","thing"] (zao zhw):=by trivial
theorem zln {zaM:FQ} {zag:FQ} {zan:FQ} {zaW:FQ} {zbQ:FQ} {zbr:FQ} {zbj:FQ} (F:Dfn K mg "is_leaf" zhw) (B:Bn mg) (c_word_of:Cal Γ P w K mg base "word_of" 1 1 zaM) (c_is_tuple:Cal Γ P w K mg base "is_tuple" 2 1 zag) (c_is_one_of:Cal Γ P w K mg base "is_one_of" 2 2 zan) (c_are_some_of:Cal Γ P w K mg base "are_some_of" 2 3 zaW) (c_is_stretch:Cal Γ P w K mg base "is_stretch" 4 4 zbQ) (c_are_ends:Cal Γ P w K mg base "are_ends" 3 3 zbr) (c_is_stock_leaf:Cal Γ P w K mg base "is_stock_leaf" 4 3 zbj) (cf_TreeNames:CF Γ K "TreeNames" zck):Cal Γ P w K mg base "is_leaf" 2 5 (zia zaM zag zan zaW zbQ zbr zbj) :=
 F.cal (k:=4) ziD (fun _ _ _ _ _ _ us hl=>match us,hl with | [_,_],_=>rfl) fun f cdv A outer s H E hr =>
  (zat (zdC 2 ziD.nd (dC c_word_of hr (zaa (zab 1) zae) ln1)) (zat (zbB (zbs zb7 (zab 2) zaN (zaR _)) (zau (zaD (dC c_is_tuple hr (zaa (zab 1) (zaa zaf zae)) ln2))) zaO) (zat (zbB (zbs zb7 (zab 2) zaN (zaR _)) (zau (zaD (zbi (dC c_is_tuple hr (zaa (zab 1) (zaa zaf zae)) ln2) (zb1 (dC c_is_one_of hr (zaa (zaK (zab 1) zaf) (zaa (zcM cf_TreeNames (.head _) (zab 0)) zae)) ln2))))) zaO) (zat (zbB (zbs zb7 (zab 2) zaN (zaR _)) (zau (zaD (zbi (dC c_is_tuple hr (zaa (zab 1) (zaa zaf zae)) ln2) (zb1 (dC c_are_some_of hr (zaa (zaK (zab 1) zaf) (zaa (zcM cf_TreeNames (.head _) (zab 0)) zae)) ln2))))) zaO) (zat (zbB (zaU (zaS (dC c_is_tuple hr (zaa (zab 1) (zaa zaf zae)) ln2))) (zau (zaD zdD)) zaO) (zat (zbB (zbs zb7 (zab 2) zaN (zaR _)) (zau (zaD (dC c_is_stretch hr (zaa (zab 0) (zaa (zaK (zab 1) zaf) (zaa (zaK (zab 1) zaf) (zaa (zaK (zab 1) zaf) zae)))) ln4))) zaO) (zat (zbB (zbs zb7 (zab 2) zaN (zaR _)) (zau (zaD (zbi (dC c_is_one_of hr (zaa (zaK (zab 1) zaf) (zaa (zcM cf_TreeNames (.tail _ (.tail _ (.head _))) (zab 0)) zae)) ln2) (zb1 (dC c_are_ends hr (zaa (zaK (zab 1) zaf) (zaa (zaK (zab 1) zaf) (zaa (zcM cf_TreeNames (.tail _ (.tail _ (.tail _ (.tail _ (.head _))))) (zab 0)) zae))) ln3))))) zaO) (zau (zaD (zbi (zdK zb7 (zab 2) zaN (zaR _)) (zb1 (dC c_is_stock_leaf hr (zaa (zab 0) (zaa (zaK (zab 1) zaf) (zaa (zaK (zab 1) zaf) (zaa (zaK (zab 1) zaf) zae)))) ln4))))))))))))
def zgI (zcu:FQ) (zdd:FQ) (zcc:FQ) (zc1:FQ):FQ:=zcp 3
  (zba (zmr 2 (szF zak)) (zba (zig (itF (b2 ixD (vSh 1) (vC (.int 0)))) (zbt 3) (sIf (toB (cF zcu (zac (vSh 0) (zac (vSh 3) zak)))) (zst 2 (b2 ixD (vSh 3) (vC (.int 3)))) (sIf (zca (toB (cF zdd (zac (vSh 0) (zac (vSh 3) zak))))) sNo zcA))) (zba (zfQ 4 (b2 ixD (vSh 1) (vC (.int 1)))) (zba (sIf (toB (cF zcc (zac (vSh 0) (zac (vSh 4) zak)))) (znm 2 (zbM (szF (zac (b2 ixD (vSh 4) (vC (.int 2))) (zac (b2 ixD (vSh 4) (vC (.int 3))) zak))))) (sIf (zca (toB (cF zc1 (zac (vSh 0) (zac (vSh 4) zak))))) sNo zcA)) (zoS 2 (zbw (vSh 2)))))))
theorem zea:FnScope ["names","tree","inner","row","end"] ["names","tree"] (zao zgf):=by trivial
theorem zkr {zcu:FQ} {zdd:FQ} {zcc:FQ} {zc1:FQ} (F:Dfn K mg "trees_in" zgf) (B:Bn mg) (c_is_not:Cal Γ P w K mg base "is_not" 2 4 zcu) (c_is_row:Cal Γ P w K mg base "is_row" 2 3 zdd) (c_is_both:Cal Γ P w K mg base "is_both" 2 4 zcc) (c_is_leaf:Cal Γ P w K mg base "is_leaf" 2 5 zc1):Cal Γ P w K mg base "trees_in" 2 6 (zgI zcu zdd zcc zc1) :=
 F.cal (k:=5) zea (fun _ _ _ _ _ _ us hl=>match us,hl with | [_,_],_=>rfl) fun f cdv A outer s H E hr =>
  (zat (zl2 2 zea.nd (zbC zae)) (zat (ziN PassesOwn.never rfl (zbb (zaK (zab 1) zaf)) (zaI 3 zea.nd) (zau (zbB (zaS (dC c_is_not hr (zaa (zab 0) (zaa (zab 3) zae)) ln2)) (zau (zoo 2 (zaK (zab 3) zaf))) (zau (zbB (zaU (zaS (dC c_is_row hr (zaa (zab 0) (zaa (zab 3) zae)) ln2))) (zau zmE) zaO))))) (zat (zdC 4 zea.nd (zaK (zab 1) zaf)) (zat (zbB (zaS (dC c_is_both hr (zaa (zab 0) (zaa (zab 4) zae)) ln2)) (zau (zhS 2 (DO.de (zbC (zaa (zaK (zab 4) zaf) (zaa (zaK (zab 4) zaf) zae)))))) (zau (zbB (zaU (zaS (dC c_is_leaf hr (zaa (zab 0) (zaa (zab 4) zae)) ln2))) (zau zmE) zaO))) (zk9 2 (zau (zaD (zab 2))))))))
def zdX (zaV:FQ) (zag:FQ) (zce:FQ):FQ:=zcp 6
  (zba (zfQ 2 (cF zaV (zac (vSh 0) zak))) (zba (zfQ 3 (vC (.int 0))) (zba (zfQ 4 (zbM (szF (zac (vSh 1) zak)))) (zba (zfQ 5 (vC (.int 1))) (whL (toB (b2 gtD (cF zc3 (zac (vSh 4) zak)) (vC (.int 0)))) (zba (sIf (toB (b2 gtD (vSh 5) (vC (.int 40)))) sNo zcA) (zba (zmr 6 (szF zak)) (zba (zig (itF (vSh 4)) (zbt 7) (zba (sIf (orT (zca (toB (cF zag (zac (vSh 7) (zac (vC (.int 2)) zak))))) (zca (toB (cF zgt (zac (b2 ixD (vSh 7) (vC (.int 0))) (zac (vC (.ty "list")) zak)))))) sNo zcA) (zba (zfQ 3 (b2 zc6 (b2 zc6 (vSh 3) (cF zc3 (zac (b2 ixD (vSh 7) (vC (.int 0))) zak))) (vC (.int 1)))) (zba (sIf (toB (b2 gtD (vSh 3) (vC (.int 3000)))) sNo zcA) (znm 6 (cF zce (zac (vSh 2) (zac (vSh 7) zak)))))))) (zoS 6 (zba (zfQ 4 (vSh 6)) (zfQ 5 (b2 zc6 (vSh 5) (vC (.int 1))))))))) 50)))))
theorem za8:FnScope ["shop","tree","names","many","level","depth","inner","thing"] ["shop","tree"] (zao zdN):=by trivial
theorem zhc {zaV:FQ} {zag:FQ} {zce:FQ} (F:Dfn K mg "look_at_tree" zdN) (B:Bn mg) (c_TreeNames___init__:CalI Γ P w K mg base "TreeNames" 1 10 zaV) (c_is_tuple:Cal Γ P w K mg base "is_tuple" 2 1 zag) (c_trees_in:Cal Γ P w K mg base "trees_in" 2 6 zce):Cal Γ P w K mg base "look_at_tree" 2 12 (zdX zaV zag zce) :=
 F.cal (k:=11) za8 (fun _ _ _ _ _ _ us hl=>match us,hl with | [_,_],_=>rfl) fun f cdv A outer s H E hr =>
  (zat (zdC 2 za8.nd (zr9 c_TreeNames___init__ hr (by decide) rfl (zaa (zab 0) zae) ln1)) (zat (zdC 3 za8.nd zaf) (zat (zdC 4 za8.nd (DO.de (zbC (zaa (zab 1) zae)))) (zat (zdC 5 za8.nd zaf) (zau (zpR 50 PassesOwn.never (zbs zlg (zaA zbG rfl B.z_len (by rfl) (zaa (zab 4) zae)) zaf (zaR _)) (zat (zbB (zbs zlg (zab 5) (zcf rfl B.c_MOST_WITHIN) (zaR _)) (zau zmE) zaO) (zat (zl2 6 za8.nd (zbC zae)) (zat (ziN PassesOwn.never rfl (zbb (zab 4)) (zaI 7 za8.nd) (zat (zbB (DW.dt (zdf (zaU (zaS (dC c_is_tuple hr (zaa (zab 7) (zaa zaf zae)) ln2))) (zcx (zaU (zaS (zaA zd5 rfl B.z_isinstance (by rfl) (zaa (zaK (zab 7) zaf) (zaa (zgB rfl B.z_list (by rfl)) zae)))))))) (zau zmE) zaO) (zat (zdC 3 za8.nd (zdg (zdg (zab 3) (zaA zbG rfl B.z_len (by rfl) (zaa (zaK (zab 7) zaf) zae))) zaf)) (zat (zbB (zbs zlg (zab 3) (zcf rfl B.c_MOST_COUNTED) (zaR _)) (zau zmE) zaO) (zau (zhS 6 (dC c_trees_in hr (zaa (zab 2) (zaa (zab 7) zae)) ln2))))))) (zk9 6 (zat (zdC 4 za8.nd (zab 6)) (zau (zdC 5 za8.nd (zdg (zab 5) zaf))))))))))))))
def zuo (zbK:List D->Option (List D)) (zbW:FQ') (zaX:FQ') (zbJ:FQ') (za9:FQ):FQ:=zcp 5
  (zba (zig (itR zkT (zac (cF zpx (zac (vC (.int 8)) (zac (b2 zc6 (cF zc3 (zac (vSh 0) zak)) (vC (.int 1))) zak))) zak)) (zbt 1) (zba (zmr 2 (cFO zbK (zac (vSh 0) (zac (vSh 1) zak)))) (zq7 2 (zbx (zcG 3 (zbn zbW 2 (rP zak))) (zjH (rM (r2 zc6 (rM (rM (zap (zbn zaX 2 (zap (rP (vSh 3)) (zap (rP (vC (.int 3))) (rP zak)))) (rP zak)) szD) zmU) (zbn zbJ 2 (zap (rP (vSh 3)) (rP zak)))) zf4) (zbt 4) (zbx (zcG 5 (rP (cF znZ (zac (b2 ixD (vSh 4) (vC (.int 0))) zak)))) (qIf (rP (orT (toB (b2 zhM (cF za9 (zac (vSh 3) (zac (vSh 4) zak))) (vC .non))) (toB (b2 neA (b2 ixD (vSh 4) (vC (.int 0))) (vSh 5))))) (zem (rP (vC (.bl false)))) zfa))))))) (zbw (vC (.bl true))))
theorem ziC:FnScope ["_law_script","_law_k","_law_left_here","_law_shop_here","_law_tree_here","_law_rows"] ["_law_script"] (zao zhr):=by trivial
theorem zsg {zbK:List D->Option (List D)} {zbW:FQ'} {zaX:FQ'} {zbJ:FQ'} {za9:FQ} (B:Bn mg) (c__law_left:CalO Γ P w K mg base "_law_left" 2 1 zbK) (c__law_shop:CalR Γ P w K mg base "_law_shop" 0 11 zbW) (c__law_tree:CalR Γ P w K mg base "_law_tree" 2 28 zaX) (c__law_edges:CalR Γ P w K mg base "_law_edges" 1 10 zbJ) (c_look_at_tree:Cal Γ P w K mg base "look_at_tree" 2 12 za9) (f:Addr) (cdv:Value) (A:Around) (outer:List Env) (s:Shared) (H:Hp) (E:XK) (hr:Room 28 (A.deeper (envOfC "law" (zao zhr) s.heap.objs.size f cdv))):DSs Γ (zkI CX0 P w K mg base ["_law_script","_law_k","_law_left_here","_law_shop_here","_law_tree_here","_law_rows"] "law" (zao zhr) f cdv A outer s H E).nox (zbv zhr)
  (zba (zig (itR zkT (zac (cF zpx (zac (vC (.int 8)) (zac (b2 zc6 (cF zc3 (zac (vSh 0) zak)) (vC (.int 1))) zak))) zak)) (zbt 1) (zba (zmr 2 (cFO zbK (zac (vSh 0) (zac (vSh 1) zak)))) (zq7 2 (zbx (zcG 3 (zbn zbW 2 (rP zak))) (zjH (rM (r2 zc6 (rM (rM (zap (zbn zaX 2 (zap (rP (vSh 3)) (zap (rP (vC (.int 3))) (rP zak)))) (rP zak)) szD) zmU) (zbn zbJ 2 (zap (rP (vSh 3)) (rP zak)))) zf4) (zbt 4) (zbx (zcG 5 (rP (cF znZ (zac (b2 ixD (vSh 4) (vC (.int 0))) zak)))) (qIf (rP (orT (toB (b2 zhM (cF za9 (zac (vSh 3) (zac (vSh 4) zak))) (vC .non))) (toB (b2 neA (b2 ixD (vSh 4) (vC (.int 0))) (vSh 5))))) (zem (rP (vC (.bl false)))) zfa))))))) (zbw (vC (.bl true)))) :=
  (zat (ziN PassesOwn.never rfl (zot rfl B.z_range (zaa (zaA (zmd rfl) rfl B.z_min (by rfl) (zaa zaf (zaa (zdg (zaA zbG rfl B.z_len (by rfl) (zaa (zab 0) zae)) zaf) zae))) zae)) (zaI 1 ziC.nd) (zat (zl2 2 ziC.nd (zuc c__law_left hr (by decide) rfl (zaa (zab 0) (zaa (zab 1) zae)) ln2)) (zr3 (zaw (zbl 3 ziC.nd (zaG c__law_shop hr (by decide) rfl (zaJ zae) lr0)) (zaT (zhz (zd2 (by decide)) PassesOwn.never rfl (zs2 (zdJ (RO.re (zjY (zai (zaG c__law_tree hr (by decide) rfl (zai (zas (zab 3)) (zai (zas zaf) (zaJ zae))) lr2) (zaJ zae)))) (zaG c__law_edges hr (by decide) rfl (zai (zas (zab 3)) (zaJ zae)) lr1))) (zaI 4 ziC.nd) (zaw (zbl 5 ziC.nd (zas (zeL zqW rfl B.z_list (by rfl) (zaa (zaK (zab 4) zaf) zae)))) (zaT (zdS (ze2 (DW.dt (zdf (zbs zmb (dC c_look_at_tree hr (zaa (zab 3) (zaa (zab 4) zae)) ln2) zoz (zaR _)) (zcx (zbs (zma (zux hr)) (zaK (zab 4) zaf) (zab 5) (zaR _)))))) (zaT (zbY (zas zdD))) zbT))))))))) (zau (zaD zdD)))
end Law
end
section
namespace Law
open PySem L2 PySem.Spec PyProof.Rows
def zbK:List D->Option (List D):=zfN
def zad:FQ':=zfM
def zbf:FQ':=zd0 zad
def zbH:FQ':=zeP zad
def zbI:FQ':=zeQ zad
def zbq:FQ:=zgJ
def zal:FQ:=zfH zbq
def zag:FQ:=zgK
def zcv:FQ:=zgN zal zag
def zax:FQ:=zh8
def zb6:FQ:=zg5 zcv zax
def zaE:FQ:=zkG
def zcw:FQ:=zgO zb6 zaE zag
def zam:FQ:=zdi
def zbR:FQ:=zgc zcw zax zam
def zan:FQ:=zfI zaE
def zdu:FQ:=zjF zal zan zag
def zcO:FQ:=ziS zdu zax zam
def zcZ:FQ:=zh7 zaE zag zcO
def zcm:FQ:=zib zcZ zax zam
def zdM:FQ:=zmf zaE zag zal zan zax
def zcP:FQ:=ziT zdM zax zam
def zct:FQ:=zgM zan zag zal zaE
def zb5:FQ:=zg4 zct zax zam
def zc0:FQ:=zh9 zan zag zal
def zcn:FQ:=zic zc0 zax zam
def zb8:FQ:=zfK zal zan zag
def zbE:FQ:=zgd zb8 zax zam
def zcs:FQ:=zgL zaE zag zal zbE
def zb4:FQ:=zg3 zcs zax zam
def zbm:FQ:=zep zal zbR zcm zcP zb5 zcn zb4
def zdW:Nat->FQ
 | 0=>fun _=>none
 | n+1=>zdY (zdW n)
def zbd:FQ:=zdW 8
def zbk:FQ:=zeT zbm zbd
def zbu:FQ':=zej zad
def zbX:FQ':=zfP zad
def zbW:FQ':=zfL zad zbf zbH zbI zbk zbu zbX
def zaq:FQ:=zd9
def zaj:FQ:=zcY
def zav:FQ:=zdL
def zaQ:FQ':=zek zaq zad zaj zav
def zbe:FQ':=zdZ zad zaj
def zaB:FQ:=zeS zbd
def zay:FQ:=zd8 zbd
def zbL:FQ':=zfO zaq zad zbe zav zaB zay zaj
def zcl:Nat->FQ'
 | 0=>fun _ _ _=>none
 | n+1=>zei zad (zd7 zaq zad zaQ (zcl n)) zaQ (zcl n) zbL
def zaX:FQ':=zcl 8
def zbJ:FQ':=zeR zaq zad zaj zav zay zaB
def zaV:FQ:=zcB zaq zav zaB zay zaj
def zaM:FQ:=zh6
def zbc:FQ:=zfJ zaM zan zag zbq
def zcu:FQ:=zhi zal zbc zag zaM
def zdd:FQ:=zjG zaM zan zag
def zcc:FQ:=zgb zbc zag zaM
def zaW:FQ:=zeh zan
def zbr:FQ:=zgP zal
def zbQ:FQ:=zeO zbr zam zaW
def zbj:FQ:=zdF zal zan
def zc1:FQ:=zia zaM zag zan zaW zbQ zbr zbj
def zce:FQ:=zgI zcu zdd zcc zc1
def za9:FQ:=zdX zaV zag zce
def zsn:FQ:=zuo zbK zbW zaX zbJ za9
end Law
end
section
namespace Law
open PySem L2
theorem i2:zk5 "int" "int"=some true:=rfl
theorem i3:zk5 "int" "bool"=some false:=rfl
theorem i5:zk5 "bool" "bool"=some true:=rfl
theorem k1:zk5 "list" "list"=some true:=rfl
theorem k2:zk5 "tuple" "list"=some false:=rfl
theorem k3:zk5 "tuple" "tuple"=some true:=rfl
theorem k4:zk5 "str" "list"=some false:=rfl
theorem k5:zk5 "str" "tuple"=some false:=rfl
theorem k6:zk5 "int" "list"=some false:=rfl
theorem k7:zk5 "int" "tuple"=some false:=rfl
theorem k8:zk5 "bool" "list"=some false:=rfl
theorem k9:zk5 "bool" "tuple"=some false:=rfl
theorem k10:zk5 "NoneType" "list"=some false:=rfl
theorem k11:zk5 "NoneType" "tuple"=some false:=rfl
theorem sz2:(1+1<=sizeLine)=True:=by simp [sizeLine]
theorem sz3:(1+1+1<=sizeLine)=True:=by simp [sizeLine]
section
variable {x0 x1 x2 x3 x4:D} {r:List D}
theorem zeN {α:Type} (l:List α) (n:Nat):atI l (n:Int)=l[n]?:=by
 unfold atI ixN
 rw [qR (by omega)]
 by_cases h:n < l.length
 ·rw [qR (by omega)];simp
 ·rw [qS (by omega)];simp;omega
theorem zgs:ixD (.tup (x0::r)) (.int 0)=some x0:=zeN _ 0
theorem zg9:ixD (.tup (x0::x1::r)) (.int 1)=some x1:=zeN _ 1
theorem zlW:ixD (.tup (x0::x1::x2::r)) (.int 2)=some x2:=zeN _ 2
theorem zpH:ixD (.tup (x0::x1::x2::x3::r)) (.int 3)=some x3:=zeN _ 3
theorem ztW:ixD (.tup (x0::x1::x2::x3::x4::r)) (.int 4)=some x4:=zeN _ 4
end
theorem zse {fe:FE} {r:za1} {f:D->D}:∀ {xs:List D} {a:Option Slot},(∀ x∈xs,fe (oS x::r)=some (f x))->zle (zbt 0) tT fe xs (a::r)=some (xs.map f)
 | [],_,_=>rfl
 | x::xs,a,h=>by
  have h1:=h x qf
  have ih:=zse (xs:=xs) (a:=oS x) fun y hy=>h y (qg _ hy)
  simp only [zle,zbt,List.set_cons_zero,qa,tT,if_true,h1,ih,qd,ql]
theorem zoK:∀ {l:List D},(∀ x∈l,x=.bl true)->∃ bs:List Bool,zsA l=some bs/\bs.all id=true
 | [],_=>⟨[],rfl,rfl⟩
 | x::r,h=>by
  obtain ⟨bs,h1,h2⟩:=zoK (l:=r) fun y hy=>h y (qg _ hy)
  have hx:=h x qf
  subst hx
  exact ⟨true::bs,by simp [zsA,h1],by simpa using h2⟩
theorem zcr {fi:FA} {fe:FE} {fv:List (Option Nat)} {ρ r:za1} {a:Option Slot} {xs:List D} (h1:fi ρ=some xs) (h2:xs.length<=sizeLine) (h3:zha fv ρ=a::r) (h:∀ x∈xs,fe (oS x::r)=some (.bl true)) :
  cF zjJ (zac (zbM (zbz fi (zbt 0) tT fe fv)) zak) ρ=some (.bl true):=by
 have c:=zse (a:=a) (f:=fun _=>.bl true) h
 obtain ⟨bs,e1,e2⟩:=zoK (l:=xs.map fun _=>D.bl true) (by simp)
 simp only [cF,zac,zak,zbM,zbz,h1,qa,qR h2,h3,c,qd,zjJ,e1]
 simpa using e2
theorem zde {fi:FA} {fe:FE} {fv:List (Option Nat)} {ρ r:za1} {a:Option Slot} {xs:List D} {f:D->D} (h1:fi ρ=some xs) (h2:xs.length<=sizeLine) (h3:zha fv ρ=a::r) (h:∀ x∈xs,fe (oS x::r)=some (f x)) :
  zbM (zbz fi (zbt 0) tT fe fv) ρ=some (.lst (xs.map f)):=by
 simp only [zbM,zbz,h1,qa,qR h2,h3,zse (a:=a) h,qd]
theorem zgx {gg:FG} {body:FS} {xs:List D} {ρ:za1} (I:Nat->za1->Prop) (h0:I 0 ρ) (hs:∀ i x ρ,xs[i]?=some x->I i ρ->∃ ρ1 ρ2,gg x ρ=some ρ1/\body ρ1=some (.nx,ρ2)/\I (i+1) ρ2) :
  ∃ ρ',zoi gg body xs ρ=some (.nx,ρ')/\I xs.length ρ':=by
 have key:∀ (ys:List D) (k:Nat) (ρ:za1),xs.drop k=ys->I k ρ->∃ ρ',zoi gg body ys ρ=some (.nx,ρ')/\I (k+ys.length) ρ':=by
  intro ys
  induction ys with
  | nil=>intro k ρ _ hk;exact ⟨ρ,rfl,hk⟩
  | cons y r ih =>
   intro k ρ hd hk
   have hy:xs[k]?=some y:=by
    have:(xs.drop k)[0]?=some y:=by rw [hd];rfl
    simpa using this
   obtain ⟨ρ1,ρ2,h1,h2,h3⟩:=hs k y ρ hy hk
   have hd':xs.drop (k+1)=r:=by rw [← List.drop_drop,hd];rfl
   obtain ⟨ρ',h4,h5⟩:=ih (k+1) ρ2 hd' h3
   refine ⟨ρ',?_,by rw [qh];rwa [show k+1+r.length=k+(r.length+1) by omega] at h5⟩
   simp only [zoi,h1,qa,h2,h4]
 obtain ⟨ρ',h1,h2⟩:=key xs 0 ρ rfl h0
 exact ⟨ρ',h1,by rwa [Nat.zero_add] at h2⟩
theorem zum:(2:Int) ^ 62=4611686018427387904:=by decide +kernel
theorem zra {i j:Int} (h:0<=i/\i<=1000000/\0<=j/\j<=1000000):zrb [.int i,.int j]=some ((List.range (j - i).toNat).map fun k:Nat=>D.int (i+k)):=by
 unfold zrb
 rw [zum]
 exact qR ⟨by omega,by omega,by omega,by omega⟩
theorem znr {j:Int} (h:0<=j/\j<=1000000):zkT [.int j]=some ((List.range j.toNat).map fun i:Nat=>D.int (0+i)):=by
 unfold zkT
 rw [zum]
 exact qR ⟨by omega,by omega⟩
theorem zqC {g:List D->Option (List D)} {fr:FA} {ρ:za1} {ds r:List D} (h1:fr ρ=some ds) (h2:g ds=some r):itR g fr ρ=some r:=by
 unfold itR;rw [h1];exact h2
theorem zaH {g:D->D->Option D} {fa fb:FE} {ρ:za1} {x y z:D} (h1:fa ρ=some x) (h2:fb ρ=some y) (h3:g x y=some z):b2 g fa fb ρ=some z:=by
 unfold b2;rw [h1,qa,h2,qa];exact h3
theorem zaP {g:FQ} {fr:FA} {ρ:za1} {ds:List D} {z:D} (h1:fr ρ=some ds) (h2:g ds=some z):cF g fr ρ=some z:=by
 unfold cF;rw [h1];exact h2
theorem zah {f:FE} {fr:FA} {ρ:za1} {d:D} {ds:List D} (h1:f ρ=some d) (h2:fr ρ=some ds):zac f fr ρ=some (d::ds):=by
 unfold zac;rw [h1,qa,h2];rfl
theorem zaz {ρ:za1}:zak ρ=some []:=rfl
theorem zqc {n:Nat} {g:FS} {ds:List D} {d:D} {ρ':za1} (h:g (ds.map (fun d=>some (Slot.sh d))++List.replicate n none)=some (.rt d,ρ')):zcp n g ds=some d:=by
 unfold zcp;rw [h];rfl
theorem za4 {n:Nat} {g:FS} {ds:List D} {d:D} (ρ:za1) {ρ':za1} (e:ds.map (fun d=>some (Slot.sh d))++List.replicate n none=ρ) (h:g ρ=some (.rt d,ρ')):zcp n g ds=some d:=by
 subst e;exact zqc h
theorem za3 {f:FE} {ρ:za1} {d:D} (h:f ρ=some d):zbw f ρ=some (.rt d,ρ):=by unfold zbw;rw [h];rfl
theorem za5 {f:FE} {ρ:za1} {b:Bool} (h:f ρ=some (.bl b)):toB f ρ=some b:=by unfold toB;rw [h];rfl
theorem zfb {A:FE} {X E:FS} {ρ:za1} (hA:A ρ=some (.bl true)):zba (sIf (zca (toB A)) X zcA) E ρ=E ρ:=by
 simp only [zba,sIf,zca,za5 hA,qd,qa,Bool.not_true,qo,if_false,zcA]
theorem zdo {A B:FE} {X E:FS} {ρ:za1} (hA:A ρ=some (.bl true)) (hB:B ρ=some (.bl true)):zba (sIf (orT (zca (toB A)) (zca (toB B))) X zcA) E ρ=E ρ:=by
 simp only [zba,sIf,orT,zca,za5 hA,za5 hB,qd,qa,Bool.not_true,qo,if_false,zcA]
theorem zt1 {A B C:FE} {X E:FS} {ρ:za1} (hA:A ρ=some (.bl true)) (hB:B ρ=some (.bl true)) (hC:C ρ=some (.bl true)):zba (sIf (orT (zca (toB A)) (orT (zca (toB B)) (zca (toB C)))) X zcA) E ρ=E ρ:=by
 simp only [zba,sIf,orT,zca,za5 hA,za5 hB,za5 hC,qd,qa,Bool.not_true,qo,if_false,zcA]
theorem zcg {A B:FE} {ρ:za1} (hA:A ρ=some (.bl true)) (hB:B ρ=some (.bl true)):zc5 A B ρ=some (.bl true):=by
 simp only [zc5,hA,hB,qa]
theorem zb2 {i:Nat} {f:FE} {g:FS} {ρ:za1} {d:D} (h:f ρ=some d):zba (zfQ i f) g ρ=g (ρ.set i (oS d)):=by
 simp only [zba,zfQ,h,qd,qa]
theorem zjK (i:Int):zbq [.int i]=some (.bl true):=by
 simp only [zbq,zgJ,zcp,zbw,zc5,zuv,cF,zac,zak,vSh,vC,zgt,tyD,ql,qJ,qm,qM,List.replicate,qb,qa,qd,Bool.not_false,i2,i3]
theorem zbo (i a b:Int) (h:a<=i/\i<=b):zal [.int i,.int a,.int b]=some (.bl true):=by
 simp only [zal,zfH,zjK,zcp,zbw,zc5,cF,zac,zak,vSh,chD,leD,ql,qJ,qm,qM,List.replicate,qb,qc,qa,qd,qN h.1,qN h.2]
theorem zdU (l:List D) (a b:Int) (h:a<=l.length/\(l.length:Int)<=b):zax [.lst l,.int a,.int b]=some (.bl true):=by
 simp only [zax,zh8,zcp,zbw,zc5,cF,zac,zak,vSh,vC,chD,zgt,tyD,zc3,leD,ql,qJ,qm,qM,List.replicate,qb,qc,qa,qd,k1,qN h.1,qN h.2]
theorem zfS (l:List D) (n:Int) (h:(l.length:Int)=n):zag [.tup l,.int n]=some (.bl true):=by
 simp only [zag,zgK,zcp,zbw,zc5,cF,zac,zak,vSh,vC,b2,zgt,tyD,zc3,eqD,eqS,ql,qJ,qm,qM,List.replicate,qb,qc,qa,qd,k3,qN h]
section
variable {a b c d e:D}
theorem zoZ:zag [.tup [a,b],.int 2]=some (.bl true):=zfS _ _ rfl
theorem zsr:zag [.tup [a,b,c],.int 3]=some (.bl true):=zfS _ _ rfl
theorem zsq:zag [.tup [a,b,c,d],.int 4]=some (.bl true):=zfS _ _ rfl
theorem zvA:zag [.tup [a,b,c,d,e],.int 5]=some (.bl true):=zfS _ _ rfl
end
def dIv (p:Int×Int):D:=.tup [.int p.1,.int p.2]
theorem zp1 (p:Int×Int) (h:Int) (h1:0<=p.1) (h2:p.1 < p.2) (h3:p.2<=h):zcv [dIv p,.int h]=some (.bl true):=by
 simp only [zcv,zgN,dIv,zcp,zba,sIf,zbw,zcA,orT,zca,toB,cF,zac,zak,vSh,vC,b2,ltD,zgs,zg9,ql,qJ,qm,qM,List.replicate,qb,qc,qa,qd,if_false,Bool.not_true,qo,zoZ,zbo p.1 0 h ⟨h1,by omega⟩,zbo p.2 0 h ⟨by omega,h3⟩,qN h2]
def az (c:Nat):Bool:=!ltS ⟨#[c]⟩ "a" && !ltS "z" ⟨#[c]⟩
theorem zvq {c:Nat} (h:az c=true):c<=122:=by
 have z:("z":Str)=⟨#[122]⟩:=by decide +kernel
 unfold az ltS at h
 rw [z] at h
 simp only [Bool.and_eq_true,Bool.not_eq_true',decide_eq_false_iff_not] at h
 have h2:=h.2
 rcases Nat.lt_or_ge 122 c with q | q
 ·exact absurd (show ([122]:List Nat) < [c] from List.Lex.rel q) h2
 ·exact q
theorem zpY (c:Nat) (r:za1):chD leD leD (vC (.str "a")) (vSh 0) (vC (.str "z")) (oS (.str ⟨#[c]⟩)::r)=some (.bl (az c)):=by
 simp only [chD,vC,vSh,qb,qa,leD,az]
 cases ltS ⟨#[c]⟩ "a" <;> simp
def zbp (x:Str):Bool:=decide (1<=x.length) && decide (x.length<=8) && x.cps.toList.all az
theorem znT {x:Str} (h:zbp x=true):1<=x.length/\x.length<=8:=by
 unfold zbp at h
 simp only [Bool.and_eq_true,decide_eq_true_eq] at h
 exact h.1
theorem zlO {x:Str} (h:zbp x=true):∀ c∈x.cps.toList,az c=true:=by
 unfold zbp at h
 simp only [Bool.and_eq_true,List.all_eq_true] at h
 exact h.2
theorem zeI {x:Str} (h:zbp x=true):zaE [.str x]=some (.bl true):=by
 obtain ⟨h1,h2⟩:=znT h
 have hz:x.length<=sizeLine:=by unfold sizeLine;omega
 have hl:(x.cps.toList.map fun c=>D.str ⟨#[c]⟩).length<=sizeLine:=by simpa [Str.length] using hz
 have e1:decide ((1:Int)<=(x.length:Nat))=true:=qN (by omega)
 have e2:decide (((x.length:Nat):Int)<=8)=true:=qN (by omega)
 have ha:=zcr (fi:=itS (vSh 0)) (fe:=chD leD leD (vC (.str "a")) (vSh 0) (vC (.str "z"))) (fv:=[none]) (ρ:=[oS (.str x)]) (r:=[]) (a:=none) (xs:=x.cps.toList.map fun c=>D.str ⟨#[c]⟩)
  (by simp [itS,vSh,znf]) hl rfl (fun y hy=>by
   obtain ⟨c,hc,rfl⟩:=List.mem_map.mp hy
   rw [zpY,zlO h c hc])
 refine zqc (ρ':=[oS (.str x)]) ((zdo ?_ ?_).trans (za3 ha))
 ·rfl
 ·show chD leD leD (vC (.int 1)) (cF zc3 (zac (vSh 0) zak)) (vC (.int 8)) [oS (.str x)]=_
  simp only [cF,zac,zak,vSh,vC,chD,zc3,leD,qb,qa,qd,qR hz,e1,e2]
theorem zfY {x:Str} (h:zbp x=true):PyData.strOk x=true:=by
 unfold PyData.strOk
 rw [Array.all_eq_true']
 intro c hc
 have:=zvq (zlO h c (by simpa using hc))
 exact qN (by omega)
theorem znH:∀ (ns:List Str),zkY (ns.map D.str)=some (ns.map PyData.str)
 | []=>by simp [zkY]
 | x::r=>by simp [zkY,pdD,znH r]
theorem zlS:∀ {ns:List Str},(∀ x∈ns,zbp x=true)->PyData.canLayAll0 (ns.map PyData.str)=true
 | [],_=>by simp [PyData.canLayAll0]
 | x::r,h=>by
  simp only [ql,PyData.canLayAll0,PyData.canLay0,zfY (h x qf),Bool.true_and]
  exact zlS fun y hy=>h y (qg _ hy)
theorem zme (x:Str):∀ (ns:List Str),((ns.map PyData.str).any fun z=>PyData.eqv z (.str x))=decide (x∈ns)
 | []=>by simp
 | y::r=>by
  have ih:=zme x r
  rw [ql,List.any_cons,ih]
  simp only [PyData.eqv]
  by_cases e:y=x
  ·subst e;simp
  ·have:x≠y:=fun z=>e z.symm
   simp [e,this]
theorem zrV {x:Str} {ns:List Str} (hx:zbp x=true) (hn:∀ y∈ns,zbp y=true):ztZ (.str x) (.lst (ns.map D.str))=some (.bl (decide (x∈ns))):=by
 have sh:SeqAt.shaped (.str x)=true:=by simp [SeqAt.shaped,PyData.canLay0,zfY hx,PyData.depth]
 simp only [ztZ,inX,pdD,znH,qd,qa,sh,zlS hn,and_self,if_true,zme]
theorem zbg {x:Str} {ns:List Str} (hx:x∈ns) (hn:∀ y∈ns,zbp y=true):zan [.str x,.lst (ns.map D.str)]=some (.bl true):=by
 simp only [zan,zfI,zcp,zbw,zc5,cF,zac,zak,vSh,b2,ql,qJ,qm,qM,List.replicate,qb,qc,qa,qd,zeI (hn x hx),zrV (hn x hx) hn,qN hx]
theorem zl6 {κ:Type} [DecidableEq κ] {l:List κ} (h:l.Nodup):ST.dd l=l:=by
 have key:∀ (l a:List κ),(a++l).Nodup->l.foldl (fun a k=>if k∈a then a else a++[k]) a=a++l:=by
  intro l
  induction l with
  | nil=>intro a _;simp
  | cons x r ih =>
   intro a hn
   have hx:x∉a:=by
    intro z
    rw [List.nodup_append] at hn
    exact hn.2.2 x z x qf rfl
   rw [List.foldl_cons,qS hx,ih (a++[x]) (by simpa using hn)]
   simp
 simpa [ST.dd] using key l [] (by simpa using h)
theorem zeX:∀ (ns:List Str),zhb (ns.map D.str)=some (ns.map Sum.inr)
 | []=>by simp [zhb]
 | x::r=>by simp [zhb,zpT,zeX r]
theorem zch {ns:List Str} (h:ns.Nodup) (hl:ns.length<=300):zam [.lst (ns.map D.str)]=some (.bl true):=by
 have hd:(ns.map (Sum.inr:Str->Key)).Nodup:=List.Pairwise.map _ (fun a b hab z=>hab (Sum.inr.inj z)) h
 simp only [zam,zdi,zcp,zbw,cF,zac,zak,vSh,b1,b2,zc3,eqD,eqS,ql,qJ,qm,qM,List.replicate,qb,qa,qd,zgr,qe,qR hl,zeX,zl6 hd]
 simp
theorem zgQ:∀ (ts:List (List Str)),zfe (ts.map fun t=>.tup (t.map D.str))=some (ts.map fun t=>t.map Sum.inr)
 | []=>by simp [zfe]
 | t::r=>by simp [zfe,zeX,zgQ r]
theorem zhj {ts:List (List Str)} (h:ts.Nodup) (hl:ts.length<=300):zam [.lst (ts.map fun t=>.tup (t.map D.str))]=some (.bl true):=by
 have inj:∀ a b:List Str,a.map (Sum.inr:Str->Key)=b.map Sum.inr->a=b:=fun a b z=>(List.map_inj_right (fun x y q=>Sum.inr.inj q)).mp z
 have hd:(ts.map fun t=>t.map (Sum.inr:Str->Key)).Nodup:=List.Pairwise.map _ (fun a b hab z=>hab (inj a b z)) h
 cases ts with
 | nil=>simp only [zam,zdi,zcp,zbw,cF,zac,zak,vSh,b1,b2,zc3,eqD,eqS,ql,qJ,qm,qM,List.replicate,qb,qa,qd,qk,zgr,zhb,ST.dd];simp
 | cons t r =>
  have e:zhb ((t::r).map fun t=>D.tup (t.map D.str))=none:=by simp [zhb,zpT]
  simp only [zam,zdi,zcp,zbw,b2,b1,vSh,ql,qJ,qm,qM,List.replicate,qb,qa,zgr,cF,zac,zak,zc3,qd]
  rw [qR (by simpa using hl)]
  have e':=e
  rw [ql] at e'
  rw [e']
  have t':=zgQ (t::r)
  rw [ql] at t'
  rw [t']
  rw [qd,zl6 hd]
  simp [eqD,eqS]
end Law
end
section
namespace Law
open PySem L2
structure BenchT where
 nm:Str
 br:List (Int×Int)
structure StepT where
 nm:Str
 kd:Str
 ws:List (Str×Int)
structure JobT where
 nm:Str
 ea:Int
 du:Int
 od:Bool
 ms:List Str
structure SetT where
 b:Str
 p:Str
 q:Str
 n:Int
structure LinkT where
 a:Str
 b:Str
 g:Int
structure StockT where
 nm:Str
 lo:Int
 hi:Int
 tk:List (Str×Int)
 pt:List (Str×Int)
def dW (w:Str×Int):D:=.tup [.str w.1,.int w.2]
def zbD (b:BenchT):D:=.tup [.str b.nm,.lst (b.br.map dIv)]
def zcR (s:StepT):D:=.tup [.str s.nm,.str s.kd,.lst (s.ws.map dW)]
def zco (j:JobT):D:=.tup [.str j.nm,.int j.ea,.int j.du,.bl j.od,.lst (j.ms.map D.str)]
def zgC (u:SetT):D:=.tup [.str u.b,.str u.p,.str u.q,.int u.n]
def zds (l:LinkT):D:=.tup [.str l.a,.str l.b,.int l.g]
def zbZ (k:StockT):D:=.tup [.str k.nm,.int k.lo,.int k.hi,.lst (k.tk.map dW),.lst (k.pt.map dW)]
structure GoodB (h:Int) (b:BenchT):Prop where
 nm:zbp b.nm=true
 len:b.br.length<=10
 iv:∀ p∈b.br,0<=p.1/\p.1 < p.2/\p.2<=h
 gap:∀ (i:Nat) p q,b.br[i]?=some p->b.br[i+1]?=some q->p.2 < q.1
structure GoodS (bn:List Str) (h:Int) (s:StepT):Prop where
 nm:zbp s.nm=true
 kd:zbp s.kd=true
 l1:1<=s.ws.length
 l4:s.ws.length<=4
 ws:∀ w∈s.ws,w.1∈bn/\1<=w.2/\w.2<=h
 nd:(s.ws.map (·.1)).Nodup
structure GoodJ (sn:List Str) (h:Int) (j:JobT):Prop where
 nm:zbp j.nm=true
 ea:0<=j.ea/\j.ea<=h
 du:0<=j.du/\j.du<=h
 l1:1<=j.ms.length
 ln:j.ms.length<=sn.length
 ms:∀ m∈j.ms,m∈sn
structure GoodU (bn:List Str) (h:Int) (u:SetT):Prop where
 b:u.b∈bn
 p:zbp u.p=true
 q:zbp u.q=true
 n:1<=u.n/\u.n<=h
structure GoodL (sn:List Str) (h:Int) (l:LinkT):Prop where
 a:l.a∈sn
 b:l.b∈sn
 ne:l.a≠l.b
 g:0<=l.g/\l.g<=h
structure GoodA (sn:List Str) (am:List (Str×Int)):Prop where
 ln:am.length<=sn.length
 ws:∀ w∈am,w.1∈sn/\1<=w.2/\w.2<=1000000
 nd:(am.map (·.1)).Nodup
structure GoodK (sn:List Str) (k:StockT):Prop where
 nm:zbp k.nm=true
 lo:0<=k.lo/\k.lo<=k.hi
 hi:0<=k.hi/\k.hi<=1000000
 tk:GoodA sn k.tk
 pt:GoodA sn k.pt
structure Good (bs:List BenchT) (ss:List StepT) (js:List JobT) (us:List SetT) (ls:List LinkT) (ks:List StockT) (hz:Int):Prop where
 hh:1<=hz/\hz<=1000000
 bl:1<=bs.length/\bs.length<=8
 b:∀ x∈bs,GoodB hz x
 bn:(bs.map (·.nm)).Nodup
 sl:1<=ss.length/\ss.length<=40
 s:∀ x∈ss,GoodS (bs.map (·.nm)) hz x
 sn:(ss.map (·.nm)).Nodup
 jl:js.length<=40
 j:∀ x∈js,GoodJ (ss.map (·.nm)) hz x
 jn:(js.map (·.nm)).Nodup
 jm:(js.flatMap (·.ms)).Nodup
 ul:us.length<=100
 u:∀ x∈us,GoodU (bs.map (·.nm)) hz x
 un:(us.map fun u=>[u.b,u.p,u.q]).Nodup
 ll:ls.length<=100
 l:∀ x∈ls,GoodL (ss.map (·.nm)) hz x
 ln:(ls.map fun l=>[l.a,l.b]).Nodup
 kl:ks.length<=6
 k:∀ x∈ks,GoodK (ss.map (·.nm)) x
 kn:(ks.map (·.nm)).Nodup
theorem ixL (l:List D) (n:Nat):ixD (.lst l) (.int (n:Int))=l[n]?:=zeN l n
theorem szN {n k:Nat} (h:n<=k) (hk:k<=1000):n<=sizeLine:=by unfold sizeLine;omega
section
variable {h:Int} {bn sn:List Str}
theorem zt2 {br:List (Int×Int)} (len:br.length<=10) (gap:∀ (i:Nat) p q,br[i]?=some p->br[i+1]?=some q->p.2 < q.1) :
  cF zjJ (zac (zbM (zbz (itR zrb (zac (vC (.int 1)) (zac (cF zc3 (zac (vSh 0) zak)) zak))) (zbt 0) tT (b2 ltD (b2 ixD (b2 ixD (vSh 1) (b2 ziX (vSh 0) (vC (.int 1)))) (vC (.int 1))) (b2 ixD (b2 ixD (vSh 1) (vSh 0)) (vC (.int 0)))) [none,some 0])) zak) [oS (.lst (br.map dIv)),oS (.int h)]=some (.bl true):=by
 have e0:itR zrb (zac (vC (.int 1)) (zac (cF zc3 (zac (vSh 0) zak)) zak)) [oS (.lst (br.map dIv)),oS (.int h)]=some ((List.range (((br.map dIv).length:Int) - 1).toNat).map fun k:Nat=>D.int (1+k)):=by
  exact zqC rfl (zra (i:=1) (j:=((br.map dIv).length:Nat)) (by rw [qe];omega))
 refine zcr (r:=[oS (.lst (br.map dIv))]) (a:=none) e0 ?_ rfl fun x hx=>?_
 ·simp only [qe,qO]
  exact szN (k:=10) (by omega) (by decide)
 ·obtain ⟨k,hk,rfl⟩:=List.mem_map.mp hx
  rw [List.mem_range,qe] at hk
  have hk1:k < br.length:=by omega
  have hk2:k+1 < br.length:=by omega
  have e1:br[k]?=some br[k]:=by simp [hk1]
  have e2:br[k+1]?=some br[k+1]:=by simp [hk2]
  have g:=gap k _ _ e1 e2
  have a1:ixD (.lst (br.map dIv)) (.int (1+(k:Int) - 1))=some (dIv br[k]):=by
   have:(1+(k:Int) - 1)=((k:Nat):Int):=by omega
   rw [this,ixL,qj,e1];rfl
  have a2:ixD (.lst (br.map dIv)) (.int (1+(k:Int)))=some (dIv br[k+1]):=by
   have:(1+(k:Int))=((k+1:Nat):Int):=by omega
   rw [this,ixL,qj,e2];rfl
  simp only [vSh,vC,b2,ltD,ziX,qb,qc,qa,a1,a2]
  simp only [dIv,zgs,zg9,qa,qN g]
theorem zoJ {br:List (Int×Int)} (len:br.length<=10) (iv:∀ p∈br,0<=p.1/\p.1 < p.2/\p.2<=h) (gap:∀ (i:Nat) p q,br[i]?=some p->br[i+1]?=some q->p.2 < q.1) :
  zb6 [.lst (br.map dIv),.int h]=some (.bl true):=by
 refine za4 [oS (.lst (br.map dIv)),oS (.int h)] rfl ((zdo ?_ (zcr (r:=[oS (.int h)]) (a:=none) (xs:=br.map dIv) rfl (by rw [qe];exact szN len (by decide)) rfl fun x hx=>?_)).trans (za3 (zt2 len gap)))
 ·exact zdU _ 0 10 ⟨by omega,by rw [qe];omega⟩
 ·obtain ⟨p,hp,rfl⟩:=List.mem_map.mp hx
  obtain ⟨h1,h2,h3⟩:=iv p hp
  exact zp1 p h h1 h2 h3
theorem zp2 {b:BenchT} (g:GoodB h b):zcw [zbD b,.int h]=some (.bl true):=by
 simp only [zcw,zgO,zbD,zcp,zbw,zc5,cF,zac,zak,vSh,vC,b2,zgs,zg9,ql,qJ,qm,qM,List.replicate,qb,qc,qa,qd,zoZ,zeI g.nm,zoJ g.len g.iv g.gap]
theorem zdq {α:Type} {f:α->D} {nm:α->Str} {xs:List α} {i:Nat} {ρ:za1} {fv:List (Option Nat)} (hf:∀ x,∃ r,f x=.tup (.str (nm x)::r)) (h1:vSh i ρ=some (.lst (xs.map f))) (h2:xs.length<=sizeLine) (h3:zha fv ρ=[none]) :
  zbM (zbz (itF (vSh i)) (zbt 0) tT (b2 ixD (vSh 0) (vC (.int 0))) fv) ρ=some (.lst ((xs.map nm).map D.str)):=by
 have hc:=zde (fi:=itF (vSh i)) (fe:=b2 ixD (vSh 0) (vC (.int 0))) (fv:=fv) (ρ:=ρ) (r:=[]) (a:=none) (xs:=xs.map f) (f:=fun d=>match d with | .tup (x::_)=>x | _=>.non) (by unfold itF;rw [h1];rfl) (by rw [qe];exact h2) h3 (fun x hx=>by
  obtain ⟨y,_,rfl⟩:=List.mem_map.mp hx
  obtain ⟨r,e⟩:=hf y
  simp only [b2,vSh,vC,qb,qa,e,zgs])
 rw [hc]
 congr 2
 rw [List.map_map,List.map_map]
 refine List.map_congr_left fun x _=>?_
 obtain ⟨r,e⟩:=hf x
 simp [e]
theorem zmM {bs:List BenchT} (l1:1<=bs.length) (l8:bs.length<=8) (g:∀ x∈bs,GoodB h x) (nd:(bs.map (·.nm)).Nodup):zbR [.lst (bs.map zbD),.int h]=some (.bl true):=by
 refine za4 [oS (.lst (bs.map zbD)),oS (.int h)] rfl ((zdo ?_ (zcr (r:=[oS (.int h)]) (a:=none) (xs:=bs.map zbD) rfl (by rw [qe];exact szN l8 (by decide)) rfl fun x hx=>?_)).trans (za3 ?_))
 ·exact zdU _ 1 8 ⟨by rw [qe];omega,by rw [qe];omega⟩
 ·obtain ⟨p,hp,rfl⟩:=List.mem_map.mp hx
  exact zp2 (g p hp)
 ·have:=zdq (i:=0) (fv:=[none]) (ρ:=[oS (.lst (bs.map zbD)),oS (.int h)]) (f:=zbD) (nm:=(·.nm)) (xs:=bs) (fun x=>⟨_,rfl⟩) rfl (szN l8 (by decide)) rfl
  simp only [cF,zac,zak,this,qa,qd]
  exact zch nd (by rw [qe];omega)
theorem zsD {w:Str×Int} (hb:∀ y∈bn,zbp y=true) (g:w.1∈bn/\1<=w.2/\w.2<=h):zdu [dW w,.lst (bn.map D.str),.int h]=some (.bl true):=by
 simp only [zdu,zjF,dW,zcp,zbw,zc5,cF,zac,zak,vSh,vC,b2,zgs,zg9,ql,qJ,qm,qM,List.replicate,qb,qc,qa,qd,zoZ,zbg g.1 hb,zbo w.2 1 h g.2]
theorem zqT {ws:List (Str×Int)} (hb:∀ y∈bn,zbp y=true) (l1:1<=ws.length) (l4:ws.length<=4) (g:∀ w∈ws,w.1∈bn/\1<=w.2/\w.2<=h) (nd:(ws.map (·.1)).Nodup):zcO [.lst (ws.map dW),.lst (bn.map D.str),.int h]=some (.bl true):=by
 refine za4 [oS (.lst (ws.map dW)),oS (.lst (bn.map D.str)),oS (.int h)] rfl ((zdo ?_ (zcr (r:=[oS (.lst (bn.map D.str)),oS (.int h)]) (a:=none) (xs:=ws.map dW) rfl (by rw [qe];exact szN l4 (by decide)) rfl fun x hx=>?_)).trans (za3 ?_))
 ·exact zdU _ 1 4 ⟨by rw [qe];omega,by rw [qe];omega⟩
 ·obtain ⟨p,hp,rfl⟩:=List.mem_map.mp hx
  exact zsD hb (g p hp)
 ·have:=zdq (i:=0) (fv:=[none]) (ρ:=[oS (.lst (ws.map dW)),oS (.lst (bn.map D.str)),oS (.int h)]) (f:=dW) (nm:=(·.1)) (xs:=ws) (fun x=>⟨_,rfl⟩) rfl (szN l4 (by decide)) rfl
  simp only [cF,zac,zak,this,qa,qd]
  exact zch nd (by rw [qe];omega)
theorem zqY {s:StepT} (hb:∀ y∈bn,zbp y=true) (g:GoodS bn h s):zcZ [zcR s,.lst (bn.map D.str),.int h]=some (.bl true):=by
 simp only [zcZ,zh7,zcR,zcp,zba,sIf,zbw,zcA,orT,zca,toB,cF,zac,zak,vSh,vC,b2,zgs,zg9,zlW,ql,qJ,qm,qM,List.replicate,qb,qc,qa,qd,if_false,Bool.not_true,qo,zsr,zeI g.nm,zeI g.kd,zqT hb g.l1 g.l4 g.ws g.nd]
theorem zo6 {ss:List StepT} (hb:∀ y∈bn,zbp y=true) (l1:1<=ss.length) (l4:ss.length<=40) (g:∀ s∈ss,GoodS bn h s) (nd:(ss.map (·.nm)).Nodup):zcm [.lst (ss.map zcR),.lst (bn.map D.str),.int h]=some (.bl true):=by
 refine za4 [oS (.lst (ss.map zcR)),oS (.lst (bn.map D.str)),oS (.int h)] rfl ((zdo ?_ (zcr (r:=[oS (.lst (bn.map D.str)),oS (.int h)]) (a:=none) (xs:=ss.map zcR) rfl (by rw [qe];exact szN l4 (by decide)) rfl fun x hx=>?_)).trans (za3 ?_))
 ·exact zdU _ 1 40 ⟨by rw [qe];omega,by rw [qe];omega⟩
 ·obtain ⟨p,hp,rfl⟩:=List.mem_map.mp hx
  exact zqY hb (g p hp)
 ·have:=zdq (i:=0) (fv:=[none]) (ρ:=[oS (.lst (ss.map zcR)),oS (.lst (bn.map D.str)),oS (.int h)]) (f:=zcR) (nm:=(·.nm)) (xs:=ss) (fun x=>⟨_,rfl⟩) rfl (szN l4 (by decide)) rfl
  simp only [cF,zac,zak,this,qa,qd]
  exact zch nd (by rw [qe];omega)
end
end Law
end
section
namespace Law
open PySem L2
theorem zrE (a b:Str):neA (.str a) (.str b)=some (.bl (!decide (a=b))):=rfl
theorem zvN {a b c d:D}:ziA none (some 3) (.tup [a,b,c,d])=some (.tup [a,b,c]):=rfl
theorem zwm {a b c:D}:ziA none (some 2) (.tup [a,b,c])=some (.tup [a,b]):=rfl
theorem zjk {α β:Type} {f:α->List β} {m:Nat}:∀ {l:List α},(∀ x∈l,(f x).length<=m)->(l.flatMap f).length<=l.length*m
 | [],_=>by simp
 | x::r,h=>by
  have h1:=h x qf
  have h2:=zjk (l:=r) fun y hy=>h y (qg _ hy)
  rw [List.flatMap_cons,qi,qh,Nat.succ_mul]
  omega
section
variable {h:Int} {bn sn:List Str}
theorem ztT {j:JobT} (hs:∀ y∈sn,zbp y=true) (hl:sn.length<=40) (g:GoodJ sn h j):zdM [zco j,.lst (sn.map D.str),.int h]=some (.bl true):=by
 refine za4 [oS (zco j),oS (.lst (sn.map D.str)),oS (.int h)] rfl ((zt1 ?_ ?_ ?_).trans ((zdo ?_ ?_).trans (za3 (zcg ?_ (zcr (r:=[oS (.lst (sn.map D.str))]) (a:=none) (xs:=j.ms.map D.str) ?_ ?_ rfl fun x hx=>?_)))))
 ·exact zvA
 ·simp only [zco,cF,zac,zak,vSh,vC,b2,zgs,qb,qa,qd,zeI g.nm]
 ·simp only [zco,cF,zac,zak,vSh,vC,b2,zgt,tyD,zpH,qb,qa,qd,i5]
 ·simp only [zco,cF,zac,zak,vSh,vC,b2,zg9,qb,qc,qa,qd,zbo _ 0 h g.ea]
 ·simp only [zco,cF,zac,zak,vSh,vC,b2,zlW,qb,qc,qa,qd,zbo _ 0 h g.du]
 ·simp only [zco,cF,zac,zak,vSh,vC,b2,zc3,ztW,qb,qc,qa,qd]
  exact zdU _ _ _ ⟨by rw [qe];have:=g.l1;omega,by rw [qe,qe];have:=g.ln;omega⟩
 ·simp only [zco,vSh,vC,b2,itF,zkb,ztW,qb,qa]
 ·rw [qe];exact szN (qH g.ln hl) (by decide)
 ·obtain ⟨m,hm,rfl⟩:=List.mem_map.mp hx
  simp only [cF,zac,zak,vSh,qb,qc,qa,qd,zbg (g.ms m hm) hs]
theorem zmx {js:List JobT} {S H:Option Slot} (hl:js.length<=40) (g:∀ j∈js,j.ms.length<=40) :
  ∃ z,zoi (zbt 4) (znm 3 (b2 ixD (vSh 4) (vC (.int 4)))) (js.map zco) [oS (.lst (js.map zco)),S,H,some (.own []),none]=some (.nx,[oS (.lst (js.map zco)),S,H,some (.own ((js.flatMap (·.ms)).map D.str)),z]):=by
 obtain ⟨ρ',h1,z,h2⟩:=zgx (gg:=zbt 4) (body:=znm 3 (b2 ixD (vSh 4) (vC (.int 4)))) (xs:=js.map zco) (ρ:=[oS (.lst (js.map zco)),S,H,some (.own []),none])
  (fun i ρ=>∃ z,ρ=[oS (.lst (js.map zco)),S,H,some (.own (((js.take i).flatMap (·.ms)).map D.str)),z]) ⟨none,by simp⟩ (fun i x ρ hx hI=>by
   obtain ⟨z,rfl⟩:=hI
   rw [qj] at hx
   obtain ⟨j,hj,rfl⟩:=oMd hx
   have hm:j∈js:=qK hj
   have t1:((js.take i).flatMap (·.ms)).length<=(js.take i).length*40:=zjk fun y hy=>g y (List.mem_of_mem_take hy)
   have t2:(js.take i).length<=40:=by rw [qA];omega
   have t3:=g j hm
   have tk:js.take (i+1)=js.take i++[j]:=by rw [List.take_add_one,hj];rfl
   have sz:(((js.take i).flatMap (·.ms)).map D.str).length+(j.ms.map D.str).length<=sizeLine:=by
    rw [qe,qe];unfold sizeLine;omega
   refine ⟨_,[oS (.lst (js.map zco)),S,H,some (.own (((js.take (i+1)).flatMap (·.ms)).map D.str)),oS (zco j)],rfl,?_,_,rfl⟩
   have e:b2 ixD (vSh 4) (vC (.int 4)) [oS (.lst (js.map zco)),S,H,some (.own (((js.take i).flatMap (·.ms)).map D.str)),oS (zco j)]=some (.lst (j.ms.map D.str)):=by
    simp only [zco,vSh,vC,b2,ztW,qb,qc,qa]
   simp only [znm,List.set_cons_zero,List.set_cons_succ,qb,qc,e,qa,qR sz,tk]
   simp)
 refine ⟨z,?_⟩
 rw [h1,h2,qe,List.take_length]
theorem zrR {js:List JobT} (hs:∀ y∈sn,zbp y=true) (hl:sn.length<=40) (l4:js.length<=40) (g:∀ j∈js,GoodJ sn h j) (nd:(js.map (·.nm)).Nodup) (nm:(js.flatMap (·.ms)).Nodup) (ml:(js.flatMap (·.ms)).length<=300):zcP [.lst (js.map zco),.lst (sn.map D.str),.int h]=some (.bl true):=by
 obtain ⟨z,hz⟩:=zmx (js:=js) (S:=oS (.lst (sn.map D.str))) (H:=oS (.int h)) l4 fun j hj=>qH (g j hj).ln hl
 refine za4 [oS (.lst (js.map zco)),oS (.lst (sn.map D.str)),oS (.int h),none,none] (ρ':=[oS (.lst (js.map zco)),oS (.lst (sn.map D.str)),oS (.int h),oS (.lst ((js.flatMap (·.ms)).map D.str)),z]) rfl ((zdo ?_ (zcr (r:=[oS (.lst (sn.map D.str)),oS (.int h)]) (a:=none) (xs:=js.map zco) rfl (by rw [qe];exact szN l4 (by decide)) rfl fun x hx=>?_)).trans ?_)
 ·exact zdU _ 0 40 ⟨by omega,by rw [qe];omega⟩
 ·obtain ⟨p,hp,rfl⟩:=List.mem_map.mp hx
  simp only [cF,zac,zak,vSh,qb,qc,qa,qd,ztT hs hl (g p hp)]
 ·have nn:=zdq (i:=0) (fv:=[none]) (ρ:=[oS (.lst (js.map zco)),oS (.lst (sn.map D.str)),oS (.int h),oS (.lst ((js.flatMap (·.ms)).map D.str)),z]) (f:=zco) (nm:=(·.nm)) (xs:=js) (fun x=>⟨_,rfl⟩) rfl (szN l4 (by decide)) rfl
  have u1:cF zam (zac (zbM (zbz (itF (vSh 0)) (zbt 0) tT (b2 ixD (vSh 0) (vC (.int 0))) [none])) zak) [oS (.lst (js.map zco)),oS (.lst (sn.map D.str)),oS (.int h),oS (.lst ((js.flatMap (·.ms)).map D.str)),z]=some (.bl true) :=
   zaP (zah nn zaz) (zch nd (by rw [qe];omega))
  have u2:cF zam (zac (vSh 3) zak) [oS (.lst (js.map zco)),oS (.lst (sn.map D.str)),oS (.int h),oS (.lst ((js.flatMap (·.ms)).map D.str)),z]=some (.bl true) :=
   zaP (zah rfl zaz) (zch nm ml)
  have r:=za3 (zcg u1 u2)
  have z0:(0<=sizeLine)=True:=by simp
  simp only [zba,zmr,szF,zak,qa,qd,qk,z0,if_true,List.set_cons_zero,List.set_cons_succ,zig,itF,vSh,qb,zkb]
  rw [hz]
  simp only [qa,zoS,qb,qc,List.set_cons_zero,List.set_cons_succ]
  exact r
theorem zpa {u:SetT} (hb:∀ y∈bn,zbp y=true) (g:GoodU bn h u):zct [zgC u,.lst (bn.map D.str),.int h]=some (.bl true):=by
 simp only [zct,zgM,zgC,zcp,zba,sIf,zbw,zcA,zc5,orT,zca,toB,cF,zac,zak,vSh,vC,b2,zgs,zg9,zlW,zpH,ql,qJ,qm,qM,List.replicate,qb,qc,qa,qd,if_false,Bool.not_true,qo,zsq,zbg g.b hb,zeI g.p,zeI g.q,zbo _ 1 h g.n]
theorem zng {us:List SetT} (hb:∀ y∈bn,zbp y=true) (l4:us.length<=100) (g:∀ u∈us,GoodU bn h u) (nd:(us.map fun u=>[u.b,u.p,u.q]).Nodup):zb5 [.lst (us.map zgC),.lst (bn.map D.str),.int h]=some (.bl true):=by
 refine za4 [oS (.lst (us.map zgC)),oS (.lst (bn.map D.str)),oS (.int h)] rfl ((zdo ?_ (zcr (r:=[oS (.lst (bn.map D.str)),oS (.int h)]) (a:=none) (xs:=us.map zgC) rfl (by rw [qe];exact szN l4 (by decide)) rfl fun x hx=>?_)).trans (za3 (zaP (zah (zde (r:=[]) (a:=none) (xs:=us.map zgC) (f:=fun d=>match d with | .tup [a,b,c,d]=>.tup [a,b,c] | _=>.non) rfl (by rw [qe];exact szN l4 (by decide)) rfl fun x hx=>?_) zaz) ?_)))
 ·exact zdU _ 0 100 ⟨by omega,by rw [qe];omega⟩
 ·obtain ⟨p,hp,rfl⟩:=List.mem_map.mp hx
  simp only [cF,zac,zak,vSh,qb,qc,qa,qd,zpa hb (g p hp)]
 ·obtain ⟨p,hp,rfl⟩:=List.mem_map.mp hx
  simp only [vSh,vC,slF,pN,pS,qb,qa,zgC,zvN]
 ·have:=zhj nd (by rw [qe];omega)
  rw [List.map_map] at this ⊢
  exact this
theorem zrL {l:LinkT} (hs:∀ y∈sn,zbp y=true) (g:GoodL sn h l):zc0 [zds l,.lst (sn.map D.str),.int h]=some (.bl true):=by
 have:=g.ne
 simp only [zc0,zh9,zds,zcp,zba,sIf,zbw,zcA,zc5,orT,zca,toB,cF,zac,zak,vSh,vC,b2,zgs,zg9,zlW,ql,qJ,qm,qM,List.replicate,qb,qc,qa,qd,if_false,Bool.not_true,Bool.not_false,qo,zsr,zbg g.a hs,zbg g.b hs,zrE,qI g.ne,zbo _ 0 h g.g]
theorem zpB {ls:List LinkT} (hs:∀ y∈sn,zbp y=true) (l4:ls.length<=100) (g:∀ l∈ls,GoodL sn h l) (nd:(ls.map fun l=>[l.a,l.b]).Nodup):zcn [.lst (ls.map zds),.lst (sn.map D.str),.int h]=some (.bl true):=by
 refine za4 [oS (.lst (ls.map zds)),oS (.lst (sn.map D.str)),oS (.int h)] rfl ((zdo ?_ (zcr (r:=[oS (.lst (sn.map D.str)),oS (.int h)]) (a:=none) (xs:=ls.map zds) rfl (by rw [qe];exact szN l4 (by decide)) rfl fun x hx=>?_)).trans (za3 (zaP (zah (zde (r:=[]) (a:=none) (xs:=ls.map zds) (f:=fun d=>match d with | .tup [a,b,c]=>.tup [a,b] | _=>.non) rfl (by rw [qe];exact szN l4 (by decide)) rfl fun x hx=>?_) zaz) ?_)))
 ·exact zdU _ 0 100 ⟨by omega,by rw [qe];omega⟩
 ·obtain ⟨p,hp,rfl⟩:=List.mem_map.mp hx
  simp only [cF,zac,zak,vSh,qb,qc,qa,qd,zrL hs (g p hp)]
 ·obtain ⟨p,hp,rfl⟩:=List.mem_map.mp hx
  simp only [vSh,vC,slF,pN,pS,qb,qa,zds,zwm]
 ·have:=zhj nd (by rw [qe];omega)
  rw [List.map_map] at this ⊢
  exact this
theorem zoN {w:Str×Int} (hs:∀ y∈sn,zbp y=true) (g:w.1∈sn/\1<=w.2/\w.2<=1000000):zb8 [dW w,.lst (sn.map D.str)]=some (.bl true):=by
 simp only [zb8,zfK,dW,zcp,zbw,zc5,cF,zac,zak,vSh,vC,b2,zgs,zg9,ql,qJ,qm,qM,List.replicate,qb,qc,qa,qd,zoZ,zbg g.1 hs,zbo w.2 1 1000000 g.2]
theorem ziQ {ws:List (Str×Int)} (hs:∀ y∈sn,zbp y=true) (hl:sn.length<=40) (g:GoodA sn ws):zbE [.lst (ws.map dW),.lst (sn.map D.str)]=some (.bl true):=by
 have l4:ws.length<=40:=qH g.ln hl
 refine za4 [oS (.lst (ws.map dW)),oS (.lst (sn.map D.str))] rfl ((zdo ?_ (zcr (r:=[oS (.lst (sn.map D.str))]) (a:=none) (xs:=ws.map dW) rfl (by rw [qe];exact szN l4 (by decide)) rfl fun x hx=>?_)).trans (za3 ?_))
 ·have e:=zdU (ws.map dW) 0 ((sn.map D.str).length:Nat) ⟨by omega,by rw [qe,qe];have:=g.ln;omega⟩
  simp only [cF,zac,zak,vSh,vC,zc3,qb,qc,qa,qd]
  exact e
 ·obtain ⟨p,hp,rfl⟩:=List.mem_map.mp hx
  simp only [cF,zac,zak,vSh,qb,qc,qa,qd,zoN hs (g.ws p hp)]
 ·have:=zdq (i:=0) (fv:=[none]) (ρ:=[oS (.lst (ws.map dW)),oS (.lst (sn.map D.str))]) (f:=dW) (nm:=(·.1)) (xs:=ws) (fun x=>⟨_,rfl⟩) rfl (szN l4 (by decide)) rfl
  exact zaP (zah this zaz) (zch g.nd (by rw [qe];omega))
theorem zo5 {k:StockT} (hs:∀ y∈sn,zbp y=true) (hl:sn.length<=40) (g:GoodK sn k):zcs [zbZ k,.lst (sn.map D.str)]=some (.bl true):=by
 simp only [zcs,zgL,zbZ,zcp,zba,sIf,zbw,zcA,zc5,orT,zca,toB,cF,zac,zak,vSh,vC,b2,zgs,zg9,zlW,zpH,ztW,ql,qJ,qm,qM,List.replicate,qb,qc,qa,qd,if_false,Bool.not_true,qo,zvA,zeI g.nm,zbo _ 0 1000000 g.hi,zbo _ 0 _ g.lo,ziQ hs hl g.tk,ziQ hs hl g.pt]
theorem zm2 {ks:List StockT} (hs:∀ y∈sn,zbp y=true) (hl:sn.length<=40) (l4:ks.length<=6) (g:∀ k∈ks,GoodK sn k) (nd:(ks.map (·.nm)).Nodup):zb4 [.lst (ks.map zbZ),.lst (sn.map D.str)]=some (.bl true):=by
 refine za4 [oS (.lst (ks.map zbZ)),oS (.lst (sn.map D.str))] rfl ((zdo ?_ (zcr (r:=[oS (.lst (sn.map D.str))]) (a:=none) (xs:=ks.map zbZ) rfl (by rw [qe];exact szN l4 (by decide)) rfl fun x hx=>?_)).trans (za3 ?_))
 ·exact zdU _ 0 6 ⟨by omega,by rw [qe];omega⟩
 ·obtain ⟨p,hp,rfl⟩:=List.mem_map.mp hx
  simp only [cF,zac,zak,vSh,qb,qc,qa,qd,zo5 hs hl (g p hp)]
 ·have:=zdq (i:=0) (fv:=[none]) (ρ:=[oS (.lst (ks.map zbZ)),oS (.lst (sn.map D.str))]) (f:=zbZ) (nm:=(·.nm)) (xs:=ks) (fun x=>⟨_,rfl⟩) rfl (szN l4 (by decide)) rfl
  exact zaP (zah this zaz) (zch nd (by rw [qe];omega))
end
section
variable {bs:List BenchT} {ss:List StepT} {js:List JobT} {us:List SetT} {ls:List LinkT} {ks:List StockT} {h:Int}
theorem Good.bnn (g:Good bs ss js us ls ks h):∀ y∈bs.map (·.nm),zbp y=true:=fun y hy=>by
 obtain ⟨b,hb,rfl⟩:=List.mem_map.mp hy
 exact (g.b b hb).nm
theorem Good.snn (g:Good bs ss js us ls ks h):∀ y∈ss.map (·.nm),zbp y=true:=fun y hy=>by
 obtain ⟨b,hb,rfl⟩:=List.mem_map.mp hy
 exact (g.s b hb).nm
theorem znI (g:Good bs ss js us ls ks h) (ml:(js.flatMap (·.ms)).length<=300):zbm [.lst (bs.map zbD),.lst (ss.map zcR),.lst (js.map zco),.lst (us.map zgC),.lst (ls.map zds),.lst (ks.map zbZ),.int h]=some .non:=by
 have hb:=g.bnn
 have hs:=g.snn
 have hl:(ss.map (·.nm)).length<=40:=by rw [qe];exact g.sl.2
 have n1:∀ z:Option Slot,zbM (zbz (itF (vSh 0)) (zbt 0) tT (b2 ixD (vSh 0) (vC (.int 0))) [none]) [oS (.lst (bs.map zbD)),oS (.lst (ss.map zcR)),oS (.lst (js.map zco)),oS (.lst (us.map zgC)),oS (.lst (ls.map zds)),oS (.lst (ks.map zbZ)),oS (.int h),none,none]=some (.lst ((bs.map (·.nm)).map D.str)):=fun z =>
  zdq (f:=zbD) (nm:=(·.nm)) (xs:=bs) (fun x=>⟨_,rfl⟩) rfl (szN g.bl.2 (by decide)) rfl
 have n2:zbM (zbz (itF (vSh 1)) (zbt 0) tT (b2 ixD (vSh 0) (vC (.int 0))) [none]) [oS (.lst (bs.map zbD)),oS (.lst (ss.map zcR)),oS (.lst (js.map zco)),oS (.lst (us.map zgC)),oS (.lst (ls.map zds)),oS (.lst (ks.map zbZ)),oS (.int h),oS (.lst ((bs.map (·.nm)).map D.str)),none]=some (.lst ((ss.map (·.nm)).map D.str)) :=
  zdq (f:=zcR) (nm:=(·.nm)) (xs:=ss) (fun x=>⟨_,rfl⟩) rfl (szN g.sl.2 (by decide)) rfl
 refine za4 [oS (.lst (bs.map zbD)),oS (.lst (ss.map zcR)),oS (.lst (js.map zco)),oS (.lst (us.map zgC)),oS (.lst (ls.map zds)),oS (.lst (ks.map zbZ)),oS (.int h),none,none] rfl ((zfb ?_).trans ((zfb ?_).trans ((zb2 (n1 none)).trans ((zfb ?_).trans ((zb2 n2).trans ((zfb ?_).trans ((zfb ?_).trans ((zfb ?_).trans ((zfb ?_).trans (za3 rfl))))))))))
 ·exact zbo h 1 1000000 g.hh
 ·exact zmM g.bl.1 g.bl.2 g.b g.bn
 ·exact zo6 hb g.sl.1 g.sl.2 g.s g.sn
 ·exact zrR hs hl g.jl g.j g.jn g.jm ml
 ·exact zng hb g.ul g.u g.un
 ·exact zpB hs g.ll g.l g.ln
 ·exact zm2 hs hl g.kl g.k g.kn
end
end Law
end
section
namespace Law
open PySem L2
def Pl:Nat->D->Prop
 | 0,_=>False
 | n+1,.lst l=>l.length<=sizeLine/\∀ x∈l,Pl n x
 | n+1,.tup l=>l.length<=sizeLine/\∀ x∈l,Pl n x
 | _+1,.non=>True
 | _+1,.bl _=>True
 | _+1,.int _=>True
 | _+1,.str _=>True
 | _+1,_=>False
theorem za2 {ft:FT} {X E:FS} {ρ:za1} (h:ft ρ=some false):zba (sIf ft X zcA) E ρ=E ρ:=by
 simp only [zba,sIf,h,qa,qo,if_false,zcA]
theorem zdk {ft:FT} {A B E:FS} {ρ ρ':za1} {d:D} (h:ft ρ=some true) (h2:A ρ=some (.rt d,ρ')):zba (sIf ft A B) E ρ=some (.rt d,ρ'):=by
 simp only [zba,sIf,h,qa,if_true,h2]
theorem zjj:∀ (n:Nat) (d:D),Pl n d->zdW n [d]=some d
 | 0,_,h=>h.elim
 | n+1,.lst l,h=>by
  refine za4 [oS (.lst l)] rfl (zdk (za5 (b:=true) ?_) (za3 ?_))
  ·simp only [cF,zac,zak,vSh,vC,zgt,tyD,qb,qa,qd,k1]
  ·have:=zde (fi:=itF (vSh 0)) (fe:=cF (zdW n) (zac (vSh 0) zak)) (fv:=[none]) (ρ:=[oS (.lst l)]) (r:=[]) (a:=none) (xs:=l) (f:=fun x=>x) rfl h.1 rfl (fun x hx=>by simp only [cF,zac,zak,vSh,qb,qa,qd,zjj n x (h.2 x hx)])
   rw [List.map_id'] at this
   exact this
 | n+1,.tup l,h=>by
  refine za4 [oS (.tup l)] rfl ((za2 (za5 (b:=false) ?_)).trans (zdk (za5 (b:=true) ?_) (za3 (zaP (zah (d:=.lst l) ?_ zaz) rfl))))
  ·simp only [cF,zac,zak,vSh,vC,zgt,tyD,qb,qa,qd,k2]
  ·simp only [cF,zac,zak,vSh,vC,zgt,tyD,qb,qa,qd,k3]
  ·have:=zde (fi:=itF (vSh 0)) (fe:=cF (zdW n) (zac (vSh 0) zak)) (fv:=[none]) (ρ:=[oS (.tup l)]) (r:=[]) (a:=none) (xs:=l) (f:=fun x=>x) rfl h.1 rfl (fun x hx=>by simp only [cF,zac,zak,vSh,qb,qa,qd,zjj n x (h.2 x hx)])
   rw [List.map_id'] at this
   exact this
 | n+1,.non,h=>by
  show zdY (zdW n) [.non]=some .non
  unfold zdY
  refine za4 [oS .non] rfl ((za2 (za5 (b:=false) ?_)).trans ((za2 (za5 (b:=false) ?_)).trans (za3 (f:=vSh 0) rfl))) <;> simp only [cF,zac,zak,vSh,vC,zgt,tyD,qb,qa,qd,k10,k11]
 | n+1,.bl b,h=>by
  show zdY (zdW n) [.bl b]=some (.bl b)
  unfold zdY
  refine za4 [oS (.bl b)] rfl ((za2 (za5 (b:=false) ?_)).trans ((za2 (za5 (b:=false) ?_)).trans (za3 (f:=vSh 0) rfl))) <;> simp only [cF,zac,zak,vSh,vC,zgt,tyD,qb,qa,qd,k8,k9]
 | n+1,.int b,h=>by
  show zdY (zdW n) [.int b]=some (.int b)
  unfold zdY
  refine za4 [oS (.int b)] rfl ((za2 (za5 (b:=false) ?_)).trans ((za2 (za5 (b:=false) ?_)).trans (za3 (f:=vSh 0) rfl))) <;> simp only [cF,zac,zak,vSh,vC,zgt,tyD,qb,qa,qd,k6,k7]
 | n+1,.str b,h=>by
  show zdY (zdW n) [.str b]=some (.str b)
  unfold zdY
  refine za4 [oS (.str b)] rfl ((za2 (za5 (b:=false) ?_)).trans ((za2 (za5 (b:=false) ?_)).trans (za3 (f:=vSh 0) rfl))) <;> simp only [cF,zac,zak,vSh,vC,zgt,tyD,qb,qa,qd,k4,k4,k5]
theorem zgY {d:D} (h:Pl 8 d):zbd [d]=some d:=zjj 8 d h
theorem zeG {n:Nat} {α:Type} {f:α->D} {xs:List α} (hl:xs.length<=1000) (h:∀ x∈xs,Pl n (f x)):Pl (n+1) (.lst (xs.map f)) :=
 ⟨by rw [qe];exact szN hl (by decide),fun x hx=>by
  obtain ⟨y,hy,rfl⟩:=List.mem_map.mp hx
  exact h y hy⟩
theorem ztg {n:Nat} {xs:List Str} (hl:xs.length<=1000):Pl (n+2) (.lst (xs.map D.str)):=zeG hl fun x _=>(trivial:Pl (n+1) (.str x))
theorem zuX {n:Nat} {xs:List (Str×Int)} (hl:xs.length<=1000):Pl (n+3) (.lst (xs.map dW)):=zeG hl fun x _=>⟨by simp [sizeLine],by
 intro y hy
 simp only [qG,qF,or_false] at hy
 rcases hy with rfl | rfl <;> trivial⟩
theorem zpm {n:Nat} {h:Int} {b:BenchT} (g:GoodB h b):Pl (n+4) (zbD b):=⟨by simp [sizeLine],by
 intro y hy
 simp only [qG,qF,or_false] at hy
 rcases hy with rfl | rfl
 ·trivial
 ·exact zeG (by have:=g.len;omega) fun x _=>⟨by simp [sizeLine],by
   intro y hy
   simp only [qG,qF,or_false] at hy
   rcases hy with rfl | rfl <;> trivial⟩⟩
theorem zrl {n:Nat} {bn:List Str} {h:Int} {s:StepT} (g:GoodS bn h s):Pl (n+4) (zcR s):=⟨by simp [sizeLine],by
 intro y hy
 simp only [qG,qF,or_false] at hy
 rcases hy with rfl | rfl | rfl
 ·trivial
 ·trivial
 ·exact zuX (by have:=g.l4;omega)⟩
theorem zqq {n:Nat} {sn:List Str} {h:Int} {j:JobT} (hl:sn.length<=40) (g:GoodJ sn h j):Pl (n+3) (zco j):=⟨by simp [sizeLine],by
 intro y hy
 simp only [qG,qF,or_false] at hy
 rcases hy with rfl | rfl | rfl | rfl | rfl
 ·trivial
 ·trivial
 ·trivial
 ·trivial
 ·exact ztg (by have:=g.ln;omega)⟩
theorem zth {n:Nat} {u:SetT}:Pl (n+2) (zgC u):=⟨by simp [sizeLine],by
 intro y hy
 simp only [qG,qF,or_false] at hy
 rcases hy with rfl | rfl | rfl | rfl <;> trivial⟩
theorem zrm {n:Nat} {u:LinkT}:Pl (n+2) (zds u):=⟨by simp [sizeLine],by
 intro y hy
 simp only [qG,qF,or_false] at hy
 rcases hy with rfl | rfl | rfl <;> trivial⟩
theorem zlH {n:Nat} {sn:List Str} {k:StockT} (hl:sn.length<=40) (g:GoodK sn k):Pl (n+4) (zbZ k):=⟨by simp [sizeLine],by
 intro y hy
 simp only [qG,qF,or_false] at hy
 rcases hy with rfl | rfl | rfl | rfl | rfl
 ·trivial
 ·trivial
 ·trivial
 ·exact zuX (by have:=g.tk.ln;omega)
 ·exact zuX (by have:=g.pt.ln;omega)⟩
theorem ziH {α:Type} {nm:α->Str} {f:α->D}:∀ (xs:List α),ziI (xs.map fun x=>.tup [.str (nm x),f x])=some (xs.map fun x=>(.inr (nm x),f x))
 | []=>rfl
 | x::r=>by simp only [ql,ziI,zpT,qa,ziH r,qd]
theorem ziG {α:Type} {t:α->List Str} {f:α->D}:∀ (xs:List α),zhC (xs.map fun x=>.tup [.tup ((t x).map D.str),f x])=some (xs.map fun x=>((t x).map Sum.inr,f x))
 | []=>rfl
 | x::r=>by simp only [ql,zhC,zeX,qa,ziG r,qd]
theorem ziK {κ:Type} [DecidableEq κ] {ps:List (κ×D)} (h:(ps.map (·.1)).Nodup):zuw ps=ps:=by
 have key:∀ (l a:List (κ×D)),((a++l).map (·.1)).Nodup->l.foldl (fun acc kv=>zmu acc kv.1 kv.2) a=a++l:=by
  intro l
  induction l with
  | nil=>intro a _;simp
  | cons x r ih =>
   intro a hn
   have hx:(a.any fun kv=>decide (kv.1=x.1))=false:=by
    rw [List.any_eq_false]
    intro y hy z
    rw [List.map_append,List.nodup_append] at hn
    exact hn.2.2 y.1 (qQ hy) x.1 (by simp) (of_decide_eq_true z)
   rw [List.foldl_cons]
   have e:zmu a x.1 x.2=a++[x]:=by
    unfold zmu
    rw [hx]
    rfl
   rw [e,ih (a++[x]) (by simpa using hn)]
   simp
 simpa [zuw] using key ps [] (by simpa using h)
theorem zf5 {β:Type}:∀ {fs:List (Str×β)} {i:Nat} {k:Str} {d:β},(fs.map (·.1)).Nodup->fs[i]?=some (k,d)->fs.lookup k=some d
 | [],i,k,d,_,h=>by simp at h
 | (a,b)::r,0,k,d,_,h=>by
  simp only [qb,Option.some.injEq,Prod.mk.injEq] at h
  obtain ⟨rfl,rfl⟩:=h
  simp [List.lookup]
 | (a,b)::r,i+1,k,d,nd,h=>by
  rw [qc] at h
  rw [ql,List.nodup_cons] at nd
  have ne:k≠a:=by
   intro z
   subst z
   exact nd.1 (qQ (f:=(·.1)) (qK h))
  have hb:(k==a)=false:=by simpa using ne
  simp only [List.lookup,hb]
  exact zf5 nd.2 h
theorem zgq {β:Type}:∀ {fs:List (Str×β)} {k:Str},k∉fs.map (·.1)->fs.lookup k=none
 | [],_,_=>rfl
 | (a,b)::r,k,h=>by
  rw [ql,qG,not_or] at h
  have hb:(k==a)=false:=by simpa using h.1
  simp only [List.lookup,hb]
  exact zgq h.2
end Law
end
section
namespace Law
open PySem L2
def zoU (j:JobT) (acc:List (Key×D)) (m:Str):List (Key×D):=zmu acc (.inr m) (zco j)
def jkv (js:List JobT):List (Key×D):=js.foldl (fun acc j=>j.ms.foldl (zoU j) acc) []
theorem zpj {κ:Type} [DecidableEq κ] (kvs:List (κ×D)) (k:κ) (v:D):(zmu kvs k v).length<=kvs.length+1:=by
 unfold zmu
 split
 ·rw [qe];omega
 ·rw [qi];simp
theorem zhO (j:JobT):∀ (ms:List Str) (acc:List (Key×D)),(ms.foldl (zoU j) acc).length<=acc.length+ms.length
 | [],acc=>by simp
 | m::r,acc=>by
  rw [List.foldl_cons]
  have h1:=zhO j r (zoU j acc m)
  have h2:(zoU j acc m).length<=acc.length+1:=zpj _ _ _
  rw [qh];omega
theorem zn6 {m:Nat}:∀ {js:List JobT} (acc:List (Key×D)),(∀ j∈js,j.ms.length<=m)->(js.foldl (fun acc j=>j.ms.foldl (zoU j) acc) acc).length<=acc.length+js.length*m
 | [],acc,_=>by simp
 | j::r,acc,h=>by
  rw [List.foldl_cons]
  have h1:=zn6 (js:=r) (j.ms.foldl (zoU j) acc) fun y hy=>h y (qg _ hy)
  have h2:=zhO j j.ms acc
  have h3:=h j qf
  rw [qh,Nat.succ_mul];omega
def zof (bs:List BenchT) (ss:List StepT) (js:List JobT) (us:List SetT) (ls:List LinkT) (ks:List StockT) (h:Int):List (Str×D) :=
 [("benches",.lst (bs.map zbD)),("steps",.lst (ss.map zcR)),("jobs",.lst (js.map zco)),("setups",.lst (us.map zgC)),("links",.lst (ls.map zds)),("stocks",.lst (ks.map zbZ)),("horizon",.int h),
 ("bench_by_name",.dk (bs.map fun b=>(.inr b.nm,zbD b))),("step_by_name",.dk (ss.map fun s=>(.inr s.nm,zcR s))),("setup_by_names",.dt (us.map fun u=>([u.b,u.p,u.q].map Sum.inr,.int u.n)))]
def zsx (bs:List BenchT) (ss:List StepT) (js:List JobT) (us:List SetT) (ls:List LinkT) (ks:List StockT) (h:Int):List (Str×D):=zof bs ss js us ls ks h++[(("job_by_step":Str),D.dk (jkv js))]
def zcq (bs:List BenchT) (ss:List StepT) (js:List JobT) (us:List SetT) (ls:List LinkT) (ks:List StockT) (h:Int):D:=.ins "Shop" (zsx bs ss js us ls ks h)
def zgX:List Str:=["benches","steps","jobs","setups","links","stocks","horizon","bench_by_name","step_by_name","setup_by_names","job_by_step"]
theorem zjg:zgX.Nodup:=by decide +kernel
theorem znS {α:Type} {l:List α} (h:l.Nodup) (n:Nat):(l.take n).Nodup:=List.Sublist.nodup (List.take_sublist n l) h
section
variable {fs:List (Str×D)} {f:Str} {fv:FE} {r:za1} {g:FS} {d:D}
theorem zdT (n:Nat) (hk:zgX[n]?=some f) (hf:fs.map (·.1)=zgX.take n) (h:fv (some (.obj "Shop" fs)::r)=some d):zba (zdQ "Shop" f 0 fv) g (some (.obj "Shop" fs)::r)=g (some (.obj "Shop" (fs++[(f,d)]))::r):=by
 have hno:fs.lookup f=none:=zgq (by
  rw [hf]
  intro z
  obtain ⟨i,hi⟩:=List.getElem?_of_mem z
  have hin:i < n:=by
   rcases Nat.lt_or_ge i n with q | q
   ·exact q
   ·rw [List.getElem?_eq_none (by rw [qA];omega)] at hi;cases hi
  rw [List.getElem?_take_of_lt hin] at hi
  have:=(List.getElem?_inj (List.getElem?_eq_some_iff.mp hi).1 zjg).mp (hi.trans hk.symm)
  omega)
 have hlen:fs.length < 100:=by
  have:=congrArg List.length hf
  rw [qe,qA] at this
  have k:zgX.length=11:=rfl
  omega
 simp only [zba,zdQ,h,qa,qb,hno,hlen,and_self,if_true,List.set_cons_zero]
theorem zjd (n i:Nat) (hf:fs.map (·.1)=zgX.take n) (h:fs[i]?=some (f,d)):zih "Shop" f 0 (some (.obj "Shop" fs)::r)=some d:=by
 have e:fs.lookup f=some d:=zf5 (by rw [hf];exact znS zjg n) h
 show (if some ("Shop":Str)=some ("Shop":Str) then fs.lookup f else none)=some d
 rw [qR rfl,e]
end
theorem zoq {α:Type} {f:α->D} {nm:α->Str} {xs:List α} {fo:FE} {ρ:za1} (hf:∀ x,∃ r,f x=.tup (.str (nm x)::r)) (h1:fo ρ=some (.lst (xs.map f))) (h2:xs.length<=1000) (nd:(xs.map nm).Nodup) :
  cF zkl (zac (zbM (zbz (itF fo) (zbt 0) tT (zdj (szF (zac (b2 ixD (vSh 0) (vC (.int 0))) (zac (vSh 0) zak)))) [none])) zak) ρ=some (.dk (xs.map fun x=>(.inr (nm x),f x))):=by
 have hc:=zde (fi:=itF fo) (fe:=zdj (szF (zac (b2 ixD (vSh 0) (vC (.int 0))) (zac (vSh 0) zak)))) (fv:=[none]) (ρ:=ρ) (r:=[]) (a:=none) (xs:=xs.map f) (f:=fun d=>.tup [match d with | .tup (x::_)=>x | _=>.non,d]) (by unfold itF;rw [h1];rfl) (by rw [qe];exact szN h2 (by decide)) rfl (fun x hx=>by
  obtain ⟨y,_,rfl⟩:=List.mem_map.mp hx
  obtain ⟨r,e⟩:=hf y
  simp only [zac,zak,vSh,vC,b2,zdj,szF,zgs,qb,qa,qd,if_true,qh,qk,Nat.zero_add,sz2,e])
 have e:(xs.map f).map (fun d=>D.tup [match d with | .tup (x::_)=>x | _=>.non,d])=xs.map fun x=>.tup [.str (nm x),f x]:=by
  rw [List.map_map]
  refine List.map_congr_left fun x _=>?_
  obtain ⟨r,e⟩:=hf x
  simp [e]
 rw [e] at hc
 have kn:((xs.map fun x=>((.inr (nm x):Key),f x)).map (·.1)).Nodup:=by
  rw [List.map_map]
  have:=List.Pairwise.map (S:=fun a b:Key=>a≠b) (Sum.inr:Str->Key) (fun a b hab z=>hab (Sum.inr.inj z)) nd
  rw [List.map_map] at this
  exact this
 refine zaP (zah hc zaz) ?_
 show (if _ then _ else _)=_
 rw [qR (by rw [qe];exact h2),ziH,qd,ziK kn]
theorem zpV {us:List SetT} {fo:FE} {ρ:za1} (h1:fo ρ=some (.lst (us.map zgC))) (h2:us.length<=1000) (nd:(us.map fun u=>[u.b,u.p,u.q]).Nodup) :
  cF zl4 (zac (zbM (zbz (itF fo) (zbt 0) tT (zdj (szF (zac (slF (vSh 0) pN (pS (vC (.int 3)))) (zac (b2 ixD (vSh 0) (vC (.int 3))) zak)))) [none])) zak) ρ=some (.dt (us.map fun u=>([u.b,u.p,u.q].map Sum.inr,.int u.n))):=by
 have hc:=zde (fi:=itF fo) (fe:=zdj (szF (zac (slF (vSh 0) pN (pS (vC (.int 3)))) (zac (b2 ixD (vSh 0) (vC (.int 3))) zak)))) (fv:=[none]) (ρ:=ρ) (r:=[]) (a:=none) (xs:=us.map zgC) (f:=fun d=>match d with | .tup [a,b,c,d]=>.tup [.tup [a,b,c],d] | _=>.non) (by unfold itF;rw [h1];rfl) (by rw [qe];exact szN h2 (by decide)) rfl (fun x hx=>by
  obtain ⟨y,_,rfl⟩:=List.mem_map.mp hx
  simp only [zac,zak,vSh,vC,b2,zdj,szF,slF,pN,pS,zpH,qb,qa,qd,if_true,qh,qk,Nat.zero_add,sz2,zgC,zvN])
 rw [List.map_map] at hc
 have kn:((us.map fun u=>([u.b,u.p,u.q].map (Sum.inr:Str->Key),D.int u.n)).map (·.1)).Nodup:=by
  rw [List.map_map]
  have inj:∀ a b:List Str,a.map (Sum.inr:Str->Key)=b.map Sum.inr->a=b:=fun a b z=>(List.map_inj_right (fun x y q=>Sum.inr.inj q)).mp z
  have:=List.Pairwise.map (S:=fun a b:List Key=>a≠b) (List.map (Sum.inr:Str->Key)) (fun a b hab z=>hab (inj a b z)) nd
  rw [List.map_map] at this
  exact this
 refine zaP (zah hc zaz) ?_
 show (if _ then _ else _)=_
 have e:=ziG (t:=fun u:SetT=>[u.b,u.p,u.q]) (f:=fun u=>.int u.n) us
 rw [qR (by rw [qe];exact h2)]
 have e2:zhC (us.map ((fun d=>match d with | .tup [a,b,c,d]=>D.tup [.tup [a,b,c],d] | _=>.non) ∘ zgC))=some (us.map fun u=>([u.b,u.p,u.q].map Sum.inr,.int u.n)):=e
 rw [e2,qd,ziK kn]
section
variable {bs:List BenchT} {ss:List StepT} {js:List JobT} {us:List SetT} {ls:List LinkT} {ks:List StockT} {h:Int}
theorem zhP:(zof bs ss js us ls ks h).map (·.1)=zgX.take 10:=rfl
theorem zkd:(zsx bs ss js us ls ks h).map (·.1)=zgX:=rfl
abbrev r9 (bs:List BenchT) (ss:List StepT) (js:List JobT) (us:List SetT) (ls:List LinkT) (ks:List StockT) (h:Int) (a b:Option Slot):za1:=[oS (.lst (bs.map zbD)),oS (.lst (ss.map zcR)),oS (.lst (js.map zco)),oS (.lst (us.map zgC)),oS (.lst (ls.map zds)),oS (.lst (ks.map zbZ)),oS (.int h),oS .non,a,b]
abbrev ob (bs:List BenchT) (ss:List StepT) (js:List JobT) (us:List SetT) (ls:List LinkT) (ks:List StockT) (h:Int) (kvs:List (Key×D)):Option Slot:=some (.objd "Shop" (zof bs ss js us ls ks h) "job_by_step" kvs)
theorem ztb {j:JobT} {m:Str} {kvs:List (Key×D)} (hl:kvs.length < 100000):zdR "Shop" "job_by_step" 0 (vSh 10) (vSh 9) (ob bs ss js us ls ks h kvs::r9 bs ss js us ls ks h (oS (zco j)) (oS (.str m)))=some (.nx,ob bs ss js us ls ks h (zoU j kvs m)::r9 bs ss js us ls ks h (oS (zco j)) (oS (.str m))):=by
 have hno:(zof bs ss js us ls ks h).lookup ("job_by_step":Str)=none:=zgq (by rw [zhP];decide +kernel)
 simp only [zdR,vSh,qb,qc,qa,zpT,hno,hl,and_self,if_true,List.set_cons_zero,zoU]
theorem zpI {j:JobT} {acc:List (Key×D)} {z:Option Slot} (hl:acc.length+j.ms.length < 100000):∃ z',zig (itF (b2 ixD (vSh 9) (vC (.int 4)))) (zbt 10) (zdR "Shop" "job_by_step" 0 (vSh 10) (vSh 9)) (ob bs ss js us ls ks h acc::r9 bs ss js us ls ks h (oS (zco j)) z)=some (.nx,ob bs ss js us ls ks h (j.ms.foldl (zoU j) acc)::r9 bs ss js us ls ks h (oS (zco j)) z'):=by
 obtain ⟨ρ',h1,z',h2⟩:=zgx (gg:=zbt 10) (body:=zdR "Shop" "job_by_step" 0 (vSh 10) (vSh 9)) (xs:=j.ms.map D.str) (ρ:=ob bs ss js us ls ks h acc::r9 bs ss js us ls ks h (oS (zco j)) z)
  (fun i ρ=>∃ z,ρ=ob bs ss js us ls ks h ((j.ms.take i).foldl (zoU j) acc)::r9 bs ss js us ls ks h (oS (zco j)) z) ⟨z,by simp⟩ (fun i x ρ hx hI=>by
   obtain ⟨z,rfl⟩:=hI
   rw [qj] at hx
   obtain ⟨m,hm,rfl⟩:=oMd hx
   have tk:j.ms.take (i+1)=j.ms.take i++[m]:=by rw [List.take_add_one,hm];rfl
   have hlen:=zhO j (j.ms.take i) acc
   rw [qA] at hlen
   refine ⟨_,_,rfl,ztb (by omega),oS (.str m),?_⟩
   rw [tk,List.foldl_append];rfl)
 refine ⟨z',?_⟩
 have e:itF (b2 ixD (vSh 9) (vC (.int 4))) (ob bs ss js us ls ks h acc::r9 bs ss js us ls ks h (oS (zco j)) z)=some (j.ms.map D.str):=by
  simp only [vSh,vC,b2,itF,zkb,ztW,qb,qc,qa,zco]
 unfold zig
 rw [e,qa,h1,h2,qe,List.take_length]
theorem zpt (hj:js.length<=40) (hm:∀ j∈js,j.ms.length<=40):∃ z z',zoi (zbt 9) (zig (itF (b2 ixD (vSh 9) (vC (.int 4)))) (zbt 10) (zdR "Shop" "job_by_step" 0 (vSh 10) (vSh 9))) (js.map zco) (ob bs ss js us ls ks h []::r9 bs ss js us ls ks h none none)=some (.nx,ob bs ss js us ls ks h (jkv js)::r9 bs ss js us ls ks h z z'):=by
 obtain ⟨ρ',h1,z,z',h2⟩:=zgx (gg:=zbt 9) (body:=zig (itF (b2 ixD (vSh 9) (vC (.int 4)))) (zbt 10) (zdR "Shop" "job_by_step" 0 (vSh 10) (vSh 9))) (xs:=js.map zco) (ρ:=ob bs ss js us ls ks h []::r9 bs ss js us ls ks h none none)
  (fun i ρ=>∃ z z',ρ=ob bs ss js us ls ks h (jkv (js.take i))::r9 bs ss js us ls ks h z z') ⟨none,none,by simp [jkv]⟩ (fun i x ρ hx hI=>by
   obtain ⟨z,z',rfl⟩:=hI
   rw [qj] at hx
   obtain ⟨j,hjm,rfl⟩:=oMd hx
   have tk:js.take (i+1)=js.take i++[j]:=by rw [List.take_add_one,hjm];rfl
   have hlen:=zn6 (m:=40) (js:=js.take i) [] fun y hy=>hm y (List.mem_of_mem_take hy)
   rw [qA,qk] at hlen
   have h4:=hm j (qK hjm)
   obtain ⟨w,hw⟩:=zpI (bs:=bs) (ss:=ss) (js:=js) (us:=us) (ls:=ls) (ks:=ks) (h:=h) (j:=j) (acc:=jkv (js.take i)) (z:=z') (by unfold jkv;omega)
   refine ⟨_,_,rfl,hw,oS (zco j),w,?_⟩
   rw [tk]
   unfold jkv
   rw [List.foldl_append];rfl)
 refine ⟨z,z',?_⟩
 rw [h1,h2,qe,List.take_length]
theorem zrU (g:Good bs ss js us ls ks h) (ml:(js.flatMap (·.ms)).length<=300):zbk [.lst (bs.map zbD),.lst (ss.map zcR),.lst (js.map zco),.lst (us.map zgC),.lst (ls.map zds),.lst (ks.map zbZ),.int h]=some (zcq bs ss js us ls ks h):=by
 have hl:(ss.map (·.nm)).length<=40:=by rw [qe];exact g.sl.2
 have f1:=zgY (d:=.lst (bs.map zbD)) (zeG (by have:=g.bl.2;omega) fun x hx=>zpm (g.b x hx))
 have f2:=zgY (d:=.lst (ss.map zcR)) (zeG (by have:=g.sl.2;omega) fun x hx=>zrl (g.s x hx))
 have f3:=zgY (d:=.lst (js.map zco)) (zeG (by have:=g.jl;omega) fun x hx=>zqq hl (g.j x hx))
 have f4:=zgY (d:=.lst (us.map zgC)) (zeG (by have:=g.ul;omega) fun x hx=>zth)
 have f5:=zgY (d:=.lst (ls.map zds)) (zeG (by have:=g.ll;omega) fun x hx=>zrm)
 have f6:=zgY (d:=.lst (ks.map zbZ)) (zeG (by have:=g.kl;omega) fun x hx=>zlH hl (g.k x hx))
 obtain ⟨z,z',ho⟩:=zpt (bs:=bs) (ss:=ss) (us:=us) (ls:=ls) (ks:=ks) (h:=h) g.jl fun j hj=>qH (g.j j hj).ln hl
 have key:∀ (G:FS) (ρ':za1),G (some (.obj "Shop" [])::[oS (.lst (bs.map zbD)),oS (.lst (ss.map zcR)),oS (.lst (js.map zco)),oS (.lst (us.map zgC)),oS (.lst (ls.map zds)),oS (.lst (ks.map zbZ)),oS (.int h),none,none,none])=some (.nx,ob bs ss js us ls ks h (jkv js)::ρ') ->
   zqe 3 "Shop" G [.lst (bs.map zbD),.lst (ss.map zcR),.lst (js.map zco),.lst (us.map zgC),.lst (ls.map zds),.lst (ks.map zbZ),.int h]=some (zcq bs ss js us ls ks h):=fun G ρ' e=>by
  unfold zqe
  show (G (some (.obj "Shop" [])::[oS (.lst (bs.map zbD)),oS (.lst (ss.map zcR)),oS (.lst (js.map zco)),oS (.lst (us.map zgC)),oS (.lst (ls.map zds)),oS (.lst (ks.map zbZ)),oS (.int h),none,none,none])).bind _=_
  rw [e]
  rfl
 refine key _ (r9 bs ss js us ls ks h z z') ((zb2 (zaP rfl (znI g ml))).trans ?_)
 show zba _ _ (some (.obj "Shop" [])::r9 bs ss js us ls ks h none none)=_
 refine (za2 (za5 (b:=false) rfl)).trans ?_
 refine (zdT 0 rfl rfl (zaP rfl f1)).trans ?_
 refine (zdT 1 rfl rfl (zaP rfl f2)).trans ?_
 refine (zdT 2 rfl rfl (zaP rfl f3)).trans ?_
 refine (zdT 3 rfl rfl (zaP rfl f4)).trans ?_
 refine (zdT 4 rfl rfl (zaP rfl f5)).trans ?_
 refine (zdT 5 rfl rfl (zaP rfl f6)).trans ?_
 refine (zdT 6 rfl rfl (d:=.int h) rfl).trans ?_
 refine (zdT 7 rfl rfl (zoq (f:=zbD) (nm:=(·.nm)) (xs:=bs) (fun x=>⟨_,rfl⟩) (zjd 7 0 rfl rfl) (by have:=g.bl.2;omega) g.bn)).trans ?_
 refine (zdT 8 rfl rfl (zoq (f:=zcR) (nm:=(·.nm)) (xs:=ss) (fun x=>⟨_,rfl⟩) (zjd 8 1 rfl rfl) (by have:=g.sl.2;omega) g.sn)).trans ?_
 refine (zdT 9 rfl rfl (zpV (us:=us) (zjd 9 3 rfl rfl) (by have:=g.ul;omega) g.un)).trans ?_
 have hno:(zof bs ss js us ls ks h).lookup ("job_by_step":Str)=none:=zgq (by rw [zhP];decide +kernel)
 have hle:(zof bs ss js us ls ks h).length < 100:=by simp [zof]
 have e1:zss "Shop" "job_by_step" 0 (some (.obj "Shop" (zof bs ss js us ls ks h))::r9 bs ss js us ls ks h none none)=some (.nx,ob bs ss js us ls ks h []::r9 bs ss js us ls ks h none none):=by
  simp only [zss,qb,hno,hle,and_self,if_true,List.set_cons_zero]
 have e2:itF (zih "Shop" "jobs" 0) (ob bs ss js us ls ks h []::r9 bs ss js us ls ks h none none)=some (js.map zco):=by
  have lk:(zof bs ss js us ls ks h).lookup ("jobs":Str)=some (.lst (js.map zco)):=zf5 (i:=2) (by rw [zhP];exact znS zjg 10) rfl
  have n1:("jobs":Str)≠"job_by_step":=by decide +kernel
  have e:zih "Shop" "jobs" 0 (ob bs ss js us ls ks h []::r9 bs ss js us ls ks h none none)=some (.lst (js.map zco)):=by
   show (if some ("Shop":Str)=some ("Shop":Str) then (if ("jobs":Str)="job_by_step" then none else (zof bs ss js us ls ks h).lookup ("jobs":Str)) else none)=_
   rw [qR rfl,qS n1,lk]
  unfold itF
  rw [e];rfl
 show zba (zss "Shop" "job_by_step" 0) (zig (itF (zih "Shop" "jobs" 0)) (zbt 9) (zig (itF (b2 ixD (vSh 9) (vC (.int 4)))) (zbt 10) (zdR "Shop" "job_by_step" 0 (vSh 10) (vSh 9)))) (some (.obj "Shop" (zof bs ss js us ls ks h))::r9 bs ss js us ls ks h none none)=_
 unfold zba
 rw [e1,qa]
 show zig _ _ _ _=_
 unfold zig
 rw [e2,qa]
 exact ho
end
end Law
end
section
namespace Law
open PySem L2
abbrev zge:=Addr->za1
def Ev {α:Type} (f:za1->Int->Option (α×Int)) (ρ:zge) (P:α->Prop):Prop:=∀ r,∃ a r',(∀ q,f (ρ q) r=some (a,r'))/\P a
def Es (g:FRs) (ρ:zge) (P:Fl->zge->Prop):Prop:=∀ r,∃ fl ρ' r',(∀ q,g (ρ q) r=some (fl,ρ' q,r'))/\P fl ρ'
def EvF (F:FQ') (ds:List D) (P:D->Prop):Prop:=∀ r,∃ d r',(∀ q,F q ds r=some (d,r'))/\P d
section
variable {α β:Type} {ρ:zge} {f:FR} {fa fb:FR} {fr:FRa} {P:D->Prop} {i j:Nat} {g g':FRs} {R:Fl->zge->Prop} {d:D}
theorem Ev.imp {f:za1->Int->Option (α×Int)} {P Q:α->Prop} (h:Ev f ρ P) (k:∀ a,P a->Q a):Ev f ρ Q:=fun r=>by
 obtain ⟨a,r',h1,h2⟩:=h r
 exact ⟨a,r',h1,k a h2⟩
theorem EvF.imp {F:FQ'} {ds:List D} {P Q:D->Prop} (h:EvF F ds P) (k:∀ a,P a->Q a):EvF F ds Q:=fun r=>by
 obtain ⟨a,r',h1,h2⟩:=h r
 exact ⟨a,r',h1,k a h2⟩
theorem Es.imp {R S:Fl->zge->Prop} (h:Es g ρ R) (k:∀ a b,R a b->S a b):Es g ρ S:=fun r=>by
 obtain ⟨a,b,r',h1,h2⟩:=h r
 exact ⟨a,b,r',h1,k a b h2⟩
theorem zaZ {f:za1->Option α} {a:α} {P:α->Prop} (h:∀ q,f (ρ q)=some a) (k:P a):Ev (rP f) ρ P:=fun r=>⟨a,r,fun q=>by unfold rP;rw [h];rfl,k⟩
theorem zuy {f:za1->Int->Option (α×Int)} {g:za1->α->Int->Option (β×Int)} {P:β->Prop} (h:Ev f ρ fun a=>Ev (fun ρ r=>g ρ a r) ρ P):Ev (rb f g) ρ P:=fun r=>by
 obtain ⟨a,r1,h1,h2⟩:=h r
 obtain ⟨b,r2,h3,h4⟩:=h2 r1
 exact ⟨b,r2,fun q=>by unfold rb;rw [h1];exact h3 q,h4⟩
theorem zoW {f:za1->Int->Option (α×Int)} {g:α->Option β} {P:β->Prop} (h:Ev f ρ fun a=>∃ b,g a=some b/\P b):Ev (rM f g) ρ P:=fun r=>by
 obtain ⟨a,r1,h1,b,h2,h3⟩:=h r
 exact ⟨b,r1,fun q=>by unfold rM;rw [h1];show (g a).map _=_;rw [h2];rfl,h3⟩
theorem zgy {g:D->D->Option D} (h:Ev fa ρ fun x=>Ev fb ρ fun y=>∃ z,g x y=some z/\P z):Ev (r2 g fa fb) ρ P:=zuy (h.imp fun _ k=>zoW k)
theorem zar {P:List D->Prop} (h:Ev fa ρ fun x=>Ev fr ρ fun l=>P (x::l)):Ev (zap fa fr) ρ P:=zuy (h.imp fun _ k=>zoW (k.imp fun _ z=>⟨_,rfl,z⟩))
theorem zaY {P:List D->Prop} (h:P []):Ev (rP zak) ρ P:=zaZ (fun _=>rfl) h
theorem zci {P:D->Prop} (h:Ev fr ρ fun l=>l.length<=10/\P (.tup l)):Ev (rM fr ze0) ρ P:=zoW (h.imp fun l k=>⟨.tup l,by unfold ze0 szD;rw [qR (by unfold sizeLine;omega)];rfl,k.2⟩)
theorem zkh {P:D->Prop} (h:Ev fr ρ fun l=>P (.lst l)):Ev (rM fr zmU) ρ P:=zoW (h.imp fun l k=>⟨.lst l,rfl,k⟩)
theorem zoj {P:List D->Prop} (h:Ev fr ρ fun l=>l.length<=10/\P l):Ev (rM fr szD) ρ P:=zoW (h.imp fun l k=>⟨l,by unfold szD;rw [qR (by unfold sizeLine;omega)],k.2⟩)
theorem zc4 {F:FQ'} (hs:∀ q,(ρ q)[i]?=some (some (.pin q))) (h:Ev fr ρ fun ds=>EvF F ds P):Ev (zbn F i fr) ρ P:=fun r=>by
 obtain ⟨ds,r1,h1,h2⟩:=h r
 obtain ⟨d,r2,h3,h4⟩:=h2 r1
 exact ⟨d,r2,fun q=>by unfold zbn;rw [hs,h1];exact h3 q,h4⟩
theorem zeo {n:Nat} {ds:List D} (h:Es g (fun q=>some (.pin q)::(ds.map (fun d=>some (Slot.sh d))++List.replicate n none)) fun fl _=>∃ d,fl=.rt d/\P d):EvF (zja n g) ds P:=fun r=>by
 obtain ⟨fl,ρ',r1,h1,d,rfl,h2⟩:=h r
 exact ⟨d,r1,fun q=>by unfold zja;rw [h1];rfl,h2⟩
theorem zrn {m:Int} (h0:0 < m) (h1:m < 1000000000):EvF zad [.int m] fun d=>∃ k,d=.int k/\0<=k/\k < m:=fun r =>
 ⟨.int (r % m),r / m,fun q=>by
  have e1:zmT (.int r) (.int m)=some (.int (r % m)):=by show (if 0 < m then _ else _)=_;rw [qR h0]
  have e2:zkg (.int r) (.int m)=some (.int (r / m)):=by show (if 0 < m/\m < 1073741824 then _ else _)=_;rw [qR ⟨h0,by omega⟩]
  simp only [zad,zfM,zja,zbx,zcG,r2,rb,rM,zut,rP,vSh,ql,qJ,qm,qM,List.replicate,qc,qb,qa,qd,e1,e2,zuU,zem,List.set_cons_succ,List.set_cons_zero],
 _,rfl,Int.emod_nonneg _ (by omega),Int.emod_lt_of_pos _ h0⟩
theorem za0 {F:FE} {m:Int} {P:D->Prop} (hs:∀ q,(ρ q)[i]?=some (some (.pin q))) (hm:∀ q,F (ρ q)=some (.int m)) (h0:0 < m) (h1:m < 1000000000) (k:∀ n:Int,0<=n->n < m->P (.int n)):Ev (zbn zad i (zap (rP F) (rP zak))) ρ P :=
 zc4 hs (zar (zaZ hm (zaY ((zrn h0 h1).imp fun d ⟨n,e,h2,h3⟩=>by rw [e];exact k n h2 h3))))
theorem zfc {F:FE} {m c:Int} {P:Bool->Prop} (hs:∀ q,(ρ q)[i]?=some (some (.pin q))) (hm:∀ q,F (ρ q)=some (.int m)) (h0:0 < m) (h1:m < 1000000000) (k:∀ b,P b):Ev (rM (r2 eqD (zbn zad i (zap (rP F) (rP zak))) (rP (vC (.int c)))) blD) ρ P :=
 zoW (zgy (za0 hs hm h0 h1 fun n _ _=>zaZ (fun _=>rfl) ⟨_,rfl,_,rfl,k _⟩))
theorem zt9 {F:FE} {m c:Int} {P:Bool->Prop} (hs:∀ q,(ρ q)[i]?=some (some (.pin q))) (hm:∀ q,F (ρ q)=some (.int m)) (h0:0 < m) (h1:m < 1000000000) (k:∀ b,P b):Ev (rM (r2 neD (zbn zad i (zap (rP F) (rP zak))) (rP (vC (.int c)))) blD) ρ P :=
 zoW (zgy (za0 hs hm h0 h1 fun n _ _=>zaZ (fun _=>rfl) ⟨_,rfl,_,rfl,k _⟩))
theorem zqG {F:FE} {m c:Int} {P:D->Prop} (hs:∀ q,(ρ q)[i]?=some (some (.pin q))) (hm:∀ q,F (ρ q)=some (.int m)) (h0:0 < m) (h1:m < 1000000000) (k:∀ b,P (.bl b)):Ev (r2 eqD (zbn zad i (zap (rP F) (rP zak))) (rP (vC (.int c)))) ρ P :=
 zgy (za0 hs hm h0 h1 fun n _ _=>zaZ (fun _=>rfl) ⟨_,rfl,k _⟩)
theorem zl1 {ft gt:FRt} {P:Bool->Prop} (h:Ev ft ρ fun b=>if b=true then Ev gt ρ P else P false):Ev (zqk ft gt) ρ P:=zuy (h.imp fun b k=>by
 cases b with
 | true=>exact k
 | false=>exact fun r=>⟨false,r,fun _=>rfl,k⟩)
theorem zvh {ft gt:FRt} {P:Bool->Prop} (h:Ev ft ρ fun b=>if b=true then P true else Ev gt ρ P):Ev (rOr ft gt) ρ P:=zuy (h.imp fun b k=>by
 cases b with
 | false=>exact k
 | true=>exact fun r=>⟨true,r,fun _=>rfl,k⟩)
theorem zbh (h:Ev f ρ fun d=>Es g (fun q=>(ρ q).set j (oS d)) R):Es (zbx (zcG j f) g) ρ R:=fun r=>by
 obtain ⟨d,r1,h1,h2⟩:=h r
 obtain ⟨fl,ρ',r2,h3,h4⟩:=h2 r1
 exact ⟨fl,ρ',r2,fun q=>by unfold zbx zcG;rw [h1];exact h3 q,h4⟩
theorem zok (h:Ev f ρ fun d=>R .nx fun q=>(ρ q).set j (oS d)):Es (zcG j f) ρ R:=fun r=>by
 obtain ⟨d,r1,h1,h2⟩:=h r
 exact ⟨_,_,r1,fun q=>by unfold zcG;rw [h1];rfl,h2⟩
theorem zhQ (h:Ev fr ρ fun d=>Es g (fun q=>(ρ q).set j (some (.own d))) R):Es (zbx (zmS j fr) g) ρ R:=fun r=>by
 obtain ⟨d,r1,h1,h2⟩:=h r
 obtain ⟨fl,ρ',r2,h3,h4⟩:=h2 r1
 exact ⟨fl,ρ',r2,fun q=>by unfold zbx zmS;rw [h1];exact h3 q,h4⟩
theorem zg0 {ds:List D} (hs:∀ q,(ρ q)[j]?=some (some (.own ds))) (hl:ds.length<=1000) (h:Ev f ρ fun d=>R .nx fun q=>(ρ q).set j (some (.own (ds++[d])))):Es (zhA j f) ρ R:=fun r=>by
 obtain ⟨d,r1,h1,h2⟩:=h r
 exact ⟨_,_,r1,fun q=>by unfold zhA;rw [hs];show (f (ρ q) r).bind _=_;rw [h1];show (if _ then _ else _)=_;rw [qR (by unfold sizeLine;omega)],h2⟩
theorem zf6 {ds:List D} (hs:∀ q,(ρ q)[j]?=some (some (.own ds))) (h:Es g (fun q=>(ρ q).set j (oS (.lst ds))) R):Es (zkU j g) ρ R:=fun r=>by
 obtain ⟨fl,ρ',r2,h3,h4⟩:=h r
 exact ⟨fl,ρ',r2,fun q=>by unfold zkU;rw [hs];exact h3 q,h4⟩
theorem zbP (h:Ev f ρ fun d=>R (.rt d) ρ):Es (zem f) ρ R:=fun r=>by
 obtain ⟨d,r1,h1,h2⟩:=h r
 exact ⟨_,ρ,r1,fun q=>by unfold zem;rw [h1];rfl,h2⟩
theorem zdV {ft:FRt} (h:Ev ft ρ fun b=>Es (if b=true then g else g') ρ R):Es (qIf ft g g') ρ R:=fun r=>by
 obtain ⟨b,r1,h1,h2⟩:=h r
 obtain ⟨fl,ρ',r2,h3,h4⟩:=h2 r1
 refine ⟨fl,ρ',r2,fun q=>?_,h4⟩
 unfold qIf
 rw [h1]
 have:=h3 q
 cases b <;> exact this
theorem zcj (h:R .nx ρ):Es zfa ρ R:=fun r=>⟨.nx,ρ,r,fun _=>rfl,h⟩
theorem zdB (h:Es g ρ fun fl ρ'=>match fl with | .nx=>Es g' ρ' R | fl=>R fl ρ'):Es (zbx g g') ρ R:=fun r=>by
 obtain ⟨fl,ρ',r1,h1,h2⟩:=h r
 cases fl with
 | nx =>
  obtain ⟨fl,ρ2,r2,h3,h4⟩:=h2 r1
  exact ⟨fl,ρ2,r2,fun q=>by unfold zbx;rw [h1];exact h3 q,h4⟩
 | _=>exact ⟨_,ρ',r1,fun q=>by unfold zbx;rw [h1];rfl,h2⟩
theorem zhR {gg:FG} {fi:FRa} {g:FRs} (I:Nat->zge->Prop) (h:Ev fi ρ fun xs=>I 0 ρ/\(∀ i x ρ,xs[i]?=some x->I i ρ->∃ ρ1,(∀ q,gg x (ρ q)=some (ρ1 q))/\Es g ρ1 fun fl ρ2=>fl=.nx/\I (i+1) ρ2)/\∀ ρ,I xs.length ρ->R .nx ρ):Es (zjH fi gg g) ρ R:=fun r=>by
 obtain ⟨xs,r1,h1,h0,hs,he⟩:=h r
 have key:∀ (n i:Nat) (ρ:zge) (r:Int),i+n=xs.length->I i ρ->∃ ρ' r',(∀ q,zsy gg g (xs.drop i) (ρ q) r=some (.nx,ρ' q,r'))/\I xs.length ρ':=by
  intro n
  induction n with
  | zero =>
   intro i ρ r hi hI
   have e:i=xs.length:=by omega
   subst e
   exact ⟨ρ,r,fun q=>by rw [List.drop_length];rfl,hI⟩
  | succ n ih =>
   intro i ρ r hi hI
   have hlt:i < xs.length:=by omega
   obtain ⟨ρ1,h2,h3⟩:=hs i xs[i] ρ (by simp [hlt]) hI
   obtain ⟨fl,ρ2,r2,h4,rfl,h5⟩:=h3 r
   obtain ⟨ρ3,r3,h6,h7⟩:=ih (i+1) ρ2 r2 (by omega) h5
   refine ⟨ρ3,r3,fun q=>?_,h7⟩
   rw [List.drop_eq_getElem_cons hlt]
   unfold zsy
   rw [h2,qa,h4,qa]
   exact h6 q
 obtain ⟨ρ',r',h2,h3⟩:=key xs.length 0 ρ r1 (by omega) h0
 exact ⟨.nx,ρ',r',fun q=>by unfold zjH;rw [h1];have:=h2 q;rwa [List.drop_zero] at this,he ρ' h3⟩
theorem zl0 {P:List D->Prop} (h:Ev fr ρ fun l=>∃ n:Int,l=[.int n]/\0<=n/\n<=1000/\P ((List.range n.toNat).map fun i:Nat=>D.int (0+i))):Ev (rM fr zkT) ρ P:=zoW (h.imp fun l ⟨n,e,h0,h1,k⟩=>⟨_,by rw [e];exact znr ⟨h0,by omega⟩,k⟩)
theorem zk8 {fi:FRa} {ft:FRt} {fe:FR} {fv:List (Option Nat)} {σ:D->zge} {Q:List D->Prop} (h:Ev fi ρ fun xs=>xs.length<=1000/\∃ (S:Nat->List D->Prop),S 0 []/\(∀ i x l,xs[i]?=some x->S i l->Ev ft (σ x) fun b=>if b=true then Ev fe (σ x) fun d=>S (i+1) (l++[d]) else S (i+1) l)/\∀ l,S xs.length l->Q l)
  (hσ:∀ x q,(fvR fv (ρ q)).set 0 (oS x)=σ x q) (hσ2:∀ x y q,(σ x q).set 0 (oS y)=σ y q):Ev (zeM fi (zbt 0) ft fe fv) ρ Q:=fun r=>by
 obtain ⟨xs,r1,h1,hl,S,h0,hs,he⟩:=h r
 have key:∀ (n i:Nat) (l:List D) (τ:zge) (r:Int),i+n=xs.length->(∀ x q,(τ q).set 0 (oS x)=σ x q)->S i l->∃ m r',(∀ q,zf9 (zbt 0) ft fe (xs.drop i) (τ q) r=some (m,r'))/\S xs.length (l++m):=by
  intro n
  induction n with
  | zero =>
   intro i l τ r hi _ hI
   have e:i=xs.length:=by omega
   subst e
   exact ⟨[],r,fun q=>by rw [List.drop_length];rfl,by rw [List.append_nil];exact hI⟩
  | succ n ih =>
   intro i l τ r hi hτ hI
   have hlt:i < xs.length:=by omega
   obtain ⟨b,r2,h2,h3⟩:=hs i xs[i] l (by simp [hlt]) hI r
   cases b with
   | false =>
    obtain ⟨m,r3,h4,h5⟩:=ih (i+1) l (σ xs[i]) r2 (by omega) (fun y q=>hσ2 _ _ _) h3
    refine ⟨m,r3,fun q=>?_,h5⟩
    rw [List.drop_eq_getElem_cons hlt]
    unfold zf9 zbt
    rw [hτ,qa,h2,qa]
    exact h4 q
   | true =>
    obtain ⟨d,r3,h4,h5⟩:=h3 r2
    obtain ⟨m,r4,h6,h7⟩:=ih (i+1) (l++[d]) (σ xs[i]) r3 (by omega) (fun y q=>hσ2 _ _ _) h5
    refine ⟨d::m,r4,fun q=>?_,by rw [List.append_assoc] at h7;exact h7⟩
    rw [List.drop_eq_getElem_cons hlt]
    unfold zf9 zbt
    rw [hτ,qa,h2,qa]
    show (if true=true then _ else _)=_
    rw [qR rfl,h4,qa]
    have:=h6 q
    unfold zbt at this
    show (zf9 _ ft fe (xs.drop (i+1)) (σ xs[i] q) r3).map _=_
    rw [this]
    rfl
 obtain ⟨m,r',h2,h3⟩:=key xs.length 0 [] (fun q=>fvR fv (ρ q)) r1 (by omega) hσ h0
 refine ⟨m,r',fun q=>?_,he _ h3⟩
 unfold zeM rb
 rw [h1,qa]
 show (if xs.length<=sizeLine then _ else _)=_
 rw [qR (by unfold sizeLine;omega)]
 have:=h2 q
 rwa [List.drop_zero] at this
end
end Law
end
section
namespace Law
open PySem L2
theorem zdn {g g':FRs} {ρ:zge} {R:Fl->zge->Prop} (h:Es g ρ fun fl ρ'=>fl=.nx/\Es g' ρ' R):Es (zbx g g') ρ R:=zdB (h.imp fun fl ρ' ⟨e,k⟩=>by subst e;exact k)
def zsw:List Str:=["","x","low","abcdef"]
def bN (p:Str):List Str:=["a"++p,"b"++p]
def sN (p:Str):List Str:=[p++"s",p++"t",p++"u"]
theorem ztu:∀ p∈zsw,(bN p).Nodup/\(∀ x∈bN p,zbp x=true):=by decide +kernel
theorem zts:∀ p∈zsw,(sN p).Nodup/\(∀ x∈sN p,zbp x=true):=by decide +kernel
theorem ztt:∀ p∈zsw,p.length<=6:=by decide +kernel
theorem zoQ {i j:Str} (h:i.length+j.length<=100):zc6 (.str i) (.str j)=some (.str (i++j)):=by
 show (if i.length+j.length<=sizeLine then _ else _)=_
 rw [qR (by unfold sizeLine;omega)]
theorem zmX {k:Int} (h0:0<=k) (h1:k < 2):k=0\/k=1:=by omega
theorem zo1 {k:Int} (h0:0<=k) (h1:k < 3):k=0\/k=1\/k=2:=by omega
abbrev beE (p:Str) (h:Int) (bs:List BenchT) (a b c:Option Slot):zge:=fun q=>[some (.pin q),oS (.str p),oS (.int h),some (.own (bs.map zbD)),a,b,c]
theorem zmN {p:Str} (hp:p∈zsw) {h:Int} (h2:2<=h) (h5:h<=5):EvF zbf [.str p,.int h] fun d=>∃ bs:List BenchT,d=.lst (bs.map zbD)/\1<=bs.length/\bs.length<=2/\(∀ b∈bs,GoodB h b)/\bs.map (·.nm)=(bN p).take bs.length:=by
 unfold zbf zd0
 refine zeo (zhQ (zaZ (fun _=>rfl) (zdn ?_)))
 refine zhR (fun i ρ=>i<=2/\∃ (bs:List BenchT) (a b c:Option Slot),ρ=beE p h bs a b c/\bs.length=i/\(∀ b∈bs,GoodB h b)/\bs.map (·.nm)=(bN p).take i) (zl0 (zar (zgy (zaZ (fun _=>rfl) (za0 (fun _=>rfl) (fun _=>rfl) (by decide) (by decide) fun n h0 h1=>⟨.int (1+n),rfl,zaY ⟨1+n,rfl,by omega,by omega,⟨Nat.zero_le _,[],none,none,none,rfl,rfl,(fun _ z=>nomatch z),rfl⟩,?_,?_⟩⟩)))))
 ·rintro i x ρ hx ⟨hi,bs,a,b,c,rfl,hl,hg,hn⟩
  rw [qj] at hx
  obtain ⟨k,hk,rfl⟩:=oMd hx
  have hk':=List.getElem?_eq_some_iff.mp hk
  obtain ⟨hlt,hk2⟩:=hk'
  rw [List.getElem_range] at hk2
  subst hk2
  rw [qO] at hlt
  have hi2:i < 2:=by omega
  refine ⟨_,fun _=>rfl,zbh (zaZ (fun _=>rfl) (zdn ?_))⟩
  have step:Es (qIf (rM (r2 eqD (zbn zad 0 (zap (rP (vC (.int 3))) (rP zak))) (rP (vC (.int 1)))) blD) (zbx (zcG 6 (zbn zad 0 (zap (rP (vSh 2)) (rP zak)))) (zcG 5 (rM (rM (zap (rM (zap (rP (vSh 6)) (zap (r2 zc6 (rP (b2 zc6 (vSh 6) (vC (.int 1)))) (zbn zad 0 (zap (rP (b2 ziX (vSh 2) (vSh 6))) (rP zak)))) (rP zak))) ze0) (rP zak)) szD) zmU))) zfa) (beE p h bs (oS (.int (0+(i:Int)))) (oS (.lst [])) c) fun fl ρ'=>fl=.nx/\∃ (br:List (Int×Int)) (c:Option Slot),ρ'=beE p h bs (oS (.int (0+(i:Int)))) (oS (.lst (br.map dIv))) c/\br.length<=1/\∀ p∈br,0<=p.1/\p.1 < p.2/\p.2<=h:=by
   refine zdV (zfc (fun _=>rfl) (fun _=>rfl) (by decide) (by decide) fun b=>?_)
   cases b with
   | false=>exact zcj ⟨rfl,[],c,rfl,by decide,fun _ z=>nomatch z⟩
   | true =>
    refine zbh (za0 (m:=h) (fun _=>rfl) (fun _=>rfl) (by omega) (by omega) fun n h0 h1=>?_)
    refine zok (zkh (zoj (zar (zci (zar (zaZ (fun _=>rfl) ?_))))))
    refine zar (zgy (zaZ (fun _=>rfl) (za0 (m:=h - n) (fun _=>rfl) (fun _=>rfl) (by omega) (by omega) fun k k0 k1=>?_)))
    refine ⟨_,rfl,zaY ⟨by simp,zaY ⟨by simp,rfl,[(n,n+1+k)],_,rfl,by simp,fun p hp=>?_⟩⟩⟩
    rw [List.mem_singleton.mp hp]
    exact ⟨h0,by show n < n+1+k;omega,by show n+1+k<=h;omega⟩
  refine step.imp ?_
  rintro _ _ ⟨rfl,br,c,rfl,hbl,hbr⟩
  refine ⟨rfl,?_⟩
  have hpl:=ztt p hp
  have nm:∃ x,(bN p)[i]?=some x/\b2 zc6 (b2 ixD (vC (.str "ab")) (vSh 4)) (vSh 1)=b2 zc6 (b2 ixD (vC (.str "ab")) (vSh 4)) (vSh 1)/\∀ q,b2 zc6 (b2 ixD (vC (.str "ab")) (vSh 4)) (vSh 1) (beE p h bs (oS (.int (0+(i:Int)))) (oS (.lst (br.map dIv))) c q)=some (.str x):=by
   have:i=0\/i=1:=by omega
   rcases this with rfl | rfl
   ·exact ⟨"a"++p,rfl,rfl,fun q=>zaH (x:=.str "a") rfl rfl (zoQ (by show 1+p.length<=100;omega))⟩
   ·exact ⟨"b"++p,rfl,rfl,fun q=>zaH (x:=.str "b") rfl rfl (zoQ (by show 1+p.length<=100;omega))⟩
  obtain ⟨x,hx1,_,hx2⟩:=nm
  refine zg0 (ds:=bs.map zbD) (fun _=>rfl) (by rw [qe];omega) (zaZ (a:=zbD ⟨x,br⟩) (fun q=>?_) ⟨rfl,by omega,bs++[⟨x,br⟩],(oS (.int (0+(i:Int)))),(oS (.lst (br.map dIv))),c,by unfold beE;rw [List.map_append];rfl,by rw [qi,qP];omega,fun b hb=>?_,?_⟩)
  ·unfold zdj szF
   rw [zah (hx2 q) (zah (show vSh 5 _=some (.lst (br.map dIv)) from rfl) zaz)]
   rfl
  ·rcases List.mem_append.mp hb with hb | hb
   ·exact hg b hb
   ·rw [List.mem_singleton.mp hb]
    refine ⟨(ztu p hp).2 x (qK hx1),by show br.length<=10;omega,hbr,fun i p q e1 e2=>?_⟩
    have:=(List.getElem?_eq_some_iff.mp e2).1
    simp only at this
    omega
  ·rw [List.map_append,hn,List.take_add_one,hx1];rfl
 ·rintro ρ ⟨hi,bs,a,b,c,rfl,hl,hg,hn⟩
  rw [qe,qO] at hl hn
  refine ⟨rfl,zf6 (ds:=bs.map zbD) (fun _=>rfl) (zbP (zaZ (fun _=>rfl) ⟨_,rfl,bs,rfl,by omega,by omega,hg,by rw [hl];exact hn⟩))⟩
end Law
end
section
namespace Law
open PySem L2
theorem zlp {α:Type} {f:α->D} {xs:List α} {n:Int} (h0:0<=n) (h1:n < xs.length):∃ x,xs[n.toNat]?=some x/\x∈xs/\ixD (.lst (xs.map f)) (.int n)=some (f x):=by
 have hl:n.toNat < xs.length:=by omega
 refine ⟨xs[n.toNat],by simp [hl],List.getElem_mem hl,?_⟩
 have e:ixD (.lst (xs.map f)) (.int n)=ixD (.lst (xs.map f)) (.int (n.toNat:Int)):=by rw [show (n.toNat:Int)=n by omega]
 rw [e,ixL,qj]
 simp [hl]
theorem zeJ {α:Type} {f:α->D} {xs:List α} {i:Nat} {ρ:za1} (h:vSh i ρ=some (.lst (xs.map f))):cF zc3 (zac (vSh i) zak) ρ=some (.int xs.length):=by
 refine zaP (zah h zaz) ?_
 show some (D.int ((xs.map f).length:Nat))=_
 rw [qe]
theorem zqg {n:Int} {i:Nat} {x:D} (hx:((List.range n.toNat).map fun i:Nat=>D.int (0+i))[i]?=some x):x=.int (0+(i:Int))/\(i:Int) < n:=by
 rw [qj] at hx
 obtain ⟨k,hk,rfl⟩:=oMd hx
 obtain ⟨hlt,hk2⟩:=List.getElem?_eq_some_iff.mp hk
 rw [List.getElem_range] at hk2
 subst hk2
 rw [qO] at hlt
 exact ⟨rfl,by omega⟩
abbrev stE (p:Str) (bs:List BenchT) (h:Int) (ss:List StepT) (a b c:Option Slot):zge:=fun q=>[some (.pin q),oS (.str p),oS (.lst (bs.map zbD)),oS (.int h),some (.own (ss.map zcR)),a,b,c]
abbrev zuC (f:FE):FR:=rM (zap (rP f) (zap (r2 zc6 (rP (vC (.int 1))) (zbn zad 0 (zap (rP (cF zpx (zac (vC (.int 3)) (zac (vSh 3) zak)))) (rP zak)))) (rP zak))) ze0
theorem zp7 {p:Str} {bs:List BenchT} {h:Int} {ss:List StepT} {a b c:Option Slot} {f:FE} {x:Str} {P:D->Prop} (h2:2<=h) (hf:∀ q,f (stE p bs h ss a b c q)=some (.str x)) (k:∀ n,1<=n->n<=h->P (dW (x,n))):Ev (zuC f) (stE p bs h ss a b c) P:=by
 refine zci (zar (zaZ hf (zar (zgy (zaZ (fun _=>rfl) (za0 (m:=if h < 3 then h else 3) (fun _=>rfl) (fun _=>rfl) (by split <;> omega) (by split <;> omega) fun n h0 h1=>⟨_,rfl,zaY ⟨by simp,k _ (by omega) ?_⟩⟩))))))
 split at h1 <;> omega
theorem zo7 {p:Str} (hp:p∈zsw) {bs:List BenchT} {h:Int} (h2:2<=h) (b1:1<=bs.length) (b2':bs.length<=2) (nd:(bs.map (·.nm)).Nodup):EvF zbH [.str p,.lst (bs.map zbD),.int h] fun d=>∃ ss:List StepT,d=.lst (ss.map zcR)/\1<=ss.length/\ss.length<=3/\(∀ s∈ss,GoodS (bs.map (·.nm)) h s)/\ss.map (·.nm)=(sN p).take ss.length:=by
 unfold zbH zeP
 refine zeo (zhQ (zaZ (fun _=>rfl) (zdn ?_)))
 refine zhR (fun i ρ=>i<=3/\∃ (ss:List StepT) (a b c:Option Slot),ρ=stE p bs h ss a b c/\ss.length=i/\(∀ s∈ss,GoodS (bs.map (·.nm)) h s)/\ss.map (·.nm)=(sN p).take i) (zl0 (zar (zgy (zaZ (fun _=>rfl) (za0 (fun _=>rfl) (fun _=>rfl) (by decide) (by decide) fun n h0 h1=>⟨.int (1+n),rfl,zaY ⟨1+n,rfl,by omega,by omega,⟨Nat.zero_le _,[],none,none,none,rfl,rfl,(fun _ z=>nomatch z),rfl⟩,?_,?_⟩⟩)))))
 ·rintro i x ρ hx ⟨hi,ss,a,b,c,rfl,hl,hg,hn⟩
  obtain ⟨rfl,hlt⟩:=zqg hx
  have hi3:i < 3:=by omega
  refine ⟨stE p bs h ss (oS (.int (0+(i:Int)))) b c,fun _=>rfl,?_⟩
  refine zbh (za0 (m:=(bs.length:Int)) (fun _=>rfl) (fun _=>zeJ rfl) (by omega) (by omega) fun at' a0 a1=>?_)
  obtain ⟨bn,e1,e2,e3⟩:=zlp (f:=zbD) (xs:=bs) a0 a1
  have ix1:∀ (c:Option Slot) q,L2.b2 ixD (L2.b2 ixD (vSh 2) (vSh 6)) (vC (.int 0)) (stE p bs h ss (oS (.int (0+(i:Int)))) (oS (.int at')) c q)=some (.str bn.nm):=fun c q=>zaH (zaH rfl rfl e3) rfl zgs
  refine zhQ (zoj (zar (zp7 (a:=oS (.int (0+(i:Int)))) (b:=oS (.int at')) (c:=c) (x:=bn.nm) h2 (ix1 c) fun n n0 n1=>zaY ⟨by simp,zdn ?_⟩)))
  have step:Es (qIf (zqk (rP (toB (L2.b2 eqD (cF zc3 (zac (vSh 2) zak)) (vC (.int 2))))) (zqk (rM (r2 eqD (zbn zad 0 (zap (rP (vC (.int 3))) (rP zak))) (rP (vC (.int 1)))) blD) (rP (toB (L2.b2 ltD (vSh 5) (vC (.int 2))))))) (zhA 7 (zuC (L2.b2 ixD (L2.b2 ixD (vSh 2) (L2.b2 ziX (vC (.int 1)) (vSh 6))) (vC (.int 0))))) zfa) (stE p bs h ss (oS (.int (0+(i:Int)))) (oS (.int at')) (some (.own ([(bn.nm,n)].map dW)))) fun fl ρ'=>fl=.nx/\∃ ws:List (Str×Int),ρ'=stE p bs h ss (oS (.int (0+(i:Int)))) (oS (.int at')) (some (.own (ws.map dW)))/\1<=ws.length/\ws.length<=4/\(∀ w∈ws,w.1∈bs.map (·.nm)/\1<=w.2/\w.2<=h)/\(ws.map (·.1)).Nodup:=by
   have one:∀ w∈[(bn.nm,n)],w.1∈bs.map (·.nm)/\1<=w.2/\w.2<=h:=fun w hw=>by rw [List.mem_singleton.mp hw];exact ⟨qQ e2,n0,n1⟩
   refine zdV (zl1 (zaZ (a:=decide ((bs.length:Int)=2)) (fun _=>za5 (zaH (zeJ rfl) rfl rfl)) ?_))
   by_cases hb:(bs.length:Int)=2
   ·rw [qN hb,qR rfl]
    refine zl1 (zfc (fun _=>rfl) (fun _=>rfl) (by decide) (by decide) fun b=>?_)
    have no:∀ b:Bool,b=false->Es (if b=true then zhA 7 (zuC (L2.b2 ixD (L2.b2 ixD (vSh 2) (L2.b2 ziX (vC (.int 1)) (vSh 6))) (vC (.int 0)))) else zfa) (stE p bs h ss (oS (.int (0+(i:Int)))) (oS (.int at')) (some (.own ([(bn.nm,n)].map dW)))) fun fl ρ'=>fl=.nx/\∃ ws:List (Str×Int),ρ'=stE p bs h ss (oS (.int (0+(i:Int)))) (oS (.int at')) (some (.own (ws.map dW)))/\1<=ws.length/\ws.length<=4/\(∀ w∈ws,w.1∈bs.map (·.nm)/\1<=w.2/\w.2<=h)/\(ws.map (·.1)).Nodup:=fun b hb=>by
     subst hb
     exact zcj ⟨rfl,[(bn.nm,n)],rfl,by simp,by simp,one,by simp⟩
    cases b with
    | false=>exact no false rfl
    | true =>
     refine zaZ (a:=decide ((0+(i:Int)) < 2)) (fun _=>rfl) ?_
     by_cases h2':(0+(i:Int)) < 2
     ·rw [qN h2',qR rfl]
      obtain ⟨bm,f1,f2,f3⟩:=zlp (f:=zbD) (xs:=bs) (n:=1 - at') (by omega) (by omega)
      refine zg0 (ds:=[(bn.nm,n)].map dW) (fun _=>rfl) (by simp) (zp7 (c:=some (.own ([(bn.nm,n)].map dW))) (x:=bm.nm) h2 (fun q=>zaH (zaH rfl (zaH rfl rfl rfl) f3) rfl zgs) fun m m0 m1=>⟨rfl,[(bn.nm,n),(bm.nm,m)],rfl,by simp,by simp,fun w hw=>?_,?_⟩)
      ·rcases List.mem_cons.mp hw with rfl | hw
       ·exact one _ qf
       ·rw [List.mem_singleton.mp hw];exact ⟨qQ f2,m0,m1⟩
      ·have ne:bn.nm≠bm.nm:=fun e=>by
        have g1:(bs.map (·.nm))[at'.toNat]?=some bn.nm:=by rw [qj,e1];rfl
        have g2:(bs.map (·.nm))[(1 - at').toNat]?=some bn.nm:=by rw [qj,f1,e];rfl
        have:=(List.getElem?_inj (i:=at'.toNat) (j:=(1 - at').toNat) (by rw [qe];omega) nd).mp (g1.trans g2.symm)
        omega
       simp [ne]
     ·rw [qI h2']
      exact no false rfl
   ·rw [qI hb,qS (by decide)]
    exact zcj ⟨rfl,[(bn.nm,n)],rfl,by simp,by simp,one,by simp⟩
  refine step.imp ?_
  rintro _ _ ⟨rfl,ws,rfl,w1,w4,hw,wnd⟩
  refine ⟨rfl,zf6 (ds:=ws.map dW) (fun _=>rfl) ?_⟩
  have hpl:=ztt p hp
  have nm:∃ x,(sN p)[i]?=some x/\∀ (c:Option Slot) q,L2.b2 zc6 (vSh 1) (L2.b2 ixD (vC (.str "stu")) (vSh 5)) (stE p bs h ss (oS (.int (0+(i:Int)))) (oS (.int at')) c q)=some (.str x):=by
   have:i=0\/i=1\/i=2:=by omega
   rcases this with rfl | rfl | rfl
   ·exact ⟨p++"s",rfl,fun c q=>zaH (y:=.str "s") rfl rfl (zoQ (by show p.length+1<=100;omega))⟩
   ·exact ⟨p++"t",rfl,fun c q=>zaH (y:=.str "t") rfl rfl (zoQ (by show p.length+1<=100;omega))⟩
   ·exact ⟨p++"u",rfl,fun c q=>zaH (y:=.str "u") rfl rfl (zoQ (by show p.length+1<=100;omega))⟩
  obtain ⟨x,hx1,hx2⟩:=nm
  refine zg0 (ds:=ss.map zcR) (fun _=>rfl) (by rw [qe];omega) (zci (zar (zaZ (hx2 _) (zar (zgy (zaZ (fun _=>rfl) (za0 (fun _=>rfl) (fun _=>rfl) (by decide) (by decide) fun n k0 k1=>?_)))))))
  have fin:∀ kd:Str,zbp kd=true->Ev (zap (rP (vSh 7)) (rP zak)) (stE p bs h ss (oS (.int (0+(i:Int)))) (oS (.int at')) (oS (.lst (ws.map dW)))) fun l=>([D.str x,D.str kd]++l).length<=10/\(fun d=>((Fl.nx:Fl)=.nx/\i+1<=3/\∃ (ss':List StepT) (a b c:Option Slot),(fun q=>(stE p bs h ss (oS (.int (0+(i:Int)))) (oS (.int at')) (oS (.lst (ws.map dW))) q).set 4 (some (.own (ss.map zcR++[d]))))=stE p bs h ss' a b c/\ss'.length=i+1/\(∀ s∈ss',GoodS (bs.map (·.nm)) h s)/\ss'.map (·.nm)=(sN p).take (i+1))) (.tup ([D.str x,D.str kd]++l)):=fun kd hk=>by
   refine zar (zaZ (fun _=>rfl) (zaY ⟨by simp,rfl,by omega,ss++[⟨x,kd,ws⟩],_,_,_,by unfold stE;rw [List.map_append];rfl,by rw [qi,qP];omega,fun s hs=>?_,by rw [List.map_append,hn,List.take_add_one,hx1];rfl⟩))
   rcases List.mem_append.mp hs with hs | hs
   ·exact hg s hs
   ·rw [List.mem_singleton.mp hs]
    exact ⟨(zts p hp).2 x (qK hx1),hk,w1,w4,hw,wnd⟩
  rcases zmX k0 k1 with rfl | rfl
  ·exact ⟨.str "k",rfl,fin "k" (by decide +kernel)⟩
  ·exact ⟨.str "m",rfl,fin "m" (by decide +kernel)⟩
 ·rintro ρ ⟨hi,ss,a,b,c,rfl,hl,hg,hn⟩
  rw [qe,qO] at hl hn
  refine ⟨rfl,zf6 (ds:=ss.map zcR) (fun _=>rfl) (zbP (zaZ (fun _=>rfl) ⟨_,rfl,ss,rfl,by omega,by omega,hg,by rw [hl];exact hn⟩))⟩
end Law
end
section
namespace Law
open PySem L2
theorem zug {xs:List D} {d:Int} (h:0<=d):ziA none (some d) (.lst xs)=some (.lst (xs.take d.toNat)):=by
 show some (D.lst (zkn xs none (some d)))=_
 unfold zkn HT.sIx
 simp only
 rw [qS (by omega),List.drop_zero,Nat.sub_zero]
 congr 2
 rw [Nat.min_def]
 split
 ·rfl
 ·rw [List.take_of_length_le (qt _),List.take_of_length_le (by omega)]
theorem zqM {xs:List D} {d:Int} (h:0<=d):ziA (some d) none (.lst xs)=some (.lst (xs.drop d.toNat)):=by
 show some (D.lst (zkn xs (some d) none))=_
 unfold zkn HT.sIx
 simp only
 rw [qS (by omega)]
 congr 2
 rw [Nat.min_def]
 split
 ·rw [List.take_of_length_le (by rw [List.length_drop];omega)]
 ·rw [List.drop_of_length_le (qt _),List.drop_of_length_le (by omega)];simp
theorem zsU {f:FE} {g:FE} {ρ:za1} {xs:List D} {d:Int} (h1:f ρ=some (.lst xs)) (h2:g ρ=some (.int d)) (h:0<=d):slF f pN (pS g) ρ=some (.lst (xs.take d.toNat)):=by
 unfold slF pN pS
 rw [h1,h2]
 exact zug h
theorem zuN {f:FE} {g:FE} {ρ:za1} {xs:List D} {d:Int} (h1:f ρ=some (.lst xs)) (h2:g ρ=some (.int d)) (h:0<=d):slF f (pS g) pN ρ=some (.lst (xs.drop d.toNat)):=by
 unfold slF pN pS
 rw [h1,h2]
 exact zqM h
structure GoodI (h:Int) (br:List (Int×Int)):Prop where
 iv:∀ p∈br,0<=p.1/\p.1 < p.2/\p.2<=h
 gap:∀ (i:Nat) p q,br[i]?=some p->br[i+1]?=some q->p.2 < q.1
abbrev lkE (ns:List Str) (h:Int) (a b c:Option Slot):zge:=fun q=>[some (.pin q),oS (.lst (ns.map D.str)),oS (.int h),a,b,c]
theorem ztJ:zbp "job"=true:=by decide +kernel
theorem zrB:zbp "more"=true:=by decide +kernel
theorem zpv:zbp "store"=true:=by decide +kernel
theorem zpC {ns:List Str} {h:Int} (h2:2<=h) (n1:1<=ns.length) (n3:ns.length<=3) (nd:ns.Nodup):EvF zbI [.lst (ns.map D.str),.int h] fun d=>∃ ls:List LinkT,d=.lst (ls.map zds)/\ls.length<=2/\(∀ l∈ls,GoodL ns h l)/\(ls.map fun l=>[l.a,l.b]).Nodup:=by
 unfold zbI zeQ
 refine zeo (zdB (zdV (zvh (zaZ (a:=decide ((ns.length:Int) < 2)) (fun _=>za5 (zaH (zeJ rfl) rfl rfl)) ?_))))
 by_cases hn:(ns.length:Int) < 2
 ·rw [qN hn,qR rfl,qR rfl]
  exact zbP (zaZ (fun _=>rfl) ⟨_,rfl,[],rfl,by simp,(fun _ z=>nomatch z),by simp⟩)
 rw [qI hn,qS (by decide)]
 refine zt9 (fun _=>rfl) (fun _=>rfl) (by decide) (by decide) fun b=>?_
 cases b with
 | true=>exact zbP (zaZ (fun _=>rfl) ⟨_,rfl,[],rfl,by simp,(fun _ z=>nomatch z),by simp⟩)
 | false =>
  refine zcj ?_
  show Es _ (lkE ns h none none none) _
  refine zbh (za0 (m:=(ns.length:Int)) (fun _=>rfl) (fun _=>zeJ rfl) (by omega) (by omega) fun at' a0 a1=>?_)
  refine zbh (zgy (zgy (zaZ (fun _=>rfl) (za0 (m:=(ns.length:Int) - 1) (fun _=>rfl) (fun _=>zaH (zeJ rfl) rfl rfl) (by omega) (by omega) fun k k0 k1=>⟨_,rfl,zaZ (fun _=>zeJ rfl) ⟨.int ((at'+1+k) % ns.length),by show (if (0:Int) < ns.length then _ else _)=_;rw [qR (by omega)],?_⟩⟩))))
  have o0:0<=(at'+1+k) % (ns.length:Int):=Int.emod_nonneg _ (by omega)
  have o1:(at'+1+k) % (ns.length:Int) < ns.length:=Int.emod_lt_of_pos _ (by omega)
  have one:(at'+1+k) % (ns.length:Int)≠at':=by
   have:ns.length=2\/ns.length=3:=by omega
   rcases this with e | e <;> rw [e] at k1 a1 ⊢ <;> omega
  generalize (at'+1+k) % (ns.length:Int)=ot at o0 o1 one
  obtain ⟨x,e1,e2,e3⟩:=zlp (f:=D.str) (xs:=ns) a0 a1
  obtain ⟨y,f1,f2,f3⟩:=zlp (f:=D.str) (xs:=ns) o0 o1
  have ne:x≠y:=fun e=>by
   have:=(List.getElem?_inj (i:=at'.toNat) (j:=ot.toNat) (by omega) nd).mp (by rw [e1,f1,e])
   omega
  refine zhQ (zoj (zar (zci (zar (zaZ (a:=.str x) (fun _=>zaH rfl rfl e3) (zar (zaZ (a:=.str y) (fun _=>zaH rfl rfl f3) (zar (za0 (m:=if h+1 < 3 then h+1 else 3) (fun _=>rfl) (fun _=>rfl) (by split <;> omega) (by split <;> omega) fun g g0 g1=>zaY ⟨by simp,zaY ⟨by simp,zdn ?_⟩⟩)))))))))
  have l1:GoodL ns h ⟨x,y,g⟩:=⟨e2,f2,ne,g0,by show g<=h;split at g1 <;> omega⟩
  refine zdV (zfc (fun _=>rfl) (fun _=>rfl) (by decide) (by decide) fun b=>?_)
  cases b with
  | false=>exact zcj ⟨rfl,zf6 (ds:=[⟨x,y,g⟩].map zds) (fun _=>rfl) (zbP (zaZ (fun _=>rfl) ⟨_,rfl,[⟨x,y,g⟩],rfl,by simp,fun l hl=>by rw [List.mem_singleton.mp hl];exact l1,by simp⟩))⟩
  | true =>
   refine zg0 (ds:=[⟨x,y,g⟩].map zds) (fun _=>rfl) (by simp) (zaZ (a:=zds ⟨y,x,0⟩) (fun q=>?_) ⟨rfl,zf6 (ds:=[⟨x,y,g⟩,⟨y,x,0⟩].map zds) (fun _=>rfl) (zbP (zaZ (fun _=>rfl) ⟨_,rfl,[⟨x,y,g⟩,⟨y,x,0⟩],rfl,by simp,fun l hl=>?_,by simp [ne]⟩))⟩)
   ·unfold zdj szF
    rw [zah (zaH rfl rfl f3) (zah (zaH rfl rfl e3) (zah rfl zaz))]
    rfl
   ·rcases List.mem_cons.mp hl with rfl | hl
    ·exact l1
    ·rw [List.mem_singleton.mp hl];exact ⟨f2,e2,Ne.symm ne,Int.le_refl _,by show (0:Int)<=h;omega⟩
abbrev joE (ns:List Str) (h:Int) (a b c d:Option Slot):zge:=fun q=>[some (.pin q),oS (.lst (ns.map D.str)),oS (.int h),a,b,c,d]
theorem zsB {ρ:zge} {P:D->Prop} (hs:∀ q,(ρ q)[0]?=some (some (.pin q))) (k:∀ n:Int,0<=n->n<=1->P (.int n)):Ev (r2 ixD (rP (zbM (szF (zac (vC (.int 0)) (zac (vC (.int 0)) (zac (vC (.int 1)) zak)))))) (zbn zad 0 (zap (rP (vC (.int 3))) (rP zak)))) ρ P:=by
 refine zgy (zaZ (fun _=>rfl) (za0 hs (fun _=>rfl) (by decide) (by decide) fun n h0 h1=>?_))
 rcases zo1 h0 h1 with rfl | rfl | rfl
 ·exact ⟨.int 0,rfl,k _ (by decide) (by decide)⟩
 ·exact ⟨.int 0,rfl,k _ (by decide) (by decide)⟩
 ·exact ⟨.int 1,rfl,k _ (by decide) (by decide)⟩
theorem zrS {ns:List Str} {h:Int} (h2:2<=h) (n1:1<=ns.length) (n3:ns.length<=3) (nd:ns.Nodup):EvF zbX [.lst (ns.map D.str),.int h] fun d=>∃ js:List JobT,d=.lst (js.map zco)/\js.length<=2/\(∀ j∈js,GoodJ ns h j)/\(js.map (·.nm)).Nodup/\(js.flatMap (·.ms)).Nodup:=by
 unfold zbX zfP
 refine zeo (zdB (zdV (zfc (fun _=>rfl) (fun _=>rfl) (by decide) (by decide) fun b=>?_)))
 cases b with
 | true=>exact zbP (zaZ (fun _=>rfl) ⟨_,rfl,[],rfl,by simp,(fun _ z=>nomatch z),by simp,by simp⟩)
 | false =>
  refine zcj ?_
  show Es _ (joE ns h none none none none) _
  refine zbh (zgy (zaZ (fun _=>rfl) (za0 (m:=(ns.length:Int)) (fun _=>rfl) (fun _=>zeJ rfl) (by omega) (by omega) fun k k0 k1=>⟨.int (1+k),rfl,?_⟩)))
  generalize hm:1+k=m
  have m0:1<=m:=by omega
  have m1:m<=ns.length:=by omega
  refine zbh (zaZ (a:=.lst ((ns.take m.toNat).map D.str)) (fun _=>by rw [List.map_take];exact zsU rfl rfl (by omega)) (zdn ?_))
  have step:Es (qIf (rM (r2 eqD (zbn zad 0 (zap (rP (vC (.int 2))) (rP zak))) (rP (vC (.int 1)))) blD) (zcG 4 (rP (b1 zsv (vSh 4)))) zfa) (joE ns h (oS (.int m)) (oS (.lst ((ns.take m.toNat).map D.str))) none none) fun fl ρ'=>fl=.nx/\∃ ms:List Str,ρ'=joE ns h (oS (.int m)) (oS (.lst (ms.map D.str))) none none/\ms.Perm (ns.take m.toNat):=by
   refine zdV (zfc (fun _=>rfl) (fun _=>rfl) (by decide) (by decide) fun b=>?_)
   cases b with
   | false=>exact zcj ⟨rfl,_,rfl,.refl _⟩
   | true=>exact zok (zaZ (a:=.lst (((ns.take m.toNat).reverse).map D.str)) (fun _=>by rw [List.map_reverse];rfl) ⟨rfl,_,rfl,List.reverse_perm _⟩)
  refine step.imp ?_
  rintro _ _ ⟨rfl,ms,rfl,pm⟩
  refine ⟨rfl,zbh (zsB (fun _=>rfl) fun ea ea0 ea1=>?_)⟩
  have ml:ms.length=m.toNat:=by rw [pm.length_eq,qA];omega
  have gj:∀ n b,0<=n->n<=1->GoodJ ns h ⟨"job",ea,h - n,b,ms⟩:=fun n b n0 n1=>⟨ztJ,⟨ea0,by show ea<=h;omega⟩,⟨by show 0<=h - n;omega,by show h - n<=h;omega⟩,by show 1<=ms.length;omega,by show ms.length<=ns.length;omega,fun x hx=>List.mem_of_mem_take (pm.mem_iff.mp hx)⟩
  have ndm:ms.Nodup:=pm.nodup_iff.mpr (nd.sublist (List.take_sublist _ _))
  refine zhQ (zoj (zar (zci (zar (zaZ (fun _=>rfl) (zar (zaZ (fun _=>rfl) (zar (zgy (zaZ (fun _=>rfl) (zsB (fun _=>rfl) fun n z0 z1=>⟨.int (h - n),rfl,zar (zqG (fun _=>rfl) (fun _=>rfl) (by decide) (by decide) fun b=>zar (zaZ (fun _=>rfl) (zaY ⟨by simp,zaY ⟨by simp,zdn ?_⟩⟩)))⟩)))))))))))
  refine zdV (zl1 (zaZ (a:=decide (m < (ns.length:Int))) (fun _=>za5 (zaH rfl (zeJ rfl) rfl)) ?_))
  have no:Es zfa (joE ns h (oS (.int m)) (oS (.lst (ms.map D.str))) (oS (.int ea)) (some (.own ([⟨"job",ea,h - n,b,ms⟩].map zco)))) fun fl ρ'=>fl=.nx/\Es (zkU 6 (zem (rP (vSh 6)))) ρ' fun fl _=>∃ d,fl=.rt d/\∃ js:List JobT,d=.lst (js.map zco)/\js.length<=2/\(∀ j∈js,GoodJ ns h j)/\(js.map (·.nm)).Nodup/\(js.flatMap (·.ms)).Nodup :=
   zcj ⟨rfl,zf6 (ds:=[⟨"job",ea,h - n,b,ms⟩].map zco) (fun _=>rfl) (zbP (zaZ (fun _=>rfl) ⟨_,rfl,[⟨"job",ea,h - n,b,ms⟩],rfl,by simp,fun j hj=>by rw [List.mem_singleton.mp hj];exact gj n b z0 z1,by simp,by simpa using ndm⟩))⟩
  by_cases hlt:m < (ns.length:Int)
  ·rw [qN hlt,qR rfl]
   refine zfc (fun _=>rfl) (fun _=>rfl) (by decide) (by decide) fun c=>?_
   cases c with
   | false=>exact no
   | true =>
    refine zg0 (ds:=[⟨"job",ea,h - n,b,ms⟩].map zco) (fun _=>rfl) (by simp) (zci (zar (zaZ (fun _=>rfl) (zar (zaZ (fun _=>rfl) (zar (zaZ (fun _=>rfl) (zar (zqG (fun _=>rfl) (fun _=>rfl) (by decide) (by decide) fun b'=>zar (zaZ (a:=.lst ((ns.drop m.toNat).map D.str)) (fun _=>by rw [List.map_drop];exact zuN rfl rfl (by omega)) (zaY ⟨by simp,rfl,zf6 (ds:=[⟨"job",ea,h - n,b,ms⟩,⟨"more",0,h,b',ns.drop m.toNat⟩].map zco) (fun _=>rfl) (zbP (zaZ (fun _=>rfl) ⟨_,rfl,[⟨"job",ea,h - n,b,ms⟩,⟨"more",0,h,b',ns.drop m.toNat⟩],rfl,by simp,fun j hj=>?_,?_,?_⟩))⟩)))))))))))
    ·rcases List.mem_cons.mp hj with rfl | hj
     ·exact gj n b z0 z1
     ·rw [List.mem_singleton.mp hj]
      exact ⟨zrB,⟨Int.le_refl _,by show (0:Int)<=h;omega⟩,⟨by show (0:Int)<=h;omega,Int.le_refl _⟩,by show 1<=(ns.drop m.toNat).length;rw [List.length_drop];omega,by show (ns.drop m.toNat).length<=_;rw [List.length_drop];omega,fun x hx=>List.mem_of_mem_drop hx⟩
    ·show (["job","more"]:List Str).Nodup
     decide +kernel
    ·show (ms++(ns.drop m.toNat++[])).Nodup
     rw [List.append_nil]
     have:=(pm.append_right (ns.drop m.toNat)).nodup_iff
     rw [List.take_append_drop] at this
     exact this.mpr nd
  ·rw [qI hlt,qS (by decide),qS (by decide)]
   exact no
theorem ziR {ns:List Str} {m:Int} (m0:0 < m) (m1:m < 10) (n3:ns.length<=3) {a b c d:Option Slot} {P:D->Prop} (nd:ns.Nodup) (k:∀ ws:List (Str×Int),GoodA ns ws->P (.lst (ws.map dW))):Ev (rM (zeM (rP (itF (vSh 1))) (zbt 0) (rM (r2 eqD (zbn zad 1 (zap (rP (vC (.int m))) (rP zak))) (rP (vC (.int 1)))) blD) (rM (zap (rP (vSh 0)) (zap (r2 zc6 (rP (vC (.int 1))) (zbn zad 1 (zap (rP (vC (.int 2))) (rP zak)))) (rP zak))) ze0) [none,some 0]) zmU) (fun q=>[some (.pin q),oS (.lst (ns.map D.str)),a,b,c,d]) P:=by
 refine zkh (zk8 (σ:=fun x q=>[oS x,some (.pin q)]) (zaZ (fun _=>rfl) ⟨by rw [qe];omega,fun i l=>∃ ws:List (Str×Int),l=ws.map dW/\(ws.map (·.1)).Sublist (ns.take i)/\∀ w∈ws,1<=w.2/\w.2<=2,⟨[],rfl,.slnil,fun _ z=>nomatch z⟩,fun i x l hx hS=>?_,fun l hl=>?_⟩) (fun _ _=>rfl) fun _ _ _=>rfl)
 ·obtain ⟨ws,rfl,hw1,hw2⟩:=hS
  rw [qj] at hx
  obtain ⟨y,hy,rfl⟩:=oMd hx
  have tk:ns.take (i+1)=ns.take i++[y]:=by rw [List.take_add_one,hy];rfl
  refine zfc (fun _=>rfl) (fun _=>rfl) m0 (by omega) fun b=>?_
  cases b with
  | false=>exact ⟨ws,rfl,by rw [tk];exact hw1.trans (List.sublist_append_left _ _),hw2⟩
  | true =>
   refine zci (zar (zaZ (fun _=>rfl) (zar (zgy (zaZ (fun _=>rfl) (za0 (fun _=>rfl) (fun _=>rfl) (by decide) (by decide) fun n h0 h1=>⟨_,rfl,zaY ⟨by simp,ws++[(y,1+n)],by rw [List.map_append];rfl,?_,fun w hw=>?_⟩⟩))))))
   ·rw [List.map_append,tk];exact hw1.append (.refl _)
   ·rcases List.mem_append.mp hw with hw | hw
    ·exact hw2 w hw
    ·rw [List.mem_singleton.mp hw];exact ⟨by show 1<=1+n;omega,by show 1+n<=2;omega⟩
 ·obtain ⟨ws,rfl,hw1,hw2⟩:=hl
  rw [qe,List.take_length] at hw1
  refine k ws ⟨by have:=hw1.length_le;rwa [qe] at this,fun w hw=>⟨hw1.subset (qQ hw),(hw2 w hw).1,by have:=(hw2 w hw).2;omega⟩,nd.sublist hw1⟩
theorem zm3 {ns:List Str} (n3:ns.length<=3) (nd:ns.Nodup):EvF zbu [.lst (ns.map D.str)] fun d=>∃ ks:List StockT,d=.lst (ks.map zbZ)/\ks.length<=1/\∀ k∈ks,GoodK ns k:=by
 unfold zbu zej
 refine zeo (zdB (zdV (zfc (fun _=>rfl) (fun _=>rfl) (by decide) (by decide) fun b=>?_)))
 cases b with
 | true=>exact zbP (zaZ (fun _=>rfl) ⟨_,rfl,[],rfl,by simp,(fun _ z=>nomatch z)⟩)
 | false =>
  refine zcj (zbh (za0 (fun _=>rfl) (fun _=>rfl) (by decide) (by decide) fun hi i0 i1=>zbh (za0 (m:=hi+1) (fun _=>rfl) (fun _=>rfl) (by omega) (by omega) fun lo l0 l1=>?_)))
  refine zbh (ziR (by decide) (by decide) n3 nd fun tk gt=>zbh (ziR (by decide) (by decide) n3 nd fun pt gp=>zbP (zaZ (fun _=>rfl) ⟨_,rfl,[⟨"store",lo,hi,tk,pt⟩],rfl,by simp,fun k hk=>?_⟩)))
  rw [List.mem_singleton.mp hk]
  exact ⟨zpv,⟨l0,by show lo<=hi;omega⟩,⟨i0,by show hi<=1000000;omega⟩,gt,gp⟩
end Law
end
section
namespace Law
open PySem L2
section
variable {bs:List BenchT} {ss:List StepT} {js:List JobT} {us:List SetT} {ls:List LinkT} {ks:List StockT} {h:Int}
theorem zkf {fo:FE} {ρ:za1} {f:Str} {d:D} (i:Nat) (h1:fo ρ=some (zcq bs ss js us ls ks h)) (h2:(zsx bs ss js us ls ks h)[i]?=some (f,d)):zgZ "Shop" f fo ρ=some d:=by
 unfold zgZ
 rw [h1]
 show (if ("Shop":Str)="Shop" then (zsx bs ss js us ls ks h).lookup f else none)=some d
 rw [qR rfl]
 exact zf5 (by rw [zkd];exact zjg) h2
theorem zhF {F:FQ} {fo:FE} {fr:FA} {ρ:za1} {m:Str} {ds:List D} {d:D} (hm:m∉zgX) (h1:fo ρ=some (zcq bs ss js us ls ks h)) (h2:fr ρ=some ds) (h3:F (zcq bs ss js us ls ks h::ds)=some d):zbU "Shop" m F fo fr ρ=some d:=by
 have hno:(zsx bs ss js us ls ks h).lookup m=none:=zgq (by rw [zkd];exact hm)
 unfold zbU
 rw [h1]
 show (if ("Shop":Str)="Shop"/\(zsx bs ss js us ls ks h).lookup m=none then (fr ρ).bind fun ds=>F (zcq bs ss js us ls ks h::ds) else none)=_
 rw [qR ⟨rfl,hno⟩,h2]
 exact h3
theorem zhg {α:Type} {f:α->D} {nm:α->Str} {xs:List α} {fo:FE} {ρ:za1} {fv:List (Option Nat)} (hf:∀ x,∃ r,f x=.tup (.str (nm x)::r)) (h1:fo ρ=some (.lst (xs.map f))) (h2:xs.length<=sizeLine) (h3:zha fv ρ=[none]) :
  zbM (zbz (itF fo) (zbt 0) tT (b2 ixD (vSh 0) (vC (.int 0))) fv) ρ=some (.lst ((xs.map nm).map D.str)):=by
 have hc:=zde (fi:=itF fo) (fe:=b2 ixD (vSh 0) (vC (.int 0))) (fv:=fv) (ρ:=ρ) (r:=[]) (a:=none) (xs:=xs.map f) (f:=fun d=>match d with | .tup (x::_)=>x | _=>.non) (by unfold itF;rw [h1];rfl) (by rw [qe];exact h2) h3 (fun x hx=>by
  obtain ⟨y,_,rfl⟩:=List.mem_map.mp hx
  obtain ⟨r,e⟩:=hf y
  simp only [b2,vSh,vC,qb,qa,e,zgs])
 rw [hc]
 congr 2
 rw [List.map_map,List.map_map]
 refine List.map_congr_left fun x _=>?_
 obtain ⟨r,e⟩:=hf x
 simp [e]
theorem ziZ (hl:ss.length<=40):zaq [zcq bs ss js us ls ks h]=some (.lst ((ss.map (·.nm)).map D.str)) :=
 za4 [oS (zcq bs ss js us ls ks h)] rfl (za3 (zhg (f:=zcR) (nm:=(·.nm)) (xs:=ss) (fun x=>⟨_,rfl⟩) (zkf 1 rfl rfl) (szN hl (by decide)) rfl))
theorem ziu (hl:bs.length<=40):zav [zcq bs ss js us ls ks h]=some (.lst ((bs.map (·.nm)).map D.str)) :=
 za4 [oS (zcq bs ss js us ls ks h)] rfl (za3 (zhg (f:=zbD) (nm:=(·.nm)) (xs:=bs) (fun x=>⟨_,rfl⟩) (zkf 0 rfl rfl) (szN hl (by decide)) rfl))
theorem zrQ:zaj [zcq bs ss js us ls ks h]=some (.int h):=by
 unfold zaj zcY
 exact za4 [oS (zcq bs ss js us ls ks h)] rfl (za3 (zkf (bs:=bs) (ss:=ss) (js:=js) (us:=us) (ls:=ls) (ks:=ks) (h:=h) 6 rfl rfl))
theorem zk4 (g:Good bs ss js us ls ks h):zaB [zcq bs ss js us ls ks h]=some (.lst (js.map zco)) :=
 za4 [oS (zcq bs ss js us ls ks h)] rfl (za3 (zaP (zah (zkf 2 rfl rfl) zaz) (zgY (zeG (by have:=g.jl;omega) fun x hx=>zqq (sn:=ss.map (·.nm)) (by rw [qe];exact g.sl.2) (g.j x hx)))))
theorem ziY (g:Good bs ss js us ls ks h):zay [zcq bs ss js us ls ks h]=some (.lst (ks.map zbZ)) :=
 za4 [oS (zcq bs ss js us ls ks h)] rfl (za3 (zaP (zah (zkf 5 rfl rfl) zaz) (zgY (zeG (by have:=g.kl;omega) fun x hx=>zlH (sn:=ss.map (·.nm)) (by rw [qe];exact g.sl.2) (g.k x hx)))))
end
abbrev shE (h:Int) (p:Str) (bs:List BenchT) (ss:List StepT) (us:List SetT) (a b c:Option Slot):zge:=fun q=>[some (.pin q),oS (.int h),oS (.str p),oS (.lst (bs.map zbD)),oS (.lst (ss.map zcR)),oS (.lst ((ss.map (·.nm)).map D.str)),some (.own (us.map zgC)),a,b,c]
structure UsOk (bs:List BenchT) (h:Int) (i:Nat) (us:List SetT):Prop where
 sb:(us.map (·.b)).Sublist ((bs.map (·.nm)).take i)
 p:∀ u∈us,u.p="k"
 q:∀ u∈us,zbp u.q=true
 n:∀ u∈us,1<=u.n/\u.n<=h
theorem zvI:zbp "k"=true:=by decide +kernel
theorem zwf:zbp "m"=true:=by decide +kernel
theorem znh {h:Int} {p:Str} {bs:List BenchT} {ss:List StepT} (h2:2<=h) (b2:bs.length<=2):Es (zjH (rP (itF (vSh 3))) (zik 2 (zdA (zbt 7) (zdA (zbt 8) zij))) (qIf (rM (r2 eqD (zbn zad 0 (zap (rP (vC (.int 3))) (rP zak))) (rP (vC (.int 1)))) blD) (zhA 6 (rM (zap (rP (vSh 7)) (zap (rP (vC (.str "k"))) (zap (r2 ixD (rP (vC (.str "km"))) (zbn zad 0 (zap (rP (vC (.int 2))) (rP zak)))) (zap (r2 zc6 (rP (vC (.int 1))) (zbn zad 0 (zap (rP (vC (.int 2))) (rP zak)))) (rP zak))))) ze0)) zfa)) (shE h p bs ss [] none none none) fun fl ρ'=>fl=.nx/\∃ us a b,ρ'=shE h p bs ss us a b none/\UsOk bs h bs.length us:=by
 refine zhR (fun i ρ=>∃ us a b,ρ=shE h p bs ss us a b none/\us.length<=i/\UsOk bs h i us) (zaZ (fun _=>rfl) ⟨⟨[],none,none,rfl,by simp,by simp,(fun _ z=>nomatch z),(fun _ z=>nomatch z),(fun _ z=>nomatch z)⟩,?_,?_⟩)
 ·rintro i x ρ hx ⟨us,a,b,rfl,ul,uo⟩
  rw [qj] at hx
  obtain ⟨bn,hb,rfl⟩:=oMd hx
  have hi:=(List.getElem?_eq_some_iff.mp hb).1
  have tk:(bs.map (·.nm)).take (i+1)=(bs.map (·.nm)).take i++[bn.nm]:=by rw [List.take_add_one,qj,hb];rfl
  refine ⟨shE h p bs ss us (oS (.str bn.nm)) (oS (.lst (bn.br.map dIv))) none,fun _=>rfl,?_⟩
  refine zdV (zfc (fun _=>rfl) (fun _=>rfl) (by decide) (by decide) fun b=>?_)
  cases b with
  | false=>exact zcj ⟨rfl,us,_,_,rfl,by omega,by rw [tk];exact uo.sb.trans (List.sublist_append_left _ _),uo.p,uo.q,uo.n⟩
  | true =>
   have fin:∀ kd:Str,zbp kd=true->Ev (zap (r2 zc6 (rP (vC (.int 1))) (zbn zad 0 (zap (rP (vC (.int 2))) (rP zak)))) (rP zak)) (shE h p bs ss us (oS (.str bn.nm)) (oS (.lst (bn.br.map dIv))) none) fun l=>([D.str bn.nm,D.str "k",D.str kd]++l).length<=10/\((Fl.nx:Fl)=.nx/\∃ us' a b,(fun q=>(shE h p bs ss us (oS (.str bn.nm)) (oS (.lst (bn.br.map dIv))) none q).set 6 (some (.own (us.map zgC++[.tup ([D.str bn.nm,D.str "k",D.str kd]++l)]))))=shE h p bs ss us' a b none/\us'.length<=i+1/\UsOk bs h (i+1) us'):=fun kd hk=>by
    refine zar (zgy (zaZ (fun _=>rfl) (za0 (fun _=>rfl) (fun _=>rfl) (by decide) (by decide) fun n n0 n1=>⟨.int (1+n),rfl,zaY ⟨by simp,rfl,us++[⟨bn.nm,"k",kd,1+n⟩],_,_,by unfold shE;rw [List.map_append];rfl,by rw [qi,qP];omega,by rw [List.map_append,tk];exact uo.sb.append (.refl _),fun u hu=>?_,fun u hu=>?_,fun u hu=>?_⟩⟩)))
    all_goals rcases List.mem_append.mp hu with hu | hu
    ·exact uo.p u hu
    ·rw [List.mem_singleton.mp hu]
    ·exact uo.q u hu
    ·rw [List.mem_singleton.mp hu];exact hk
    ·exact uo.n u hu
    ·rw [List.mem_singleton.mp hu];exact ⟨by show 1<=1+n;omega,by show 1+n<=h;omega⟩
   refine zg0 (ds:=us.map zgC) (fun _=>rfl) (by rw [qe];omega) (zci (zar (zaZ (fun _=>rfl) (zar (zaZ (fun _=>rfl) (zar (zgy (zaZ (fun _=>rfl) (za0 (fun _=>rfl) (fun _=>rfl) (by decide) (by decide) fun n k0 k1=>?_)))))))))
   rcases zmX k0 k1 with rfl | rfl
   ·exact ⟨.str "k",rfl,fin "k" zvI⟩
   ·exact ⟨.str "m",rfl,fin "m" zwf⟩
 ·rintro ρ ⟨us,a,b,rfl,_,uo⟩
  rw [qe] at uo
  exact ⟨rfl,us,a,b,rfl,uo⟩
structure Small (bs:List BenchT) (ss:List StepT) (js:List JobT) (us:List SetT) (ls:List LinkT) (ks:List StockT) (h:Int):Prop where
 g:Good bs ss js us ls ks h
 h:2<=h/\h<=5
 b:bs.length<=2
 s:ss.length<=3
theorem zoh {k:Int} (h0:0<=k) (h1:k < 4):k=0\/k=1\/k=2\/k=3:=by omega
theorem zq2:EvF zbW [] fun d=>∃ bs ss js us ls ks h,d=zcq bs ss js us ls ks h/\Small bs ss js us ls ks h:=by
 unfold zbW zfL
 refine zeo (zbh (zgy (zaZ (fun _=>rfl) (za0 (fun _=>rfl) (fun _=>rfl) (by decide) (by decide) fun n n0 n1=>⟨.int (2+n),rfl,?_⟩))))
 generalize hh:2+n=h
 have h2:2<=h:=by omega
 have h5:h<=5:=by omega
 have main:∀ p∈zsw,Es (zbx (zcG 3 (zbn zbf 0 (zap (rP (vSh 2)) (zap (rP (vSh 1)) (rP zak))))) (zbx (zcG 4 (zbn zbH 0 (zap (rP (vSh 2)) (zap (rP (vSh 3)) (zap (rP (vSh 1)) (rP zak)))))) (zbx (zcG 5 (rP (zbM (zbz (itF (vSh 4)) (zbt 0) tT (b2 ixD (vSh 0) (vC (.int 0))) [none])))) (zbx (zmS 6 (rP (szF zak))) (zbx (zjH (rP (itF (vSh 3))) (zik 2 (zdA (zbt 7) (zdA (zbt 8) zij))) (qIf (rM (r2 eqD (zbn zad 0 (zap (rP (vC (.int 3))) (rP zak))) (rP (vC (.int 1)))) blD) (zhA 6 (rM (zap (rP (vSh 7)) (zap (rP (vC (.str "k"))) (zap (r2 ixD (rP (vC (.str "km"))) (zbn zad 0 (zap (rP (vC (.int 2))) (rP zak)))) (zap (r2 zc6 (rP (vC (.int 1))) (zbn zad 0 (zap (rP (vC (.int 2))) (rP zak)))) (rP zak))))) ze0)) zfa)) (zbx (zcG 9 (zbn zbI 0 (zap (rP (vSh 5)) (zap (rP (vSh 1)) (rP zak))))) (zkU 6 (zem (rM (zap (rP (vSh 3)) (zap (rP (vSh 4)) (zap (zbn zbX 0 (zap (rP (vSh 5)) (zap (rP (vSh 1)) (rP zak)))) (zap (rP (vSh 6)) (zap (rP (vSh 9)) (zap (zbn zbu 0 (zap (rP (vSh 5)) (rP zak))) (zap (rP (vSh 1)) (rP zak)))))))) zbk)))))))))
   (fun q=>[some (.pin q),oS (.int h),oS (.str p),none,none,none,none,none,none,none]) fun fl _=>∃ d,fl=.rt d/\∃ bs ss js us ls ks h,d=zcq bs ss js us ls ks h/\Small bs ss js us ls ks h:=fun p hp=>by
  refine zbh (zc4 (fun _=>rfl) (zar (zaZ (fun _=>rfl) (zar (zaZ (fun _=>rfl) (zaY ((zmN hp h2 h5).imp ?_)))))))
  rintro _ ⟨bs,rfl,b1,b2,bg,bn⟩
  have bnd:(bs.map (·.nm)).Nodup:=by rw [bn];exact (ztu p hp).1.sublist (List.take_sublist _ _)
  refine zbh (zc4 (fun _=>rfl) (zar (zaZ (fun _=>rfl) (zar (zaZ (fun _=>rfl) (zar (zaZ (fun _=>rfl) (zaY ((zo7 hp h2 b1 b2 bnd).imp ?_)))))))))
  rintro _ ⟨ss,rfl,s1,s3,sg,sn⟩
  have snd:(ss.map (·.nm)).Nodup:=by rw [sn];exact (zts p hp).1.sublist (List.take_sublist _ _)
  have sl:(ss.map (·.nm)).length=ss.length:=qe _
  refine zbh (zaZ (fun _=>zdq (f:=zcR) (nm:=(·.nm)) (xs:=ss) (fun x=>⟨_,rfl⟩) rfl (szN s3 (by decide)) rfl) (zhQ (zaZ (fun _=>rfl) (zdn ((znh (p:=p) (ss:=ss) h2 b2).imp ?_)))))
  rintro _ _ ⟨rfl,us,a,b,rfl,uo⟩
  refine ⟨rfl,zbh (zc4 (fun _=>rfl) (zar (zaZ (fun _=>rfl) (zar (zaZ (fun _=>rfl) (zaY ((zpC h2 (by omega) (by omega) snd).imp ?_)))))))⟩
  rintro _ ⟨ls,rfl,ll,lg,lnd⟩
  refine zf6 (ds:=us.map zgC) (fun _=>rfl) (zbP (zoW (zar (zaZ (fun _=>rfl) (zar (zaZ (fun _=>rfl) (zar (zc4 (fun _=>rfl) (zar (zaZ (fun _=>rfl) (zar (zaZ (fun _=>rfl) (zaY ((zrS h2 (by omega) (by omega) snd).imp ?_))))))))))))))
  rintro _ ⟨js,rfl,jl,jg,jn,jm⟩
  refine zar (zaZ (fun _=>rfl) (zar (zaZ (fun _=>rfl) (zar (zc4 (fun _=>rfl) (zar (zaZ (fun _=>rfl) (zaY ((zm3 (by omega) snd).imp ?_)))))))))
  rintro _ ⟨ks,rfl,kl,kg⟩
  have ubn:(us.map (·.b)).Nodup:=bnd.sublist (uo.sb.trans (List.take_sublist _ _))
  have ulen:us.length<=2:=by
   have:=uo.sb.length_le
   rw [qe,qA,qe] at this
   omega
  have good:Good bs ss js us ls ks h:=⟨by omega,by omega,bg,bnd,by omega,sg,snd,by omega,jg,jn,jm,by omega,fun u hu=>⟨(List.take_subset _ _) (uo.sb.subset (qQ hu)),by rw [uo.p u hu];exact zvI,uo.q u hu,uo.n u hu⟩,?_,by omega,lg,lnd,by omega,kg,?_⟩
  ·refine zar (zaZ (fun _=>rfl) (zaY ⟨_,zrU good ?_,_,rfl,bs,ss,js,us,ls,ks,h,rfl,good,⟨h2,h5⟩,b2,s3⟩))
   have:=zjk (f:=(·.ms)) (m:=3) (l:=js) fun j hj=>by have:=(jg j hj).ln;omega
   omega
  ·unfold List.Nodup at ubn ⊢
   rw [List.pairwise_map] at ubn ⊢
   exact ubn.imp fun h e=>h (List.cons.inj e).1
  ·match ks,kl with
   | [],_=>simp
   | [k],_=>simp
 refine zbh (zgy (zaZ (fun _=>rfl) (za0 (fun _=>rfl) (fun _=>rfl) (by decide) (by decide) fun k k0 k1=>?_)))
 rcases zoh k0 k1 with rfl | rfl | rfl | rfl
 ·exact ⟨.str "",rfl,main "" (by decide +kernel)⟩
 ·exact ⟨.str "x",rfl,main "x" (by decide +kernel)⟩
 ·exact ⟨.str "low",rfl,main "low" (by decide +kernel)⟩
 ·exact ⟨.str "abcdef",rfl,main "abcdef" (by decide +kernel)⟩
end Law
end
section
namespace Law
open PySem L2
def Sm:Nat->D->Prop
 | 0,_=>False
 | n+1,.lst l=>∀ x∈l,Sm n x
 | n+1,.tup l=>∀ x∈l,Sm n x
 | _+1,.bl _=>True
 | _+1,.int _=>True
 | _+1,.str x=>PyData.strOk x=true
 | _+1,_=>False
def SmP (n:Nat) (d:D):Prop:=∃ p,pdD d=some p/\PyData.canLay0 p=true/\p.depth<=n/\PyData.eqv p p=true
theorem ziy {n:Nat}:∀ {l:List D},(∀ x∈l,SmP n x)->∃ ps,zkY l=some ps/\PyData.canLayAll0 ps=true/\PyData.depthAll ps<=n/\PyData.eqvAll ps ps=true
 | [],_=>⟨[],by simp [zkY],by simp [PyData.canLayAll0],by simp [PyData.depthAll],by simp [PyData.eqvAll]⟩
 | x::r,h=>by
  obtain ⟨p,a1,a2,a3,a4⟩:=h x qf
  obtain ⟨ps,b1,b2,b3,b4⟩:=ziy (l:=r) fun y hy=>h y (qg _ hy)
  refine ⟨p::ps,by simp [zkY,a1,b1],by simp [PyData.canLayAll0,a2,b2],?_,by simp [PyData.eqvAll,a4,b4]⟩
  simp only [PyData.depthAll]
  omega
theorem znb:∀ (n:Nat) (d:D),Sm n d->SmP n d
 | 0,_,h=>h.elim
 | n+1,.lst l,h=>by
  obtain ⟨ps,b1,b2,b3,b4⟩:=ziy (n:=n) (l:=l) fun x hx=>znb n x (h x hx)
  exact ⟨.list ps,by simp [pdD,b1],by simp [PyData.canLay0,b2],by simp only [PyData.depth];omega,by simp [PyData.eqv,b4]⟩
 | n+1,.tup l,h=>by
  obtain ⟨ps,b1,b2,b3,b4⟩:=ziy (n:=n) (l:=l) fun x hx=>znb n x (h x hx)
  exact ⟨.tuple ps,by simp [pdD,b1],by simp [PyData.canLay0,b2],by simp only [PyData.depth];omega,by simp [PyData.eqv,b4]⟩
 | n+1,.bl b,h=>⟨.bool b,by simp [pdD],by simp [PyData.canLay0],by simp [PyData.depth],by simp [PyData.eqv]⟩
 | n+1,.int i,h=>⟨.int i,by simp [pdD],by simp [PyData.canLay0],by simp [PyData.depth],by simp [PyData.eqv]⟩
 | n+1,.str x,h=>⟨.str x,by simp [pdD],by simp only [PyData.canLay0];exact h,by simp [PyData.depth],by simp [PyData.eqv]⟩
theorem zlz {n:Nat} {α:Type} {f:α->D} {xs:List α} (h:∀ x∈xs,Sm n (f x)):Sm (n+1) (.lst (xs.map f)):=fun x hx=>by
 obtain ⟨y,hy,rfl⟩:=List.mem_map.mp hx
 exact h y hy
theorem zq0 {n:Nat} {xs:List Str} (h:∀ x∈xs,zbp x=true):Sm (n+2) (.lst (xs.map D.str)):=zlz fun x hx=>(zfY (h x hx):Sm (n+1) (.str x))
theorem zm9 {n:Nat} {l:List D} (h:∀ x∈l,Sm n x):Sm (n+1) (.tup l):=h
section
variable {n:Nat} {bn sn:List Str} {h:Int}
theorem zna {x:Str} (hx:zbp x=true):Sm (n+1) (.str x):=zfY hx
theorem zsQ {ws:List (Str×Int)} (hw:∀ w∈ws,zbp w.1=true):Sm (n+3) (.lst (ws.map dW)):=zlz fun p hp=>zm9 fun y hy=>by
 simp only [qG,qF,or_false] at hy
 rcases hy with rfl | rfl
 ·exact zna (hw p hp)
 ·trivial
theorem zsR {j:JobT} (hb:∀ y∈sn,zbp y=true) (g:GoodJ sn h j):Sm (n+3) (zco j):=zm9 fun y hy=>by
 simp only [qG,qF,or_false] at hy
 rcases hy with rfl | rfl | rfl | rfl | rfl
 ·exact zna g.nm
 ·trivial
 ·trivial
 ·trivial
 ·exact zq0 fun x hx=>hb _ (g.ms x hx)
theorem zo9 {k:StockT} (hb:∀ y∈sn,zbp y=true) (g:GoodK sn k):Sm (n+4) (zbZ k):=zm9 fun y hy=>by
 simp only [qG,qF,or_false] at hy
 rcases hy with rfl | rfl | rfl | rfl | rfl
 ·exact zna g.nm
 ·trivial
 ·trivial
 ·exact zsQ fun w hw=>hb _ (g.tk.ws w hw).1
 ·exact zsQ fun w hw=>hb _ (g.pt.ws w hw).1
end
theorem zmi:SeqAt.shaped (.list [])=true:=by simp [SeqAt.shaped,PyData.canLay0,PyData.canLayAll0,PyData.depth,PyData.depthAll]
theorem zqw {l:List D} (h:Sm 64 (.lst l)):neA (.lst l) (.lst [])=some (.bl (!l.isEmpty)):=by
 have e0:neA (.lst l) (.lst [])=zrD (.lst l) (.lst []):=rfl
 obtain ⟨ps,b1,b2,b3,b4⟩:=ziy (n:=63) (l:=l) fun x hx=>znb 63 x (h x hx)
 have s1:SeqAt.shaped (.list ps)=true:=by
  unfold SeqAt.shaped
  rw [show PyData.canLay0 (.list ps)=true by simp [PyData.canLay0,b2],qN (show PyData.depth (.list ps)<=64 by simp only [PyData.depth];omega)];rfl
 have p1:pdD (.lst l)=some (.list ps):=by simp [pdD,b1]
 have p2:pdD (.lst [])=some (.list []):=by simp [pdD,zkY]
 have q:PyData.eqv (.list ps) (.list [])=l.isEmpty:=by
  cases l with
  | nil=>simp [zkY] at b1;subst b1;simp [PyData.eqv,PyData.eqvAll]
  | cons x r =>
   rw [zkY] at b1
   obtain ⟨p,hp,b1⟩:=oBd b1
   obtain ⟨qs,hq,rfl⟩:=oMd b1
   simp [PyData.eqv,PyData.eqvAll]
 rw [e0]
 unfold zrD eqX
 rw [p1,p2,qa,qa,qR ⟨s1,zmi⟩,q]
 rfl
section
variable {bs:List BenchT} {ss:List StepT} {js:List JobT} {us:List SetT} {ls:List LinkT} {ks:List StockT} {h:Int}
abbrev sh0 (bs:List BenchT) (ss:List StepT) (js:List JobT) (us:List SetT) (ls:List LinkT) (ks:List StockT) (h:Int):Option Slot:=oS (zcq bs ss js us ls ks h)
theorem zhG (S:Small bs ss js us ls ks h) {f:FE} {ρ:za1} (hf:f ρ=some (zcq bs ss js us ls ks h)):zbU "Shop" "step_names" zaq f zak ρ=some (.lst ((ss.map (·.nm)).map D.str)):=zhF (by decide +kernel) hf zaz (ziZ S.g.sl.2)
theorem zf3 (S:Small bs ss js us ls ks h) {f:FE} {ρ:za1} (hf:f ρ=some (zcq bs ss js us ls ks h)):zbU "Shop" "bench_names" zav f zak ρ=some (.lst ((bs.map (·.nm)).map D.str)):=zhF (by decide +kernel) hf zaz (ziu (by have:=S.b;omega))
theorem zgW {f:FE} {ρ:za1} (hf:f ρ=some (zcq bs ss js us ls ks h)):zbU "Shop" "last_moment" zaj f zak ρ=some (.int h):=zhF (by decide +kernel) hf zaz zrQ
theorem zj7 (S:Small bs ss js us ls ks h) {f:FE} {ρ:za1} (hf:f ρ=some (zcq bs ss js us ls ks h)):zbU "Shop" "job_rows" zaB f zak ρ=some (.lst (js.map zco)):=zhF (by decide +kernel) hf zaz (zk4 S.g)
theorem zhh (S:Small bs ss js us ls ks h) {f:FE} {ρ:za1} (hf:f ρ=some (zcq bs ss js us ls ks h)):zbU "Shop" "stock_rows" zay f zak ρ=some (.lst (ks.map zbZ)):=zhF (by decide +kernel) hf zaz (ziY S.g)
theorem zeK {ρ:zge} {i j:Nat} {ns:List Str} {P:D->Prop} (hs:∀ q,(ρ q)[i]?=some (some (.pin q))) (hn:∀ q,vSh j (ρ q)=some (.lst (ns.map D.str))) (h1:1<=ns.length) (h2:ns.length<=100) (k:∀ x∈ns,P (.str x)):Ev (r2 ixD (rP (vSh j)) (zbn zad i (zap (rP (cF zc3 (zac (vSh j) zak))) (rP zak)))) ρ P:=by
 refine zgy (zaZ hn (za0 (m:=(ns.length:Int)) hs (fun q=>zeJ (hn q)) (by omega) (by omega) fun n h0 h1=>?_))
 obtain ⟨x,_,e2,e3⟩:=zlp (f:=D.str) (xs:=ns) h0 h1
 exact ⟨_,e3,k x e2⟩
theorem zk7 {ρ:zge} {j:Nat} {w c:Int} {P:Bool->Prop} (hn:∀ q,vSh j (ρ q)=some (.int w)) (k:P (decide (w=c))):Ev (rP (toB (b2 eqD (vSh j) (vC (.int c))))) ρ P:=zaZ (fun q=>za5 (zaH (hn q) rfl rfl)) k
end
theorem zvb {ft:FT} {A B:FS} {ρ:za1} (h:ft ρ=some true):sIf ft A B ρ=A ρ:=by unfold sIf;rw [h];rfl
theorem zt0 {ft:FT} {A B:FS} {ρ:za1} (h:ft ρ=some false):sIf ft A B ρ=B ρ:=by unfold sIf;rw [h];rfl
theorem ze1 {g g':FS} {ρ ρ1:za1} (h:g ρ=some (.nx,ρ1)):zba g g' ρ=g' ρ1:=by unfold zba;rw [h];rfl
theorem zr1 {g:FS} {ρ:za1} {i:Nat} {ds:List D} (h:ρ[i]?=some (some (.own ds))):zoS i g ρ=g (ρ.set i (oS (.lst ds))):=by unfold zoS;rw [h]
theorem zpN {fi:FA} {gg:FG} {b:FS} {ρ:za1} {xs:List D} (h:fi ρ=some xs):zig fi gg b ρ=zoi gg b xs ρ:=by unfold zig;rw [h];rfl
theorem zqP {A B:FE} {ρ:za1} (hA:A ρ=some (.bl false)):zc5 A B ρ=some (.bl false):=by
 simp only [zc5,hA,qa]
theorem zp4 {f g:FT} {ρ:za1} (h:f ρ=some true):zmO f g ρ=g ρ:=by unfold zmO;rw [h];rfl
theorem zun {f g:FT} {ρ:za1} (h:f ρ=some false):zmO f g ρ=some false:=by unfold zmO;rw [h];rfl
theorem zwe {f g:FT} {ρ:za1} (h:f ρ=some false):orT f g ρ=g ρ:=by unfold orT;rw [h];rfl
theorem ztG {f:FT} {ρ:za1} (h:f ρ=some true):zca f ρ=some false:=by unfold zca;rw [h];rfl
structure Nm where
 s:List Str
 b:List Str
 j:List Str
 k:List Str
 h:Int
structure NmOk (N:Nm):Prop where
 s:∀ y∈N.s,zbp y=true
 b:∀ y∈N.b,zbp y=true
 j:∀ y∈N.j,zbp y=true
 k:∀ y∈N.k,zbp y=true
def zpF:List Str:=["steps","benches","jobs","stocks","horizon"]
def fs5 (N:Nm):List (Str×D):=[("steps",.lst (N.s.map D.str)),("benches",.lst (N.b.map D.str)),("jobs",.lst (N.j.map D.str)),("stocks",.lst (N.k.map D.str)),("horizon",.int N.h)]
def dTN (N:Nm):D:=.ins "TreeNames" (fs5 N)
theorem zlT:zpF.Nodup:=by decide +kernel
theorem zet {N:Nm} {fo:FE} {ρ:za1} {f:Str} {d:D} (i:Nat) (h1:fo ρ=some (dTN N)) (h2:(fs5 N)[i]?=some (f,d)):zgZ "TreeNames" f fo ρ=some d:=by
 unfold zgZ
 rw [h1]
 show (if ("TreeNames":Str)="TreeNames" then (fs5 N).lookup f else none)=some d
 rw [qR rfl]
 exact zf5 (show ((fs5 N).map (·.1)).Nodup from zlT) h2
theorem znO {fs:List (Str×D)} {f:Str} {fv:FE} {r:za1} {d:D} (n:Nat) (hk:zpF[n]?=some f) (hf:fs.map (·.1)=zpF.take n) (h:fv (some (.obj "TreeNames" fs)::r)=some d):zdQ "TreeNames" f 0 fv (some (.obj "TreeNames" fs)::r)=some (.nx,some (.obj "TreeNames" (fs++[(f,d)]))::r):=by
 have hno:fs.lookup f=none:=zgq (by
  rw [hf]
  intro z
  obtain ⟨i,hi⟩:=List.getElem?_of_mem z
  have hin:i < n:=by
   rcases Nat.lt_or_ge i n with q | q
   ·exact q
   ·rw [List.getElem?_eq_none (by rw [qA];omega)] at hi;cases hi
  rw [List.getElem?_take_of_lt hin] at hi
  have:=(List.getElem?_inj (List.getElem?_eq_some_iff.mp hi).1 zlT).mp (hi.trans hk.symm)
  omega)
 have hlen:fs.length < 100:=by
  have:=congrArg List.length hf
  rw [qe,qA] at this
  have k:zpF.length=5:=rfl
  omega
 simp only [zdQ,h,qa,qb,hno,hlen,and_self,if_true,List.set_cons_zero]
section
variable {bs:List BenchT} {ss:List StepT} {js:List JobT} {us:List SetT} {ls:List LinkT} {ks:List StockT} {h:Int}
abbrev zfR (bs:List BenchT) (ss:List StepT) (js:List JobT) (ks:List StockT) (h:Int):Nm:=⟨ss.map (·.nm),bs.map (·.nm),js.map (·.nm),ks.map (·.nm),h⟩
theorem ztI (S:Small bs ss js us ls ks h):NmOk (zfR bs ss js ks h):=⟨S.g.snn,S.g.bnn,fun y hy=>by
 obtain ⟨j,hj,rfl⟩:=List.mem_map.mp hy
 exact (S.g.j j hj).nm,fun y hy=>by
 obtain ⟨k,hk,rfl⟩:=List.mem_map.mp hy
 exact (S.g.k k hk).nm⟩
theorem zpw (S:Small bs ss js us ls ks h):zaV [zcq bs ss js us ls ks h]=some (dTN (zfR bs ss js ks h)):=by
 unfold zaV zcB zqe
 show ((zba _ _) (some (.obj "TreeNames" [])::[sh0 bs ss js us ls ks h])).bind _=_
 rw [ze1 (znO 0 rfl rfl (zhG S rfl)),ze1 (znO 1 rfl rfl (zf3 S rfl)),ze1 (znO 2 rfl rfl (zhg (f:=zco) (nm:=(·.nm)) (xs:=js) (fun x=>⟨_,rfl⟩) (zj7 S rfl) (szN S.g.jl (by decide)) rfl)),ze1 (znO 3 rfl rfl (zhg (f:=zbZ) (nm:=(·.nm)) (xs:=ks) (fun x=>⟨_,rfl⟩) (zhh S rfl) (szN S.g.kl (by decide)) rfl)),znO 4 rfl rfl (zgW rfl)]
 rfl
end
theorem zcy {k:Str} {r:List D}:zaM [.tup (.str k::r)]=some (.str k):=by
 unfold zaM zh6
 have hl:toB (b2 gtD (cF zc3 (zac (vSh 0) zak)) (vC (.int 0))) [oS (.tup (.str k::r))]=some true:=za5 (zaH (zaP (zah rfl zaz) rfl) rfl (by
  show some (D.bl (decide (((D.str k::r).length:Int) > 0)))=_
  rw [qN (by simp only [qh];omega)]))
 exact za4 [oS (.tup (.str k::r))] rfl (zdk ((zp4 rfl).trans ((zp4 hl).trans (za5 (zaP (zah (zaH rfl rfl zgs) (zah rfl zaz)) rfl)))) (za3 (zaH rfl rfl zgs)))
def ChS (N:Nm) (c:D):Prop:=(∃ x∈N.s,c=.tup [.str "keep",.str x])\/(∃ x∈N.s,∃ i:Int,c=.tup [.str "start",.str x,.int i])\/(∃ x∈N.s,∃ y∈N.b,c=.tup [.str "on",.str x,.str y])\/∃ x∈N.s,∃ y∈N.s,c=.tup [.str "order",.str x,.str y]
def LfS (N:Nm) (e:D):Prop:=(e=.tup [.str "moved"])\/(∃ x∈N.s,e=.tup [.str "window",.str x]) \/
 (∃ ns:List Str,e=.tup [.str "ring",.lst (ns.map D.str)]/\1<=ns.length/\ns.length<=3/\∀ x∈ns,x∈N.s) \/
 (∃ (ns:List Str) (a b:Int),e=.tup [.str "stretch",.lst (ns.map D.str),.int a,.int b]/\1<=ns.length/\ns.length<=3/\(∀ x∈ns,x∈N.b)/\ns.Nodup/\0<=a/\a < b/\b<=N.h) \/
 (∃ x∈N.j,∃ a b:Int,e=.tup [.str "together",.str x,.int a,.int b]/\0<=a/\a < b/\b<=N.h) \/
 ∃ x∈N.k,∃ (t:Int) (w:Str),e=.tup [.str "stock",.str x,.int t,.str w]/\0<=t/\t<=N.h/\(w="less"\/w="more")
def PnS (N:Nm) (x:D):Prop:=(∃ y∈N.s,x=.tup [.str "fit",.str y])\/∃ (k:Str),(k="low"\/k="high")/\∃ y∈N.s,∃ z∈N.s,x=.tup [.str k,.str y,.str z]
def TrS (N:Nm):Nat->D->Prop
 | 0,_=>False
 | n+1,d=>∃ rows e,d=.tup [.lst rows,e]/\rows.length<=2/\(∀ x∈rows,PnS N x\/∃ c v t,x=.tup [.str "not",c,.int v,t]/\ChS N c/\0<=v/\v<=1/\TrS N n t)/\(LfS N e\/∃ c t u,e=.tup [.str "both",c,t,u]/\ChS N c/\TrS N n t/\TrS N n u)
theorem zgR {N:Nm}:∀ {n:Nat} {d:D},TrS N n d->TrS N (n+1) d
 | 0,_,h=>h.elim
 | n+1,d,⟨rows,e,h1,h2,h3,h4⟩=>⟨rows,e,h1,h2,fun x hx=>(h3 x hx).imp id fun ⟨c,v,t,q1,q2,q3,q4,q5⟩=>⟨c,v,t,q1,q2,q3,q4,zgR q5⟩,h4.imp id fun ⟨c,t,u,q1,q2,q3,q4⟩=>⟨c,t,u,q1,q2,zgR q3,zgR q4⟩⟩
theorem zu8:(("start":Str)≠"keep"/\("on":Str)≠"keep"/\("order":Str)≠"keep")/\(("on":Str)≠"start"/\("order":Str)≠"start")/\("order":Str)≠"on":=by decide +kernel
theorem isW {k c:Str} {i:Nat} {ρ:za1} (h:vSh i ρ=some (.str k)) (e:k=c):toB (b2 eqD (vSh i) (vC (.str c))) ρ=some true:=za5 (zaH h rfl (by show some (D.bl (decide (k=c)))=_;rw [qN e]))
theorem noW {k c:Str} {i:Nat} {ρ:za1} (h:vSh i ρ=some (.str k)) (e:k≠c):toB (b2 eqD (vSh i) (vC (.str c))) ρ=some false:=za5 (zaH h rfl (by show some (D.bl (decide (k=c)))=_;rw [qI e]))
theorem zui {N:Nm} (O:NmOk N) {c:D} (h:ChS N c):zbc [dTN N,c]=some (.bl true):=by
 obtain ⟨⟨y1,y2,y3⟩,⟨y4,y5⟩,y6⟩:=zu8
 unfold zbc zfJ
 rcases h with ⟨x,hx,rfl⟩ | ⟨x,hx,i,rfl⟩ | ⟨x,hx,y,hy,rfl⟩ | ⟨x,hx,y,hy,rfl⟩
 ·exact za4 [oS (dTN N),oS (.tup [.str "keep",.str x]),none] rfl ((zb2 (zaP (zah rfl zaz) zcy)).trans (zdk (isW rfl rfl) (za3 (zcg (zaP (zah rfl (zah rfl zaz)) zoZ) (zaP (zah (zaH rfl rfl zg9) (zah (zet 0 rfl rfl) zaz)) (zbg hx O.s))))))
 ·refine za4 [oS (dTN N),oS (.tup [.str "start",.str x,.int i]),none] rfl ((zb2 (zaP (zah rfl zaz) zcy)).trans ((za2 (noW rfl y1)).trans ((zdo (zaP (zah rfl (zah rfl zaz)) zsr) (zaP (zah (zaH rfl rfl zg9) (zah (zet 0 rfl rfl) zaz)) (zbg hx O.s))).trans (zdk (isW rfl rfl) (za3 (zaP (zah (zaH rfl rfl zlW) zaz) (zjK i)))))))
 ·refine za4 [oS (dTN N),oS (.tup [.str "on",.str x,.str y]),none] rfl ((zb2 (zaP (zah rfl zaz) zcy)).trans ((za2 (noW rfl y2)).trans ((zdo (zaP (zah rfl (zah rfl zaz)) zsr) (zaP (zah (zaH rfl rfl zg9) (zah (zet 0 rfl rfl) zaz)) (zbg hx O.s))).trans ((za2 (noW rfl y4)).trans (zdk (isW rfl rfl) (za3 (zaP (zah (zaH rfl rfl zlW) (zah (zet 1 rfl rfl) zaz)) (zbg hy O.b))))))))
 ·refine za4 [oS (dTN N),oS (.tup [.str "order",.str x,.str y]),none] rfl ((zb2 (zaP (zah rfl zaz) zcy)).trans ((za2 (noW rfl y3)).trans ((zdo (zaP (zah rfl (zah rfl zaz)) zsr) (zaP (zah (zaH rfl rfl zg9) (zah (zet 0 rfl rfl) zaz)) (zbg hx O.s))).trans ((za2 (noW rfl y5)).trans ((za2 (noW rfl y6)).trans (za3 (zcg (zaH rfl rfl rfl) (zaP (zah (zaH rfl rfl zlW) (zah (zet 0 rfl rfl) zaz)) (zbg hy O.s)))))))))
end Law
end
section
namespace Law
open PySem L2
theorem ztY:zoV (.str "low") (.tup [.str "low",.str "high"])=some (.bl true)/\zoV (.str "high") (.tup [.str "low",.str "high"])=some (.bl true)/\zoV (.str "fit") (.tup [.str "low",.str "high"])=some (.bl false)/\zoV (.str "less") (.tup [.str "less",.str "more"])=some (.bl true)/\zoV (.str "more") (.tup [.str "less",.str "more"])=some (.bl true):=⟨by kernel_rfl,by kernel_rfl,by kernel_rfl,by kernel_rfl,by kernel_rfl⟩
section
variable {N:Nm}
theorem zuV (O:NmOk N) {x:D} (h:PnS N x):zdd [dTN N,x]=some (.bl true):=by
 obtain ⟨z1,z2,z3,z4,z5⟩:=ztY
 unfold zdd zjG
 rcases h with ⟨y,hy,rfl⟩ | ⟨k,hk,y,hy,z,hz,rfl⟩
 ·exact za4 [oS (dTN N),oS (.tup [.str "fit",.str y]),none] rfl ((zb2 (zaP (zah rfl zaz) zcy)).trans ((za2 (za5 (zaH rfl rfl z3))).trans (za3 (zcg (zaH rfl rfl rfl) (zcg (zaP (zah rfl (zah rfl zaz)) zoZ) (zaP (zah (zaH rfl rfl zg9) (zah (zet 0 rfl rfl) zaz)) (zbg hy O.s)))))))
 ·have hin:zoV (.str k) (.tup [.str "low",.str "high"])=some (.bl true):=by
   rcases hk with rfl | rfl
   ·exact z1
   ·exact z2
  exact za4 [oS (dTN N),oS (.tup [.str k,.str y,.str z]),none] rfl ((zb2 (zaP (zah rfl zaz) zcy)).trans (zdk (za5 (zaH rfl rfl hin)) (za3 (zcg (zaP (zah rfl (zah rfl zaz)) zsr) (zcg (zaP (zah (zaH rfl rfl zg9) (zah (zet 0 rfl rfl) zaz)) (zbg hy O.s)) (zaP (zah (zaH rfl rfl zlW) (zah (zet 0 rfl rfl) zaz)) (zbg hz O.s)))))))
theorem zm5 {ns ms:List Str} (h1:1<=ns.length) (h3:ns.length<=3) (hs:∀ x∈ns,x∈ms) (hm:∀ y∈ms,zbp y=true):zaW [.lst (ns.map D.str),.lst (ms.map D.str)]=some (.bl true):=by
 unfold zaW zeh
 refine za4 [oS (.lst (ns.map D.str)),oS (.lst (ms.map D.str))] rfl (za3 (zcg rfl (zcg (zaH (zeJ rfl) rfl ?_) (zcr (xs:=ns.map D.str) (r:=[oS (.lst (ms.map D.str))]) (a:=none) rfl (by rw [qe];unfold sizeLine;omega) rfl fun x hx=>?_))))
 ·show some (D.bl (decide ((ns.length:Int) > 0)))=_
  rw [qN (by omega)]
 ·obtain ⟨y,hy,rfl⟩:=List.mem_map.mp hx
  exact zaP (zah rfl (zah rfl zaz)) (zbg (hs y hy) hm)
theorem zol {a b h:Int} (h0:0<=a) (h1:a < b) (h2:b<=h):zbr [.int a,.int b,.int h]=some (.bl true):=by
 unfold zbr zgP
 refine za4 [oS (.int a),oS (.int b),oS (.int h)] rfl (za3 (zcg (zaP (zah rfl (zah rfl (zah rfl zaz))) (zbo a 0 h ⟨h0,by omega⟩)) (zcg (zaP (zah rfl (zah rfl (zah rfl zaz))) (zbo b 0 h ⟨by omega,h2⟩)) (zaH rfl rfl ?_))))
 show some (D.bl (decide (a < b)))=_
 rw [qN h1]
theorem zu7:(("window":Str)≠"moved"/\("ring":Str)≠"moved"/\("stretch":Str)≠"moved"/\("together":Str)≠"moved"/\("stock":Str)≠"moved")/\(("ring":Str)≠"window"/\("stretch":Str)≠"window"/\("together":Str)≠"window"/\("stock":Str)≠"window")/\(("stretch":Str)≠"ring"/\("together":Str)≠"ring"/\("stock":Str)≠"ring")/\(("together":Str)≠"stretch"/\("stock":Str)≠"stretch")/\("stock":Str)≠"together":=by decide +kernel
theorem zrN (O:NmOk N) {e:D} (h:LfS N e):zc1 [dTN N,e]=some (.bl true):=by
 obtain ⟨z1,z2,z3,z4,z5⟩:=ztY
 obtain ⟨⟨m1,m2,m3,m4,m5⟩,⟨w1,w2,w3,w4⟩,⟨r1,r2,r3⟩,⟨s1,s2⟩,t1⟩:=zu7
 unfold zc1 zia
 rcases h with rfl | ⟨x,hx,rfl⟩ | ⟨ns,rfl,n1,n3,hn⟩ | ⟨ns,a,b,rfl,n1,n3,hn,nd,a0,ab,bh⟩ | ⟨x,hx,a,b,rfl,a0,ab,bh⟩ | ⟨x,hx,t,w,rfl,t0,th,hw⟩
 ·exact za4 [oS (dTN N),oS (.tup [.str "moved"]),none] rfl ((zb2 (zaP (zah rfl zaz) zcy)).trans (zdk (isW rfl rfl) (za3 (zaP (zah rfl (zah rfl zaz)) (zfS _ _ rfl)))))
 ·exact za4 [oS (dTN N),oS (.tup [.str "window",.str x]),none] rfl ((zb2 (zaP (zah rfl zaz) zcy)).trans ((za2 (noW rfl m1)).trans (zdk (isW rfl rfl) (za3 (zcg (zaP (zah rfl (zah rfl zaz)) zoZ) (zaP (zah (zaH rfl rfl zg9) (zah (zet 0 rfl rfl) zaz)) (zbg hx O.s)))))))
 ·exact za4 [oS (dTN N),oS (.tup [.str "ring",.lst (ns.map D.str)]),none] rfl ((zb2 (zaP (zah rfl zaz) zcy)).trans ((za2 (noW rfl m2)).trans ((za2 (noW rfl w1)).trans (zdk (isW rfl rfl) (za3 (zcg (zaP (zah rfl (zah rfl zaz)) zoZ) (zaP (zah (zaH rfl rfl zg9) (zah (zet 0 rfl rfl) zaz)) (zm5 n1 n3 hn O.s))))))))
 ·have hs:zbQ [dTN N,.lst (ns.map D.str),.int a,.int b]=some (.bl true):=by
   unfold zbQ zeO
   exact za4 [oS (dTN N),oS (.lst (ns.map D.str)),oS (.int a),oS (.int b)] rfl (za3 (zcg (zaP (zah rfl (zah (zet 1 rfl rfl) zaz)) (zm5 n1 n3 hn O.b)) (zcg (zaP (zah rfl zaz) (zch nd (by omega))) (zaP (zah rfl (zah rfl (zah (zet 4 rfl rfl) zaz))) (zol a0 ab bh)))))
  exact za4 [oS (dTN N),oS (.tup [.str "stretch",.lst (ns.map D.str),.int a,.int b]),none] rfl ((zb2 (zaP (zah rfl zaz) zcy)).trans ((za2 (noW rfl m3)).trans ((za2 (noW rfl w2)).trans ((za2 (noW rfl r1)).trans ((zfb (zaP (zah rfl (zah rfl zaz)) zsq)).trans (zdk (isW rfl rfl) (za3 (zaP (zah rfl (zah (zaH rfl rfl zg9) (zah (zaH rfl rfl zlW) (zah (zaH rfl rfl zpH) zaz)))) hs))))))))
 ·exact za4 [oS (dTN N),oS (.tup [.str "together",.str x,.int a,.int b]),none] rfl ((zb2 (zaP (zah rfl zaz) zcy)).trans ((za2 (noW rfl m4)).trans ((za2 (noW rfl w3)).trans ((za2 (noW rfl r2)).trans ((zfb (zaP (zah rfl (zah rfl zaz)) zsq)).trans ((za2 (noW rfl s1)).trans (zdk (isW rfl rfl) (za3 (zcg (zaP (zah (zaH rfl rfl zg9) (zah (zet 2 rfl rfl) zaz)) (zbg hx O.j)) (zaP (zah (zaH rfl rfl zlW) (zah (zaH rfl rfl zpH) (zah (zet 4 rfl rfl) zaz))) (zol a0 ab bh)))))))))))
 ·have hin:zoV (.str w) (.tup [.str "less",.str "more"])=some (.bl true):=by
   rcases hw with rfl | rfl
   ·exact z4
   ·exact z5
  have hs:zbj [dTN N,.str x,.int t,.str w]=some (.bl true):=by
   unfold zbj zdF
   exact za4 [oS (dTN N),oS (.str x),oS (.int t),oS (.str w)] rfl ((zdo (zaP (zah rfl (zah (zet 3 rfl rfl) zaz)) (zbg hx O.k)) (zaP (zah rfl (zah rfl (zah (zet 4 rfl rfl) zaz))) (zbo t 0 N.h ⟨t0,th⟩))).trans (za3 (zcg rfl (zaH rfl rfl hin))))
  exact za4 [oS (dTN N),oS (.tup [.str "stock",.str x,.int t,.str w]),none] rfl ((zb2 (zaP (zah rfl zaz) zcy)).trans ((za2 (noW rfl m5)).trans ((za2 (noW rfl w4)).trans ((za2 (noW rfl r3)).trans ((zfb (zaP (zah rfl (zah rfl zaz)) zsq)).trans ((za2 (noW rfl s2)).trans ((za2 (noW rfl t1)).trans (za3 (zcg (zaH rfl rfl rfl) (zaP (zah rfl (zah (zaH rfl rfl zg9) (zah (zaH rfl rfl zlW) (zah (zaH rfl rfl zpH) zaz)))) hs))))))))))
theorem ztF (O:NmOk N) {c t:D} {v:Int} (hc:ChS N c) (h0:0<=v) (h1:v<=1):zcu [dTN N,.tup [.str "not",c,.int v,t]]=some (.bl true):=by
 unfold zcu zhi
 exact za4 [oS (dTN N),oS (.tup [.str "not",c,.int v,t])] rfl (za3 (zcg (zaH (zaP (zah rfl zaz) zcy) rfl rfl) (zcg (zaP (zah rfl (zah rfl zaz)) zsq) (zcg (zaP (zah rfl (zah (zaH rfl rfl zg9) zaz)) (zui O hc)) (zaP (zah (zaH rfl rfl zlW) (zah rfl (zah rfl zaz))) (zbo v 0 1 ⟨h0,h1⟩))))))
theorem znQ {k:Str} {r:List D} (hk:k≠"not"):zcu [dTN N,.tup (.str k::r)]=some (.bl false):=by
 unfold zcu zhi
 exact za4 [oS (dTN N),oS (.tup (.str k::r))] rfl (za3 (zqP (zaH (zaP (zah rfl zaz) zcy) rfl (by show some (D.bl (decide (k="not")))=_;rw [qI hk]))))
theorem zsf (O:NmOk N) {c t u:D} (hc:ChS N c):zcc [dTN N,.tup [.str "both",c,t,u]]=some (.bl true):=by
 unfold zcc zgb
 exact za4 [oS (dTN N),oS (.tup [.str "both",c,t,u])] rfl (za3 (zcg (zaH (zaP (zah rfl zaz) zcy) rfl rfl) (zcg (zaP (zah rfl (zah rfl zaz)) zsq) (zaP (zah rfl (zah (zaH rfl rfl zg9) zaz)) (zui O hc)))))
theorem zgG {k:Str} {r:List D} (hk:k≠"both"):zcc [dTN N,.tup (.str k::r)]=some (.bl false):=by
 unfold zcc zgb
 exact za4 [oS (dTN N),oS (.tup (.str k::r))] rfl (za3 (zqP (zaH (zaP (zah rfl zaz) zcy) rfl (by show some (D.bl (decide (k="both")))=_;rw [qI hk]))))
theorem ztM:(("fit":Str)≠"not"/\("low":Str)≠"not"/\("high":Str)≠"not")/\("moved":Str)≠"both"/\("window":Str)≠"both"/\("ring":Str)≠"both"/\("stretch":Str)≠"both"/\("together":Str)≠"both"/\("stock":Str)≠"both":=by decide +kernel
theorem zuW {x:D} (h:PnS N x):zcu [dTN N,x]=some (.bl false):=by
 obtain ⟨⟨y1,y2,y3⟩,_⟩:=ztM
 rcases h with ⟨y,hy,rfl⟩ | ⟨k,hk,y,hy,z,hz,rfl⟩
 ·exact znQ y1
 ·rcases hk with rfl | rfl
  ·exact znQ y2
  ·exact znQ y3
theorem zu9 {e:D} (h:LfS N e):zcc [dTN N,e]=some (.bl false):=by
 obtain ⟨_,y1,y2,y3,y4,y5,y6⟩:=ztM
 rcases h with rfl | ⟨x,hx,rfl⟩ | ⟨ns,rfl,_⟩ | ⟨ns,a,b,rfl,_⟩ | ⟨x,hx,a,b,rfl,_⟩ | ⟨x,hx,t,w,rfl,_⟩
 ·exact zgG y1
 ·exact zgG y2
 ·exact zgG y3
 ·exact zgG y4
 ·exact zgG y5
 ·exact zgG y6
end
end Law
end
section
namespace Law
open PySem L2
theorem zt8 {i:Nat} {f:FE} {ρ:za1} {xs ys:List D} (h1:ρ[i]?=some (some (.own xs))) (h2:f ρ=some (.lst ys)) (h3:xs.length+ys.length<=100000):znm i f ρ=some (.nx,ρ.set i (some (.own (xs++ys)))):=by
 unfold znm
 rw [h1]
 show (f ρ).bind _=_
 rw [h2]
 show (if _ then _ else _)=_
 rw [qR (by unfold sizeLine;omega)]
theorem zvr {i:Nat} {f:FE} {ρ:za1} {xs:List D} {y:D} (h1:ρ[i]?=some (some (.own xs))) (h2:f ρ=some y) (h3:xs.length<=100000):zst i f ρ=some (.nx,ρ.set i (some (.own (xs++[y])))):=by
 unfold zst
 rw [h1]
 show (f ρ).bind _=_
 rw [h2]
 show (if _ then _ else _)=_
 rw [qR (by unfold sizeLine;omega)]
section
variable {N:Nm}
theorem zva (O:NmOk N) {n:Nat} {d:D} (h:TrS N (n+1) d):∃ inner:List D,zce [dTN N,d]=some (.lst inner)/\inner.length<=4/\∀ t∈inner,TrS N n t:=by
 obtain ⟨rows,e,rfl,hr,hrow,hend⟩:=h
 unfold zce zgI
 obtain ⟨ρ',h1,inner,z,rfl,hl,hin⟩:=zgx (gg:=zbt 3) (body:=sIf (toB (cF zcu (zac (vSh 0) (zac (vSh 3) zak)))) (zst 2 (b2 ixD (vSh 3) (vC (.int 3)))) (sIf (zca (toB (cF zdd (zac (vSh 0) (zac (vSh 3) zak))))) sNo zcA)) (xs:=rows) (ρ:=[oS (dTN N),oS (.tup [.lst rows,e]),some (.own []),none,none])
  (fun i ρ=>∃ inner z,ρ=[oS (dTN N),oS (.tup [.lst rows,e]),some (.own inner),z,none]/\inner.length<=i/\∀ t∈inner,TrS N n t) ⟨[],none,rfl,qt _,fun _ z=>nomatch z⟩ (fun i x ρ hx hI=>by
   obtain ⟨inner,z,rfl,hl,hin⟩:=hI
   have hi:=(List.getElem?_eq_some_iff.mp hx).1
   rcases hrow x (qK hx) with hp | ⟨c,v,t,rfl,hc,v0,v1,ht⟩
   ·refine ⟨_,_,rfl,(zt0 (za5 (zaP (zah rfl (zah rfl zaz)) (zuW hp)))).trans (zt0 (ztG (za5 (zaP (zah rfl (zah rfl zaz)) (zuV O hp))))),inner,oS x,rfl,by omega,hin⟩
   ·refine ⟨_,_,rfl,(zvb (za5 (zaP (zah rfl (zah rfl zaz)) (ztF O hc v0 v1)))).trans (zvr (xs:=inner) rfl (zaH rfl rfl zpH) (by omega)),inner++[t],_,rfl,by rw [qi,qP];omega,fun y hy=>?_⟩
    rcases List.mem_append.mp hy with hy | hy
    ·exact hin y hy
    ·rw [List.mem_singleton.mp hy];exact ht)
 rcases hend with hl' | ⟨c,t,u,rfl,hc,ht,hu⟩
 ·refine ⟨inner,za4 (ρ':=[oS (dTN N),oS (.tup [.lst rows,e]),oS (.lst inner),z,oS e]) [oS (dTN N),oS (.tup [.lst rows,e]),none,none,none] rfl ((ze1 (ρ1:=[oS (dTN N),oS (.tup [.lst rows,e]),some (.own []),none,none]) rfl).trans ((ze1 ((zpN (by unfold itF;rw [zaH rfl rfl zgs];rfl)).trans h1)).trans ((zb2 (d:=e) (zaH rfl rfl zg9)).trans ((ze1 ((zt0 (za5 (zaP (zah rfl (zah rfl zaz)) (zu9 hl')))).trans (zt0 (ztG (za5 (zaP (zah rfl (zah rfl zaz)) (zrN O hl'))))))).trans ((zr1 (ds:=inner) rfl).trans (za3 rfl)))))),by omega,hin⟩
 ·refine ⟨inner++[t,u],za4 (ρ':=[oS (dTN N),oS (.tup [.lst rows,.tup [.str "both",c,t,u]]),oS (.lst (inner++[t,u])),z,oS (.tup [.str "both",c,t,u])]) [oS (dTN N),oS (.tup [.lst rows,.tup [.str "both",c,t,u]]),none,none,none] rfl ((ze1 (ρ1:=[oS (dTN N),oS (.tup [.lst rows,.tup [.str "both",c,t,u]]),some (.own []),none,none]) rfl).trans ((ze1 ((zpN (by unfold itF;rw [zaH rfl rfl zgs];rfl)).trans h1)).trans ((zb2 (d:=.tup [.str "both",c,t,u]) (zaH rfl rfl zg9)).trans ((ze1 ((zvb (za5 (zaP (zah rfl (zah rfl zaz)) (zsf O hc)))).trans (zt8 (xs:=inner) (ys:=[t,u]) rfl ?_ ?_))).trans ((zr1 (ds:=inner++[t,u]) rfl).trans (za3 rfl)))))),?_,fun y hy=>?_⟩
  ·unfold zbM szF
   rw [zah (zaH rfl rfl zlW) (zah (zaH rfl rfl zpH) zaz)]
   rfl
  ·simp only [qh,qk];omega
  ·rw [qi];simp only [qh,qk];omega
  ·rcases List.mem_append.mp hy with hy | hy
   ·exact hin y hy
   ·simp only [qG,qF,or_false] at hy
    rcases hy with rfl | rfl
    ·exact ht
    ·exact hu
abbrev lkL:FS:=zba (sIf (orT (zca (toB (cF zag (zac (vSh 7) (zac (vC (.int 2)) zak))))) (zca (toB (cF zgt (zac (b2 ixD (vSh 7) (vC (.int 0))) (zac (vC (.ty "list")) zak)))))) sNo zcA) (zba (zfQ 3 (b2 zc6 (b2 zc6 (vSh 3) (cF zc3 (zac (b2 ixD (vSh 7) (vC (.int 0))) zak))) (vC (.int 1)))) (zba (sIf (toB (b2 gtD (vSh 3) (vC (.int 3000)))) sNo zcA) (znm 6 (cF zce (zac (vSh 2) (zac (vSh 7) zak))))))
abbrev lkB:FS:=zba (sIf (toB (b2 gtD (vSh 5) (vC (.int 40)))) sNo zcA) (zba (zmr 6 (szF zak)) (zba (zig (itF (vSh 4)) (zbt 7) lkL) (zoS 6 (zba (zfQ 4 (vSh 6)) (zfQ 5 (b2 zc6 (vSh 5) (vC (.int 1))))))))
abbrev lkT:FT:=toB (b2 gtD (cF zc3 (zac (vSh 4) zak)) (vC (.int 0)))
def Cx:Nat->Nat
 | 0=>0
 | n+1=>3+4*Cx n
abbrev zmV (S T:Option Slot) (N:Nm) (m:Nat) (lv:List D) (dp:Nat) (a b:Option Slot):za1:=[S,T,oS (dTN N),oS (.int (m:Int)),oS (.lst lv),oS (.int (dp:Int)),a,b]
theorem zvL {i:Nat} {ρ:za1} {a b:Int} (h:vSh i ρ=some (.int a)) (hl:a<=b):toB (b2 gtD (vSh i) (vC (.int b))) ρ=some false:=za5 (zaH h rfl (by show some (D.bl (decide (a > b)))=_;rw [qI (by omega)]))
theorem zqV (O:NmOk N) {S T:Option Slot} {n m dp:Nat} {lv:List D} {a b:Option Slot} (hlv:∀ t∈lv,TrS N (n+1) t) (hd:dp<=40) (hm:m+3*lv.length<=3000):∃ m' lv' b',lkB (zmV S T N m lv dp a b)=some (.nx,zmV S T N m' lv' (dp+1) (oS (.lst lv')) b')/\m'<=m+3*lv.length/\lv'.length<=4*lv.length/\∀ t∈lv',TrS N n t:=by
 obtain ⟨ρ',h1,m',lv',b',rfl,q1,q2,q3⟩:=zgx (gg:=zbt 7) (body:=lkL) (xs:=lv) (ρ:=zmV S T N m lv dp (some (.own [])) b)
  (fun i ρ=>∃ m' inner b',ρ=zmV S T N m' lv dp (some (.own inner)) b'/\m'<=m+3*i/\inner.length<=4*i/\∀ t∈inner,TrS N n t) ⟨m,[],b,rfl,qt _,qt _,fun _ z=>nomatch z⟩ (fun i x ρ hx hI=>by
   obtain ⟨m',inner,b',rfl,q1,q2,q3⟩:=hI
   have hi:=(List.getElem?_eq_some_iff.mp hx).1
   have hx':=hlv x (qK hx)
   obtain ⟨il,i1,i2,i3⟩:=zva O hx'
   obtain ⟨rows,e,rfl,hr,_,_⟩:=hx'
   have hlen:cF zc3 (zac (b2 ixD (vSh 7) (vC (.int 0))) zak) (zmV S T N m' lv dp (some (.own inner)) (oS (.tup [.lst rows,e])))=some (.int rows.length):=zaP (zah (zaH rfl rfl zgs) zaz) rfl
   have em:(m':Int)+(rows.length:Int)+1=((m'+rows.length+1:Nat):Int):=by omega
   refine ⟨zmV S T N m' lv dp (some (.own inner)) (oS (.tup [.lst rows,e])),zmV S T N (m'+rows.length+1) lv dp (some (.own (inner++il))) (oS (.tup [.lst rows,e])),rfl,?_,_,_,_,rfl,by omega,by rw [qi];omega,fun y hy=>(List.mem_append.mp hy).elim (q3 y) (i3 y)⟩
   refine (zdo (zaP (zah rfl (zah rfl zaz)) zoZ) (zaP (zah (zaH rfl rfl zgs) (zah rfl zaz)) rfl)).trans ((zb2 (d:=.int ((m'+rows.length+1:Nat):Int)) (zaH (zaH rfl hlen rfl) rfl (by rw [← em];rfl))).trans ((za2 (zvL rfl (by omega))).trans ?_))
   exact zt8 (xs:=inner) rfl (zaP (zah rfl (zah rfl zaz)) i1) (by omega))
 refine ⟨m',lv',b',?_,q1,q2,q3⟩
 refine (za2 (zvL rfl (by omega))).trans ((ze1 (ρ1:=zmV S T N m lv dp (some (.own [])) b) rfl).trans ((ze1 ((zpN rfl).trans h1)).trans ((zr1 (ds:=lv') rfl).trans ((zb2 (d:=.lst lv') rfl).trans ?_))))
 show (Option.map _ (some (D.int ((dp:Int)+1))))=_
 rfl
theorem zls (O:NmOk N) {S T:Option Slot}:∀ (n fu m dp:Nat) (lv:List D) (a b:Option Slot),(∀ t∈lv,TrS N n t)->n+1<=fu->m+lv.length*Cx n<=3000->dp+n<=41->∃ ρ',whL lkT lkB fu (zmV S T N m lv dp a b)=some (.nx,ρ')
 | n,0,_,_,_,_,_,_,h,_,_=>absurd h (by omega)
 | n,fu+1,m,dp,[],a,b,_,_,_,_=>⟨zmV S T N m [] dp a b,rfl⟩
 | 0,fu+1,m,dp,x::r,a,b,h,_,_,_=>(h x qf).elim
 | n+1,fu+1,m,dp,x::r,a,b,h,hf,hm,hd=>by
  have e1:Cx (n+1)=3+4*Cx n:=rfl
  rw [e1,Nat.mul_add] at hm
  have e2:(x::r).length*(4*Cx n)=(4*(x::r).length)*Cx n:=by rw [← Nat.mul_assoc,Nat.mul_comm _ 4]
  obtain ⟨m',lv',b',h1,q1,q2,q3⟩:=zqV O (S:=S) (T:=T) (n:=n) (m:=m) (dp:=dp) (lv:=x::r) (a:=a) (b:=b) h (by omega) (by omega)
  have e3:lv'.length*Cx n<=(4*(x::r).length)*Cx n:=Nat.mul_le_mul_right _ q2
  obtain ⟨ρ',h2⟩:=zls O (S:=S) (T:=T) n fu m' (dp+1) lv' (oS (.lst lv')) b' q3 (by omega) (by omega) (by omega)
  refine ⟨ρ',?_⟩
  have ht:lkT (zmV S T N m (x::r) dp a b)=some true:=za5 (zaH (zaP (zah rfl zaz) rfl) rfl (by
   show some (D.bl (decide (((x::r).length:Int) > 0)))=_
   rw [qN (by simp only [qh];omega)]))
  unfold whL
  rw [ht,qa,qR rfl,h1]
  exact h2
end
theorem zrK {bs:List BenchT} {ss:List StepT} {js:List JobT} {us:List SetT} {ls:List LinkT} {ks:List StockT} {h:Int} (S:Small bs ss js us ls ks h) {d:D} (hd:TrS (zfR bs ss js ks h) 4 d):za9 [zcq bs ss js us ls ks h,d]=some .non:=by
 unfold za9 zdX zcp
 obtain ⟨ρ',h1⟩:=zls (ztI S) (S:=sh0 bs ss js us ls ks h) (T:=oS d) 4 50 0 1 [d] none none (fun t ht=>by rw [List.mem_singleton.mp ht];exact hd) (by decide) (by show 0+1*Cx 4<=3000;decide) (by decide)
 show (Option.bind ((zba _ _) [sh0 bs ss js us ls ks h,oS d,none,none,none,none,none,none]) _)=_
 rw [zb2 (zaP (zah rfl zaz) (zpw S)),zb2 (d:=.int 0) rfl,zb2 (d:=.lst [d]) rfl,zb2 (d:=.int 1) rfl]
 show (Option.bind (whL lkT lkB 50 (zmV (sh0 bs ss js us ls ks h) (oS d) (zfR bs ss js ks h) 0 [d] 1 none none)) _)=_
 rw [h1]
 rfl
end Law
end
section
namespace Law
open PySem L2
theorem zqH {gg:FG} {f:FR} {g:FRs} {ρ:zge} {R:Fl->zge->Prop} (h:Ev f ρ fun d=>∃ ρ1:zge,(∀ q,gg d (ρ q)=some (ρ1 q))/\Es g ρ1 R):Es (zbx (zs9 gg f) g) ρ R:=fun r=>by
 obtain ⟨d,r1,h1,ρ1,h2,h3⟩:=h r
 obtain ⟨fl,ρ',r2,h4,h5⟩:=h3 r1
 exact ⟨fl,ρ',r2,fun q=>by unfold zbx zs9;rw [h1];show (((gg d (ρ q)).map _).bind _)=_;rw [h2];exact h4 q,h5⟩
section
variable {bs:List BenchT} {ss:List StepT} {js:List JobT} {us:List SetT} {ls:List LinkT} {ks:List StockT} {h:Int}
theorem zko (S:Small bs ss js us ls ks h):EvF zaQ [zcq bs ss js us ls ks h] (ChS (zfR bs ss js ks h)):=by
 have sl:(ss.map (·.nm)).length=ss.length:=qe _
 have bl:(bs.map (·.nm)).length=bs.length:=qe _
 have s1:=S.g.sl.1
 have s3:=S.s
 have b1:=S.g.bl.1
 have b2':=S.b
 have h2:=S.h
 unfold zaQ zek
 refine zeo (zbh (zaZ (fun _=>zhG S rfl) (zbh (zeK (ns:=ss.map (·.nm)) (fun _=>rfl) (fun _=>rfl) (by omega) (by omega) fun x hx=>zbh (za0 (fun _=>rfl) (fun _=>rfl) (by decide) (by decide) fun w w0 w1=>?_)))))
 refine zdB (zdV (zk7 (w:=w) (fun _=>rfl) ?_))
 by_cases e0:w=0
 ·rw [qN e0,qR rfl]
  exact zbP (zci (zar (zaZ (fun _=>rfl) (zar (zaZ (fun _=>rfl) (zar (za0 (m:=h+2) (fun _=>rfl) (fun _=>zaH (zgW rfl) rfl rfl) (by omega) (by omega) fun n n0 n1=>zaY ⟨by simp,_,rfl,.inr (.inl ⟨x,hx,n,rfl⟩)⟩)))))))
 rw [qI e0,qS (by decide)]
 refine zcj (zdB (zdV (zk7 (w:=w) (fun _=>rfl) ?_)))
 by_cases e1:w=1
 ·rw [qN e1,qR rfl]
  exact zbh (zaZ (fun _=>zf3 S rfl) (zbP (zci (zar (zaZ (fun _=>rfl) (zar (zaZ (fun _=>rfl) (zar (zeK (ns:=bs.map (·.nm)) (fun _=>rfl) (fun _=>rfl) (by omega) (by omega) fun y hy=>zaY ⟨by simp,_,rfl,.inr (.inr (.inl ⟨x,hx,y,hy,rfl⟩))⟩)))))))))
 rw [qI e1,qS (by decide)]
 refine zcj (zdB (zdV (zk7 (w:=w) (fun _=>rfl) ?_)))
 by_cases e2:w=2
 ·rw [qN e2,qR rfl]
  exact zbP (zci (zar (zaZ (fun _=>rfl) (zar (zaZ (fun _=>rfl) (zar (zeK (ns:=ss.map (·.nm)) (fun _=>rfl) (fun _=>rfl) (by omega) (by omega) fun y hy=>zaY ⟨by simp,_,rfl,.inr (.inr (.inr ⟨x,hx,y,hy,rfl⟩))⟩)))))))
 rw [qI e2,qS (by decide)]
 exact zcj (zbP (zaZ (fun _=>rfl) ⟨_,rfl,.inl ⟨x,hx,rfl⟩⟩))
theorem ziw (S:Small bs ss js us ls ks h):EvF zbe [zcq bs ss js us ls ks h] fun d=>∃ a b:Int,d=.tup [.int a,.int b]/\0<=a/\a < b/\b<=h:=by
 have h2:=S.h
 unfold zbe zdZ
 exact zeo (zbh (za0 (m:=h) (fun _=>rfl) (fun _=>zgW rfl) (by omega) (by omega) fun n n0 n1=>zbP (zci (zar (zaZ (fun _=>rfl) (zar (zgy (zaZ (fun _=>rfl) (za0 (m:=h - n) (fun _=>rfl) (fun _=>zaH (zgW rfl) rfl rfl) (by omega) (by omega) fun k k0 k1=>⟨.int (n+1+k),rfl,zaY ⟨by simp,_,rfl,n,n+1+k,rfl,n0,by omega,by omega⟩⟩)))))))))
abbrev lfE (bs:List BenchT) (ss:List StepT) (js:List JobT) (us:List SetT) (ls:List LinkT) (ks:List StockT) (h w:Int) (a b c d:Option Slot):zge:=fun q=>[some (.pin q),sh0 bs ss js us ls ks h,oS (.lst ((ss.map (·.nm)).map D.str)),oS (.int w),a,b,c,d]
theorem zrc (S:Small bs ss js us ls ks h) {w:Int}:Ev (rM (zeM (rM (zap (r2 zc6 (rP (vC (.int 1))) (zbn zad 0 (zap (rP (vC (.int 3))) (rP zak)))) (rP zak)) zkT) (zbt 0) (rP tT) (r2 ixD (rP (vSh 1)) (zbn zad 2 (zap (rP (cF zc3 (zac (vSh 1) zak))) (rP zak)))) [none,some 2,some 0]) zmU) (lfE bs ss js us ls ks h w none none none none) fun d=>∃ ns:List Str,d=.lst (ns.map D.str)/\1<=ns.length/\ns.length<=3/\∀ x∈ns,x∈ss.map (·.nm):=by
 have sl:(ss.map (·.nm)).length=ss.length:=qe _
 have s1:=S.g.sl.1
 have s3:=S.s
 refine zkh (zk8 (σ:=fun x q=>[oS x,oS (.lst ((ss.map (·.nm)).map D.str)),some (.pin q)]) (zl0 (zar (zgy (zaZ (fun _=>rfl) (za0 (fun _=>rfl) (fun _=>rfl) (by decide) (by decide) fun n h0 h1=>⟨.int (1+n),rfl,zaY ⟨1+n,rfl,by omega,by omega,by rw [qe,qO];omega,fun i l=>∃ ns:List Str,l=ns.map D.str/\ns.length=i/\∀ x∈ns,x∈ss.map (·.nm),⟨[],rfl,rfl,fun _ z=>nomatch z⟩,fun i x l hx hS=>?_,fun l hl=>?_⟩⟩))))) (fun _ _=>rfl) fun _ _ _=>rfl)
 ·obtain ⟨ns,rfl,hl,hn⟩:=hS
  refine zaZ (a:=true) (fun _=>rfl) ?_
  rw [qR rfl]
  refine zeK (i:=2) (j:=1) (ns:=ss.map (·.nm)) (fun _=>rfl) (fun _=>rfl) (by omega) (by omega) fun y hy=>⟨ns++[y],by rw [List.map_append];rfl,by rw [qi,qP,hl],fun z hz=>?_⟩
  rcases List.mem_append.mp hz with hz | hz
  ·exact hn z hz
  ·rw [List.mem_singleton.mp hz];exact hy
 ·obtain ⟨ns,rfl,hl,hn⟩:=hl
  rw [qe,qO] at hl
  exact ⟨ns,rfl,by omega,by omega,hn⟩
theorem zrO (S:Small bs ss js us ls ks h):EvF zbL [zcq bs ss js us ls ks h] (LfS (zfR bs ss js ks h)):=by
 have sl:(ss.map (·.nm)).length=ss.length:=qe _
 have bl:(bs.map (·.nm)).length=bs.length:=qe _
 have s1:=S.g.sl.1
 have s3:=S.s
 have b1:=S.g.bl.1
 have b2':=S.b
 have h2:=S.h
 have jl:=S.g.jl
 unfold zbL zfO
 refine zeo (zbh (zaZ (fun _=>zhG S rfl) (zbh (za0 (fun _=>rfl) (fun _=>rfl) (by decide) (by decide) fun w w0 w1=>?_))))
 show Es _ (lfE bs ss js us ls ks h w none none none none) _
 refine zdB (zdV (zk7 (w:=w) (fun _=>rfl) ?_))
 by_cases e1:w=1
 ·rw [qN e1,qR rfl]
  refine zbP (zci (zar (zaZ (fun _=>rfl) (zar ((zrc S).imp ?_)))))
  rintro _ ⟨ns,rfl,n1,n3,hn⟩
  exact zaY ⟨by simp,_,rfl,.inr (.inr (.inl ⟨ns,rfl,n1,n3,hn⟩))⟩
 rw [qI e1,qS (by decide)]
 refine zcj (zdB (zdV (zk7 (w:=w) (fun _=>rfl) ?_)))
 by_cases e2:w=2
 ·rw [qN e2,qR rfl]
  refine zqH (zc4 (fun _=>rfl) (zar (zaZ (fun _=>rfl) (zaY ((ziw S).imp ?_)))))
  rintro _ ⟨a,b,rfl,a0,ab,bh⟩
  refine ⟨lfE bs ss js us ls ks h w (oS (.int a)) (oS (.int b)) none none,fun _=>rfl,?_⟩
  refine zbh (zaZ (fun _=>zf3 S rfl) (zbP (zci (zar (zaZ (fun _=>rfl) (zar (zgy (zaZ (fun _=>rfl) (za0 (m:=((bs.map (·.nm)).length:Int)) (fun _=>rfl) (fun _=>zeJ rfl) (by omega) (by omega) fun n n0 n1=>⟨.lst (((bs.map (·.nm)).drop n.toNat).map D.str),by rw [List.map_drop];exact zqM n0,zar (zaZ (fun _=>rfl) (zar (zaZ (fun _=>rfl) (zaY ⟨by simp,_,rfl,.inr (.inr (.inr (.inl ⟨_,a,b,rfl,?_,?_,fun x hx=>List.mem_of_mem_drop hx,S.g.bn.sublist (List.drop_sublist _ _),a0,ab,bh⟩)))⟩))))⟩)))))))))
  ·rw [List.length_drop];omega
  ·rw [List.length_drop];omega
 rw [qI e2,qS (by decide)]
 have nj:=zqw (l:=js.map zco) (zlz (n:=63) fun x hx=>zsR (n:=60) S.g.snn (S.g.j x hx))
 have nk:=zqw (l:=ks.map zbZ) (zlz (n:=63) fun x hx=>zo9 (n:=59) S.g.snn (S.g.k x hx))
 have an:∀ {c:Int} {f:FE} {l:List D} (q:Addr),f (lfE bs ss js us ls ks h w none none none none q)=some (.lst l)->neA (.lst l) (.lst [])=some (.bl (!l.isEmpty))->zmO (toB (b2 eqD (vSh 3) (vC (.int c)))) (toB (b2 neA f (zbM (szF zak)))) (lfE bs ss js us ls ks h w none none none none q)=some (decide (w=c) && !l.isEmpty):=fun {c f l} q hf hn=>by
  have h1:toB (b2 eqD (vSh 3) (vC (.int c))) (lfE bs ss js us ls ks h w none none none none q)=some (decide (w=c)):=za5 (zaH rfl rfl rfl)
  by_cases e:w=c
  ·rw [qN e] at h1 ⊢
   rw [zp4 h1]
   exact za5 (zaH hf rfl hn)
  ·rw [qI e] at h1 ⊢
   exact zun h1
 refine zcj (zdB (zdV (zaZ (fun q=>an q (zj7 S rfl) nj) ?_)))
 cases hj:(decide (w=3) && !(js.map zco).isEmpty) with
 | true =>
  have jn:1<=js.length:=by
   cases js with
   | nil=>simp at hj
   | cons j r=>simp
  refine zqH (zc4 (fun _=>rfl) (zar (zaZ (fun _=>rfl) (zaY ((ziw S).imp ?_)))))
  rintro _ ⟨a,b,rfl,a0,ab,bh⟩
  refine ⟨lfE bs ss js us ls ks h w (oS (.int a)) (oS (.int b)) none none,fun _=>rfl,?_⟩
  have ljs:∀ q,cF zc3 (zac (zbU "Shop" "job_rows" zaB (vSh 1) zak) zak) (lfE bs ss js us ls ks h w (oS (.int a)) (oS (.int b)) none none q)=some (.int js.length):=fun q=>zaP (zah (zj7 S rfl) zaz) (by show some (D.int ((js.map zco).length:Nat))=_;rw [qe])
  refine zbP (zci (zar (zaZ (fun _=>rfl) (zar (zgy (zgy (zaZ (fun _=>zj7 S rfl) (za0 (m:=(js.length:Int)) (fun _=>rfl) ljs (by omega) (by omega) fun n n0 n1=>?_))))))))
  obtain ⟨j,_,q2,q3⟩:=zlp (f:=zco) (xs:=js) n0 n1
  exact ⟨_,q3,zaZ (fun _=>rfl) ⟨.str j.nm,zgs,zar (zaZ (fun _=>rfl) (zar (zaZ (fun _=>rfl) (zaY ⟨by simp,_,rfl,.inr (.inr (.inr (.inr (.inl ⟨j.nm,qQ q2,a,b,rfl,a0,ab,bh⟩))))⟩))))⟩⟩
 | false =>
  refine zcj (zdB (zdV (zaZ (fun q=>an q (zhh S rfl) nk) ?_)))
  cases hk:(decide (w=4) && !(ks.map zbZ).isEmpty) with
  | true =>
   obtain ⟨k,kr,hks⟩:∃ k kr,ks=k::kr:=by
    cases ks with
    | nil=>simp at hk
    | cons k r=>exact ⟨k,r,rfl⟩
   refine zbh (za0 (m:=h+1) (fun _=>rfl) (fun _=>zaH (zgW rfl) rfl rfl) (by omega) (by omega) fun n n0 n1=>zbP (zci (zar (zaZ (fun _=>rfl) (zar (zaZ (a:=.str k.nm) (fun q=>zaH (zaH (zhh S rfl) rfl (by rw [hks];exact ixL _ 0)) rfl zgs) (zar (zaZ (fun _=>rfl) (zar (zgy (zaZ (fun _=>rfl) (za0 (fun _=>rfl) (fun _=>rfl) (by decide) (by decide) fun m m0 m1=>?_))))))))))))
   have fin:∀ x:Str,(x="less"\/x="more")->LfS (zfR bs ss js ks h) (.tup [.str "stock",.str k.nm,.int n,.str x]):=fun x hx=>.inr (.inr (.inr (.inr (.inr ⟨k.nm,by rw [hks];exact qf,n,x,rfl,n0,by show n<=h;omega,hx⟩))))
   rcases zmX m0 m1 with rfl | rfl
   ·exact ⟨.str "less",rfl,zaY ⟨by simp,_,rfl,fin _ (.inl rfl)⟩⟩
   ·exact ⟨.str "more",rfl,zaY ⟨by simp,_,rfl,fin _ (.inr rfl)⟩⟩
  | false =>
   refine zcj (zdB (zdV (zk7 (w:=w) (fun _=>rfl) ?_)))
   by_cases e5:w=5
   ·rw [qN e5,qR rfl]
    exact zbP (zaZ (fun _=>rfl) ⟨_,rfl,.inl rfl⟩)
   rw [qI e5,qS (by decide)]
   exact zcj (zbP (zci (zar (zaZ (fun _=>rfl) (zar (zeK (ns:=ss.map (·.nm)) (fun _=>rfl) (fun _=>rfl) (by omega) (by omega) fun y hy=>zaY ⟨by simp,_,rfl,.inr (.inl ⟨y,hy,rfl⟩)⟩))))))
def zvS (N:Nm) (n:Nat) (x:D):Prop:=PnS N x\/∃ c v t,x=.tup [.str "not",c,.int v,t]/\ChS N c/\0<=v/\v<=1/\TrS N n t
theorem zs0 (S:Small bs ss js us ls ks h) {T:FQ'} {n:Nat} (hT:0 < n->EvF T [zcq bs ss js us ls ks h,.int ((n:Int) - 1)] (TrS (zfR bs ss js ks h) n)):EvF (zd7 zaq zad zaQ T) [zcq bs ss js us ls ks h,.int n] (zvS (zfR bs ss js ks h) n):=by
 have sl:(ss.map (·.nm)).length=ss.length:=qe _
 have s1:=S.g.sl.1
 have s3:=S.s
 unfold zd7
 refine zeo (zbh (zaZ (fun _=>zhG S rfl) (zbh (za0 (fun _=>rfl) (fun _=>rfl) (by decide) (by decide) fun w w0 w1=>?_))))
 have at3:∀ q,zmO (toB (b2 eqD (vSh 4) (vC (.int 3)))) (toB (b2 gtD (vSh 2) (vC (.int 0)))) [some (.pin q),sh0 bs ss js us ls ks h,oS (.int n),oS (.lst ((ss.map (·.nm)).map D.str)),oS (.int w),none,none]=some (decide (w=3) && decide ((n:Int) > 0)):=fun q=>by
  by_cases e:w=3
  ·rw [zp4 (show _=some true from (za5 (zaH rfl rfl rfl)).trans (by rw [qN e])),qN e]
   exact za5 (zaH rfl rfl rfl)
  ·rw [zun (show _=some false from (za5 (zaH rfl rfl rfl)).trans (by rw [qI e])),qI e]
   rfl
 refine zdB (zdV (zaZ at3 ?_))
 cases hw:(decide (w=3) && decide ((n:Int) > 0)) with
 | true =>
  have hn:0 < n:=by simp at hw;omega
  refine zbh (zc4 (fun _=>rfl) (zar (zaZ (fun _=>rfl) (zaY ((zko S).imp fun c hc=>?_)))))
  exact zbP (zci (zar (zaZ (fun _=>rfl) (zar (zaZ (fun _=>rfl) (zar (za0 (fun _=>rfl) (fun _=>rfl) (by decide) (by decide) fun v v0 v1=>zar (zc4 (fun _=>rfl) (zar (zaZ (fun _=>rfl) (zar (zaZ (fun _=>rfl) (zaY ((hT hn).imp fun t ht=>zaY ⟨by simp,_,rfl,.inr ⟨c,v,t,rfl,hc,v0,by omega,ht⟩⟩))))))))))))))
 | false =>
  refine zcj (zdB (zdV (zk7 (w:=w) (fun _=>rfl) ?_)))
  by_cases e2:w=2
  ·rw [qN e2,qR rfl]
   exact zbP (zci (zar (zaZ (fun _=>rfl) (zar (zeK (ns:=ss.map (·.nm)) (fun _=>rfl) (fun _=>rfl) (by omega) (by omega) fun y hy=>zaY ⟨by simp,_,rfl,.inl (.inl ⟨y,hy,rfl⟩)⟩)))))
  rw [qI e2,qS (by decide)]
  refine zcj (zbh (zeK (ns:=ss.map (·.nm)) (fun _=>rfl) (fun _=>rfl) (by omega) (by omega) fun x hx=>?_))
  have hk:∃ k:Str,(k="low"\/k="high")/\∀ (a b:Option Slot) q,b2 ixD (zbM (szF (zac (vC (.str "low")) (zac (vC (.str "high")) zak)))) (b2 zmT (vSh 4) (vC (.int 2))) [some (.pin q),sh0 bs ss js us ls ks h,oS (.int n),oS (.lst ((ss.map (·.nm)).map D.str)),oS (.int w),a,b]=some (.str k):=by
   rcases zoh w0 w1 with rfl | rfl | rfl | rfl
   ·exact ⟨"low",.inl rfl,fun a b q=>rfl⟩
   ·exact ⟨"high",.inr rfl,fun a b q=>rfl⟩
   ·exact absurd rfl e2
   ·exact ⟨"high",.inr rfl,fun a b q=>rfl⟩
  obtain ⟨k,k1,k3⟩:=hk
  exact zbP (zci (zar (zaZ (k3 _ _) (zar (zaZ (fun _=>rfl) (zar (zeK (ns:=ss.map (·.nm)) (fun _=>rfl) (fun _=>rfl) (by omega) (by omega) fun y hy=>zaY ⟨by simp,_,rfl,.inl (.inr ⟨k,k1,x,hx,y,hy,rfl⟩)⟩)))))))
theorem zm0 (S:Small bs ss js us ls ks h):∀ (n k:Nat),n+1<=k->EvF (zcl k) [zcq bs ss js us ls ks h,.int n] (TrS (zfR bs ss js ks h) (n+1))
 | n,0,hk=>absurd hk (by omega)
 | n,k+1,hk=>by
  have hT:0 < n->EvF (zcl k) [zcq bs ss js us ls ks h,.int ((n:Int) - 1)] (TrS (zfR bs ss js ks h) n):=fun hn=>by
   obtain ⟨m,rfl⟩:∃ m,n=m+1:=⟨n - 1,by omega⟩
   have:=zm0 S m k (by omega)
   rwa [show (((m+1:Nat):Int) - 1)=(m:Int) by omega]
  show EvF (zei zad (zd7 zaq zad zaQ (zcl k)) zaQ (zcl k) zbL) _ _
  unfold zei
  refine zeo (zbh (zkh (zk8 (σ:=fun x q=>[oS x,some (.pin q),sh0 bs ss js us ls ks h,oS (.int n)]) (zl0 (zar (za0 (fun _=>rfl) (fun _=>rfl) (by decide) (by decide) fun m h0 h1=>zaY ⟨m,rfl,by omega,by omega,by rw [qe,qO];omega,fun i l=>l.length=i/\∀ x∈l,zvS (zfR bs ss js ks h) n x,⟨rfl,fun _ z=>nomatch z⟩,fun i x l hx hS=>?_,fun l hl=>?_⟩))) (fun _ _=>rfl) fun _ _ _=>rfl)))
  ·refine zaZ (a:=true) (fun _=>rfl) ?_
   rw [qR rfl]
   refine zc4 (fun _=>rfl) (zar (zaZ (fun _=>rfl) (zar (zaZ (fun _=>rfl) (zaY ((zs0 S hT).imp fun y hy=>⟨by rw [qi,qP,hS.1],fun z hz=>?_⟩))))))
   rcases List.mem_append.mp hz with hz | hz
   ·exact hS.2 z hz
   ·rw [List.mem_singleton.mp hz];exact hy
  ·obtain ⟨hl1,hl2⟩:=hl
   rw [qe,qO] at hl1
   have lf:Es (zem (rM (zap (rP (vSh 3)) (zap (zbn zbL 0 (zap (rP (vSh 1)) (rP zak))) (rP zak))) ze0)) (fun q=>[some (.pin q),sh0 bs ss js us ls ks h,oS (.int n),oS (.lst l),none,none]) fun fl _=>∃ d,fl=.rt d/\TrS (zfR bs ss js ks h) (n+1) d :=
    zbP (zci (zar (zaZ (fun _=>rfl) (zar (zc4 (fun _=>rfl) (zar (zaZ (fun _=>rfl) (zaY ((zrO S).imp fun e he=>zaY ⟨by simp,_,rfl,l,e,rfl,by omega,hl2,.inl he⟩)))))))))
   refine zdB (zdV (zl1 (zaZ (a:=decide ((n:Int) > 0)) (fun _=>rfl) ?_)))
   by_cases hn:(n:Int) > 0
   ·rw [qN hn,qR rfl]
    refine zfc (fun _=>rfl) (fun _=>rfl) (by decide) (by decide) fun b=>?_
    cases b with
    | false=>exact zcj lf
    | true =>
     refine zbh (zc4 (fun _=>rfl) (zar (zaZ (fun _=>rfl) (zaY ((zko S).imp fun c hc=>?_)))))
     refine zbh (zc4 (fun _=>rfl) (zar (zaZ (fun _=>rfl) (zar (zaZ (fun _=>rfl) (zaY ((hT (by omega)).imp fun t ht=>?_)))))))
     exact zbP (zci (zar (zaZ (fun _=>rfl) (zar (zci (zar (zaZ (fun _=>rfl) (zar (zaZ (fun _=>rfl) (zar (zaZ (fun _=>rfl) (zar (zc4 (fun _=>rfl) (zar (zaZ (fun _=>rfl) (zar (zaZ (fun _=>rfl) (zaY ((hT (by omega)).imp fun u hu=>zaY ⟨by simp,zaY ⟨by simp,_,rfl,l,_,rfl,by omega,hl2,.inr ⟨c,t,u,rfl,hc,ht,hu⟩⟩⟩)))))))))))))))))))
   ·rw [qI hn,qS (by decide)]
    exact zcj lf
end
end Law
end
section
namespace Law
open PySem L2
theorem zeu {n m:Nat} {d:D} (h:SmP n d) (hm:n<=m):SmP m d:=by
 obtain ⟨p,a,b,c,e⟩:=h
 exact ⟨p,a,b,by omega,e⟩
theorem zm8 {n:Nat} {l:List D} (h:∀ x∈l,SmP n x):SmP (n+1) (.lst l):=by
 obtain ⟨ps,b1,b2,b3,b4⟩:=ziy h
 exact ⟨.list ps,by simp [pdD,b1],by simp [PyData.canLay0,b2],by simp only [PyData.depth];omega,by simp [PyData.eqv,b4]⟩
theorem zcH {n:Nat} {l:List D} (h:∀ x∈l,SmP n x):SmP (n+1) (.tup l):=by
 obtain ⟨ps,b1,b2,b3,b4⟩:=ziy h
 exact ⟨.tuple ps,by simp [pdD,b1],by simp [PyData.canLay0,b2],by simp only [PyData.depth];omega,by simp [PyData.eqv,b4]⟩
theorem zm7 {x:Str} (h:PyData.strOk x=true):SmP 1 (.str x):=znb 1 _ h
theorem zfh (i:Int):SmP 1 (.int i):=znb 1 (.int i) trivial
theorem zd1 {x:Str} (h:zbp x=true):SmP 1 (.str x):=zm7 (zfY h)
theorem zlx {ns:List Str} (h:∀ x∈ns,zbp x=true):SmP 2 (.lst (ns.map D.str)):=zm8 fun x hx=>by
 obtain ⟨y,hy,rfl⟩:=List.mem_map.mp hx
 exact zd1 (h y hy)
theorem zbS {a:D} {l:List D} {P:D->Prop} (ha:P a) (hl:∀ x∈l,P x):∀ x∈a::l,P x:=fun x hx=>(List.mem_cons.mp hx).elim (fun e=>by rw [e];exact ha) (hl x)
theorem zfg {P:D->Prop}:∀ x∈([]:List D),P x:=fun x hx=>nomatch hx
theorem zrC {l:List D} (h:SmP 64 (.lst l)):neA (.lst l) (.lst l)=some (.bl false):=by
 obtain ⟨p,a1,a2,a3,a4⟩:=h
 have hs:SeqAt.shaped p=true:=by
  unfold SeqAt.shaped
  rw [a2,qN a3];rfl
 have e0:neA (.lst l) (.lst l)=zrD (.lst l) (.lst l):=rfl
 rw [e0]
 unfold zrD eqX
 rw [a1,qa,qa,qR ⟨hs,hs⟩,a4]
 rfl
theorem zo4:∀ x∈(["keep","start","on","order","moved","window","ring","stretch","together","stock","less","more","fit","low","high","not","both"]:List Str),PyData.strOk x=true:=by decide +kernel
section
variable {N:Nm}
theorem lit {x:Str} (h:x∈(["keep","start","on","order","moved","window","ring","stretch","together","stock","less","more","fit","low","high","not","both"]:List Str)):SmP 1 (.str x):=zm7 (zo4 x h)
theorem zqb (O:NmOk N) {c:D} (h:ChS N c):SmP 2 c:=by
 rcases h with ⟨x,hx,rfl⟩ | ⟨x,hx,i,rfl⟩ | ⟨x,hx,y,hy,rfl⟩ | ⟨x,hx,y,hy,rfl⟩
 ·exact zcH (zbS (lit (by decide +kernel)) (zbS (zd1 (O.s x hx)) zfg))
 ·exact zcH (zbS (lit (by decide +kernel)) (zbS (zd1 (O.s x hx)) (zbS (zfh i) zfg)))
 ·exact zcH (zbS (lit (by decide +kernel)) (zbS (zd1 (O.s x hx)) (zbS (zd1 (O.b y hy)) zfg)))
 ·exact zcH (zbS (lit (by decide +kernel)) (zbS (zd1 (O.s x hx)) (zbS (zd1 (O.s y hy)) zfg)))
theorem zsP (O:NmOk N) {e:D} (h:LfS N e):SmP 3 e:=by
 have up:∀ {d:D},SmP 1 d->SmP 2 d:=fun h=>zeu h (by decide)
 rcases h with rfl | ⟨x,hx,rfl⟩ | ⟨ns,rfl,_,_,hn⟩ | ⟨ns,a,b,rfl,_,_,hn,_⟩ | ⟨x,hx,a,b,rfl,_⟩ | ⟨x,hx,t,w,rfl,_,_,hw⟩
 ·exact zcH (zbS (up (lit (by decide +kernel))) zfg)
 ·exact zcH (zbS (up (lit (by decide +kernel))) (zbS (up (zd1 (O.s x hx))) zfg))
 ·exact zcH (zbS (up (lit (by decide +kernel))) (zbS (zlx fun x hx=>O.s x (hn x hx)) zfg))
 ·exact zcH (zbS (up (lit (by decide +kernel))) (zbS (zlx fun x hx=>O.b x (hn x hx)) (zbS (up (zfh a)) (zbS (up (zfh b)) zfg))))
 ·exact zcH (zbS (up (lit (by decide +kernel))) (zbS (up (zd1 (O.j x hx))) (zbS (up (zfh a)) (zbS (up (zfh b)) zfg))))
 ·have hw':SmP 1 (.str w):=by
   rcases hw with rfl | rfl
   ·exact lit (by decide +kernel)
   ·exact lit (by decide +kernel)
  exact zcH (zbS (up (lit (by decide +kernel))) (zbS (up (zd1 (O.k x hx))) (zbS (up (zfh t)) (zbS (up hw') zfg))))
theorem zsO (O:NmOk N) {x:D} (h:PnS N x):SmP 2 x:=by
 rcases h with ⟨y,hy,rfl⟩ | ⟨k,hk,y,hy,z,hz,rfl⟩
 ·exact zcH (zbS (lit (by decide +kernel)) (zbS (zd1 (O.s y hy)) zfg))
 ·have hk':SmP 1 (.str k):=by
   rcases hk with rfl | rfl
   ·exact lit (by decide +kernel)
   ·exact lit (by decide +kernel)
  exact zcH (zbS hk' (zbS (zd1 (O.s y hy)) (zbS (zd1 (O.s z hz)) zfg)))
mutual
theorem zm6 (O:NmOk N):∀ {n:Nat} {d:D},TrS N n d->SmP (3*n+1) d
 | 0,_,h=>h.elim
 | n+1,d,h=>by
  have h':=h
  obtain ⟨rows,e,rfl,hr,hrow,hend⟩:=h'
  have hrows:=zly O (n:=n) hrow
  refine zcH (n:=3*n+3) (zbS hrows (zbS ?_ zfg))
  rcases hend with hl | ⟨c,t,u,rfl,hc,ht,hu⟩
  ·exact zeu (zsP O hl) (by omega)
  ·have h1:=zm6 O ht
   have h2:=zm6 O hu
   exact zcH (n:=3*n+2) (zbS (zeu (lit (by decide +kernel)) (by omega)) (zbS (zeu (zqb O hc) (by omega)) (zbS (zeu h1 (by omega)) (zbS (zeu h2 (by omega)) zfg))))
theorem zly (O:NmOk N):∀ {n:Nat} {rows:List D},(∀ x∈rows,PnS N x\/∃ c v t,x=.tup [.str "not",c,.int v,t]/\ChS N c/\0<=v/\v<=1/\TrS N n t)->SmP (3*n+3) (.lst rows):=fun {n rows} hrow=>zm8 fun x hx=>by
  rcases hrow x hx with hp | ⟨c,v,t,rfl,hc,_,_,ht⟩
  ·exact zeu (zsO O hp) (by omega)
  ·have h1:=zm6 O ht
   cases n with
   | zero=>exact ht.elim
   | succ n=>exact zcH (n:=3*(n+1)+1) (zbS (zeu (lit (by decide +kernel)) (by omega)) (zbS (zeu (zqb O hc) (by omega)) (zbS (zeu (zfh v) (by omega)) (zbS h1 zfg))))
end
end
end Law
end
section
namespace Law
open PySem L2
theorem zvp:(2:Int) ^ 64=18446744073709551616:=by decide +kernel
theorem zqy {a b:Int} (h:0 < b):zmT (.int a) (.int b)=some (.int (a % b)):=qR h
theorem zlP {a b:Int} (h:(-1000000000000 < a/\a < 1000000000000)\/(-1000000000000 < b/\b < 1000000000000)):zqx (.int a) (.int b)=some (.int (a*b)):=by
 show (if _ then _ else _)=_
 rw [zvp]
 exact qR (by omega)
theorem znz {a:Int} {n:Nat} (h:a.natAbs < 18446744073709551616) (hn:(n:Int)<=1000000):znA (.int a) (.int n)=some (.int (a ^ n)):=qR ⟨by omega,hn,h⟩
theorem zlC {n:Nat} {g:FS} {ds:List D} {d:List D} (ρ:za1) {ρ':za1} (e:ds.map (fun d=>some (Slot.sh d))++List.replicate n none=ρ) (h:g ρ=some (.ow d,ρ')):zsu n g ds=some d:=by
 subst e;unfold zsu;rw [h];rfl
theorem zns {f:FE} {ρ:za1} {d:D} (h:f ρ=some d):zmq (szF (zac f zak)) ρ=some (.ow [d],ρ):=by
 unfold zmq szF
 rw [zah h zaz]
 rfl
theorem zuD {ft:FT} {A B E:FS} {ρ ρ':za1} {d:List D} (h:ft ρ=some true) (h2:A ρ=some (.ow d,ρ')):zba (sIf ft A B) E ρ=some (.ow d,ρ'):=by
 unfold zba sIf
 rw [h]
 show (Option.bind (A ρ) _)=_
 rw [h2]
 rfl
theorem zrF {a b:Int} (h:a.natAbs.log2 < 4000/\b.natAbs.log2 < 4000):ztL (.int a) (.int b)=some (.int (a*b)):=qR h
theorem zsj:ztL (.int (10 ^ 60)) (.int (10 ^ 60))=some (.int (10 ^ 60*10 ^ 60)):=zrF (by decide +kernel)
theorem zr2 {a b:Int} (h:0 < b/\b < 1073741824):zkg (.int a) (.int b)=some (.int (a / b)):=qR h
theorem zsi:(0:Int) < 10 ^ 60*10 ^ 60:=by decide +kernel
theorem zrM {ns:List Int} (hl:ns.length<=63) {k:Nat} (hk:k<=8):∃ r,zbK [.scr ns,.int (k:Int)]=some [.int r]:=by
 have cell:∃ c:Int,∀ E:FS,zba (zfQ 2 (vC (.int 0))) (zba (sIf (toB (b2 ltD (vSh 1) (cF zc3 (zac (vSh 0) zak)))) (zfQ 2 (b2 ixD (vSh 0) (vSh 1))) zcA) E) [oS (.scr ns),oS (.int (k:Int)),none,none]=E [oS (.scr ns),oS (.int (k:Int)),oS (.int c),none]:=by
  have ht:toB (b2 ltD (vSh 1) (cF zc3 (zac (vSh 0) zak))) [oS (.scr ns),oS (.int (k:Int)),oS (.int 0),none]=some (decide ((k:Int) < ns.length)):=za5 (zaH rfl rfl rfl)
  by_cases h:(k:Int) < ns.length
  ·have hk':k < ns.length:=by omega
   refine ⟨ns[k],fun E=>(zb2 rfl).trans ((ze1 ((zvb (ht.trans (by rw [qN h]))).trans ?_)))⟩
   unfold zfQ
   have:b2 ixD (vSh 0) (vSh 1) [oS (.scr ns),oS (.int (k:Int)),oS (.int 0),none]=some (.int ns[k]):=zaH rfl rfl (by
    show (atI ns (k:Int)).map D.int=_
    rw [zeN]
    simp [hk'])
   show (Option.map _ (b2 ixD (vSh 0) (vSh 1) [oS (.scr ns),oS (.int (k:Int)),oS (.int 0),none]))=_
   rw [this]
   rfl
  ·exact ⟨0,fun E=>(zb2 rfl).trans (ze1 (zt0 (ht.trans (by rw [qI h]))))⟩
 obtain ⟨c,hc⟩:=cell
 unfold zbK zfN
 have p60:b2 znA (vC (.int 10)) (vC (.int 60)) [oS (.scr ns),oS (.int (k:Int)),oS (.int c),none]=some (.int (10 ^ 60)):=zaH rfl rfl (znz (n:=60) (by decide) (by decide))
 have tst:toB (b2 geD (vSh 2) (b2 znA (vC (.int 10)) (vC (.int 18)))) [oS (.scr ns),oS (.int (k:Int)),oS (.int c),none]=some (decide (c ≥ 10 ^ 18)):=za5 (zaH rfl (zaH rfl rfl (znz (n:=18) (by decide) (by decide))) rfl)
 by_cases h:c ≥ 10 ^ 18
 ·exact ⟨_,zlC [oS (.scr ns),oS (.int (k:Int)),none,none] rfl ((hc _).trans (zuD (tst.trans (by rw [qN h])) (zns (zaH rfl (zaH p60 p60 zsj) (zqy zsi)))))⟩
 ·have m0:0<=(c+104729*(k:Int)*k+15485863*(ns.length:Int)) % 2147483629:=Int.emod_nonneg _ (by decide)
  have m1:(c+104729*(k:Int)*k+15485863*(ns.length:Int)) % 2147483629 < 2147483629:=Int.emod_lt_of_pos _ (by decide)
  refine ⟨((((c+104729*(k:Int)*k+15485863*(ns.length:Int)) % 2147483629+48271)*982451653+7) ^ 7) / 1000003,zlC [oS (.scr ns),oS (.int (k:Int)),none,none] rfl ((hc _).trans ((za2 (tst.trans (by rw [qI h]))).trans ((zb2 (d:=.int ((c+104729*(k:Int)*k+15485863*(ns.length:Int)) % 2147483629+48271)) ?_).trans (zns (zaH (zaH (zaH (zaH rfl rfl (zlP (.inr (by decide)))) rfl rfl) rfl (znz (n:=7) ?_ (by decide))) rfl (zr2 (by decide)))))))⟩
  ·exact zaH (zaH (zaH (zaH rfl (zaH (zaH rfl rfl (zlP (.inl (by decide)))) rfl (zlP (.inr (by omega)))) rfl) (zaH rfl rfl (zlP (.inl (by decide)))) rfl) rfl (zqy (by decide))) rfl rfl
  ·generalize (c+104729*(k:Int)*k+15485863*(ns.length:Int)) % 2147483629=m at m0 m1
   omega
section
variable {bs:List BenchT} {ss:List StepT} {js:List JobT} {us:List SetT} {ls:List LinkT} {ks:List StockT} {h:Int}
theorem tr0 {N:Nm} {e:D} (h:LfS N e):TrS N 1 (.tup [.lst [],e]):=⟨[],e,rfl,by simp,(fun _ z=>nomatch z),.inl h⟩
abbrev edE (bs:List BenchT) (ss:List StepT) (js:List JobT) (us:List SetT) (ls:List LinkT) (ks:List StockT) (h:Int) (f:Int) (l:List D) (a b c:Option Slot):zge:=fun q=>[some (.pin q),sh0 bs ss js us ls ks h,oS (.lst ((ss.map (·.nm)).map D.str)),oS (.int f),some (.own l),a,b,c]
theorem zff {f g:FE} {ρ:za1} {x y:D} (h1:f ρ=some x) (h2:g ρ=some y):zdj (szF (zac f (zac g zak))) ρ=some (.tup [x,y]):=by
 unfold zdj szF;rw [zah h1 (zah h2 zaz)];rfl
theorem zhk {f g k l:FE} {ρ:za1} {x y z w:D} (h1:f ρ=some x) (h2:g ρ=some y) (h3:k ρ=some z) (h4:l ρ=some w):zdj (szF (zac f (zac g (zac k (zac l zak))))) ρ=some (.tup [x,y,z,w]):=by
 unfold zdj szF;rw [zah h1 (zah h2 (zah h3 (zah h4 zaz)))];rfl
theorem zsM {f g k:FE} {ρ:za1} {x y z:D} (h1:f ρ=some x) (h2:g ρ=some y) (h3:k ρ=some z):szF (zac f (zac g (zac k zak))) ρ=some [x,y,z]:=by
 unfold szF;rw [zah h1 (zah h2 (zah h3 zaz))];rfl
theorem zrI {f:FE} {ρ:za1} {x:D} (h1:f ρ=some x):zbM (szF (zac f zak)) ρ=some (.lst [x]):=by
 unfold zbM szF;rw [zah h1 zaz];rfl
theorem zsl {ρ:zge} {f:FE} {l:List D} {e:D} {R:Fl->zge->Prop} (hs:∀ q,(ρ q)[4]?=some (some (.own l))) (hl:l.length<=1000) (hf:∀ q,f (ρ q)=some e) (k:R .nx fun q=>(ρ q).set 4 (some (.own (l++[.tup [.lst [],e]])))):Es (zhA 4 (rP (zdj (szF (zac (zbM (szF zak)) (zac f zak)))))) ρ R:=zg0 hs hl (zaZ (fun q=>zff rfl (hf q)) k)
def Ed (N:Nm) (b l:List D):Prop:=∃ r,l=b++r/\∀ t∈r,TrS N 1 t
theorem Ed.more {N:Nm} {b l:List D} {e:D} (h:Ed N b l) (he:LfS N e):Ed N b (l++[.tup [.lst [],e]]):=by
 obtain ⟨r,rfl,hr⟩:=h
 exact ⟨r++[.tup [.lst [],e]],by rw [List.append_assoc],fun t ht=>(List.mem_append.mp ht).elim (hr t) fun z=>by rw [List.mem_singleton.mp z];exact tr0 he⟩
theorem zpP (S:Small bs ss js us ls ks h):EvF zbJ [zcq bs ss js us ls ks h] fun d=>∃ l,d=.lst l/\l.length<=1000/\∀ t∈l,TrS (zfR bs ss js ks h) 4 t:=by
 have h2:=S.h
 have kl:=S.g.kl
 have jl:=S.g.jl
 obtain ⟨s0,sr,hss⟩:∃ s0 sr,ss=s0::sr:=by
  cases hs:ss with
  | nil=>have:=S.g.sl.1;rw [hs] at this;simp at this
  | cons s r=>exact ⟨s,r,rfl⟩
 have hn0:s0.nm∈ss.map (·.nm):=by rw [hss];exact qf
 have ix0:ixD (.lst ((ss.map (·.nm)).map D.str)) (.int 0)=some (.str s0.nm):=by rw [hss];exact ixL _ 0
 obtain ⟨xl,hxl,ixl⟩:∃ x∈ss.map (·.nm),ixD (.lst ((ss.map (·.nm)).map D.str)) (.int (-1))=some (.str x):=by
  have hl:0 < (ss.map (·.nm)).length:=by rw [hss];simp
  refine ⟨(ss.map (·.nm))[(ss.map (·.nm)).length - 1],List.getElem_mem _,?_⟩
  show atI ((ss.map (·.nm)).map D.str) (-1)=_
  rw [zoM]
  unfold atI ixN
  rw [qS (by decide),qR (by omega)]
  have e:(((ss.map (·.nm)).length:Int) + -1).toNat=(ss.map (·.nm)).length - 1:=by omega
  simp only [qa]
  rw [show (-1+((ss.map (·.nm)).length:Int)).toNat=(ss.map (·.nm)).length - 1 by omega,List.getElem?_eq_getElem (by omega)]
  rfl
 unfold zbJ zeR
 refine zeo (zbh (zaZ (fun _=>zhG S rfl) (zbh (zgy (zaZ (a:=.lst (([10 ^ 39,0 - 10 ^ 39,-1,0]:List Int).map D.int)) (fun q=>by kernel_rfl) (za0 (fun _=>rfl) (fun _=>rfl) (by decide) (by decide) fun n n0 n1=>?_))))))
 obtain ⟨f,_,_,f3⟩:=zlp (f:=D.int) (xs:=([10 ^ 39,0 - 10 ^ 39,-1,0]:List Int)) n0 n1
 refine ⟨_,f3,?_⟩
 have r3:LfS (zfR bs ss js ks h) (.tup [.str "ring",.lst ([s0.nm,s0.nm,s0.nm].map D.str)]):=.inr (.inr (.inl ⟨_,rfl,by simp,by simp,fun x hx=>by simp at hx;rw [hx];exact hn0⟩))
 have r1:LfS (zfR bs ss js ks h) (.tup [.str "ring",.lst (((ss.map (·.nm)).take 1).map D.str)]):=.inr (.inr (.inl ⟨_,rfl,by rw [hss];simp,by rw [hss];simp,fun x hx=>List.mem_of_mem_take hx⟩))
 have bb:(bs.map (·.nm)).length=bs.length:=qe _
 have bl1:=S.g.bl.1
 have b2':=S.b
 have st:LfS (zfR bs ss js ks h) (.tup [.str "stretch",.lst ((bs.map (·.nm)).reverse.map D.str),.int 0,.int h]):=.inr (.inr (.inr (.inl ⟨_,0,h,rfl,by rw [List.length_reverse];omega,by rw [List.length_reverse];omega,fun x hx=>List.mem_reverse.mp hx,(List.reverse_perm _).nodup_iff.mpr S.g.bn,by decide,by omega,Int.le_refl _⟩)))
 refine zhQ (zaZ (a:=[.tup [.lst [],.tup [.str "ring",.lst ([s0.nm,s0.nm,s0.nm].map D.str)]],.tup [.lst [],.tup [.str "moved"]],.tup [.lst [],.tup [.str "ring",.lst (((ss.map (·.nm)).take 1).map D.str)]]]) (fun q=>?_) ?_)
 ·have e1:zbM (szF (zac (b2 ixD (vSh 2) (vC (.int 0))) (zac (b2 ixD (vSh 2) (vC (.int 0))) (zac (b2 ixD (vSh 2) (vC (.int 0))) zak)))) [some (.pin q),sh0 bs ss js us ls ks h,oS (.lst ((ss.map (·.nm)).map D.str)),oS (.int f),none,none,none,none]=some (.lst ([s0.nm,s0.nm,s0.nm].map D.str)):=by
   unfold zbM szF;rw [zah (zaH rfl rfl ix0) (zah (zaH rfl rfl ix0) (zah (zaH rfl rfl ix0) zaz))];rfl
  have e2:slF (vSh 2) pN (pS (vC (.int 1))) [some (.pin q),sh0 bs ss js us ls ks h,oS (.lst ((ss.map (·.nm)).map D.str)),oS (.int f),none,none,none,none]=some (.lst (((ss.map (·.nm)).take 1).map D.str)):=by rw [List.map_take];exact zsU (d:=1) rfl rfl (by decide)
  show szF _ [some (.pin q),sh0 bs ss js us ls ks h,oS (.lst ((ss.map (·.nm)).map D.str)),oS (.int f),none,none,none,none]=_
  exact zsM (zff rfl (zff rfl e1)) (zff (y:=.tup [.str "moved"]) rfl rfl) (zff rfl (zff rfl e2))
 have fin:∀ (a0 a1 a2 a3:D),TrS (zfR bs ss js ks h) 1 a0->TrS (zfR bs ss js ks h) 1 a1->TrS (zfR bs ss js ks h) 1 a2->TrS (zfR bs ss js ks h) 1 a3->Es (zbx (zjH (rP (itF (zbM (szF (zac (vC (.int 0)) (zac (zbU "Shop" "last_moment" zaj (vSh 1) zak) zak)))))) (zbt 5) (zjH (rP (itF (zbU "Shop" "stock_rows" zay (vSh 1) zak))) (zbt 6) (zhA 4 (rP (zdj (szF (zac (zbM (szF zak)) (zac (zdj (szF (zac (vC (.str "stock")) (zac (b2 ixD (vSh 6) (vC (.int 0))) (zac (vSh 5) (zac (vC (.str "more")) zak)))))) zak)))))))) (zbx (zjH (rP (itF (zbU "Shop" "job_rows" zaB (vSh 1) zak))) (zbt 6) (zhA 4 (rP (zdj (szF (zac (zbM (szF zak)) (zac (zdj (szF (zac (vC (.str "together")) (zac (b2 ixD (vSh 6) (vC (.int 0))) (zac (vC (.int 0)) (zac (zbU "Shop" "last_moment" zaj (vSh 1) zak) zak)))))) zak))))))) (zbx (zcG 7 (rP (zdj (szF (zac (vC (.str "start")) (zac (b2 ixD (vSh 2) (b1 ztK (vC (.int 1)))) (zac (vSh 3) zak))))))) (zbx (zhA 4 (rP (zdj (szF (zac (zbM (szF (zac (zdj (szF (zac (vC (.str "not")) (zac (vSh 7) (zac (vC (.int 1)) (zac (zp8 4 0) zak)))))) zak))) (zac (zdj (szF (zac (vC (.str "both")) (zac (vSh 7) (zac (zp8 4 1) (zac (zp8 4 3) zak)))))) zak)))))) (zkU 4 (zem (rP (vSh 4))))))))
   (edE bs ss js us ls ks h f [a0,a1,a2,a3] none none none) fun fl _=>∃ d,fl=.rt d/\∃ l,d=.lst l/\l.length<=1000/\∀ t∈l,TrS (zfR bs ss js ks h) 4 t:=fun a0 a1 a2 a3 t0 t1 t2 t3=>by
  have inner:∀ (l:List D) (t:Int) (b:Option Slot),Ed (zfR bs ss js ks h) [a0,a1,a2,a3] l->l.length<=500->0<=t->t<=h->Es (zjH (rP (itF (zbU "Shop" "stock_rows" zay (vSh 1) zak))) (zbt 6) (zhA 4 (rP (zdj (szF (zac (zbM (szF zak)) (zac (zdj (szF (zac (vC (.str "stock")) (zac (b2 ixD (vSh 6) (vC (.int 0))) (zac (vSh 5) (zac (vC (.str "more")) zak)))))) zak))))))) (edE bs ss js us ls ks h f l (oS (.int t)) b none) fun fl ρ'=>fl=.nx/\∃ l' b',ρ'=edE bs ss js us ls ks h f l' (oS (.int t)) b' none/\Ed (zfR bs ss js ks h) [a0,a1,a2,a3] l'/\l'.length<=l.length+6:=fun l t b hl ll ht0 ht1=>by
   refine zhR (fun i ρ=>∃ l' b',ρ=edE bs ss js us ls ks h f l' (oS (.int t)) b' none/\Ed (zfR bs ss js ks h) [a0,a1,a2,a3] l'/\l'.length<=l.length+i) (zaZ (a:=ks.map zbZ) (fun _=>by unfold itF;rw [zhh S rfl];rfl) ⟨⟨l,b,rfl,hl,qt _⟩,fun i x ρ hx hI=>?_,fun ρ hI=>?_⟩)
   ·obtain ⟨l',b',rfl,q1,q2⟩:=hI
    rw [qj] at hx
    obtain ⟨k,hk,rfl⟩:=oMd hx
    have hi:=(List.getElem?_eq_some_iff.mp hk).1
    refine ⟨edE bs ss js us ls ks h f l' (oS (.int t)) (oS (zbZ k)) none,fun _=>rfl,?_⟩
    exact zsl (l:=l') (fun _=>rfl) (by omega) (fun _=>zhk rfl (zaH rfl rfl zgs) rfl rfl) ⟨rfl,_,_,rfl,q1.more (.inr (.inr (.inr (.inr (.inr ⟨k.nm,qQ (qK hk),t,"more",rfl,ht0,ht1,.inr rfl⟩))))),by rw [qi,qP];omega⟩
   ·obtain ⟨l',b',rfl,q1,q2⟩:=hI
    rw [qe] at q2
    exact ⟨rfl,l',b',rfl,q1,by omega⟩
  refine zdn (zhR (fun i ρ=>∃ l' a b',ρ=edE bs ss js us ls ks h f l' a b' none/\Ed (zfR bs ss js ks h) [a0,a1,a2,a3] l'/\l'.length<=4+6*i) (zaZ (a:=[.int 0,.int h]) (fun _=>?_) ⟨⟨_,none,none,rfl,⟨[],rfl,fun _ z=>nomatch z⟩,by simp⟩,fun i x ρ hx hI=>?_,fun ρ hI=>?_⟩))
  ·unfold itF zbM szF
   rw [zah rfl (zah (zgW rfl) zaz)]
   rfl
  ·obtain ⟨l',a,b',rfl,q1,q2⟩:=hI
   have hi:=(List.getElem?_eq_some_iff.mp hx).1
   simp only [qh,qk] at hi
   obtain ⟨t,rfl,ht0,ht1⟩:∃ t:Int,x=.int t/\0<=t/\t<=h:=by
    have hm:=qK hx
    simp only [qG,qF,or_false] at hm
    rcases hm with rfl | rfl
    ·exact ⟨0,rfl,by decide,by omega⟩
    ·exact ⟨h,rfl,by omega,Int.le_refl _⟩
   refine ⟨edE bs ss js us ls ks h f l' (oS (.int t)) b' none,fun _=>rfl,(inner l' t b' q1 (by omega) ht0 ht1).imp ?_⟩
   rintro _ _ ⟨rfl,l2,b2,rfl,q3,q4⟩
   exact ⟨rfl,l2,_,b2,rfl,q3,by omega⟩
  ·obtain ⟨l',a,b',rfl,q1,q2⟩:=hI
   simp only [qh,qk] at q2
   refine ⟨rfl,zdn (zhR (fun i ρ=>∃ l2 b2,ρ=edE bs ss js us ls ks h f l2 a b2 none/\Ed (zfR bs ss js ks h) [a0,a1,a2,a3] l2/\l2.length<=16+i) (zaZ (a:=js.map zco) (fun _=>by unfold itF;rw [zj7 S rfl];rfl) ⟨⟨l',b',rfl,q1,by omega⟩,fun i x ρ hx hI=>?_,fun ρ hI=>?_⟩))⟩
   ·obtain ⟨l2,b2,rfl,q3,q4⟩:=hI
    rw [qj] at hx
    obtain ⟨j,hj,rfl⟩:=oMd hx
    have hi:=(List.getElem?_eq_some_iff.mp hj).1
    refine ⟨edE bs ss js us ls ks h f l2 a (oS (zco j)) none,fun _=>rfl,?_⟩
    exact zsl (l:=l2) (fun _=>rfl) (by omega) (fun _=>zhk rfl (zaH rfl rfl zgs) rfl (zgW rfl)) ⟨rfl,_,_,rfl,q3.more (.inr (.inr (.inr (.inr (.inl ⟨j.nm,qQ (qK hj),0,h,rfl,by decide,by omega,Int.le_refl _⟩))))),by rw [qi,qP];omega⟩
   ·obtain ⟨l2,b2,rfl,⟨r,rfl,hr⟩,q4⟩:=hI
    rw [qe] at q4
    refine ⟨rfl,zbh (zaZ (a:=.tup [.str "start",.str xl,.int f]) (fun q=>?_) ?_)⟩
    ·unfold zdj szF
     rw [zah rfl (zah (zaH rfl (show _=some (D.int (-1)) from rfl) ixl) (zah rfl zaz))]
     rfl
    ·have hc:ChS (zfR bs ss js ks h) (.tup [.str "start",.str xl,.int f]):=.inr (.inl ⟨xl,hxl,f,rfl⟩)
     have tz:TrS (zfR bs ss js ks h) 2 (.tup [.lst [.tup [.str "not",.tup [.str "start",.str xl,.int f],.int 1,a0]],.tup [.str "both",.tup [.str "start",.str xl,.int f],a1,a3]]):=⟨_,_,rfl,by simp,fun y hy=>by rw [List.mem_singleton.mp hy];exact .inr ⟨_,1,a0,rfl,hc,by decide,by decide,t0⟩,.inr ⟨_,a1,a3,rfl,hc,t1,t3⟩⟩
     refine zdn (zg0 (ds:=[a0,a1,a2,a3]++r) (fun _=>rfl) (by omega) (zaZ (a:=.tup [.lst [.tup [.str "not",.tup [.str "start",.str xl,.int f],.int 1,a0]],.tup [.str "both",.tup [.str "start",.str xl,.int f],a1,a3]]) (fun q=>?_) ⟨rfl,zf6 (ds:=[a0,a1,a2,a3]++r++[.tup [.lst [.tup [.str "not",.tup [.str "start",.str xl,.int f],.int 1,a0]],.tup [.str "both",.tup [.str "start",.str xl,.int f],a1,a3]]]) (fun _=>rfl) (zbP (zaZ (fun _=>rfl) ⟨_,rfl,_,rfl,by rw [qi,qP];omega,fun t ht=>?_⟩))⟩))
     ·exact zff (zrI (zhk rfl rfl rfl rfl)) (zhk rfl rfl rfl rfl)
     ·rcases List.mem_append.mp ht with ht | ht
      ·refine zgR (zgR (zgR ?_))
       rcases List.mem_append.mp ht with ht | ht
       ·simp only [qG,qF,or_false] at ht
        rcases ht with rfl | rfl | rfl | rfl
        ·exact t0
        ·exact t1
        ·exact t2
        ·exact t3
       ·exact hr t ht
      ·rw [List.mem_singleton.mp ht];exact zgR (zgR tz)
 refine zdn (zsl (e:=.tup [.str "stretch",.lst ((bs.map (·.nm)).reverse.map D.str),.int 0,.int h]) (l:=[.tup [.lst [],.tup [.str "ring",.lst ([s0.nm,s0.nm,s0.nm].map D.str)]],.tup [.lst [],.tup [.str "moved"]],.tup [.lst [],.tup [.str "ring",.lst (((ss.map (·.nm)).take 1).map D.str)]]]) (fun _=>rfl) (by simp) (fun q=>zhk rfl ?_ rfl (zgW rfl)) ⟨rfl,fin _ _ _ _ (tr0 r3) (tr0 (.inl rfl)) (tr0 r1) (tr0 st)⟩)
 show b1 zsv _ _=_
 unfold b1
 rw [zf3 S rfl]
 show some (D.lst (((bs.map (·.nm)).map D.str).reverse))=_
 rw [List.map_reverse]
end
end Law
end
section
namespace Law
open PySem L2
abbrev laE (ns:List Int) (k s t r:Option Slot):zge:=fun q=>[oS (.scr ns),k,some (.pin q),s,t,r]
abbrev zvK:FRs:=zbx (zcG 3 (zbn zbW 2 (rP zak))) (zjH (rM (r2 zc6 (rM (rM (zap (zbn zaX 2 (zap (rP (vSh 3)) (zap (rP (vC (.int 3))) (rP zak)))) (rP zak)) szD) zmU) (zbn zbJ 2 (zap (rP (vSh 3)) (rP zak)))) zf4) (zbt 4) (zbx (zcG 5 (rP (cF znZ (zac (b2 ixD (vSh 4) (vC (.int 0))) zak)))) (qIf (rP (orT (toB (b2 zhM (cF za9 (zac (vSh 3) (zac (vSh 4) zak))) (vC .non))) (toB (b2 neA (b2 ixD (vSh 4) (vC (.int 0))) (vSh 5))))) (zem (rP (vC (.bl false)))) zfa)))
theorem zrP {ns:List Int} {k a b c:Option Slot}:Es zvK (laE ns k a b c) fun fl ρ'=>fl=.nx/\∃ a b c,ρ'=laE ns k a b c:=by
 refine zbh (zc4 (fun _=>rfl) (zaY (zq2.imp ?_)))
 rintro _ ⟨bs,ss,js,us,ls,ks,h,rfl,S⟩
 refine zhR (fun _ ρ=>∃ b c,ρ=laE ns k (sh0 bs ss js us ls ks h) b c) (zoW (zgy (zkh (zoj (zar (zc4 (fun _=>rfl) (zar (zaZ (fun _=>rfl) (zar (zaZ (fun _=>rfl) (zaY (EvF.imp (zm0 S 3 8 (by decide)) fun t ht=>?_))))))))))))
 refine zaY ⟨by simp,zc4 (fun _=>rfl) (zar (zaZ (fun _=>rfl) (zaY ((zpP S).imp ?_))))⟩
 rintro _ ⟨l,rfl,hl,he⟩
 have add:zc6 (.lst [t]) (.lst l)=some (.lst ([t]++l)):=qR (by unfold sizeLine;simp only [qh,qk];omega)
 refine ⟨_,add,_,rfl,⟨b,c,rfl⟩,fun i x ρ hx hI=>?_,fun ρ hI=>?_⟩
 ·obtain ⟨b,c,rfl⟩:=hI
  have tx:TrS (zfR bs ss js ks h) 4 x:=by
   rcases List.mem_append.mp (qK hx) with z | z
   ·rw [List.mem_singleton.mp z];exact ht
   ·exact he x z
  have lk:=zrK S tx
  obtain ⟨rows,e,rfl,hr,hrow,hend⟩:=tx
  refine ⟨laE ns k (sh0 bs ss js us ls ks h) (oS (.tup [.lst rows,e])) c,fun _=>rfl,zbh (zaZ (a:=.lst rows) (fun _=>zaP (zah (zaH rfl rfl zgs) zaz) rfl) (zdV (zaZ (a:=false) (fun q=>?_) (zcj ⟨rfl,_,_,rfl⟩))))⟩
  have t0:toB (b2 zhM (cF za9 (zac (vSh 3) (zac (vSh 4) zak))) (vC .non)) (laE ns k (sh0 bs ss js us ls ks h) (oS (.tup [.lst rows,e])) (oS (.lst rows)) q)=some false:=za5 (zaH (zaP (zah rfl (zah rfl zaz)) lk) rfl rfl)
  have t1:toB (b2 neA (b2 ixD (vSh 4) (vC (.int 0))) (vSh 5)) (laE ns k (sh0 bs ss js us ls ks h) (oS (.tup [.lst rows,e])) (oS (.lst rows)) q)=some false:=za5 (zaH (zaH rfl rfl zgs) rfl (zrC (zeu (zly (ztI S) hrow) (by decide))))
  exact (zwe t0).trans t1
 ·obtain ⟨b,c,rfl⟩:=hI
  exact ⟨rfl,_,_,_,rfl⟩
theorem zpD (ns:List Int) (hlen:ns.length<=63):zsn [.scr ns]=some (.bl true):=by
 unfold zsn zuo
 have m0:0<=(if (ns.length:Int)+1 < 8 then (ns.length:Int)+1 else 8)/\(if (ns.length:Int)+1 < 8 then (ns.length:Int)+1 else 8)<=8:=by split <;> omega
 have hi:itR zkT (zac (cF zpx (zac (vC (.int 8)) (zac (b2 zc6 (cF zc3 (zac (vSh 0) zak)) (vC (.int 1))) zak))) zak) [oS (.scr ns),none,none,none,none,none]=some ((List.range (if (ns.length:Int)+1 < 8 then (ns.length:Int)+1 else 8).toNat).map fun i:Nat=>D.int (0+i)):=zqC (zah (zaP (zah rfl (zah (zaH rfl rfl rfl) zaz)) rfl) zaz) (znr ⟨m0.1,by omega⟩)
 generalize (if (ns.length:Int)+1 < 8 then (ns.length:Int)+1 else 8)=m at m0 hi
 obtain ⟨ρ',h1,a,b,c,d,e,rfl⟩:=zgx (gg:=zbt 1) (body:=zba (zmr 2 (cFO zbK (zac (vSh 0) (zac (vSh 1) zak)))) (zq7 2 zvK)) (xs:=(List.range m.toNat).map fun i:Nat=>D.int (0+i)) (ρ:=[oS (.scr ns),none,none,none,none,none])
  (fun _ ρ=>∃ a b c d e,ρ=[oS (.scr ns),a,b,c,d,e]) ⟨_,_,_,_,_,rfl⟩ (fun i x ρ hx hI=>by
   obtain ⟨a,b,c,d,e,rfl⟩:=hI
   obtain ⟨rfl,hlt⟩:=zqg hx
   obtain ⟨r,hr⟩:=zrM hlen (k:=i) (by omega)
   have ho:zmr 2 (cFO zbK (zac (vSh 0) (zac (vSh 1) zak))) [oS (.scr ns),oS (.int (0+(i:Int))),b,c,d,e]=some (.nx,[oS (.scr ns),oS (.int (0+(i:Int))),some (.own [.int r]),c,d,e]):=by
    unfold zmr cFO
    rw [zah rfl (zah rfl zaz),qa,show (0+(i:Int))=(i:Int) by omega,hr]
    rfl
   obtain ⟨fl,ρ2,r2,h2,rfl,a',b',c',rfl⟩:=zrP (ns:=ns) (k:=oS (.int (0+(i:Int)))) (a:=c) (b:=d) (c:=e) r
   refine ⟨[oS (.scr ns),oS (.int (0+(i:Int))),b,c,d,e],_,rfl,(ze1 ho).trans (zq6 (ρ':=[oS (.scr ns),oS (.int (0+(i:Int))),none,a',b',c']) rfl h2),?_⟩
   exact ⟨_,_,_,_,_,rfl⟩)
 exact za4 [oS (.scr ns),none,none,none,none,none] rfl ((ze1 ((zpN hi).trans h1)).trans (za3 rfl))
end Law
end
section
namespace Law
open PySem L2 PySem.Spec PyProof.Rows
def Gam (C_Shop C_TreeNames:Addr):Cn:=⟨fun c=>if c="Shop" then some C_Shop else if c="TreeNames" then some C_TreeNames else none,none⟩
def zqZ (K:PySem.W.Frag):Sp:=fun vs H Q _=>∃ (a:Addr) (ns:List Int),vs=[.ref a]/\SqL K H a (ns.map V.int)/\ns.length<=63/\∀ H',Q (.bl true) H'
theorem all_mk {l:PySem.W.OpenLaw} {w:World} {K:PySem.W.Frag} {h:Heap} {mg:Str->Option Value} {fa:Addr} (X:K.In h) (G:h.Ns mainGlobals mg) (hfa:mg "law"=some (.ref fa))
  {C_Shop:Addr} (aC_Shop:PySem.W.nsIn K mainGlobals "Shop"=some (some (.ref C_Shop)))
  {C_TreeNames:Addr} (aC_TreeNames:PySem.W.nsIn K mainGlobals "TreeNames"=some (some (.ref C_TreeNames)))
  (d0:Dfn K mg "_law_left" zfu)
  (d1:Dfn K mg "_law_pick" zft)
  (d2:Dfn K mg "_law_benches" zdP)
  (d3:Dfn K mg "_law_steps" zeC)
  (d4:Dfn K mg "_law_links" zeD)
  (d5:Dfn K mg "is_whole" zgg)
  (d6:Dfn K mg "is_within" zfl)
  (d7:Dfn K mg "is_tuple" zgh)
  (d8:Dfn K mg "is_break" zgk)
  (d9:Dfn K mg "is_list" zhu)
  (d10:Dfn K mg "are_breaks" zeB)
  (d11:Dfn K mg "is_name" zht)
  (d12:Dfn K mg "is_bench" zgl)
  (d13:Dfn K mg "are_unlike" zey)
  (d14:Dfn K mg "are_benches" zec)
  (d15:Dfn K mg "is_one_of" zfm)
  (d16:Dfn K mg "is_way" zi6)
  (d17:Dfn K mg "are_ways" zgm)
  (d18:Dfn K mg "is_step" zhs)
  (d19:Dfn K mg "are_steps" zfp)
  (d20:Dfn K mg "is_job" zi9)
  (d21:Dfn K mg "are_jobs" zgn)
  (d22:Dfn K mg "is_setup" zgj)
  (d23:Dfn K mg "are_setups" zeA)
  (d24:Dfn K mg "is_link" zhv)
  (d25:Dfn K mg "are_links" zfq)
  (d26:Dfn K mg "is_amount" zfo)
  (d27:Dfn K mg "are_amounts" zed)
  (d28:Dfn K mg "is_stock" zgi)
  (d29:Dfn K mg "are_stocks" zez)
  (d30:Dfn K mg "first_bad_part" zdl)
  (d31:Dfn K mg "fresh" zkR)
  (d32:DfnM K C_Shop "Shop" "__init__" "Shop.__init__" zdy)
  (d33:Dfn K mg "_law_stocks" zee)
  (d34:Dfn K mg "_law_jobs" zfw)
  (d35:Dfn K mg "_law_shop" zfs)
  (d36:DfnM K C_Shop "Shop" "step_names" "Shop.step_names" zc9)
  (d37:DfnM K C_Shop "Shop" "last_moment" "Shop.last_moment" zcT)
  (d38:DfnM K C_Shop "Shop" "bench_names" "Shop.bench_names" zcU)
  (d39:Dfn K mg "_law_choice" zef)
  (d40:Dfn K mg "_law_row" zgp)
  (d41:Dfn K mg "_law_stretch" zdO)
  (d42:DfnM K C_Shop "Shop" "job_rows" "Shop.job_rows" zdx)
  (d43:DfnM K C_Shop "Shop" "stock_rows" "Shop.stock_rows" zc8)
  (d44:Dfn K mg "_law_leaf" zfv)
  (d45:Dfn K mg "_law_tree" zfr)
  (d46:Dfn K mg "_law_edges" zeE)
  (d47:DfnM K C_TreeNames "TreeNames" "__init__" "TreeNames.__init__" zcz)
  (d48:Dfn K mg "word_of" zhq)
  (d49:Dfn K mg "is_choice" zfn)
  (d50:Dfn K mg "is_not" zi8)
  (d51:Dfn K mg "is_row" zi7)
  (d52:Dfn K mg "is_both" zhx)
  (d53:Dfn K mg "are_some_of" zeb)
  (d54:Dfn K mg "are_ends" zgo)
  (d55:Dfn K mg "is_stretch" zex)
  (d56:Dfn K mg "is_stock_leaf" zdw)
  (d57:Dfn K mg "is_leaf" zhw)
  (d58:Dfn K mg "trees_in" zgf)
  (d59:Dfn K mg "look_at_tree" zdN)
  (a60:PySem.W.nsIn K mainGlobals "law"=some (some (.ref f60))) (l60:K.lookup f60=some ⟨oc60,od60,.func (PySem.W.fnOf "law" "law" (zcJ zhr) (zbv zhr) (zao zhr) .none kV60 dc60 pm60 an60 cd60 ct60),sl60⟩) (c60:PySem.W.codeIn K cd60 "law"=true) (k60:PySem.W.keepIn K (.ref f60)=true)
  (pg_Shop:PySem.W.plainGet K C_Shop Str.empty=true) (hd_Shop:PySem.W.hasDictIn K C_Shop=true) (po_Shop:PySem.W.plainOver K C_Shop=true) (sa_Shop:PySem.W.findIn K (.ref C_Shop) "__setattr__"=some (some (.builtin "object.__setattr__"))) (mk_Shop:PySem.W.makesIn K C_Shop=true) (kc_Shop:PySem.W.keepIn K (.ref C_Shop)=true)
  (n0_Shop:PySem.W.findIn K (.ref C_Shop) "benches"=some none)
  (n1_Shop:PySem.W.findIn K (.ref C_Shop) "steps"=some none)
  (n2_Shop:PySem.W.findIn K (.ref C_Shop) "jobs"=some none)
  (n3_Shop:PySem.W.findIn K (.ref C_Shop) "setups"=some none)
  (n4_Shop:PySem.W.findIn K (.ref C_Shop) "links"=some none)
  (n5_Shop:PySem.W.findIn K (.ref C_Shop) "stocks"=some none)
  (n6_Shop:PySem.W.findIn K (.ref C_Shop) "horizon"=some none)
  (n7_Shop:PySem.W.findIn K (.ref C_Shop) "bench_by_name"=some none)
  (n8_Shop:PySem.W.findIn K (.ref C_Shop) "step_by_name"=some none)
  (n9_Shop:PySem.W.findIn K (.ref C_Shop) "setup_by_names"=some none)
  (n10_Shop:PySem.W.findIn K (.ref C_Shop) "job_by_step"=some none)
  (pg_TreeNames:PySem.W.plainGet K C_TreeNames Str.empty=true) (hd_TreeNames:PySem.W.hasDictIn K C_TreeNames=true) (po_TreeNames:PySem.W.plainOver K C_TreeNames=true) (sa_TreeNames:PySem.W.findIn K (.ref C_TreeNames) "__setattr__"=some (some (.builtin "object.__setattr__"))) (mk_TreeNames:PySem.W.makesIn K C_TreeNames=true) (kc_TreeNames:PySem.W.keepIn K (.ref C_TreeNames)=true)
  (n0_TreeNames:PySem.W.findIn K (.ref C_TreeNames) "steps"=some none)
  (n1_TreeNames:PySem.W.findIn K (.ref C_TreeNames) "benches"=some none)
  (n2_TreeNames:PySem.W.findIn K (.ref C_TreeNames) "jobs"=some none)
  (n3_TreeNames:PySem.W.findIn K (.ref C_TreeNames) "stocks"=some none)
  (n4_TreeNames:PySem.W.findIn K (.ref C_TreeNames) "horizon"=some none)
  (z_all:PySem.W.nsIn K mainGlobals "all"=some none)
  (z_bool:PySem.W.nsIn K mainGlobals "bool"=some none)
  (z_dict:PySem.W.nsIn K mainGlobals "dict"=some none)
  (z_int:PySem.W.nsIn K mainGlobals "int"=some none)
  (z_isinstance:PySem.W.nsIn K mainGlobals "isinstance"=some none)
  (z_len:PySem.W.nsIn K mainGlobals "len"=some none)
  (z_list:PySem.W.nsIn K mainGlobals "list"=some none)
  (z_min:PySem.W.nsIn K mainGlobals "min"=some none)
  (z_range:PySem.W.nsIn K mainGlobals "range"=some none)
  (z_set:PySem.W.nsIn K mainGlobals "set"=some none)
  (z_str:PySem.W.nsIn K mainGlobals "str"=some none)
  (z_tuple:PySem.W.nsIn K mainGlobals "tuple"=some none)
  {tk_LONGEST_NAME:Tok} (z_LONGEST_NAME:PySem.W.nsIn K mainGlobals "LONGEST_NAME"=some (some (.int 8 tk_LONGEST_NAME)))
  {tk_MOST_AMOUNT:Tok} (z_MOST_AMOUNT:PySem.W.nsIn K mainGlobals "MOST_AMOUNT"=some (some (.int 1000000 tk_MOST_AMOUNT)))
  {tk_MOST_BENCHES:Tok} (z_MOST_BENCHES:PySem.W.nsIn K mainGlobals "MOST_BENCHES"=some (some (.int 8 tk_MOST_BENCHES)))
  {tk_MOST_BREAKS:Tok} (z_MOST_BREAKS:PySem.W.nsIn K mainGlobals "MOST_BREAKS"=some (some (.int 10 tk_MOST_BREAKS)))
  {tk_MOST_COUNTED:Tok} (z_MOST_COUNTED:PySem.W.nsIn K mainGlobals "MOST_COUNTED"=some (some (.int 3000 tk_MOST_COUNTED)))
  {tk_MOST_HORIZON:Tok} (z_MOST_HORIZON:PySem.W.nsIn K mainGlobals "MOST_HORIZON"=some (some (.int 1000000 tk_MOST_HORIZON)))
  {tk_MOST_JOBS:Tok} (z_MOST_JOBS:PySem.W.nsIn K mainGlobals "MOST_JOBS"=some (some (.int 40 tk_MOST_JOBS)))
  {tk_MOST_LINKS:Tok} (z_MOST_LINKS:PySem.W.nsIn K mainGlobals "MOST_LINKS"=some (some (.int 100 tk_MOST_LINKS)))
  {tk_MOST_SETUPS:Tok} (z_MOST_SETUPS:PySem.W.nsIn K mainGlobals "MOST_SETUPS"=some (some (.int 100 tk_MOST_SETUPS)))
  {tk_MOST_STEPS:Tok} (z_MOST_STEPS:PySem.W.nsIn K mainGlobals "MOST_STEPS"=some (some (.int 40 tk_MOST_STEPS)))
  {tk_MOST_STOCKS:Tok} (z_MOST_STOCKS:PySem.W.nsIn K mainGlobals "MOST_STOCKS"=some (some (.int 6 tk_MOST_STOCKS)))
  {tk_MOST_WAYS:Tok} (z_MOST_WAYS:PySem.W.nsIn K mainGlobals "MOST_WAYS"=some (some (.int 4 tk_MOST_WAYS)))
  {tk_MOST_WITHIN:Tok} (z_MOST_WITHIN:PySem.W.nsIn K mainGlobals "MOST_WITHIN"=some (some (.int 40 tk_MOST_WITHIN)))
  : ∃ fd:FuncData,(∀ (s:Shared) (v:Value),BindsTo s fd ⟨[v],[]⟩ [("_law_script",v)])/\∀ base:Heap,K.In base->base.Ns mainGlobals mg->FnOk l.prog w K mg base CX0 29 fa fd ["_law_script"] (zqZ K):=by
 have e:=hfa.symm.trans (PySem.W.mg_of X G a60)
 have e2:=Value.ref.inj (qD e)
 subst e2
 have B:Bn mg:=⟨PySem.W.mg_none_of X G z_all,PySem.W.mg_none_of X G z_bool,PySem.W.mg_none_of X G z_dict,PySem.W.mg_none_of X G z_int,PySem.W.mg_none_of X G z_isinstance,PySem.W.mg_none_of X G z_len,PySem.W.mg_none_of X G z_list,PySem.W.mg_none_of X G z_min,PySem.W.mg_none_of X G z_range,PySem.W.mg_none_of X G z_set,PySem.W.mg_none_of X G z_str,PySem.W.mg_none_of X G z_tuple,by have q:=PySem.W.mg_of X G z_LONGEST_NAME;rw [q];unfold ze9;rw [q],by have q:=PySem.W.mg_of X G z_MOST_AMOUNT;rw [q];unfold zfX;rw [q],by have q:=PySem.W.mg_of X G z_MOST_BENCHES;rw [q];unfold ze8;rw [q],by have q:=PySem.W.mg_of X G z_MOST_BREAKS;rw [q];unfold zfW;rw [q],by have q:=PySem.W.mg_of X G z_MOST_COUNTED;rw [q];unfold ze7;rw [q],by have q:=PySem.W.mg_of X G z_MOST_HORIZON;rw [q];unfold ze6;rw [q],by have q:=PySem.W.mg_of X G z_MOST_JOBS;rw [q];unfold zhm;rw [q],by have q:=PySem.W.mg_of X G z_MOST_LINKS;rw [q];unfold zgT;rw [q],by have q:=PySem.W.mg_of X G z_MOST_SETUPS;rw [q];unfold zfV;rw [q],by have q:=PySem.W.mg_of X G z_MOST_STEPS;rw [q];unfold zgS;rw [q],by have q:=PySem.W.mg_of X G z_MOST_STOCKS;rw [q];unfold zfU;rw [q],by have q:=PySem.W.mg_of X G z_MOST_WAYS;rw [q];unfold zhl;rw [q],by have q:=PySem.W.mg_of X G z_MOST_WITHIN;rw [q];unfold zfT;rw [q]⟩
 have O_Shop:ClsOk (Gam C_Shop C_TreeNames) K mg "Shop" C_Shop:=⟨by unfold Gam;rfl,⟨pg_Shop,hd_Shop,po_Shop,sa_Shop⟩,PySem.W.mg_of X G aC_Shop,mk_Shop,kc_Shop⟩
 have cf_Shop:CF (Gam C_Shop C_TreeNames) K "Shop" zfG:=O_Shop.cf (List.forall_mem_cons.mpr ⟨n0_Shop,(List.forall_mem_cons.mpr ⟨n1_Shop,(List.forall_mem_cons.mpr ⟨n2_Shop,(List.forall_mem_cons.mpr ⟨n3_Shop,(List.forall_mem_cons.mpr ⟨n4_Shop,(List.forall_mem_cons.mpr ⟨n5_Shop,(List.forall_mem_cons.mpr ⟨n6_Shop,(List.forall_mem_cons.mpr ⟨n7_Shop,(List.forall_mem_cons.mpr ⟨n8_Shop,(List.forall_mem_cons.mpr ⟨n9_Shop,(List.forall_mem_cons.mpr ⟨n10_Shop,(List.forall_mem_nil _)⟩)⟩)⟩)⟩)⟩)⟩)⟩)⟩)⟩)⟩)⟩)
 have O_TreeNames:ClsOk (Gam C_Shop C_TreeNames) K mg "TreeNames" C_TreeNames:=⟨by unfold Gam;rfl,⟨pg_TreeNames,hd_TreeNames,po_TreeNames,sa_TreeNames⟩,PySem.W.mg_of X G aC_TreeNames,mk_TreeNames,kc_TreeNames⟩
 have cf_TreeNames:CF (Gam C_Shop C_TreeNames) K "TreeNames" zck:=O_TreeNames.cf (List.forall_mem_cons.mpr ⟨n0_TreeNames,(List.forall_mem_cons.mpr ⟨n1_TreeNames,(List.forall_mem_cons.mpr ⟨n2_TreeNames,(List.forall_mem_cons.mpr ⟨n3_TreeNames,(List.forall_mem_cons.mpr ⟨n4_TreeNames,(List.forall_mem_nil _)⟩)⟩)⟩)⟩)⟩)
 refine ⟨PySem.W.fnOf "law" "law" (zcJ zhr) (zbv zhr) (zao zhr) .none kV60 dc60 pm60 an60 cd60 ct60,fun s v=>.of_eq rfl,fun base _ _=>?_⟩
 have C__law_left:CalO (Gam C_Shop C_TreeNames) l.prog w K mg base "_law_left" 2 1 zbK:=zjA d0 B
 have C__law_pick:CalR (Gam C_Shop C_TreeNames) l.prog w K mg base "_law_pick" 1 1 zad:=zjz d1 B
 have C__law_benches:CalR (Gam C_Shop C_TreeNames) l.prog w K mg base "_law_benches" 2 2 zbf:=zhe d2 B C__law_pick
 have C__law_steps:CalR (Gam C_Shop C_TreeNames) l.prog w K mg base "_law_steps" 3 2 zbH:=zir d3 B C__law_pick
 have C__law_links:CalR (Gam C_Shop C_TreeNames) l.prog w K mg base "_law_links" 2 2 zbI:=zis d4 B C__law_pick
 have C_is_whole:Cal (Gam C_Shop C_TreeNames) l.prog w K mg base "is_whole" 1 1 zbq:=zks d5 B
 have C_is_within:Cal (Gam C_Shop C_TreeNames) l.prog w K mg base "is_within" 3 2 zal:=zjr d6 B C_is_whole
 have C_is_tuple:Cal (Gam C_Shop C_TreeNames) l.prog w K mg base "is_tuple" 2 1 zag:=zkt d7 B
 have C_is_break:Cal (Gam C_Shop C_TreeNames) l.prog w K mg base "is_break" 2 3 zcv:=zkw d8 B C_is_within C_is_tuple
 have C_is_list:Cal (Gam C_Shop C_TreeNames) l.prog w K mg base "is_list" 3 1 zax:=zll d9 B
 have C_are_breaks:Cal (Gam C_Shop C_TreeNames) l.prog w K mg base "are_breaks" 2 4 zb6:=ziq d10 B C_is_break C_is_list
 have C_is_name:Cal (Gam C_Shop C_TreeNames) l.prog w K mg base "is_name" 1 1 zaE:=zlk d11 B
 have C_is_bench:Cal (Gam C_Shop C_TreeNames) l.prog w K mg base "is_bench" 2 5 zcw:=zkx d12 B C_are_breaks C_is_name C_is_tuple
 have C_are_unlike:Cal (Gam C_Shop C_TreeNames) l.prog w K mg base "are_unlike" 1 1 zam:=zim d13 B
 have C_are_benches:Cal (Gam C_Shop C_TreeNames) l.prog w K mg base "are_benches" 2 6 zbR:=zhX d14 B C_is_bench C_is_list C_are_unlike
 have C_is_one_of:Cal (Gam C_Shop C_TreeNames) l.prog w K mg base "is_one_of" 2 2 zan:=zjs d15 B C_is_name
 have C_is_way:Cal (Gam C_Shop C_TreeNames) l.prog w K mg base "is_way" 3 3 zdu:=zmI d16 B C_is_within C_is_one_of C_is_tuple
 have C_are_ways:Cal (Gam C_Shop C_TreeNames) l.prog w K mg base "are_ways" 3 4 zcO:=zky d17 B C_is_way C_is_list C_are_unlike
 have C_is_step:Cal (Gam C_Shop C_TreeNames) l.prog w K mg base "is_step" 3 5 zcZ:=zlj d18 B C_is_name C_is_tuple C_are_ways
 have C_are_steps:Cal (Gam C_Shop C_TreeNames) l.prog w K mg base "are_steps" 3 6 zcm:=zjv d19 B C_is_step C_is_list C_are_unlike
 have C_is_job:Cal (Gam C_Shop C_TreeNames) l.prog w K mg base "is_job" 3 3 zdM:=zmL d20 B C_is_name C_is_tuple C_is_within C_is_one_of C_is_list
 have C_are_jobs:Cal (Gam C_Shop C_TreeNames) l.prog w K mg base "are_jobs" 3 4 zcP:=zkz d21 B C_is_job C_is_list C_are_unlike
 have C_is_setup:Cal (Gam C_Shop C_TreeNames) l.prog w K mg base "is_setup" 3 3 zct:=zkv d22 B C_is_one_of C_is_tuple C_is_within C_is_name
 have C_are_setups:Cal (Gam C_Shop C_TreeNames) l.prog w K mg base "are_setups" 3 4 zb5:=zio d23 B C_is_setup C_is_list C_are_unlike
 have C_is_link:Cal (Gam C_Shop C_TreeNames) l.prog w K mg base "is_link" 3 3 zc0:=zlm d24 B C_is_one_of C_is_tuple C_is_within
 have C_are_links:Cal (Gam C_Shop C_TreeNames) l.prog w K mg base "are_links" 3 4 zcn:=zjw d25 B C_is_link C_is_list C_are_unlike
 have C_is_amount:Cal (Gam C_Shop C_TreeNames) l.prog w K mg base "is_amount" 2 3 zb8:=zju d26 B C_is_within C_is_one_of C_is_tuple
 have C_are_amounts:Cal (Gam C_Shop C_TreeNames) l.prog w K mg base "are_amounts" 2 4 zbE:=zhY d27 B C_is_amount C_is_list C_are_unlike
 have C_is_stock:Cal (Gam C_Shop C_TreeNames) l.prog w K mg base "is_stock" 2 5 zcs:=zku d28 B C_is_name C_is_tuple C_is_within C_are_amounts
 have C_are_stocks:Cal (Gam C_Shop C_TreeNames) l.prog w K mg base "are_stocks" 2 6 zb4:=zin d29 B C_is_stock C_is_list C_are_unlike
 have C_first_bad_part:Cal (Gam C_Shop C_TreeNames) l.prog w K mg base "first_bad_part" 7 7 zbm:=zga d30 B C_is_within C_are_benches C_are_steps C_are_jobs C_are_setups C_are_links C_are_stocks
 have C_fresh:∀ n,Cal (Gam C_Shop C_TreeNames) l.prog w K mg base "fresh" 1 n (zdW n):=fun n=>by
  induction n with
  | zero=>exact Dfn.none (ps:=["thing"]) d31 (fun _ _ _ _ _ _ us hl=>match us,hl with | [_],_=>rfl)
  | succ n ih=>exact zoI d31 B ih
 replace C_fresh:Cal (Gam C_Shop C_TreeNames) l.prog w K mg base "fresh" 1 8 zbd:=C_fresh 8
 have C_Shop___init__:CalI (Gam C_Shop C_TreeNames) l.prog w K mg base "Shop" 7 9 zbk:=zgF O_Shop d32 B C_first_bad_part C_fresh cf_Shop
 have C__law_stocks:CalR (Gam C_Shop C_TreeNames) l.prog w K mg base "_law_stocks" 1 2 zbu:=zhZ d33 B C__law_pick
 have C__law_jobs:CalR (Gam C_Shop C_TreeNames) l.prog w K mg base "_law_jobs" 2 2 zbX:=zjC d34 B C__law_pick
 have C__law_shop:CalR (Gam C_Shop C_TreeNames) l.prog w K mg base "_law_shop" 0 11 zbW:=zjy d35 B C__law_pick C__law_benches C__law_steps C__law_links C_Shop___init__ C__law_stocks C__law_jobs
 have C_Shop_step_names:CalM (Gam C_Shop C_TreeNames) l.prog w K mg base "Shop" "step_names" 1 1 zaq:=zfE O_Shop d36 B cf_Shop
 have C_Shop_last_moment:CalM (Gam C_Shop C_TreeNames) l.prog w K mg base "Shop" "last_moment" 1 1 zaj:=ze4 O_Shop d37 B cf_Shop
 have C_Shop_bench_names:CalM (Gam C_Shop C_TreeNames) l.prog w K mg base "Shop" "bench_names" 1 1 zav:=ze5 O_Shop d38 B cf_Shop
 have C__law_choice:CalR (Gam C_Shop C_TreeNames) l.prog w K mg base "_law_choice" 1 2 zaQ:=zh0 d39 B C_Shop_step_names C__law_pick C_Shop_last_moment C_Shop_bench_names
 have C__law_stretch:CalR (Gam C_Shop C_TreeNames) l.prog w K mg base "_law_stretch" 1 2 zbe:=zhd d41 B C__law_pick C_Shop_last_moment
 have C_Shop_job_rows:CalM (Gam C_Shop C_TreeNames) l.prog w K mg base "Shop" "job_rows" 1 9 zaB:=zgE O_Shop d42 B C_fresh cf_Shop
 have C_Shop_stock_rows:CalM (Gam C_Shop C_TreeNames) l.prog w K mg base "Shop" "stock_rows" 1 9 zay:=zfD O_Shop d43 B C_fresh cf_Shop
 have C__law_leaf:CalR (Gam C_Shop C_TreeNames) l.prog w K mg base "_law_leaf" 1 10 zbL:=zjB d44 B C_Shop_step_names C__law_pick C__law_stretch C_Shop_bench_names C_Shop_job_rows C_Shop_stock_rows C_Shop_last_moment
 have C__law_tree:∀ n,CalR (Gam C_Shop C_TreeNames) l.prog w K mg base "_law_tree" 2 (12+2*n) (zcl n):=fun n=>by
  induction n with
  | zero=>exact Dfn.noneR (ps:=["_law_left_here","_law_shop_here","_law_deep"]) d45 (fun _ _ _ _ _ _ us hl=>match us,hl with | [_,_,_],_=>rfl)
  | succ n ih=>exact zjx d45 B C__law_pick (zkB d40 B C_Shop_step_names C__law_pick C__law_choice ih) C__law_choice ih C__law_leaf
 replace C__law_tree:CalR (Gam C_Shop C_TreeNames) l.prog w K mg base "_law_tree" 2 28 zaX:=C__law_tree 8
 have C__law_edges:CalR (Gam C_Shop C_TreeNames) l.prog w K mg base "_law_edges" 1 10 zbJ:=zit d46 B C_Shop_step_names C__law_pick C_Shop_last_moment C_Shop_bench_names C_Shop_stock_rows C_Shop_job_rows
 have C_TreeNames___init__:CalI (Gam C_Shop C_TreeNames) l.prog w K mg base "TreeNames" 1 10 zaV:=zes O_TreeNames d47 B C_Shop_step_names C_Shop_bench_names C_Shop_job_rows C_Shop_stock_rows C_Shop_last_moment cf_TreeNames
 have C_word_of:Cal (Gam C_Shop C_TreeNames) l.prog w K mg base "word_of" 1 1 zaM:=zli d48 B
 have C_is_choice:Cal (Gam C_Shop C_TreeNames) l.prog w K mg base "is_choice" 2 3 zbc:=zjt d49 B C_word_of C_is_one_of C_is_tuple C_is_whole cf_TreeNames
 have C_is_not:Cal (Gam C_Shop C_TreeNames) l.prog w K mg base "is_not" 2 4 zcu:=zmK d50 B C_is_within C_is_choice C_is_tuple C_word_of
 have C_is_row:Cal (Gam C_Shop C_TreeNames) l.prog w K mg base "is_row" 2 3 zdd:=zmJ d51 B C_word_of C_is_one_of C_is_tuple cf_TreeNames
 have C_is_both:Cal (Gam C_Shop C_TreeNames) l.prog w K mg base "is_both" 2 4 zcc:=zlo d52 B C_is_choice C_is_tuple C_word_of
 have C_are_some_of:Cal (Gam C_Shop C_TreeNames) l.prog w K mg base "are_some_of" 2 3 zaW:=zhW d53 B C_is_one_of
 have C_are_ends:Cal (Gam C_Shop C_TreeNames) l.prog w K mg base "are_ends" 3 3 zbr:=zkA d54 B C_is_within
 have C_is_stretch:Cal (Gam C_Shop C_TreeNames) l.prog w K mg base "is_stretch" 4 4 zbQ:=zil d55 B C_are_ends C_are_unlike C_are_some_of cf_TreeNames
 have C_is_stock_leaf:Cal (Gam C_Shop C_TreeNames) l.prog w K mg base "is_stock_leaf" 4 3 zbj:=zgD d56 B C_is_within C_is_one_of cf_TreeNames
 have C_is_leaf:Cal (Gam C_Shop C_TreeNames) l.prog w K mg base "is_leaf" 2 5 zc1:=zln d57 B C_word_of C_is_tuple C_is_one_of C_are_some_of C_is_stretch C_are_ends C_is_stock_leaf cf_TreeNames
 have C_trees_in:Cal (Gam C_Shop C_TreeNames) l.prog w K mg base "trees_in" 2 6 zce:=zkr d58 B C_is_not C_is_row C_is_both C_is_leaf
 have C_look_at_tree:Cal (Gam C_Shop C_TreeNames) l.prog w K mg base "look_at_tree" 2 12 za9:=zhc d59 B C_TreeNames___init__ C_is_tuple C_trees_in
 have FL:=zoe (st:=zhr) l60 c60 k60
 have ok:FnOk l.prog w K mg base CX0 29 fa _ ["_law_script"] (spF (Gam C_Shop C_TreeNames) K 1 zsn):=FL.okD (k:=28) ziC (zsg B C__law_left C__law_shop C__law_tree C__law_edges C_look_at_tree fa)
 refine ok.imp fun vs H Q E hq=>?_
 obtain ⟨a,ns,rfl,hS,hlen,k⟩:=hq
 exact ⟨H,[.scr ns],.bl true,zcd.refl H,.cons (.scr hS) .nil,rfl,zpD ns hlen,fun v G' H' _ r=>by rw [r.bl_inv];exact k H'⟩
theorem walk {l:PySem.W.OpenLaw} {q:Program} {loose:List Str} {XP:(Str->Option Value)->Heap->Prop} {YP:World->Heap->Prop} {d:DefRec} {K:Params->PySem.W.Frag} (hn:l.most=some 63) (hdf:d.params.defaults=[])
  (hY:∀ (w:World) (h:Heap),YP w h->(K w.params).In h)
  (F:∀ (w:World) (mg:Str->Option Value) (fa:Addr) (h:Heap),(K w.params).In h->h.Ns mainGlobals mg->mg d.name=some (.ref fa) ->
   ∃ fd:FuncData,(∀ (s:Shared) (u:Value),BindsTo s fd ⟨[u],[]⟩ [("_law_script",u)])/\∀ base:Heap,(K w.params).In base->base.Ns mainGlobals mg->FnOk l.prog w (K w.params) mg base CX0 29 fa fd ["_law_script"] (zqZ (K w.params))) :
  PySem.W.WalkO q loose XP YP l.row.toRowW d [] (fun f vs=>PySem.call f vs) :=
 L2.walk_of (n:=63) (k:=29) (x:="_law_script") (CX:=fun _=>CX0) (sp:=fun w=>zqZ (K w.params)) hn (by decide) hdf ⟨rfl,by decide,by decide⟩ hY F (fun _ _ a ns hl _ hS=>⟨a,ns,rfl,hS,hl,fun _=>rfl⟩) fun _ _ _ _ _ z=>z
end Law
def PySem.W.Fast.tw5784188307810161165:Unit:=()
def PySem.W.Fast.tw7873318110213934937:Unit:=()
def PySem.W.Fast.tw5364735065805904014:Unit:=()
def PySem.W.Fast.tw15807986639810647518:Unit:=()
def PySem.W.Fast.tw5733929828054416084:Unit:=()
def PySem.W.Fast.tw1192255198562110013:Unit:=()
def PySem.W.Fast.tw10278743372214721283:Unit:=()
def PySem.W.Fast.tw4190263935360949370:Unit:=()
def PySem.W.Fast.tw1314902214982796457:Unit:=()
def PySem.W.Fast.tw15867831044467217860:Unit:=()
def PySem.W.Fast.tw9291526723245003877:Unit:=()
def PySem.W.Fast.tw9187763025311095203:Unit:=()
def PySem.W.Fast.tw8743674367440545809:Unit:=()
def PySem.W.Fast.tw2919460555354916372:Unit:=()
def PySem.W.Fast.tw9812793840117729483:Unit:=()
def PySem.W.Fast.tw12835623251173692459:Unit:=()
def PySem.W.Fast.tw3230896005141713763:Unit:=()
def PySem.W.Fast.tw5924390636013379752:Unit:=()
def PySem.W.Fast.tw12299178150400953418:Unit:=()
def PySem.W.Fast.tw3372944080680242975:Unit:=()
def PySem.W.Fast.tw7189760106665009943:Unit:=()
def PySem.W.Fast.tw4264752295091284750:Unit:=()
def PySem.W.Fast.tw1645140663700601711:Unit:=()
def PySem.W.Fast.tw6697232098549972109:Unit:=()
def PySem.W.Fast.tw6545680412931313972:Unit:=()
def PySem.W.Fast.tw11453833036207435753:Unit:=()
def PySem.W.Fast.tw5315303786834161022:Unit:=()
def PySem.W.Fast.tw9410993206737633581:Unit:=()
def PySem.W.Fast.tw12997499245353457273:Unit:=()
def PySem.W.Fast.tw5470733064742034507:Unit:=()
def PySem.W.Fast.tw1058481468616894803:Unit:=()
def PySem.W.Fast.tw8987804299656281756:Unit:=()
def PySem.W.Fast.tw670582621824941021:Unit:=()
def PySem.W.Fast.tw3264145593849306836:Unit:=()
def PySem.W.Fast.tw5699421364911306897:Unit:=()
def PySem.W.Fast.tw18091814988532161150:Unit:=()
def PySem.W.Fast.tw17491280325163124795:Unit:=()
def PySem.W.Fast.tw4626048810678427211:Unit:=()
def PySem.W.Fast.tw7836184487138425477:Unit:=()
def PySem.W.Fast.tw14666998429993325008:Unit:=()
def PySem.W.Fast.tw10238840699905546301:Unit:=()
def PySem.W.Fast.tw10099528522604607951:Unit:=()
def PySem.W.Fast.tw13021751572582085573:Unit:=()
def PySem.W.Fast.tw2419328806547306825:Unit:=()
def PySem.W.Fast.tw416876373128636779:Unit:=()
def PySem.W.Fast.tw1129175235204126974:Unit:=()
def PySem.W.Fast.tw17827946670315866885:Unit:=()
def PySem.W.Fast.tw10873919625891043594:Unit:=()
def PySem.W.Fast.tw6741031932655638067:Unit:=()
def PySem.W.Fast.tw650102349295493555:Unit:=()
def PySem.W.Fast.tw3967053637241268871:Unit:=()
def PySem.W.Fast.tw4427539027541307550:Unit:=()
def PySem.W.Fast.tw5047087023717806561:Unit:=()
def PySem.W.Fast.tw15371872695499309568:Unit:=()
def PySem.W.Fast.tw5762174003077425764:Unit:=()
def PySem.W.Fast.tw15776686918866733456:Unit:=()
def PySem.W.Fast.tw15402375650263229746:Unit:=()
def PySem.W.Fast.tw8197376795862305959:Unit:=()
def PySem.W.Fast.tw16197204952137006729:Unit:=()
def PySem.W.Fast.tw5428976977498310535:Unit:=()
open PySem PySem.W PyProof.Rows L2
set_option maxRecDepth 100000 in
set_option maxHeartbeats 0 in
theorem PySem.Challenge.cw_shopbound_k51_trees_of_a_shop_holds : PySem.Challenge.rw_shopbound_k51_trees_of_a_shop.Holds := by
 w_on;o_law;k_head;(case hw=>w_witness2)
 k_fill
 refine Law.walk (l:=PySem.Challenge.rw_shopbound_k51_trees_of_a_shop) rfl rfl (fun w h Y=>PySem.W.kIn_of Y) ?F
 case F =>
  intro w mg fa h KX G hmg
  refine' Law.all_mk KX G hmg ?aC_Shop ?aC_TreeNames ?d0 ?d1 ?d2 ?d3 ?d4 ?d5 ?d6 ?d7 ?d8 ?d9 ?d10 ?d11 ?d12 ?d13 ?d14 ?d15 ?d16 ?d17 ?d18 ?d19 ?d20 ?d21 ?d22 ?d23 ?d24 ?d25 ?d26 ?d27 ?d28 ?d29 ?d30 ?d31 ?d32 ?d33 ?d34 ?d35 ?d36 ?d37 ?d38 ?d39 ?d40 ?d41 ?d42 ?d43 ?d44 ?d45 ?d46 ?d47 ?d48 ?d49 ?d50 ?d51 ?d52 ?d53 ?d54 ?d55 ?d56 ?d57 ?d58 ?d59 ?a60 ?l60 ?c60 ?k60 ?pg_Shop ?hd_Shop ?po_Shop ?sa_Shop ?mk_Shop ?kc_Shop ?n0_Shop ?n1_Shop ?n2_Shop ?n3_Shop ?n4_Shop ?n5_Shop ?n6_Shop ?n7_Shop ?n8_Shop ?n9_Shop ?n10_Shop ?pg_TreeNames ?hd_TreeNames ?po_TreeNames ?sa_TreeNames ?mk_TreeNames ?kc_TreeNames ?n0_TreeNames ?n1_TreeNames ?n2_TreeNames ?n3_TreeNames ?n4_TreeNames ?z_all ?z_bool ?z_dict ?z_int ?z_isinstance ?z_len ?z_list ?z_min ?z_range ?z_set ?z_str ?z_tuple ?z_LONGEST_NAME ?z_MOST_AMOUNT ?z_MOST_BENCHES ?z_MOST_BREAKS ?z_MOST_COUNTED ?z_MOST_HORIZON ?z_MOST_JOBS ?z_MOST_LINKS ?z_MOST_SETUPS ?z_MOST_STEPS ?z_MOST_STOCKS ?z_MOST_WAYS ?z_MOST_WITHIN
  (case aC_Shop=>k_is)
  (case aC_TreeNames=>k_is)
  (case d0=>refine' Dfn.mk' KX G ?a ?l ?c ?k;(case a=>k_is);(case l=>k_is);(case c=>k_is);(case k=>k_is))
  (case d1=>refine' Dfn.mk' KX G ?a ?l ?c ?k;(case a=>k_is);(case l=>k_is);(case c=>k_is);(case k=>k_is))
  (case d2=>refine' Dfn.mk' KX G ?a ?l ?c ?k;(case a=>k_is);(case l=>k_is);(case c=>k_is);(case k=>k_is))
  (case d3=>refine' Dfn.mk' KX G ?a ?l ?c ?k;(case a=>k_is);(case l=>k_is);(case c=>k_is);(case k=>k_is))
  (case d4=>refine' Dfn.mk' KX G ?a ?l ?c ?k;(case a=>k_is);(case l=>k_is);(case c=>k_is);(case k=>k_is))
  (case d5=>refine' Dfn.mk' KX G ?a ?l ?c ?k;(case a=>k_is);(case l=>k_is);(case c=>k_is);(case k=>k_is))
  (case d6=>refine' Dfn.mk' KX G ?a ?l ?c ?k;(case a=>k_is);(case l=>k_is);(case c=>k_is);(case k=>k_is))
  (case d7=>refine' Dfn.mk' KX G ?a ?l ?c ?k;(case a=>k_is);(case l=>k_is);(case c=>k_is);(case k=>k_is))
  (case d8=>refine' Dfn.mk' KX G ?a ?l ?c ?k;(case a=>k_is);(case l=>k_is);(case c=>k_is);(case k=>k_is))
  (case d9=>refine' Dfn.mk' KX G ?a ?l ?c ?k;(case a=>k_is);(case l=>k_is);(case c=>k_is);(case k=>k_is))
  (case d10=>refine' Dfn.mk' KX G ?a ?l ?c ?k;(case a=>k_is);(case l=>k_is);(case c=>k_is);(case k=>k_is))
  (case d11=>refine' Dfn.mk' KX G ?a ?l ?c ?k;(case a=>k_is);(case l=>k_is);(case c=>k_is);(case k=>k_is))
  (case d12=>refine' Dfn.mk' KX G ?a ?l ?c ?k;(case a=>k_is);(case l=>k_is);(case c=>k_is);(case k=>k_is))
  (case d13=>refine' Dfn.mk' KX G ?a ?l ?c ?k;(case a=>k_is);(case l=>k_is);(case c=>k_is);(case k=>k_is))
  (case d14=>refine' Dfn.mk' KX G ?a ?l ?c ?k;(case a=>k_is);(case l=>k_is);(case c=>k_is);(case k=>k_is))
  (case d15=>refine' Dfn.mk' KX G ?a ?l ?c ?k;(case a=>k_is);(case l=>k_is);(case c=>k_is);(case k=>k_is))
  (case d16=>refine' Dfn.mk' KX G ?a ?l ?c ?k;(case a=>k_is);(case l=>k_is);(case c=>k_is);(case k=>k_is))
  (case d17=>refine' Dfn.mk' KX G ?a ?l ?c ?k;(case a=>k_is);(case l=>k_is);(case c=>k_is);(case k=>k_is))
  (case d18=>refine' Dfn.mk' KX G ?a ?l ?c ?k;(case a=>k_is);(case l=>k_is);(case c=>k_is);(case k=>k_is))
  (case d19=>refine' Dfn.mk' KX G ?a ?l ?c ?k;(case a=>k_is);(case l=>k_is);(case c=>k_is);(case k=>k_is))
  (case d20=>refine' Dfn.mk' KX G ?a ?l ?c ?k;(case a=>k_is);(case l=>k_is);(case c=>k_is);(case k=>k_is))
  (case d21=>refine' Dfn.mk' KX G ?a ?l ?c ?k;(case a=>k_is);(case l=>k_is);(case c=>k_is);(case k=>k_is))
  (case d22=>refine' Dfn.mk' KX G ?a ?l ?c ?k;(case a=>k_is);(case l=>k_is);(case c=>k_is);(case k=>k_is))
  (case d23=>refine' Dfn.mk' KX G ?a ?l ?c ?k;(case a=>k_is);(case l=>k_is);(case c=>k_is);(case k=>k_is))
  (case d24=>refine' Dfn.mk' KX G ?a ?l ?c ?k;(case a=>k_is);(case l=>k_is);(case c=>k_is);(case k=>k_is))
  (case d25=>refine' Dfn.mk' KX G ?a ?l ?c ?k;(case a=>k_is);(case l=>k_is);(case c=>k_is);(case k=>k_is))
  (case d26=>refine' Dfn.mk' KX G ?a ?l ?c ?k;(case a=>k_is);(case l=>k_is);(case c=>k_is);(case k=>k_is))
  (case d27=>refine' Dfn.mk' KX G ?a ?l ?c ?k;(case a=>k_is);(case l=>k_is);(case c=>k_is);(case k=>k_is))
  (case d28=>refine' Dfn.mk' KX G ?a ?l ?c ?k;(case a=>k_is);(case l=>k_is);(case c=>k_is);(case k=>k_is))
  (case d29=>refine' Dfn.mk' KX G ?a ?l ?c ?k;(case a=>k_is);(case l=>k_is);(case c=>k_is);(case k=>k_is))
  (case d30=>refine' Dfn.mk' KX G ?a ?l ?c ?k;(case a=>k_is);(case l=>k_is);(case c=>k_is);(case k=>k_is))
  (case d31=>refine' Dfn.mk' KX G ?a ?l ?c ?k;(case a=>k_is);(case l=>k_is);(case c=>k_is);(case k=>k_is))
  (case d32=>refine' DfnM.mk' ?a ?i ?l ?c ?k;(case a=>k_is);(case i=>k_is);(case l=>k_is);(case c=>k_is);(case k=>k_is))
  (case d33=>refine' Dfn.mk' KX G ?a ?l ?c ?k;(case a=>k_is);(case l=>k_is);(case c=>k_is);(case k=>k_is))
  (case d34=>refine' Dfn.mk' KX G ?a ?l ?c ?k;(case a=>k_is);(case l=>k_is);(case c=>k_is);(case k=>k_is))
  (case d35=>refine' Dfn.mk' KX G ?a ?l ?c ?k;(case a=>k_is);(case l=>k_is);(case c=>k_is);(case k=>k_is))
  (case d36=>refine' DfnM.mk' ?a ?i ?l ?c ?k;(case a=>k_is);(case i=>k_is);(case l=>k_is);(case c=>k_is);(case k=>k_is))
  (case d37=>refine' DfnM.mk' ?a ?i ?l ?c ?k;(case a=>k_is);(case i=>k_is);(case l=>k_is);(case c=>k_is);(case k=>k_is))
  (case d38=>refine' DfnM.mk' ?a ?i ?l ?c ?k;(case a=>k_is);(case i=>k_is);(case l=>k_is);(case c=>k_is);(case k=>k_is))
  (case d39=>refine' Dfn.mk' KX G ?a ?l ?c ?k;(case a=>k_is);(case l=>k_is);(case c=>k_is);(case k=>k_is))
  (case d40=>refine' Dfn.mk' KX G ?a ?l ?c ?k;(case a=>k_is);(case l=>k_is);(case c=>k_is);(case k=>k_is))
  (case d41=>refine' Dfn.mk' KX G ?a ?l ?c ?k;(case a=>k_is);(case l=>k_is);(case c=>k_is);(case k=>k_is))
  (case d42=>refine' DfnM.mk' ?a ?i ?l ?c ?k;(case a=>k_is);(case i=>k_is);(case l=>k_is);(case c=>k_is);(case k=>k_is))
  (case d43=>refine' DfnM.mk' ?a ?i ?l ?c ?k;(case a=>k_is);(case i=>k_is);(case l=>k_is);(case c=>k_is);(case k=>k_is))
  (case d44=>refine' Dfn.mk' KX G ?a ?l ?c ?k;(case a=>k_is);(case l=>k_is);(case c=>k_is);(case k=>k_is))
  (case d45=>refine' Dfn.mk' KX G ?a ?l ?c ?k;(case a=>k_is);(case l=>k_is);(case c=>k_is);(case k=>k_is))
  (case d46=>refine' Dfn.mk' KX G ?a ?l ?c ?k;(case a=>k_is);(case l=>k_is);(case c=>k_is);(case k=>k_is))
  (case d47=>refine' DfnM.mk' ?a ?i ?l ?c ?k;(case a=>k_is);(case i=>k_is);(case l=>k_is);(case c=>k_is);(case k=>k_is))
  (case d48=>refine' Dfn.mk' KX G ?a ?l ?c ?k;(case a=>k_is);(case l=>k_is);(case c=>k_is);(case k=>k_is))
  (case d49=>refine' Dfn.mk' KX G ?a ?l ?c ?k;(case a=>k_is);(case l=>k_is);(case c=>k_is);(case k=>k_is))
  (case d50=>refine' Dfn.mk' KX G ?a ?l ?c ?k;(case a=>k_is);(case l=>k_is);(case c=>k_is);(case k=>k_is))
  (case d51=>refine' Dfn.mk' KX G ?a ?l ?c ?k;(case a=>k_is);(case l=>k_is);(case c=>k_is);(case k=>k_is))
  (case d52=>refine' Dfn.mk' KX G ?a ?l ?c ?k;(case a=>k_is);(case l=>k_is);(case c=>k_is);(case k=>k_is))
  (case d53=>refine' Dfn.mk' KX G ?a ?l ?c ?k;(case a=>k_is);(case l=>k_is);(case c=>k_is);(case k=>k_is))
  (case d54=>refine' Dfn.mk' KX G ?a ?l ?c ?k;(case a=>k_is);(case l=>k_is);(case c=>k_is);(case k=>k_is))
  (case d55=>refine' Dfn.mk' KX G ?a ?l ?c ?k;(case a=>k_is);(case l=>k_is);(case c=>k_is);(case k=>k_is))
  (case d56=>refine' Dfn.mk' KX G ?a ?l ?c ?k;(case a=>k_is);(case l=>k_is);(case c=>k_is);(case k=>k_is))
  (case d57=>refine' Dfn.mk' KX G ?a ?l ?c ?k;(case a=>k_is);(case l=>k_is);(case c=>k_is);(case k=>k_is))
  (case d58=>refine' Dfn.mk' KX G ?a ?l ?c ?k;(case a=>k_is);(case l=>k_is);(case c=>k_is);(case k=>k_is))
  (case d59=>refine' Dfn.mk' KX G ?a ?l ?c ?k;(case a=>k_is);(case l=>k_is);(case c=>k_is);(case k=>k_is))
  (case a60=>k_is)
  (case l60=>k_is)
  (case c60=>k_is)
  (case k60=>k_is)
  (case pg_Shop=>k_is)
  (case hd_Shop=>k_is)
  (case po_Shop=>k_is)
  (case sa_Shop=>k_is)
  (case mk_Shop=>k_is)
  (case kc_Shop=>k_is)
  (case n0_Shop=>k_is)
  (case n1_Shop=>k_is)
  (case n2_Shop=>k_is)
  (case n3_Shop=>k_is)
  (case n4_Shop=>k_is)
  (case n5_Shop=>k_is)
  (case n6_Shop=>k_is)
  (case n7_Shop=>k_is)
  (case n8_Shop=>k_is)
  (case n9_Shop=>k_is)
  (case n10_Shop=>k_is)
  (case pg_TreeNames=>k_is)
  (case hd_TreeNames=>k_is)
  (case po_TreeNames=>k_is)
  (case sa_TreeNames=>k_is)
  (case mk_TreeNames=>k_is)
  (case kc_TreeNames=>k_is)
  (case n0_TreeNames=>k_is)
  (case n1_TreeNames=>k_is)
  (case n2_TreeNames=>k_is)
  (case n3_TreeNames=>k_is)
  (case n4_TreeNames=>k_is)
  (case z_all=>k_is)
  (case z_bool=>k_is)
  (case z_dict=>k_is)
  (case z_int=>k_is)
  (case z_isinstance=>k_is)
  (case z_len=>k_is)
  (case z_list=>k_is)
  (case z_min=>k_is)
  (case z_range=>k_is)
  (case z_set=>k_is)
  (case z_str=>k_is)
  (case z_tuple=>k_is)
  (case z_LONGEST_NAME=>k_is)
  (case z_MOST_AMOUNT=>k_is)
  (case z_MOST_BENCHES=>k_is)
  (case z_MOST_BREAKS=>k_is)
  (case z_MOST_COUNTED=>k_is)
  (case z_MOST_HORIZON=>k_is)
  (case z_MOST_JOBS=>k_is)
  (case z_MOST_LINKS=>k_is)
  (case z_MOST_SETUPS=>k_is)
  (case z_MOST_STEPS=>k_is)
  (case z_MOST_STOCKS=>k_is)
  (case z_MOST_WAYS=>k_is)
  (case z_MOST_WITHIN=>k_is)
end
end
