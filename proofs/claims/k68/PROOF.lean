import PyProof.Rows.All
import Wide.All
import OpenK.AllK
import Wide.FinOn
import Lean
import PyProof.EqAt
import PyProof.EqKinds
import PyProof.TupleCall
import KE.KDictOf
import PyProof.AttrMiss
import PyProof.IsiH_list
import PySem.SetOps
import KE.KEqDict
import KE.KItemsList
import KE.KDictSum
import KE.KRevSl
import PyProof.Rows.SortStr
import PyProof.Rows.SortWalk
import PyProof.DictWalks
import PyProof.StrLawsTight
import KE.KIntText
import PyProof.Rows.StrIntSpec
import PyProof.StrLawsJoin
import KE.KTryMore
import PyProof.NsDelKeeps
import PyProof.ExcAttrAll.ValueError
import PyProof.StrReplace2
import PyProof.ReprStr
import PyProof.Rows.RuleU_int
import KE.RegKIsAll
import KE.RegKTryMore
import PyProof.InstStoreFacts
import PyProof.ExcInit
import KE.KMinBuiltin
import PyProof.MinMaxWalk
import PyProof.Rows.CallKwBuiltin
import PyProof.WalkInts
import PySem.Challenge.RW_shopbound_k68_rows_by_rules
set_option Elab.async false
set_option linter.all false
set_option maxRecDepth 100000
theorem oBd {α:Type u} {β:Type v} {o:Option α} {f:α->Option β} {b:β} (h:o.bind f=some b):∃ a,o=some a/\f a=some b:=Option.bind_eq_some_iff.mp h
theorem oMd {α:Type u} {β:Type v} {o:Option α} {f:α->β} {b:β} (h:o.map f=some b):∃ a,o=some a/\f a=b:=Option.map_eq_some_iff.mp h
noncomputable section
section
open PySem PySem.Spec PyProof.Rows
def qa:=@Option.bind_some
def qb:=@List.getElem?_cons_zero
def qc:=@List.getElem?_cons_succ
def qd:=@Option.map_some
def qe:=@List.length_map
def qf:=@List.mem_cons_self
def qg:=@List.mem_cons_of_mem
def qh:=@List.length_cons
def qi:=@List.length_append
def qj:=@List.getElem?_map
def qk:=@List.length_nil
def ql:=@List.map_cons
def qm:=@List.map_map
def qo:=@List.cons_append
def qp:=@Bool.false_eq_true
def qq:=@Bool.false_ne_true
def qr:=@Heap.get?_push_of_some
def qt:=@Heap.lt_size
def qu:=@Nat.le_refl
def qv:=@List.append_assoc
def qw:=@wpAny_bind
def qx:=@List.getElem?_append_left
def qy:=@wpAny_pure
def qz:=@List.size_toArray
def qA:=@Nat.ne_of_lt
def qB:=@List.getElem?_eq_getElem
def qC:=@List.length_take
def qD:=@Nat.lt_of_lt_of_le
def qF:=@Heap.get?_push_size
def qG:=@Option.some.inj
def qH:=@Array.getElem?_toList
def qI:=@List.not_mem_nil
def qJ:=@List.getElem?_append_right
def qK:=@List.mem_cons
def qL:=@Nat.le_trans
def qM:=@decide_eq_false
def qN:=@List.map_nil
def qO:=@List.mem_of_getElem?
def qP:=@List.mem_append_right
def qQ:=@List.nil_append
def qR:=@decide_eq_true
def qS:=@wpAny_holding
def qT:=@List.length_range
def qU:=@List.mem_map_of_mem
def qV:=@if_pos
def qW:=@if_neg
end
section
namespace L2
open PySem PySem.Spec PyProof.Rows
abbrev Key:=Sum Int Str
noncomputable def zkQ:Key->Value->Bool
 | .inl k,v=>Value.isInt k v
 | .inr x,v=>Value.isStrOf x v
def zv6 (w:World):Key->Int
 | .inl k=>hashInt k
 | .inr x=>hashStr w x
theorem zbk:∀ {k:Key} {v:Value},zkQ k v=true->(∃ i t,k=Sum.inl i/\v=Value.int i t)\/(∃ x t,k=Sum.inr x/\v=Value.str x t)
 | .inl i,v,h=>by
  obtain ⟨t,e⟩:=Value.isInt_shape (k:=i) (v:=v) h
  exact .inl ⟨i,t,rfl,e⟩
 | .inr x,v,h=>by
  obtain ⟨t,e⟩:=Value.isStrOf_shape (x:=x) (v:=v) h
  exact .inr ⟨x,t,rfl,e⟩
theorem zmn (i:Int) (t:Tok):zkQ (.inl i) (.int i t)=true:=by simp [zkQ,Value.isInt]
theorem zmm (x:Str) (t:Tok):zkQ (.inr x) (.str x t)=true:=by simp [zkQ,Value.isStrOf]
theorem ztc (a b:Int):decide ((Sum.inl a:Key)=Sum.inl b)=(a==b):=by
 by_cases e:a=b
 ·subst e;simp
 ·have h:¬ (Sum.inl a:Key)=Sum.inl b:=fun q=>e (Sum.inl.inj q)
  rw [qM h]
  exact (beq_eq_false_iff_ne.mpr e).symm
theorem zs9 (a b:Str):decide ((Sum.inr a:Key)=Sum.inr b)=decide (a=b):=by
 by_cases e:a=b
 ·subst e;simp
 ·have h:¬ (Sum.inr a:Key)=Sum.inr b:=fun q=>e (Sum.inr.inj q)
  rw [qM h,qM e]
theorem ztb (a:Int) (b:Str):decide ((Sum.inl a:Key)=Sum.inr b)=false:=qM (fun q=>nomatch q)
theorem zta (a:Str) (b:Int):decide ((Sum.inr a:Key)=Sum.inl b)=false:=qM (fun q=>nomatch q)
def zaM (prog:Program) (w:World):PySem.KeyKind prog w Key where
 is:=zkQ
 hash:=zv6 w
 inj:=fun v a b ha hb=>by
  rcases zbk ha with ⟨i,t,rfl,rfl⟩ | ⟨x,t,rfl,rfl⟩
  ·rcases zbk hb with ⟨j,u,rfl,e⟩ | ⟨y,u,rfl,e⟩
   ·injection e with e1 _;rw [e1]
   ·exact nomatch e
  ·rcases zbk hb with ⟨j,u,rfl,e⟩ | ⟨y,u,rfl,e⟩
   ·exact nomatch e
   ·injection e with e1 _;rw [e1]
 byValue:=fun k v h=>by
  rcases zbk h with ⟨i,t,rfl,rfl⟩ | ⟨x,t,rfl,rfl⟩ <;> rfl
 pyHash:=fun hv h=>by
  rcases zbk hv with ⟨i,t,rfl,rfl⟩ | ⟨x,t,rfl,rfl⟩
  ·exact wpAny_pyHash_int h
  ·exact wpAny_pyHash_str h
 eqBool:=fun hu hv h=>by
  rcases zbk hu with ⟨i,t,rfl,rfl⟩ | ⟨x,t,rfl,rfl⟩
  ·rcases zbk hv with ⟨j,u,rfl,rfl⟩ | ⟨y,u,rfl,rfl⟩
   ·rw [ztc] at h;exact wpAny_eqBool_int h
   ·rw [ztb] at h;exact SeqAt.EqAt.int_str i t y u _ _ _ _ h
  ·rcases zbk hv with ⟨j,u,rfl,rfl⟩ | ⟨y,u,rfl,rfl⟩
   ·rw [zta] at h;exact SeqAt.EqAt.str_int x t j u _ _ _ _ h
   ·rw [zs9] at h;exact wpAny_eqBool_str h
 «strs»:=fun k x t v h=>by
  rcases zbk h with ⟨i,u,rfl,e⟩ | ⟨y,u,rfl,e⟩
  ·exact nomatch e
  ·injection e with e1 _
   subst e1
   cases v <;> rfl
theorem zi4 (prog:Program) (w:World) (i:Int) (t:Tok):(zaM prog w).is (.inl i) (.int i t)=true:=zmn i t
theorem zi3 (prog:Program) (w:World) (x:Str) (t:Tok):(zaM prog w).is (.inr x) (.str x t)=true:=zmm x t
inductive V where
 | non | bl (b:Bool) | int (i:Int) | str (x:Str) | byt (b:Array UInt8) | flt (b:UInt64) | ref (a:Addr) | ty (n:String)
 deriving DecidableEq
noncomputable def zbX:V->Value->Prop
 | .non,u=>u=Value.none
 | .bl b,u=>u=Value.bool b
 | .int i,u=>∃ t,u=Value.int i t
 | .str x,u=>∃ t,u=Value.str x t
 | .byt b,u=>∃ t,u=Value.bytes b t
 | .flt b,u=>∃ t,u=Value.float b t
 | .ref a,u=>u=Value.ref a
 | .ty n,u=>u=Value.type n
abbrev zbI:List V->List Value->Prop:=Paired zbX
theorem zbI.length {xs:List V} {us:List Value} (r:zbI xs us):xs.length=us.length:=Paired.length r
theorem zbI.get:∀ {xs:List V} {us:List Value} {i:Nat} {x:V},zbI xs us->xs[i]?=some x->∃ u,us[i]?=some u/\zbX x u
 | _,_,_,_,.nil,e=>by simp at e
 | _,_,0,_,.cons r _,e=>by simp at e;subst e;exact ⟨_,rfl,r⟩
 | _,_,i+1,x,.cons _ t,e=>by
  obtain ⟨u,h1,h2⟩:=zbI.get (i:=i) (x:=x) t (by simpa using e)
  exact ⟨u,by simpa using h1,h2⟩
theorem zbI.append:∀ {xs ys:List V} {us ws:List Value},zbI xs us->zbI ys ws->zbI (xs++ys) (us++ws)
 | _,_,_,_,.nil,s=>s
 | _,_,_,_,.cons r t,s=>.cons r (zbI.append t s)
theorem zbI.take:∀ {xs:List V} {us:List Value} (n:Nat),zbI xs us->zbI (xs.take n) (us.take n)
 | _,_,0,_=>.nil
 | _,_,_+1,.nil=>.nil
 | _,_,n+1,.cons r t=>.cons r (zbI.take n t)
theorem zbI.drop:∀ {xs:List V} {us:List Value} (n:Nat),zbI xs us->zbI (xs.drop n) (us.drop n)
 | _,_,0,r=>r
 | _,_,_+1,.nil=>.nil
 | _,_,n+1,.cons _ t=>zbI.drop n t
def zhO:Option V->Option Value->Prop
 | some v,some u=>zbX v u
 | none,none=>True
 | _,_=>False
variable {κ:Type}
def KV :List (κ×V)->List (κ×Value)->Prop:=Paired fun (p:κ×V) (q:κ×Value)=>p.1=q.1/\zbX p.2 q.2
def kV:Key->V
 | .inl i=>.int i
 | .inr x=>.str x
inductive HO where
 | lst (xs:List V)
 | tup (xs:List V)
 | dK (kvs:List (Key×V)) | dT (kvs:List (List Key×V))
 | set (S:Int->Bool) (n:Nat)
 | ins (C dx:Addr) (fs:List (Str×V))
 | own (x:Addr)
 | xd (fs:List (Str×V))
 | met (f x:Addr)
 | rng (lo hi:Int)
 | frz (o:Obj) (u:HO)
 | tbl (ps:Array Value)
 | ext (φ:Heap->Prop)
abbrev Hp:=Addr->Option HO
noncomputable def upd (H:Hp) (a:Addr) (o:HO):Hp:=fun b=>if b=a then some o else H b
variable {H:Hp} {a:Addr}
theorem zak {o:HO} :upd H a o a=some o:=by unfold upd;rw [qV rfl]
theorem zaj {b:Addr} {o:HO} (h:b≠a):upd H a o b=H b:=by unfold upd;rw [qW h]
theorem zl3 {b:Addr} {o u:HO} (h:H a=some o) (h':H b=some u) (d:o≠u):a≠b:=by
 intro e;subst e;rw [h] at h';exact d (qG h')
theorem zal {b:Addr} {o:HO} (h:H a=some o) (h':H b=none):a≠b:=by
 intro e;subst e;rw [h] at h';cases h'
section
variable (P:Program) (w:World)
def zcm (H:Hp) (h:Heap) (a:Addr):HO->Prop
 | .lst xs=>xs.length<=sizeLine/\∃ (its:List Value) (n:Nat),zbI xs its/\h.get? a=some { cls:=.type "list",data:=.seq its.toArray n }
 | .tup xs=>xs.length<=sizeLine/\∃ its:List Value,zbI xs its/\IsTup h a its.toArray
 | .dK kvs=>kvs.length<=sizeLine/\(a==sysModules)=false/\∃ vs,KV kvs vs/\h.DictOf (zaM P w) a vs
 | .dT kvs=>kvs.length<=sizeLine/\(a==sysModules)=false/\∃ xs:List (List Key×Addr×Value),
   Paired (fun (p:List Key×V) (q:List Key×Addr×Value)=>p.1=q.1/\H q.2.1=some (.tup (p.1.map kV))/\zbX p.2 q.2.2) kvs xs /\
   ∃ o es ep,h.get? a=some o/\o.ExactDict/\o.data=.dict es ep/\es.toList=xs.map (entryOfKey (tupleKind (zaM P w)))/\(xs.map (·.1)).Nodup
 | .set S n=>h.SetOf (intKind P w) a S n
 | .ins C dx fs=>H dx=some (.own a)/\fs.length<=1000/\dx≠a/\h.get? a=some (PySem.W.instObj C dx) /\
   ∃ mA,h.Ns1 dx mA/\(∀ f,zhO (fs.lookup f) (mA f))/\PySem.Within mA (fs.map (·.1))
 | .own _=>∃ o,h.get? a=some o
 | .xd fs=>∃ mA,h.Ns1 a mA/\∀ f,zhO (fs.lookup f) (mA f)
 | .rng lo hi=>∃ t u v,h.get? a=some { cls:=.type "range",data:=.fields #[.int lo t,.int hi u,.int 1 v] }
 | .frz o u=>h.get? a=some o/\zcm H h a u
 | .tbl ps=>h.get? a=some { cls:=.none,data:=.fields ps }
 | .met f x=>h.get? a=some (PySem.W.methodObj (.ref f) (.ref x))
 | .ext φ=>φ h/\(∃ o,h.get? a=some o)/\∀ h1 h2:Heap,φ h1->(∀ o,h1.get? a=some o->h2.get? a=some o)->φ h2
def HOk (H:Hp) (h:Heap):Prop:=∀ a o,H a=some o->zcm P w H h a o
end
variable {P:Program} {w:World} {H':Hp} {h':Heap}
section
variable {h:Heap} {o:HO}
theorem zcm.lt (x:zcm P w H h a o):a < h.objs.size:=by
 cases o with
 | lst xs=>obtain ⟨_,_,_,_,e⟩:=x;exact qt e
 | tup xs=>obtain ⟨_,_,_,p⟩:=x;exact p.lt
 | dK kvs=>obtain ⟨_,_,_,_,o,_,_,e,_⟩:=x;exact qt e
 | dT kvs=>obtain ⟨_,_,_,_,o,_,_,e,_⟩:=x;exact qt e
 | set S n=>obtain ⟨o,_,_,_,e,_⟩:=x;exact qt e
 | ins C dx fs=>obtain ⟨_,_,_,e,_⟩:=x;exact qt e
 | own y=>obtain ⟨_,e⟩:=x;exact qt e
 | xd fs=>obtain ⟨_,⟨_,_,_,e,_⟩,_⟩:=x;exact qt e
 | rng lo hi=>obtain ⟨_,_,_,e⟩:=x;exact qt e
 | frz ob u=>obtain ⟨e,_⟩:=x;exact qt e
 | tbl ps=>exact qt (show h.get? a=some _ from x)
 | met f y=>exact qt (show h.get? a=some _ from x)
 | ext φ=>obtain ⟨_,⟨_,e⟩,_⟩:=x;exact qt e
theorem Paired.mapP {α β:Type} {F G:α->β->Prop}:∀ {l₁:List α} {l₂:List β},Paired F l₁ l₂->(∀ a b,F a b->G a b)->Paired G l₁ l₂
 | _,_,.nil,_=>.nil
 | _,_,.cons r t,f=>.cons (f _ _ r) (Paired.mapP t f)
theorem zcm.stay (x:zcm P w H h a o) (k:∀ b u,(b=a\/H b=some (.own a))->h.get? b=some u->h'.get? b=some u)
  (ho:∀ b,H b=some (.own a)->H' b=some (.own a)) (ht:∀ b xs,H b=some (.tup xs)->H' b=some (.tup xs)):zcm P w H' h' a o:=by
 induction o with
 | lst xs=>obtain ⟨z,its,n,r,e⟩:=x;exact ⟨z,its,n,r,k _ _ (.inl rfl) e⟩
 | tup xs=>obtain ⟨z,its,r,ob,e,c⟩:=x;exact ⟨z,its,r,ob,k _ _ (.inl rfl) e,c⟩
 | dK kvs=>obtain ⟨z,y,vs,r,ob,es,ep,e,c⟩:=x;exact ⟨z,y,vs,r,ob,es,ep,k _ _ (.inl rfl) e,c⟩
 | dT kvs =>
  obtain ⟨z,y,xs,r,ob,es,ep,e,c⟩:=x
  exact ⟨z,y,xs,Paired.mapP r fun p q z=>⟨z.1,ht _ _ z.2.1,z.2.2⟩,ob,es,ep,k _ _ (.inl rfl) e,c⟩
 | set S n=>obtain ⟨ob,es,ep,t,e,c⟩:=x;exact ⟨ob,es,ep,t,k _ _ (.inl rfl) e,c⟩
 | ins C dx fs =>
  obtain ⟨d,z,ne,e,mA,⟨od,es,ep,e2,c⟩,r⟩:=x
  exact ⟨ho _ d,z,ne,k _ _ (.inl rfl) e,mA,⟨od,es,ep,k _ _ (.inr d) e2,c⟩,r⟩
 | own y=>obtain ⟨ob,e⟩:=x;exact ⟨ob,k _ _ (.inl rfl) e⟩
 | xd fs=>obtain ⟨mA,⟨od,es,ep,e,c⟩,r⟩:=x;exact ⟨mA,⟨od,es,ep,k _ _ (.inl rfl) e,c⟩,r⟩
 | rng lo hi=>obtain ⟨t,u,v,e⟩:=x;exact ⟨t,u,v,k _ _ (.inl rfl) e⟩
 | frz ob u ih=>obtain ⟨e,q⟩:=x;exact ⟨k _ _ (.inl rfl) e,ih q⟩
 | tbl ps =>
  have e:h.get? a=some { cls:=.none,data:=.fields ps }:=x
  show h'.get? a=some { cls:=.none,data:=.fields ps }
  exact k a _ (.inl rfl) e
 | met f y =>
  have e:h.get? a=some (PySem.W.methodObj (.ref f) (.ref y)):=x
  show h'.get? a=some (PySem.W.methodObj (.ref f) (.ref y))
  exact k a _ (.inl rfl) e
 | ext φ=>obtain ⟨p,⟨o,e⟩,st⟩:=x;exact ⟨st _ _ p fun o q=>k _ _ (.inl rfl) q,⟨o,k _ _ (.inl rfl) e⟩,st⟩
theorem HOk.lt (x:HOk P w H h) (e:H a=some o):a < h.objs.size:=(x a o e).lt
theorem HOk.fresh (x:HOk P w H h) (e:h.objs.size<=a):H a=none:=by
 cases q:H a with
 | none=>rfl
 | some u=>exact absurd (qD (x.lt q) e) (Nat.lt_irrefl _)
theorem HOk.kept (x:HOk P w H h) (k:∀ b u,h.get? b=some u->h'.get? b=some u):HOk P w H h':=fun a o e =>
 (x a o e).stay (fun b u _ q=>k b u q) (fun _ q=>q) fun _ _ q=>q
theorem HOk.laid (x:HOk P w H h) (k:∀ b u,h.get? b=some u->h'.get? b=some u) (hp:h.objs.size<=a) (new:zcm P w (upd H a o) h' a o):HOk P w (upd H a o) h':=fun b u e=>by
 have hn:=x.fresh hp
 by_cases hb:b=a
 ·subst hb;rw [zak] at e;cases e;exact new
 ·rw [zaj hb] at e
  exact (x b u e).stay (fun c v _ q=>k c v q) (fun c q=>by rw [zaj (zal q hn)];exact q) fun c xs q=>by rw [zaj (zal q hn)];exact q
end
def Rd (H:Hp) (a:Addr) (u:HO):Prop:=H a=some u\/∃ o,H a=some (.frz o u)
theorem Rd.ok {h:Heap} {u:HO} (r:Rd H a u) (x:HOk P w H h):zcm P w H h a u:=by
 rcases r with r | ⟨o,r⟩
 ·exact x a u r
 ·obtain ⟨_,q⟩:=x a _ r
  exact q
def Mut:Option HO->Prop
 | some (.lst _)=>True
 | some (.dK _)=>True
 | some (.dT _)=>True
 | some (.set _ _)=>True
 | some (.ins _ _ _)=>True
 | some (.ext _)=>True
 | _=>False
section
variable {h:Heap} {x e:Addr} {o':HO}
theorem HOk.write (ok:HOk P w H h) (mu:Mut (H x)) (he:e=x\/H e=some (.own x)) (k:∀ b u,b≠e->h.get? b=some u->h'.get? b=some u) (heo:∃ u,h'.get? e=some u)
  (new:zcm P w (upd H x o') h' x o'):HOk P w (upd H x o') h':=fun b u q=>by
 have nown:∀ c y,H c=some (.own y)->c≠x:=fun c y r z=>by subst z;rw [r] at mu;exact mu
 have ntup:∀ c xs,H c=some (.tup xs)->c≠x:=fun c xs r z=>by subst z;rw [r] at mu;exact mu
 by_cases hb:b=x
 ·subst hb;rw [zak] at q;cases q;exact new
 ·rw [zaj hb] at q
  by_cases hbe:b=e
  ·have q':H b=some (.own x):=by
    rcases he with z | z
    ·exact absurd (hbe.trans z) hb
    ·rw [hbe];exact z
   rw [q] at q';cases q'
   obtain ⟨v,hv⟩:=heo
   exact ⟨v,by rw [hbe];exact hv⟩
  ·refine (ok b u q).stay (fun c v hc r=>k c v ?_ r) (fun c r=>by rw [zaj (nown c b r)];exact r) fun c xs r=>by rw [zaj (ntup c xs r)];exact r
   rcases hc with rfl | hc
   ·exact hbe
   ·rintro rfl
    rcases he with z | z
    ·exact nown c b hc z
    ·rw [hc] at z;cases z;exact hb rfl
end
structure Un (fs ex:List Addr) (H H':Hp) (h h':Heap):Prop where
 keep:∀ b o,h.get? b=some o->H b=none->b∉fs->b∉ex->h'.get? b=some o
 slot:∀ b o,h.get? b=some o->H b=none->b∈fs->b∉ex->∃ sl,h'.get? b=some { o with slots:=sl }
 free:∀ b o,h.get? b=some o->H b=none->b∉ex->H' b=none
 there:∀ b o,h.get? b=some o->b∉ex->∃ o',h'.get? b=some o'
 tups:∀ b xs,H b=some (.tup xs)->H' b=some (.tup xs)
 frzs:∀ b o u,H b=some (.frz o u)->H' b=some (.frz o u)
 tbls:∀ b ps,H b=some (.tbl ps)->∃ more,H' b=some (.tbl (ps++more))
variable {H1 H2:Hp} {h1 h2:Heap}
section
variable {fs fs' ex ex':List Addr} {h:Heap} {x e:Addr} {o:HO}
theorem Un.any (u:Un fs ex H H1 h h1) {b:Addr} {ob:Obj} (q:h.get? b=some ob) (n:H b=none) (hx:b∉ex):∃ sl,h1.get? b=some { ob with slots:=sl }:=by
 by_cases hb:b∈fs
 ·exact u.slot b ob q n hb hx
 ·exact ⟨ob.slots,u.keep b ob q n hb hx⟩
theorem Un.kept (k:∀ b u,h.get? b=some u->h'.get? b=some u):Un fs ex H H h h' :=
 ⟨fun b ob q _ _ _=>k b ob q,fun b ob q _ _ _=>⟨ob.slots,k b ob q⟩,fun _ _ _ n _=>n,fun b ob q _=>⟨ob,k b ob q⟩,fun _ _ q=>q,fun _ _ _ q=>q,fun _ ps q=>⟨#[],by rw [q];simp⟩⟩
theorem Un.refl:Un fs ex H H h h:=Un.kept fun _ _ q=>q
theorem Un.laid (k:∀ b u,h.get? b=some u->h'.get? b=some u) (hp:h.objs.size<=a) (hn:H a=none):Un fs ex H (upd H a o) h h' where
 keep:=fun b u q _ _ _=>k b u q
 slot:=fun b u q _ _ _=>⟨u.slots,k b u q⟩
 free:=fun b u q n _=>by rw [zaj (qA (qD (qt q) hp))];exact n
 there:=fun b u q _=>⟨u,k b u q⟩
 tups:=fun b xs q=>by rw [zaj (zal q hn)];exact q
 frzs:=fun b u xs q=>by rw [zaj (zal q hn)];exact q
 tbls:=fun b ps q=>⟨#[],by rw [zaj (zal q hn),q];simp⟩
theorem Un.write (mu:Mut (H x)) (he:e=x\/H e=some (.own x)) (k:∀ b u,b≠e->h.get? b=some u->h'.get? b=some u) (heo:∃ u,h'.get? e=some u):Un fs ex H (upd H x o) h h':=by
 have hx:∀ b,H b=none->b≠x:=fun b n z=>by subst z;rw [n] at mu;exact mu
 have hb:∀ b,H b=none->b≠e:=fun b n z=>by
  subst z
  rcases he with r | r
  ·exact hx b n r
  ·rw [n] at r;cases r
 have hm:∀ b u,H b=some u->¬ Mut (some u)->b≠x:=fun b u q nm z=>by subst z;rw [q] at mu;exact nm mu
 refine ⟨fun b u q n _ _=>k b u (hb b n) q,fun b u q n _ _=>⟨u.slots,k b u (hb b n) q⟩,fun b u q n _=>by rw [zaj (hx b n)];exact n,fun b u q _=>?_,
  fun b xs q=>by rw [zaj (hm b _ q fun z=>z)];exact q,fun b u xs q=>by rw [zaj (hm b _ q fun z=>z)];exact q,fun b ps q=>⟨#[],by rw [zaj (hm b _ q fun z=>z),q];simp⟩⟩
 by_cases hbe:b=e
 ·subst hbe;exact heo
 ·exact ⟨u,k b u hbe q⟩
end
def trk (h:Heap) (H:Hp):List Addr:=(List.range h.objs.size).filter fun a=>(H a).isSome
def zjc (h:Heap) (H:Hp):Heap:=PySem.W.hideAll h (trk h H)
theorem zim (h:Heap) (H:Hp):(zjc h H).objs.size=h.objs.size:=PySem.W.hideAll_size _ _
theorem zkc {h:Heap} {b:Addr} {o:Obj} (e:h.get? b=some o) (n:H b=none):(zjc h H).get? b=some o :=
 PySem.W.hideAll_get _ e fun hm=>by
  have q:(H b).isSome=true:=(List.mem_filter.mp hm).2
  rw [n] at q;simp at q
theorem zl1 {h:Heap} {b:Addr} {o:Obj} (e:(zjc h H).get? b=some o):h.get? b=some o/\H b=none:=by
 have e':h.get? b=some o:=PySem.W.of_hideAll (trk h H) e
 refine ⟨e',?_⟩
 cases q:H b with
 | none=>rfl
 | some x =>
  have hm:b∈trk h H:=List.mem_filter.mpr ⟨List.mem_range.mpr (qt e'),by simp [q]⟩
  have z:(zjc h H).get? b=none:=PySem.W.hideAll_none (trk h H) hm
  rw [z] at e;cases e
def zgr (g h:Heap) (L:Addr):List (Addr×Obj):=(List.range h.objs.size).filterMap fun a=>if a=L\/(g.get? a).isSome=true then none else (h.get? a).map fun o=>(a,o)
variable {L:Addr}
theorem zi5 {g h:Heap} {o:Obj} (h1:a≠L) (h2:g.get? a=none) (h3:h.get? a=some o):(a,o)∈zgr g h L :=
 List.mem_filterMap.mpr ⟨a,List.mem_range.mpr (qt h3),by simp [h1,h2,h3]⟩
theorem zgz {g h:Heap} {p:Addr×Obj} (hp:p∈zgr g h L):p.1≠L/\g.get? p.1=none/\h.get? p.1=some p.2:=by
 obtain ⟨b,_,e⟩:=List.mem_filterMap.mp hp
 split at e
 ·cases e
 ·rename_i hn
  cases q:h.get? b with
  | none=>rw [q] at e;simp at e
  | some u =>
   rw [q] at e
   simp only [qd,Option.some.injEq] at e
   subst e
   refine ⟨fun z=>hn (.inl z),?_,q⟩
   show g.get? b=none
   cases r:g.get? b with
   | none=>rfl
   | some v=>exact (hn (.inr (by simp [r]))).elim
def zcK (g h:Heap) (L d:Addr):List (Addr×Obj):=(zgr g h L).filter fun p=>decide (p.1≠d)
theorem zoa {g h:Heap} :News g L h (zgr g h L):=fun p hp=>let ⟨a,b,c⟩:=zgz hp;⟨c,a,b⟩
structure Mod (K:PySem.W.Frag) (mg:Str->Option Value) (base:Heap):Prop where
 kin:K.In base
 glob:base.Ns mainGlobals mg
 blt:∃ mb,base.Ns builtinsNs mb/\∀ x:Str,x≠"__name__"->mb x=bootBuiltins x
 nolimit:base.NoLimit
structure Cx where
 prog:Program
 w:World
 K:PySem.W.Frag
 mg:Str->Option Value
 base:Heap
 A:Around
 N:List Str
 s₀:Shared
 H₀:Hp
 env:Env
 outer:List Env
 stack:List Env
 ex:List Addr
 fn:Str->Bool
 calm:Bool
 pn:List (Addr×Obj)
 xe:Value->Shared->Prop
noncomputable def frs (l:List Env):List Addr:=l.filterMap (·.frame)
abbrev Cx.fs (X:Cx):List Addr:=frs X.outer
def Vis (sc:Scope) (x:Str):Prop:=sc.names.lookup x=some .local\/sc.names.lookup x=some .cell\/sc.names.lookup x=some .free
def Loc (sc:Scope) (x:Str):Prop:=sc.names.lookup x=some .local\/sc.names.lookup x=some .cell
def zwl (env:Env) (h:Heap) (m:Str->Option Value) (x:Str) (u:Value):Prop :=
 (env.kindOf x=some .local/\m x=some u)\/((env.kindOf x=some .cell\/env.kindOf x=some .free)/\∃ c,env.cells.lookup x=some c/\h.IsCell c (some u))
structure Cx.Ok (X:Cx):Prop where
 mod:Mod X.K X.mg X.base
 kind:X.env.scope.kind=.function
 glob:X.env.globals=mainGlobals
 blt:X.env.builtins=builtinsNs
 above:X.s₀.heap.objs.size<=X.env.locals
 inj:∀ x y c,X.env.cells.lookup x=some c->X.env.cells.lookup y=some c->x=y
 has:∀ x,(X.env.kindOf x=some .cell\/X.env.kindOf x=some .free)->∃ c,X.env.cells.lookup x=some c
 cab:∀ x c,X.fn x=true->X.env.cells.lookup x=some c->X.s₀.heap.objs.size<=c
 hd:X.calm=true->X.A.handled=none
 frames:X.A.frames=some X.stack
 stk:X.stack=X.outer\/(X.stack=X.env::X.outer/\X.env.frame=some X.env.locals)
 exf:∀ b∈X.ex,b≠X.env.locals/\∀ x c,X.env.cells.lookup x=some c->c≠b
 bs:∀ b o,X.base.get? b=some o->X.s₀.heap.get? b=some o/\X.H₀ b=none
 bsz:X.base.objs.size<=X.s₀.heap.objs.size
 noex:∀ b o,X.base.get? b=some o->b∉X.ex
 exfs:∀ b∈X.ex,b∉X.fs
 funs:X.s₀.heap.FunFrames X.base X.outer
 frf:∀ b∈X.fs,X.H₀ b=none
structure Inv (X:Cx) (pins:List (Addr×Obj)) (σ:List (Option V)) (H:Hp) (s:Shared):Prop where
 ok:X.Ok
 os:s.os=X.s₀.os
 bare:AllBare s.gens
 base:Un X.fs X.ex X.H₀ H X.s₀.heap s.heap
 loc:∃ m,s.heap.Ns X.env.locals m/\∀ (i:Nat) (x:Str) (v:V),X.N[i]?=some x->σ[i]?=some (some v)->Vis X.env.scope x->∃ u,zbX v u/\zwl X.env s.heap m x u
 cell:∀ x c,X.env.cells.lookup x=some c->∃ v,s.heap.IsCell c v
 free:H X.env.locals=none
 freeC:∀ x c,X.env.cells.lookup x=some c->H c=none
 pin:∀ p∈X.pn++pins,s.heap.get? p.1=some p.2/\H p.1=none/\p.1≠X.env.locals/\p.1∉X.fs/\∀ v,p.2.data≠.cell v
 hok:HOk X.prog X.w H s.heap
 len:σ.length=X.N.length
variable {X:Cx} {pins:List (Addr×Obj)} {s s':Shared} {t' i j:Nat} {d':Drawn} {N:List Str} {x:Str} {A:Around} {E:Value->Shared->Prop} {v:V} {u:Value}
section
variable {σ:List (Option V)}
theorem Cx.Ok.nofr (ok:X.Ok) {b:Addr} {o:Obj} (e:X.base.get? b=some o):b∉X.fs:=fun hb=>by
 have:=(ok.funs.mem hb).1
 rw [e] at this;cases this
theorem Inv.bs (I:Inv X pins σ H s):∀ b o,X.base.get? b=some o->s.heap.get? b=some o/\H b=none:=fun b o e =>
 ⟨I.base.keep b o (I.ok.bs b o e).1 (I.ok.bs b o e).2 (I.ok.nofr e) (I.ok.noex b o e),I.base.free b o (I.ok.bs b o e).1 (I.ok.bs b o e).2 (I.ok.noex b o e)⟩
theorem Inv.bk (I:Inv X pins σ H s):∀ b o,X.base.get? b=some o->s.heap.get? b=some o:=fun b o e=>(I.bs b o e).1
theorem Inv.mod (I:Inv X pins σ H s):Mod X.K X.mg X.base:=I.ok.mod
theorem Inv.kIn (I:Inv X pins σ H s):X.K.In s.heap:=I.ok.mod.kin.keeps I.bk
theorem Inv.fr (I:Inv X pins σ H s):∃ m,Fr X.base X.env.locals s.heap m :=
 let ⟨m,hn,_⟩:=I.loc
 ⟨m,hn,I.bk,qL I.ok.bsz I.ok.above⟩
theorem Inv.lt (I:Inv X pins σ H s):X.env.locals < s.heap.objs.size:=let ⟨_,hn,_⟩:=I.loc;hn.lt
theorem Inv.sz (I:Inv X pins σ H s):X.s₀.heap.objs.size<=s.heap.objs.size:=qL I.ok.above (Nat.le_of_lt I.lt)
theorem Inv.nofs (I:Inv X pins σ H s) (h:s.heap.objs.size<=a):a∉X.fs:=fun hb=>by
 obtain ⟨_,o,ho,_⟩:=I.ok.funs.mem hb
 exact absurd (qD (qt ho) (qL I.sz h)) (Nat.lt_irrefl _)
theorem Inv.cne (I:Inv X pins σ H s):∀ x c,X.env.cells.lookup x=some c->c≠X.env.locals:=fun x c e z=>by
 obtain ⟨v,o,ho,hd⟩:=I.cell x c e
 obtain ⟨m,⟨o',es,ep,ho',hd',_⟩,_⟩:=I.loc
 rw [z,ho'] at ho;cases ho;rw [hd'] at hd;cases hd
theorem Inv.funs (I:Inv X pins σ H s):s.heap.FunFrames X.base X.outer:=by
 have all:∀ (l:List Env),(∀ b∈frs l,b∈X.fs)->X.s₀.heap.FunFrames X.base l->s.heap.FunFrames X.base l:=by
  intro l
  induction l with
  | nil=>intro _ _;trivial
  | cons env r ih =>
   intro hs hl
   obtain ⟨hk,⟨L,o,hf,hn,ho,hd⟩,hr⟩:=hl
   have hL:L∈X.fs:=hs L (by unfold frs;rw [List.filterMap_cons,hf];exact qf)
   obtain ⟨sl,e⟩:=I.base.slot L o ho (I.ok.frf L hL) hL fun z=>I.ok.exfs L z hL
   exact ⟨hk,⟨L,_,hf,hn,e,hd⟩,ih (fun b hb=>hs b (by unfold frs;rw [List.filterMap_cons,hf];exact qg _ hb)) hr⟩
 exact all X.outer (fun _ hb=>hb) I.ok.funs
theorem Inv.stack (I:Inv X pins σ H s):s.heap.FunFrames X.base X.stack:=by
 rcases I.ok.stk with e | ⟨e,hf⟩
 ·rw [e];exact I.funs
 ·rw [e]
  obtain ⟨m,hn,_⟩:=I.loc
  refine .cons (by rw [I.ok.kind];decide) hf hn ?_ I.funs
  exact Heap.get?_none_of_le (qL I.ok.bsz I.ok.above)
theorem Inv.stkSub (I:Inv X pins σ H s):∀ b∈frs X.stack,b∈X.env.locals::X.fs:=fun b hb=>by
 rcases I.ok.stk with e | ⟨e,hf⟩
 ·rw [e] at hb;exact qg _ hb
 ·rw [e] at hb
  unfold frs at hb
  rw [List.filterMap_cons,hf] at hb
  exact hb
theorem Inv.stkFree (I:Inv X pins σ H s):∀ b∈frs X.stack,H b=none:=fun b hb=>by
 rcases List.mem_cons.mp (I.stkSub b hb) with e | hb
 ·rw [e];exact I.free
 ·obtain ⟨_,o,ho,_⟩:=I.ok.funs.mem hb
  exact I.base.free b o ho (I.ok.frf b hb) fun z=>I.ok.exfs b z hb
theorem Inv.step {g':Array GenState} {ch:List Addr} (I:Inv X pins σ H s)
  (hch:∀ b∈ch,(b∈X.ex\/X.s₀.heap.objs.size<=b)/\b≠X.env.locals/\(∀ x c,X.env.cells.lookup x=some c->c≠b)/\∀ p∈X.pn++pins,p.1≠b)
  (keep:∀ b o,b≠X.env.locals->b∉X.fs->b∉ch->s.heap.get? b=some o->H b=none->h'.get? b=some o)
  (slot:∀ b o,b≠X.env.locals->b∈X.fs->b∉ch->s.heap.get? b=some o->H b=none->∃ sl,h'.get? b=some { o with slots:=sl }) (free:∀ b o,b∉ch->s.heap.get? b=some o->H b=none->H' b=none)
  (there:∀ b o,b∉ch->s.heap.get? b=some o->∃ o',h'.get? b=some o')
  (tups:∀ b xs,H b=some (.tup xs)->H' b=some (.tup xs)) (frzs:∀ b o u,H b=some (.frz o u)->H' b=some (.frz o u)) (tbls:∀ b ps,H b=some (.tbl ps)->∃ more,H' b=some (.tbl (ps++more)))
  (ns:∀ m,s.heap.Ns X.env.locals m->h'.Ns X.env.locals m) (hok:HOk X.prog X.w H' h') (hg:AllBare g') :
  Inv X pins σ H' { s with heap:=h',gens:=g',drawn:=d',toks:=t' }:=by
 have neL:∀ b o,X.s₀.heap.get? b=some o->b≠X.env.locals:=fun b o e=>qA (qD (qt e) I.ok.above)
 have neC:∀ b o,X.s₀.heap.get? b=some o->b∉X.ex->b∉ch:=fun b o e hx hb=>by
  rcases (hch b hb).1 with z | z
  ·exact hx z
  ·exact absurd (qD (qt e) z) (Nat.lt_irrefl _)
 have cellK:∀ x c,X.env.cells.lookup x=some c->∀ v,s.heap.IsCell c v->h'.IsCell c v:=fun x c e v ⟨o,ho,hd⟩=>by
  have nch:c∉ch:=fun z=>(hch c z).2.2.1 x c e rfl
  by_cases hc:c∈X.fs
  ·obtain ⟨sl,q⟩:=slot c o (I.cne x c e) hc nch ho (I.freeC x c e)
   exact ⟨_,q,hd⟩
  ·exact ⟨o,keep c o (I.cne x c e) hc nch ho (I.freeC x c e),hd⟩
 refine ⟨I.ok,I.os,hg,⟨fun b o e n hb hx=>?_,fun b o e n hb hx=>?_,fun b o e n hx=>?_,fun b o e hx=>?_,fun b xs e=>tups b xs (I.base.tups b xs e),fun b o xs e=>frzs b o xs (I.base.frzs b o xs e),fun b ps e=>?_⟩,?_,fun x c e=>?_,?_,fun x c e=>?_,fun p hp=>?_,hok,I.len⟩
 ·exact keep b o (neL b o e) hb (neC b o e hx) (I.base.keep b o e n hb hx) (I.base.free b o e n hx)
 ·obtain ⟨sl,e1⟩:=I.base.slot b o e n hb hx
  obtain ⟨sl',e2⟩:=slot b _ (neL b o e) hb (neC b o e hx) e1 (I.base.free b o e n hx)
  exact ⟨sl',e2⟩
 ·obtain ⟨o',e1⟩:=I.base.there b o e hx
  exact free b o' (neC b o e hx) e1 (I.base.free b o e n hx)
 ·obtain ⟨o',e1⟩:=I.base.there b o e hx
  exact there b o' (neC b o e hx) e1
 ·obtain ⟨m1,e1⟩:=I.base.tbls b ps e
  obtain ⟨m2,e2⟩:=tbls b _ e1
  exact ⟨m1++m2,by rw [e2,Array.append_assoc]⟩
 ·obtain ⟨m,hn,hl⟩:=I.loc
  refine ⟨m,ns m hn,fun i x v e1 e2 e3=>?_⟩
  obtain ⟨u,r,l⟩:=hl i x v e1 e2 e3
  refine ⟨u,r,?_⟩
  rcases l with l | ⟨k,c,e,z⟩
  ·exact .inl l
  ·exact .inr ⟨k,c,e,cellK x c e _ z⟩
 ·obtain ⟨v,z⟩:=I.cell x c e
  exact ⟨v,cellK x c e v z⟩
 ·obtain ⟨m,⟨o,_,_,ho,_⟩,_⟩:=I.loc
  exact free _ o (fun z=>(hch _ z).2.1 rfl) ho I.free
 ·obtain ⟨v,o,ho,hd⟩:=I.cell x c e
  exact free c o (fun z=>(hch c z).2.2.1 x c e rfl) ho (I.freeC x c e)
 ·obtain ⟨e,n,ne,nf,d⟩:=I.pin p hp
  have nch:p.1∉ch:=fun z=>(hch p.1 z).2.2.2 p hp rfl
  exact ⟨keep p.1 p.2 ne nf nch e n,free p.1 p.2 nch e n,ne,nf,d⟩
theorem Inv.un (I:Inv X pins σ H s) (u:Un X.fs [] H H' s.heap h') (hok:HOk X.prog X.w H' h'):Inv X pins σ H' { s with heap:=h',toks:=t' }:=by
 obtain ⟨m,⟨o,es,ep,ho,r⟩,_⟩:=id I.loc
 obtain ⟨sl,hL⟩:=u.any ho I.free (by simp)
 exact I.step (g':=s.gens) (d':=s.drawn) (ch:=[]) (fun _ z=>nomatch z) (fun b o _ hb _ e n=>u.keep b o e n hb (by simp)) (fun b o _ hb _ e n=>u.slot b o e n hb (by simp)) (fun b o _ e n=>u.free b o e n (by simp)) (fun b o _ e=>u.there b o e (by simp)) u.tups u.frzs u.tbls (fun m' hm=>by
  obtain ⟨o',es',ep',ho',r'⟩:=hm
  rw [ho] at ho';cases ho'
  exact ⟨_,es',ep',hL,r'⟩) hok I.bare
theorem Inv.call {g':Array GenState} {ch:List Addr} (I:Inv X pins σ H s) (u:Un (frs X.stack) ch H H' s.heap h') (hok:HOk X.prog X.w H' h') (hg:AllBare g')
  (hch:∀ b∈ch,(b∈X.ex\/X.s₀.heap.objs.size<=b)/\b≠X.env.locals/\(∀ x c,X.env.cells.lookup x=some c->c≠b)/\∀ p∈X.pn++pins,p.1≠b) :
  Inv X pins σ H' { s with heap:=h',gens:=g',drawn:=d',toks:=t' }:=by
 obtain ⟨m,⟨o,es,ep,ho,r⟩,_⟩:=id I.loc
 obtain ⟨sl,hL⟩:=u.any ho I.free fun z=>(hch _ z).2.1 rfl
 exact I.step (ch:=ch) hch (fun b o hL hb hc e n=>u.keep b o e n (fun z=>(List.mem_cons.mp (I.stkSub b z)).elim hL hb) hc) (fun b o _ _ hc e n=>u.any e n hc) (fun b o hc e n=>u.free b o e n hc) (fun b o hc e=>u.there b o e hc) u.tups u.frzs u.tbls (fun m' hm=>by
  obtain ⟨o',es',ep',ho',r'⟩:=hm
  rw [ho] at ho';cases ho'
  exact ⟨_,es',ep',hL,r'⟩) hok hg
theorem Inv.turned {it:Addr} (I:Inv X pins σ H s) (k:∀ b o,b≠it->s.heap.get? b=some o->h'.get? b=some o) (hn:H it=none) (hL:it≠X.env.locals)
  (h1:it∈X.ex\/X.s₀.heap.objs.size<=it) (h2:∀ x c,X.env.cells.lookup x=some c->c≠it) (h3:∀ p∈X.pn++pins,p.1≠it):Inv X pins σ H { s with heap:=h',toks:=t' }:=by
 have nit:∀ b u,H b=some u->b≠it:=fun b u e z=>by rw [z,hn] at e;cases e
 refine I.step (g':=s.gens) (d':=s.drawn) (ch:=[it]) (fun b hb=>?_) (fun b o _ _ hc e _=>k b o (fun z=>hc (by simp [z])) e) (fun b o _ _ hc e _=>⟨o.slots,k b o (fun z=>hc (by simp [z])) e⟩) (fun _ _ _ _ n=>n)
  (fun b o hc e=>⟨o,k b o (fun z=>hc (by simp [z])) e⟩) (fun _ _ e=>e) (fun _ _ _ e=>e) (fun b ps e=>⟨#[],by rw [e];simp⟩) (fun m hm=>?_) (fun b u e=>?_) I.bare
 ·have e:b=it:=by simpa using hb
  subst e
  exact ⟨h1,hL,h2,h3⟩
 ·obtain ⟨o,es,ep,ho,r⟩:=hm
  exact ⟨o,es,ep,k _ o (Ne.symm hL) ho,r⟩
 ·refine (I.hok b u e).stay (fun c v hc q=>k c v ?_ q) (fun _ q=>q) fun _ _ q=>q
  rcases hc with z | z
  ·rw [z];exact nit b u e
  ·exact nit c _ z
theorem Inv.tok (I:Inv X pins σ H s) (t:Nat):Inv X pins σ H { s with toks:=t }:=I.un (h':=s.heap) (t':=t) Un.refl I.hok
theorem Inv.kept {t':Nat} (I:Inv X pins σ H s) (k:∀ b u,s.heap.get? b=some u->h'.get? b=some u):Inv X pins σ H { s with heap:=h',toks:=t' }:=I.un (Un.kept k) (I.hok.kept k)
theorem Inv.laid {a:Addr} {o:HO} {t':Nat} (I:Inv X pins σ H s) (k:∀ b u,s.heap.get? b=some u->h'.get? b=some u) (hp:s.heap.objs.size<=a) (new:zcm X.prog X.w (upd H a o) h' a o) :
  Inv X pins σ (upd H a o) { s with heap:=h',toks:=t' }:=I.un (Un.laid k hp (I.hok.fresh hp)) (I.hok.laid k hp new)
theorem Inv.write {x e:Addr} {o:HO} {t':Nat} (I:Inv X pins σ H s) (mu:Mut (H x)) (he:e=x\/H e=some (.own x)) (k:∀ b u,b≠e->s.heap.get? b=some u->h'.get? b=some u) (heo:∃ u,h'.get? e=some u)
  (new:zcm X.prog X.w (upd H x o) h' x o):Inv X pins σ (upd H x o) { s with heap:=h',toks:=t' }:=I.un (Un.write mu he k heo) (I.hok.write mu he k heo new)
theorem Inv.pins_of {pins':List (Addr×Obj)} (I:Inv X pins σ H s) (h:∀ p∈pins',s.heap.get? p.1=some p.2/\H p.1=none/\p.1≠X.env.locals/\p.1∉X.fs/\∀ v,p.2.data≠.cell v):Inv X pins' σ H s :=
 ⟨I.ok,I.os,I.bare,I.base,I.loc,I.cell,I.free,I.freeC,fun p hp=>(List.mem_append.mp hp).elim (fun z=>I.pin p (List.mem_append_left _ z)) (h p),I.hok,I.len⟩
theorem zjX (hN:N.Nodup) (a:N[i]?=some x) (b:N[j]?=some x):i=j:=by
 obtain ⟨h1,e1⟩:=List.getElem?_eq_some_iff.mp a
 obtain ⟨h2,e2⟩:=List.getElem?_eq_some_iff.mp b
 exact (List.getElem_inj hN).mp (e1.trans e2.symm)
theorem zhV {M:Model} {Q:Unit->Shared->Prop} (I:Inv X pins σ H s) (hN:X.N.Nodup) (hi:X.N[i]?=some x) (hx:Loc X.env.scope x) (r:zbX v u)
  (h:∀ s',Inv X pins (σ.set i (some v)) H s'->(∃ a,Heap.SameBut a s.heap s'.heap/\(a=X.env.locals\/X.env.cells.lookup x=some a))->Q () s') (hf:X.fn x=true\/X.env.scope.names.lookup x=some .local:=by first | exact .inl rfl | exact .inr rfl | assumption):wpAny M A (storeName X.env x u) Q E s:=by
 obtain ⟨m,hn,hl⟩:=id I.loc
 have hcls:(X.env.scope.kind==.class || (X.env.scope.kind==.module && X.env.locals != X.env.globals))=false:=by rw [I.ok.kind];rfl
 have hiσ:i < σ.length:=by rw [I.len];exact (List.getElem?_eq_some_iff.mp hi).1
 have cne:=I.cne
 have tracked:∀ {a:Addr} {h':Heap},(∃ o,s.heap.get? a=some o/\H a=none)->Heap.SameBut a s.heap h'->HOk X.prog X.w H h':=fun {a h'} ha hs b ob e=>by
  obtain ⟨_,_,hfree⟩:=ha
  refine (I.hok b ob e).stay (fun c w' hc q=>(hs.2 c ?_).trans q) (fun _ q=>q) fun _ _ q=>q
  rintro rfl
  rcases hc with rfl | hc
  ·rw [hfree] at e;cases e
  ·rw [hfree] at hc;cases hc
 rcases hx with hk | hk
 ·refine wpAny_storeName_local hk hn (fun h' hn' hs=>?_) hcls
  obtain ⟨oL,_,_,hoL,_⟩:=id hn
  refine h _ ⟨I.ok,I.os,I.bare,⟨fun b o e n hb hx=>?_,fun b o e n hb hx=>?_,I.base.free,fun b o e hx=>?_,I.base.tups,I.base.frzs,I.base.tbls⟩,⟨_,hn',fun j y v' e1 e2 e3=>?_⟩,fun y c e=>?_,I.free,I.freeC,fun p hp=>?_,tracked ⟨oL,hoL,I.free⟩ hs,by simpa using I.len⟩ ⟨_,hs,.inl rfl⟩
  ·exact (hs.2 b (qA (qD (qt e) I.ok.above))).trans (I.base.keep b o e n hb hx)
  ·obtain ⟨sl,e1⟩:=I.base.slot b o e n hb hx
   exact ⟨sl,(hs.2 b (qA (qD (qt e) I.ok.above))).trans e1⟩
  ·obtain ⟨o',e1⟩:=I.base.there b o e hx
   exact ⟨o',(hs.2 b (qA (qD (qt e) I.ok.above))).trans e1⟩
  ·by_cases hj:j=i
   ·subst hj
    rw [hi] at e1;cases e1
    rw [List.getElem?_set_self hiσ] at e2
    cases e2
    exact ⟨u,r,.inl ⟨hk,by simp⟩⟩
   ·rw [List.getElem?_set_ne (Ne.symm hj)] at e2
    obtain ⟨u',r',q⟩:=hl j y v' e1 e2 e3
    refine ⟨u',r',?_⟩
    rcases q with ⟨k,e⟩ | ⟨k,c,e,z⟩
    ·refine .inl ⟨k,?_⟩
     have:y≠x:=fun e=>hj (zjX hN e1 (e▸hi))
     simp [this,e]
    ·exact .inr ⟨k,c,e,z.sameBut hs (cne y c e)⟩
  ·obtain ⟨w',z⟩:=I.cell y c e
   exact ⟨w',z.sameBut hs (cne y c e)⟩
  ·obtain ⟨e,n,ne,nf,d⟩:=I.pin p hp
   exact ⟨(hs.2 p.1 ne).trans e,n,ne,nf,d⟩
 ·have hfn:X.fn x=true:=by
   rcases hf with z | z
   ·exact z
   ·rw [z] at hk;cases hk
  obtain ⟨c,hc⟩:=I.ok.has x (.inl hk)
  obtain ⟨w',z⟩:=I.cell x c hc
  refine wpAny_storeName_cell I.ok.kind hk hc z (fun h' hc' hs=>?_)
  obtain ⟨oc,hoc,hocd⟩:=id z
  refine h { s with heap:=h' } ⟨I.ok,I.os,I.bare,⟨fun b o e n hb hx=>?_,fun b o e n hb hx=>?_,I.base.free,fun b o e hx=>?_,I.base.tups,I.base.frzs,I.base.tbls⟩,⟨m,hn.sameBut hs (Ne.symm (cne x c hc)),fun j y v' e1 e2 e3=>?_⟩,fun y c' e=>?_,I.free,I.freeC,fun p hp=>?_,tracked ⟨oc,hoc,I.freeC x c hc⟩ hs,by simpa using I.len⟩ ⟨c,hs,.inr hc⟩
  ·exact (hs.2 b (qA (qD (qt e) (I.ok.cab x c hfn hc)))).trans (I.base.keep b o e n hb hx)
  ·obtain ⟨sl,e1⟩:=I.base.slot b o e n hb hx
   exact ⟨sl,(hs.2 b (qA (qD (qt e) (I.ok.cab x c hfn hc)))).trans e1⟩
  ·obtain ⟨o',e1⟩:=I.base.there b o e hx
   exact ⟨o',(hs.2 b (qA (qD (qt e) (I.ok.cab x c hfn hc)))).trans e1⟩
  ·by_cases hj:j=i
   ·subst hj
    rw [hi] at e1;cases e1
    rw [List.getElem?_set_self hiσ] at e2
    cases e2
    exact ⟨u,r,.inr ⟨.inl hk,c,hc,hc'⟩⟩
   ·rw [List.getElem?_set_ne (Ne.symm hj)] at e2
    obtain ⟨u',r',q⟩:=hl j y v' e1 e2 e3
    refine ⟨u',r',?_⟩
    rcases q with q | ⟨k,c',e,z'⟩
    ·exact .inl q
    ·refine .inr ⟨k,c',e,z'.sameBut hs ?_⟩
     rintro rfl
     exact hj (zjX hN e1 (I.ok.inj _ _ _ e hc▸hi))
  ·by_cases hcc:c'=c
   ·subst hcc;exact ⟨_,hc'⟩
   ·obtain ⟨w2,z2⟩:=I.cell y c' e
    exact ⟨w2,z2.sameBut hs hcc⟩
  ·obtain ⟨e,n,ne,nf,d⟩:=I.pin p hp
   refine ⟨(hs.2 p.1 ?_).trans e,n,ne,nf,d⟩
   intro q
   rw [q,hoc] at e
   have q':oc=p.2:=qG e
   exact d w' (by rw [← q'];exact hocd)
theorem zjH {M:Model} {Q:Unit->Shared->Prop} (I:Inv X pins σ H s) (hN:X.N.Nodup) (hi:X.N[i]?=some x) (hx:Loc X.env.scope x) (r:zbX v u)
  (h:∀ s',Inv X pins (σ.set i (some v)) H s'->Q () s') (hf:X.fn x=true\/X.env.scope.names.lookup x=some .local:=by first | exact .inl rfl | exact .inr rfl | assumption):wpAny M A (storeName X.env x u) Q E s :=
 zhV I hN hi hx r (fun s' I' _=>h s' I') hf
theorem Inv.call' {ch:List Addr} (I:Inv X pins σ H s) (ho:s'.os=s.os) (u:Un (frs X.stack) ch H H' s.heap s'.heap) (hok:HOk X.prog X.w H' s'.heap) (hg:AllBare s'.gens)
  (hch:∀ b∈ch,(b∈X.ex\/X.s₀.heap.objs.size<=b)/\b≠X.env.locals/\(∀ x c,X.env.cells.lookup x=some c->c≠b)/\∀ p∈X.pn++pins,p.1≠b):Inv X pins σ H' s':=by
 obtain ⟨h',g',d',t',o'⟩:=s'
 have e:o'=s.os:=ho
 subst e
 exact I.call (g':=g') (t':=t') (d':=d') u hok hg hch
end
abbrev XK:=Value->Option Addr->Hp->Prop
abbrev St:=List (Option V)
abbrev VK:=V->Hp->Prop
abbrev TE:=St->Hp->VK->Prop
abbrev TT:=St->Hp->(Bool->Hp->Prop)->Prop
abbrev TA:=St->Hp->(List V->Hp->Prop)->Prop
structure Ends where
 nx:St->Hp->Prop
 rt:VK
 bk:St->Hp->Prop:=fun _ _=>False
 ct:St->Hp->Prop:=fun _ _=>False
abbrev TS:=Ends->St->Hp->Prop
def EP (X:Cx) (pins:List (Addr×Obj)) (σ:St) (Q:VK) (u:Value) (s':Shared):Prop:=∃ v H',Inv X pins σ H' s'/\zbX v u/\Q v H'
def TP (X:Cx) (pins:List (Addr×Obj)) (σ:St) (Q:Bool->Hp->Prop) (b:Bool) (s':Shared):Prop:=∃ H',Inv X pins σ H' s'/\Q b H'
def AP (X:Cx) (pins:List (Addr×Obj)) (σ:St) (Q:List V->Hp->Prop) (us:List Value) (s':Shared):Prop:=∃ vs H',Inv X pins σ H' s'/\zbI vs us/\Q vs H'
def SP (X:Cx) (pins:List (Addr×Obj)) (D:Ends) (f:Flow) (s':Shared):Prop :=
 match f with
 | .next=>∃ σ' H',Inv X pins σ' H' s'/\D.nx σ' H'
 | .brk=>∃ σ' H',Inv X pins σ' H' s'/\D.bk σ' H'
 | .cont=>∃ σ' H',Inv X pins σ' H' s'/\D.ct σ' H'
 | .ret u=>∃ v σ' H',Inv X pins σ' H' s'/\zbX v u/\D.rt v H'
def PE (X:Cx) (e:Expr) (t:TE):Prop :=
 ∀ (pins:List (Addr×Obj)) (s:Shared) (σ:St) (H:Hp) (Q:VK),Inv X pins σ H s->t σ H Q->wpAny (model X.prog X.w) X.A (eval e X.env) (EP X pins σ Q) X.xe s
def PT (X:Cx) (e:Expr) (t:TT):Prop :=
 ∀ (pins:List (Addr×Obj)) (s:Shared) (σ:St) (H:Hp) (Q:Bool->Hp->Prop),Inv X pins σ H s->t σ H Q->wpAny (model X.prog X.w) X.A (isTrue e X.env (eval e X.env)) (TP X pins σ Q) X.xe s
def PW (X:Cx) (e:Expr) (t:TT):Prop :=
 ∀ (whole:Sem Value) (pins:List (Addr×Obj)) (s:Shared) (σ:St) (H:Hp) (Q:Bool->Hp->Prop),Inv X pins σ H s->t σ H Q->wpAny (model X.prog X.w) X.A (isTrue e X.env whole) (TP X pins σ Q) X.xe s
variable {e:Expr}
theorem PW.pt {t:TT} (h:PW X e t):PT X e t:=h _
def PA (X:Cx) (es:List Expr) (t:TA):Prop :=
 ∀ (pos:Pos) (pins:List (Addr×Obj)) (s:Shared) (σ:St) (H:Hp) (Q:List V->Hp->Prop),Inv X pins σ H s->t σ H Q->wpAny (model X.prog X.w) X.A (spliced (backTo pos (starEach es X.env))) (AP X pins σ Q) X.xe s
def PS (X:Cx) (st:Stmt) (t:TS):Prop :=
 ∀ (pins:List (Addr×Obj)) (s:Shared) (σ:St) (H:Hp) (D:Ends),Inv X pins σ H s->t D σ H->wpAny (model X.prog X.w) X.A (exec st X.env) (SP X pins D) X.xe s
def PSs (X:Cx) (st:List Stmt) (t:TS):Prop :=
 ∀ (pins:List (Addr×Obj)) (s:Shared) (σ:St) (H:Hp) (D:Ends),Inv X pins σ H s->t D σ H->wpAny (model X.prog X.w) X.A (execs st X.env) (SP X pins D) X.xe s
variable {α:Type}
theorem thn {t:Sem α} {Q Q':α->Shared->Prop} {M:Model} (h:wpAny M A t Q E s) (hQ:∀ a s,Q a s->Q' a s):wpAny M A t Q' E s:=wpAny_mono h hQ fun _ _ x=>x
variable {b c:Expr} {ta tb:TE} {σ:St} {pos:Pos} {Q:Value->Shared->Prop} {op:CmpOp}
section
theorem bin {a:Expr} (ha:PE X a ta) (hb:PE X b tb) {R:V->V->Hp->Prop} (I:Inv X pins σ H s) (h:ta σ H fun x H1=>tb σ H1 fun y H2=>R x y H2)
  {Q:α->Shared->Prop} {f:Value->Value->Sem α} 
  (hf:∀ v u s2 x y H2,Inv X pins σ H2 s2->zbX x v->zbX y u->R x y H2->wpAny (model X.prog X.w) X.A (f v u) Q X.xe s2) :
  wpAny (model X.prog X.w) X.A (eval a X.env) (fun v s₁=>wpAny (model X.prog X.w) X.A (eval b X.env) (fun u s₂=>wpAny (model X.prog X.w) X.A (f v u) Q X.xe s₂) X.xe s₁) X.xe s:=by
 refine thn (ha pins s σ H _ I h) fun v s1 ⟨x,H1,I1,r1,q1⟩=>?_
 refine thn (hb pins s1 σ H1 _ I1 q1) fun u s2 ⟨y,H2,I2,r2,q2⟩=>?_
 exact hf v u s2 x y H2 I2 r1 r2 q2
def zvq (i:Nat):TE:=fun σ H Q=>∃ v,σ[i]?=some (some v)/\Q v H
def tC (v:V):TE:=fun _ H Q=>Q v H
theorem zds (hN:X.N[i]?=some x) (hv:Vis X.env.scope x) (hd:(x==("__debug__":Str))=false:=by decide) (hcd:(x==("__classdict__":Str))=false:=by decide):PE X (.Name x pos) (zvq i):=by
 intro pins s σ H Q I h
 obtain ⟨v,e,h⟩:=h
 obtain ⟨m,hn,hl⟩:=I.loc
 obtain ⟨u,r,l⟩:=hl i x v hN e hv
 have fin:EP X pins σ Q u s:=⟨v,H,I,r,h⟩
 rcases l with ⟨hk,hm⟩ | ⟨hk,c,hc,hcell⟩
 ·exact wpAny_Name (wpAny_loadName_local I.ok.kind hk hn hm fin) hd
 ·rcases hk with hk | hk
  ·exact wpAny_Name (wpAny_loadName_cell I.ok.kind hk hc hcell fin) hd
  ·exact wpAny_Name (wpAny_loadName_free I.ok.kind hk hc hcell fin hcd) hd
theorem zpa {i j pos}:PE X (.Constant (.int i) j pos) (tC (.int i)):=fun _ _ _ H _ I h=>wpAny_Constant_int ⟨.int i,H,I.tok _,⟨_,rfl⟩,h⟩
theorem zuS {b j pos}:PE X (.Constant (.bool b) j pos) (tC (.bl b)):=fun _ _ _ H _ I h=>Constant_bool ⟨.bl b,H,I,rfl,h⟩
theorem zsI {j pos}:PE X (.Constant .none j pos) (tC .non):=fun _ _ _ H _ I h=>Constant_none ⟨.non,H,I,rfl,h⟩
theorem zo9 {x j pos}:PE X (.Constant (.str x) j pos) (tC (.str x)):=fun _ _ _ H _ I h=>Calls.Constant_str ⟨.str x,H,I.tok _,⟨_,rfl⟩,h⟩
def Gl (X:Cx) (x:Str):Prop:=X.env.kindOf x=some .globalImplicit
theorem zi6 (I:Inv X pins σ H s) (hg:Gl X x) (hm:X.mg x=some u) (h:Q u s)
  (hd:(x==("__debug__":Str))=false:=by decide):wpAny (model X.prog X.w) X.A (eval (.Name x pos) X.env) Q E s :=
 Calls.Name_function_global I.ok.kind hg (Calls.loadGlobal_global (by rw [I.ok.glob];exact I.mod.glob.keeps I.bk) hm h) hd
theorem zf9 (I:Inv X pins σ H s) (hg:Gl X x) (hm:X.mg x=none) (hv:bootBuiltins x=some u) (h:Q u s)
  (hn:x≠"__name__":=by decide) (hd:(x==("__debug__":Str))=false:=by decide):wpAny (model X.prog X.w) X.A (eval (.Name x pos) X.env) Q E s:=by
 obtain ⟨mb,h1,h2⟩:=I.mod.blt
 exact Calls.Name_function_global I.ok.kind hg (Calls.loadGlobal_builtin (by rw [I.ok.glob];exact I.mod.glob.keeps I.bk) hm (by rw [I.ok.blt];exact h1.keeps I.bk) ((h2 x hn).trans hv) h) hd
theorem zqf (hg:Gl X x) (hm:X.mg x=some u) (r:zbX v u) (hd:(x==("__debug__":Str))=false:=by decide):PE X (.Name x pos) (tC v) :=
 fun _ _ _ H _ I h=>zi6 I hg hm ⟨v,H,I,r,h⟩ hd
theorem zqj (hg:Gl X x) (hm:X.mg x=none) (hv:bootBuiltins x=some u) (r:zbX v u) (hn:x≠"__name__":=by decide) (hd:(x==("__debug__":Str))=false:=by decide):PE X (.Name x pos) (tC v) :=
 fun _ _ _ H _ I h=>zf9 I hg hm hv ⟨v,H,I,r,h⟩ hn hd
variable {a:Expr}
def PC (X:Cx) (op:CmpOp) (a b:Expr) (t:TE):Prop :=
 ∀ (pins:List (Addr×Obj)) (s:Shared) (σ:St) (H:Hp) (Q:VK),Inv X pins σ H s->t σ H Q ->
  wpAny (model X.prog X.w) X.A (eval a X.env) (fun v s₁=>wpAny (model X.prog X.w) X.A (eval b X.env) (fun u s₂=>wpAny (model X.prog X.w) X.A (compareOp op v u) (EP X pins σ Q) X.xe s₂) X.xe s₁) X.xe s
theorem zn8 (b:Expr) (h:op≠.In) (h2:op≠.NotIn):behindInMarks op b=false:=by
 have e1:(op==CmpOp.In)=false:=by cases op <;> first | rfl | exact absurd rfl h
 have e2:(op==CmpOp.NotIn)=false:=by cases op <;> first | rfl | exact absurd rfl h2
 cases b <;> simp [behindInMarks,e1,e2]
def tB (t:TE):TT:=fun σ H Q=>t σ H fun x H1=>∃ c,x=.bl c/\Q c H1
theorem zvy {t:TE} (h:PC X op a b t) (h1:behindInMarks op b=false:=by first | exact zn8 _ (by decide) (by decide) | rfl):PT X (.Compare a [op] [b] pos) (tB t):=by
 intro pins s σ H Q I hw
 refine wpAny_isTrue_Compare1 (thn (h pins s σ H _ I hw) fun v s1 h1=>thn h1 fun u s2 h2=>thn h2 fun c s3 ⟨x,H1,I1,r1,q1⟩=>?_) h1
 obtain ⟨d,rfl,q⟩:=q1
 cases r1
 exact wpAny_truthy_bool ⟨H1,I1,q⟩
theorem zss {t:TE} (h:PE X e t) (he:∀ whole,isTrue e X.env whole=(do let v ← whole;standAt e.pos;holding [v] (truthy v)):=by intro _;rfl):PT X e (tB t):=by
 intro pins s σ H Q I hw
 refine isTrue_plain (thn (h pins s σ H _ I hw) fun v s1 ⟨x,H1,I1,r1,q1⟩=>?_) (he _)
 obtain ⟨d,rfl,q⟩:=q1
 cases r1
 exact wpAny_truthy_bool ⟨H1,I1,q⟩
variable {tA tB':TT} {zcK:List Expr}
def zvV (t u:TT):TT:=fun σ H Q=>t σ H fun c H1=>if c=true then u σ H1 Q else Q false H1
def tOr (t u:TT):TT:=fun σ H Q=>t σ H fun c H1=>if c=true then Q true H1 else u σ H1 Q
def zvR (t:TT):TT:=fun σ H Q=>t σ H fun c H1=>Q (!c) H1
theorem zp2 (ha:PT X a tA):PW X (.BoolOp .And [a] pos) tA:=by
 intro wh pins s σ H Q I h
 refine isTrue_and (thn (ha pins s σ H Q I h) fun c s1 e=>?_)
 cases c with
 | true=>exact isTrue_and_nil e
 | false=>exact e
theorem zsp (ha:PT X a tA):PW X (.BoolOp .Or [a] pos) tA:=by
 intro wh pins s σ H Q I h
 refine isTrue_or (thn (ha pins s σ H Q I h) fun c s1 e=>?_)
 cases c with
 | false=>exact isTrue_or_nil e
 | true=>exact e
theorem zsq (ha:PT X a tA) (hb:PW X (.BoolOp .And (b::zcK) pos) tB'):PW X (.BoolOp .And (a::b::zcK) pos) (zvV tA tB'):=by
 intro wh pins s σ H Q I h
 refine isTrue_and (thn (ha pins s σ H _ I h) fun c s1 ⟨H1,I1,q1⟩=>?_)
 cases c with
 | true=>exact hb wh pins s1 σ H1 Q I1 q1
 | false=>exact ⟨H1,I1,q1⟩
theorem zuO (ha:PT X a tA) (hb:PW X (.BoolOp .Or (b::zcK) pos) tB'):PW X (.BoolOp .Or (a::b::zcK) pos) (tOr tA tB'):=by
 intro wh pins s σ H Q I h
 refine isTrue_or (thn (ha pins s σ H _ I h) fun c s1 ⟨H1,I1,q1⟩=>?_)
 cases c with
 | true=>exact ⟨H1,I1,q1⟩
 | false=>exact hb wh pins s1 σ H1 Q I1 q1
theorem zst (ha:PT X a tA):PT X (.UnaryOp .Not a pos) (zvR tA):=by
 intro pins s σ H Q I h
 exact isTrue_not (ha pins s σ H (fun c H1=>Q (!c) H1) I h)
def zuA (ta tb:TE):TE:=fun σ H Q=>ta σ H fun x H1=>∃ c,x=.bl c/\if c=true then tb σ H1 Q else Q (.bl false) H1
def zus (ta:TE):TE:=fun σ H Q=>ta σ H fun x H1=>∃ c,x=.bl c/\Q (.bl (!c)) H1
theorem zsG {op} {t:TE} (h:PE X a t):PE X (.BoolOp op [a] pos) t:=fun pins s σ H Q I hw=>BoolOp_one (h pins s σ H Q I hw)
theorem zsK (ha:PE X a ta) (hb:PE X (.BoolOp .And (b::zcK) pos) tb):PE X (.BoolOp .And (a::b::zcK) pos) (zuA ta tb):=by
 intro pins s σ H Q I h
 refine BoolOp_and (thn (ha pins s σ H _ I h) fun v s1 ⟨x,H1,I1,r1,q1⟩=>?_)
 obtain ⟨c,rfl,q1⟩:=q1
 cases r1
 refine wpAny_truthy_bool ?_
 cases c with
 | true=>exact hb pins s1 σ H1 Q I1 q1
 | false=>exact ⟨.bl false,H1,I1,rfl,q1⟩
theorem zsH (ha:PE X a ta):PE X (.UnaryOp .Not a pos) (zus ta):=by
 intro pins s σ H Q I h
 refine UnaryOp_ (thn (ha pins s σ H _ I h) fun v s1 ⟨x,H1,I1,r1,q1⟩=>?_)
 obtain ⟨c,rfl,q1⟩:=q1
 cases r1
 exact not_of (wpAny_truthy_bool ⟨.bl (!c),H1,I1,rfl,q1⟩)
def tIf (t:TT) (ta tb:TE):TE:=fun σ H Q=>t σ H fun c H1=>if c=true then ta σ H1 Q else tb σ H1 Q
theorem zn0 (hc:PT X c tA) (ha:PE X a ta) (hb:PE X b tb):PE X (.IfExp c a b pos) (tIf tA ta tb):=by
 intro pins s σ H Q I h
 refine wpAny_IfExp (thn (hc pins s σ H _ I h) fun d s1 ⟨H1,I1,q1⟩=>?_)
 cases d with
 | true=>exact ha pins s1 σ H1 Q I1 q1
 | false=>exact hb pins s1 σ H1 Q I1 q1
end
def SqL (K:PySem.W.Frag) (H:Hp) (a:Addr) (xs:List V):Prop :=
 Rd H a (.lst xs) \/
  ∃ (o:Obj) (its:Array Value) (n:Nat),K.lookup a=some o/\o.cls=.type "list"/\o.dict=none/\o.data=.seq its n/\its.size<=sizeLine/\zbI xs its.toList
def SqT (K:PySem.W.Frag) (H:Hp) (a:Addr) (xs:List V):Prop :=
 Rd H a (.tup xs) \/
  ∃ (o:Obj) (its:Array Value) (n:Nat),K.lookup a=some o/\o.cls=.type "tuple"/\o.data=.seq its n/\its.size<=sizeLine/\zbI xs its.toList
def zwg:Value->Option V
 | .none=>some .non
 | .bool b=>some (.bl b)
 | .int i _=>some (.int i)
 | .str x _=>some (.str x)
 | .bytes b _=>some (.byt b)
 | .float b _=>some (.flt b)
 | .ref a=>some (.ref a)
 | .type n=>some (.ty n)
 | _=>none
theorem zbX.abs {x:V} (r:zbX x u):zwg u=some x:=by
 cases x with
 | non=>cases r;rfl
 | bl _=>cases r;rfl
 | int _=>obtain ⟨t,rfl⟩:=r;rfl
 | str _=>obtain ⟨t,rfl⟩:=r;rfl
 | byt _=>obtain ⟨t,rfl⟩:=r;rfl
 | flt _=>obtain ⟨t,rfl⟩:=r;rfl
 | ref _=>cases r;rfl
 | ty _=>cases r;rfl
theorem zbX.inj {x y:V} (r:zbX x u) (q:zbX y u):x=y:=qG (r.abs.symm.trans q.abs)
theorem zbI.inj:∀ {xs ys:List V} {us:List Value},zbI xs us->zbI ys us->xs=ys
 | _,_,_,.nil,.nil=>rfl
 | _,_,_,.cons r t,.cons r' t'=>by rw [r.inj r',zbI.inj t t']
variable {ys:List V}
section
variable {xs:List V}
theorem Inv.list (I:Inv X pins σ H s) (h:SqL X.K H a xs):∃ its:List Value,zbI xs its/\PlainL s.heap a its.toArray/\xs.length<=sizeLine:=by
 rcases h with h | ⟨o,its,n,hk,hc,hd,hs,hz,r⟩
 ·obtain ⟨z,its,n,r,e⟩:=h.ok I.hok
  exact ⟨its,r,⟨_,n,e,rfl,rfl,rfl⟩,z⟩
 ·refine ⟨its.toList,r,⟨o,n,I.kIn a o hk,hc,hd,by simpa using hs⟩,?_⟩
  have e:=r.length
  simp only [Array.length_toList] at e
  omega
theorem Inv.tuple (I:Inv X pins σ H s) (h:SqT X.K H a xs):∃ its:List Value,zbI xs its/\IsTup s.heap a its.toArray/\xs.length<=sizeLine:=by
 rcases h with h | ⟨o,its,n,hk,hc,hs,hz,r⟩
 ·obtain ⟨z,its,r,p⟩:=h.ok I.hok
  exact ⟨its,r,p,z⟩
 ·refine ⟨its.toList,r,⟨o,I.kIn a o hk,hc,n,by simpa using hs⟩,?_⟩
  have e:=r.length
  simp only [Array.length_toList] at e
  omega
theorem Inv.list_inj (I:Inv X pins σ H s) (h:SqL X.K H a xs) (h':SqL X.K H a ys):xs=ys:=by
 obtain ⟨its,r,⟨o,n,e,_,_,d⟩,_⟩:=I.list h
 obtain ⟨its',r',⟨o',n',e',_,_,d'⟩,_⟩:=I.list h'
 rw [e] at e';cases e'
 rw [d] at d'
 injection d' with d1 _
 have:its=its':=by simpa using congrArg Array.toList d1
 subst this
 exact r.inj r'
theorem Inv.tuple_inj (I:Inv X pins σ H s) (h:SqT X.K H a xs) (h':SqT X.K H a ys):xs=ys:=by
 obtain ⟨its,r,⟨o,e,_,n,d⟩,_⟩:=I.tuple h
 obtain ⟨its',r',⟨o',e',_,n',d'⟩,_⟩:=I.tuple h'
 rw [e] at e';cases e'
 rw [d] at d'
 injection d' with d1 _
 have:its=its':=by simpa using congrArg Array.toList d1
 subst this
 exact r.inj r'
end
abbrev Cx.wish (X:Cx) (E:Value->Shared->Prop):Cx:={ X with xe:=E }
abbrev Cx.nox (X:Cx):Cx:=X.wish fun _ _=>False
theorem Cx.Ok.wish (ok:X.Ok) (E:Value->Shared->Prop):(X.wish E).Ok :=
 ⟨ok.mod,ok.kind,ok.glob,ok.blt,ok.above,ok.inj,ok.has,ok.cab,ok.hd,ok.frames,ok.stk,ok.exf,ok.bs,ok.bsz,ok.noex,ok.exfs,ok.funs,ok.frf⟩
theorem Cx.Ok.unwish (ok:(X.wish E).Ok):X.Ok :=
 ⟨ok.mod,ok.kind,ok.glob,ok.blt,ok.above,ok.inj,ok.has,ok.cab,ok.hd,ok.frames,ok.stk,ok.exf,ok.bs,ok.bsz,ok.noex,ok.exfs,ok.funs,ok.frf⟩
theorem Inv.wish (I:Inv X pins σ H s) (E:Value->Shared->Prop):Inv (X.wish E) pins σ H s:=⟨I.ok.wish E,I.os,I.bare,I.base,I.loc,I.cell,I.free,I.freeC,I.pin,I.hok,I.len⟩
theorem Inv.unwish (I:Inv (X.wish E) pins σ H s):Inv X pins σ H s:=⟨I.ok.unwish,I.os,I.bare,I.base,I.loc,I.cell,I.free,I.freeC,I.pin,I.hok,I.len⟩
theorem SP.unwish {D:Ends} {f:Flow} {s':Shared} (h:SP (X.wish E) pins D f s'):SP X pins D f s':=by
 cases f with
 | next=>obtain ⟨σ',H',I,q⟩:=h;exact ⟨σ',H',I.unwish,q⟩
 | brk=>obtain ⟨σ',H',I,q⟩:=h;exact ⟨σ',H',I.unwish,q⟩
 | cont=>obtain ⟨σ',H',I,q⟩:=h;exact ⟨σ',H',I.unwish,q⟩
 | ret u=>obtain ⟨v,σ',H',I,r,q⟩:=h;exact ⟨v,σ',H',I.unwish,r,q⟩
theorem PSs.nox {st:List Stmt} {t:TS} (h:PSs X.nox st t):PSs X st t:=fun pins s σ H D I hw =>
 wpAny_mono (h pins s σ H D (I.wish _) hw) (fun _ _ q=>q.unwish) fun _ _ z=>False.elim z
variable {st:Stmt} {te:TE} {tc:TT}
section
variable {zcK:List Stmt} {t u:TS}
def zuu:TS:=fun D σ H=>D.nx σ H
def zvP (t u:TS):TS:=fun D σ H=>t { D with nx:=u D } σ H
theorem zp6:PSs X [] zuu:=fun _ _ σ H _ I h=>wpAny_execs_nil ⟨σ,H,I,h⟩
theorem zjQ (h1:PS X st t) (h2:PSs X zcK u):PSs X (st::zcK) (zvP t u):=by
 intro pins s σ H D I h
 refine wpAny_execs_cons (thn (h1 pins s σ H { D with nx:=u D } I h) fun f s1 q=>?_)
 cases f with
 | next =>
  obtain ⟨σ',H',I',q⟩:=q
  exact h2 pins s1 σ' H' D I' q
 | ret v=>exact q
 | brk=>exact q
 | cont=>exact q
theorem zlG (h1:PS X st t):PSs X [st] t:=by
 intro pins s σ H D I h
 refine wpAny_execs_cons (thn (h1 pins s σ H D I h) fun f s1 q=>?_)
 cases f with
 | next=>exact wpAny_execs_nil q
 | ret v=>exact q
 | brk=>exact q
 | cont=>exact q
theorem Inv.quiet (I:Inv X pins σ H s):interactive X.env=false:=by simp [interactive,I.ok.kind]
def zuw (te:TE):TS:=fun D σ H=>te σ H fun _ H1=>D.nx σ H1
theorem zhi (he:PE X e te) (hs:swapsWith e none pos.line X.env=pure false:=by rfl):PS X (.Expr e pos) (zuw te):=by
 intro pins s σ H D I h
 exact wpAny_Expr_any (thn (he pins s σ H _ I h) fun v s1 ⟨x,H1,I1,r1,q1⟩=>⟨σ,H1,I1,q1⟩) I.quiet hs
def zvQ (te:TE):TS:=fun D σ H=>te σ H D.rt
theorem zlH (he:PE X e te):PS X (.Return (some e) pos) (zvQ te):=by
 intro pins s σ H D I h
 exact wpAny_Return_some (thn (he pins s σ H _ I h) fun v s1 ⟨x,H1,I1,r1,q1⟩=>⟨x,σ,H1,I1,r1,q1⟩)
def zvS (c:TT) (t u:TS):TS:=fun D σ H=>c σ H fun b H1=>if b=true then t D σ H1 else u D σ H1
theorem zsw {a b:List Stmt} (hc:PT X c tc) (ha:PSs X a t) (hb:PSs X b u):PS X (.If c a b pos) (zvS tc t u):=by
 intro pins s σ H D I h
 refine wpAny_If (thn (hc pins s σ H _ I h) fun d s1 ⟨H1,I1,q1⟩=>?_)
 cases d with
 | true=>exact ha pins s1 σ H1 D I1 q1
 | false=>exact hb pins s1 σ H1 D I1 q1
end
abbrev TG:=V->St->Hp->(St->Hp->Prop)->Prop
abbrev TGs:=List V->St->Hp->(St->Hp->Prop)->Prop
def PG (X:Cx) (target:Expr) (t:TG):Prop :=
 ∀ (pins:List (Addr×Obj)) (s:Shared) (σ:St) (H:Hp) (v:V) (u:Value) (Q:St->Hp->Prop),Inv X pins σ H s->zbX v u->t v σ H Q ->
  wpAny (model X.prog X.w) X.A (assign target X.env u) (fun _ s'=>∃ σ' H',Inv X pins σ' H' s'/\Q σ' H') X.xe s
def PGs (X:Cx) (ts:List Expr) (t:TGs):Prop :=
 ∀ (pins:List (Addr×Obj)) (s:Shared) (σ:St) (H:Hp) (vs:List V) (us:List Value) (Q:St->Hp->Prop),Inv X pins σ H s->zbI vs us->t vs σ H Q ->
  wpAny (model X.prog X.w) X.A (assignInOrder ((assignEach ts X.env).map (·.2)) us) (fun _ s'=>∃ σ' H',Inv X pins σ' H' s'/\Q σ' H') X.xe s
variable {es:List Expr} {n:Nat} {tg:Expr} {pos':Pos}
def zkS (i:Nat):TG:=fun v σ H Q=>Q (σ.set i (some v)) H
theorem zqc (hN:X.N.Nodup) (hi:X.N[i]?=some x) (hx:Loc X.env.scope x) (hf:X.fn x=true\/X.env.scope.names.lookup x=some .local:=by first | exact .inl rfl | exact .inr rfl | assumption):PG X (.Name x pos) (zkS i):=by
 intro pins s σ H v u Q I r h
 exact wpAny_assign_Name (zjH I hN hi hx r (fun s' I'=>⟨_,H,I',h⟩) hf)
def zwb:TGs:=fun vs σ H Q=>vs=[]/\Q σ H
def zu8 (t:TG) (u:TGs):TGs:=fun vs σ H Q=>∃ v r,vs=v::r/\t v σ H fun σ' H'=>u r σ' H' Q
theorem zqb:PGs X [] zwb:=by
 intro pins s σ H vs us Q I r h
 obtain ⟨e,h⟩:=h
 subst e
 cases r
 exact assignInOrder_nil ⟨σ,H,I,h⟩
theorem znY {t:TG} {u:TGs} (h1:PG X e t) (h2:PGs X es u)
  (hs:(assignEach (e::es) X.env).map (·.2)=assign e X.env::(assignEach es X.env).map (·.2):=by rfl):PGs X (e::es) (zu8 t u):=by
 intro pins s σ H vs us Q I r h
 obtain ⟨v,vr,e1,h⟩:=h
 subst e1
 cases r with
 | cons r rr =>
  rw [hs]
  refine assignInOrder_cons (thn (h1 pins s σ H _ _ _ I r h) fun _ s1 ⟨σ1,H1,I1,q1⟩=>?_)
  exact h2 pins s1 σ1 H1 _ _ Q I1 rr q1
def zwa (K:PySem.W.Frag) (n:Nat) (t:TGs):TG:=fun v σ H Q=>∃ a xs,v=.ref a/\SqT K H a xs/\xs.length=n/\t xs σ H Q
theorem zsD {k:Nat} {t:TGs} (hc:X.calm=true) (h:PGs X es t)
  (hn:(assignEach es X.env).length=n:=by rfl) (hst:(assignEach es X.env).findIdx? (·.1)=none:=by rfl):PG X (.Tuple es k pos) (zwa X.K n t):=by
 intro pins s σ H v u Q I r hw
 obtain ⟨a,xs,e1,hq,hl,hw⟩:=hw
 subst e1
 cases r
 obtain ⟨its,rv,ht,hz⟩:=I.tuple hq
 refine assign_Tuple_tuple (I.ok.hd hc) ht (by simp [hn,← hl,rv.length]) hst fun h' hx=>?_
 have I1:Inv X pins σ H { s with heap:=h' }:=I.kept (t':=s.toks) fun b o e=>hx b o (qA (qt e)) e
 exact h pins _ σ H xs _ Q I1 (by simpa using rv) hw
def zrD (te:TE) (g:TG):TS:=fun D σ H=>te σ H fun x H1=>g x σ H1 D.nx
theorem zsx {g:TG} (he:PE X e te) (hg:PG X tg g) (hs:swapsWithSole [tg] e pos.line X.env=pure false:=by rfl) (hw:swappedStores [tg] e X.env=pure none:=by rfl)
  (h1:(assignEach [tg] X.env).map (·.2)=[assign tg X.env]:=by rfl):PS X (.Assign [tg] e pos) (zrD te g):=by
 intro pins s σ H D I h
 refine wpAny_Assign_stores (thn (he pins s σ H _ I h) fun v s1 ⟨x,H1,I1,r1,q1⟩=>?_) hs hw
 rw [h1]
 exact thn (hg pins s1 σ H1 x v _ I1 r1 q1) fun _ s2 q=>q
theorem zgN (hN:X.N.Nodup) (hi:X.N[i]?=some x) (hx:Loc X.env.scope x) (he:PE X e te) (hs:swapsWith e (some (.Name x pos')) pos.line X.env=pure false:=by rfl) (hf:X.fn x=true\/X.env.scope.names.lookup x=some .local:=by first | exact .inl rfl | exact .inr rfl | assumption) :
  PS X (.Assign [.Name x pos'] e pos) (zrD te (zkS i)):=by
 intro pins s σ H D I h
 refine wpAny_Assign_Name (thn (he pins s σ H _ I h) fun v s1 ⟨y,H1,I1,r1,q1⟩=>?_) hs
 exact zjH I1 hN hi hx r1 (fun s2 I2=>⟨_,H1,I2,q1⟩) hf
variable {body:List Stmt}
def zr3 (c:TT) (tb:TS):TS:=fun D σ H=>∃ W:Nat->St->Hp->Prop,(∃ m,W m σ H)/\∀ m σ H,W m σ H ->
 c σ H fun b H1=>if b=true then ∃ N:St->Hp->Prop,(∀ σ' H',N σ' H'->∃ m',m' < m/\W m' σ' H')/\tb { D with nx:=N,ct:=N,bk:=D.nx } σ H1 else D.nx σ H1
theorem znS {tb:TS} (hp:PassesOwn (model X.prog X.w) X.A X.env X.xe) (hc:PT X c tc) (hb:PSs X body tb):PS X (.While c body [] pos) (zr3 tc tb):=by
 intro pins s σ H D I h
 obtain ⟨W,⟨m0,w0⟩,turn⟩:=h
 refine wpAny_While (codeAny_whileLoop (fun n s'=>∃ σ' H',Inv X pins σ' H' s'/\W n σ' H') ?_ m0 ⟨σ,H,I,w0⟩)
 rintro n s1 ⟨σ1,H1,I1,w1⟩
 refine wpAny_passesOwn hp (thn (hc pins s1 σ1 H1 _ I1 (turn n σ1 H1 w1)) fun b s2 ⟨H2,I2,q2⟩=>?_)
 cases b with
 | true =>
  obtain ⟨N,hN,q2⟩:=q2
  rw [qV rfl]
  refine wpAny_passesOwn hp (thn (hb pins s2 σ1 H2 _ I2 q2) fun f s3 q3=>?_)
  cases f with
  | next =>
   obtain ⟨σ3,H3,I3,n3⟩:=q3
   obtain ⟨m',hm,w3⟩:=hN σ3 H3 n3
   exact ⟨m',hm,σ3,H3,I3,w3⟩
  | cont =>
   obtain ⟨σ3,H3,I3,n3⟩:=q3
   obtain ⟨m',hm,w3⟩:=hN σ3 H3 n3
   exact ⟨m',hm,σ3,H3,I3,w3⟩
  | brk=>exact q3
  | ret v=>exact q3
 | false =>
  rw [qW qq]
  exact wpAny_execs_nil ⟨σ1,H2,I2,q2⟩
structure It where
 go:Nat->Hp->Prop
 yld:Nat->Hp->V->Hp->Prop
 stop:Nat->Hp->Prop
def zlb (X:Cx) (pins:List (Addr×Obj)) (H:Hp) (b:Addr):Prop :=
 H b=none/\b≠X.env.locals/\b∉X.fs/\(b∈X.ex\/X.s₀.heap.objs.size<=b)/\(∀ x c,X.env.cells.lookup x=some c->c≠b)/\∀ p∈X.pn++pins,p.1≠b
theorem Inv.fpOk {b:Addr} (I:Inv X pins σ H s) (hb:s.heap.objs.size<=b) (hn:H' b=none):zlb X pins H' b:=by
 refine ⟨hn,Nat.ne_of_gt (qD I.lt hb),I.nofs hb,.inr (qL I.sz hb),fun x c e z=>?_,fun p hp z=>?_⟩
 ·obtain ⟨v,q⟩:=I.cell x c e
  exact absurd (qD q.lt (by rw [z];exact hb)) (Nat.lt_irrefl _)
 ·exact absurd (qD (qt (I.pin p hp).1) (by rw [z];exact hb)) (Nat.lt_irrefl _)
structure Turn (P:Program) (w:World) (K:PySem.W.Frag) (tg:Expr) (J:It) (fp:List Addr) (it:Addr) (tn:Nat->Heap->Prop):Prop where
 mem:it∈fp
 obj:∀ i h,tn i h->∀ b∈fp,∃ o,h.get? b=some o/\∀ v,o.data≠.cell v
 keep:∀ i h h',tn i h->(∀ b∈fp,∀ o,h.get? b=some o->h'.get? b=some o)->tn i h'
 item:∀ (X:Cx),X.prog=P->X.w=w->X.K=K->X.calm=true->∀ (i:Nat) (pins:List (Addr×Obj)) (s:Shared) (σ:St) (H:Hp) (E:Value->Shared->Prop),Inv X pins σ H s->(∀ b∈fp,zlb X pins H b)->tn i s.heap->J.go i H ->
  wpAny (model P w) X.A (pyNext (.ref it)) (fun r s1=>∃ u,r=some u /\
   wpAny (model P w) X.A (letOwnedTupleGo tg (.ref it) u) (fun _ s2=>∃ x H',Inv X pins σ H' s2/\zbX x u/\J.yld i H x H'/\tn (i+1) s2.heap/\∀ b∈fp,H' b=none) E s1) E s
 done:∀ (X:Cx),X.prog=P->X.w=w->X.K=K->X.calm=true->∀ (i:Nat) (pins:List (Addr×Obj)) (s:Shared) (σ:St) (H:Hp) (E:Value->Shared->Prop),Inv X pins σ H s->(∀ b∈fp,zlb X pins H b)->tn i s.heap->J.stop i H ->
  wpAny (model P w) X.A (pyNext (.ref it)) (fun r s1=>r=none/\Inv X pins σ H s1) E s
 self:∀ (A:Around) (i:Nat) (s:Shared) (Q:Value->Shared->Prop) (E:Value->Shared->Prop),tn i s.heap->Q (.ref it) s->wpAny (model P w) A (pyIter (.ref it)) Q E s
abbrev TI:=St->Hp->(It->Hp->Prop)->Prop
def PIE (X:Cx) (pins:List (Addr×Obj)) (σ:St) (tg:Expr) (R:It->Hp->Prop) (itv:Value) (s2:Shared):Prop :=
 ∃ (it:Addr) (fp:List Addr) (tn:Nat->Heap->Prop) (J:It) (H':Hp),itv=.ref it/\Inv X pins σ H' s2/\Turn X.prog X.w X.K tg J fp it tn/\tn 0 s2.heap/\(∀ b∈fp,zlb X pins H' b)/\R J H'
def PI (X:Cx) (tg iter:Expr) (wi:TI):Prop :=
 ∀ (pins:List (Addr×Obj)) (s:Shared) (σ:St) (H:Hp) (R:It->Hp->Prop),Inv X pins σ H s->wi σ H R ->
  wpAny (model X.prog X.w) X.A (eval iter X.env) (fun v s1=>wpAny (model X.prog X.w) X.A (pyIter v) (PIE X pins σ tg R) X.xe s1) X.xe s
theorem zqS {M:Model} {it:Addr} {o:Obj} {n:String} {vs:Array Value} {Q:Unit->Shared->Prop} (ho:s.heap.get? it=some o) (hc:o.cls=.type n) (hd:o.data=.fields vs)
  (hn:["enumerate","zip","dict_itemiterator","dict_reverseitemiterator","odict_iterator","itertools.zip_longest","itertools.pairwise"].contains n=false) (hQ:Q () s):wpAny M A (letOwnedTupleGo tg (.ref it) u) Q E s:=by
 unfold letOwnedTupleGo
 cases tg <;> first
  | exact qy hQ
  | (cases u <;> first
    | exact qy hQ
    | (refine qw (wpAny_load ho ?_);rw [hc,hd];show wpAny M A (if (["enumerate","zip","dict_itemiterator","dict_reverseitemiterator","odict_iterator","itertools.zip_longest","itertools.pairwise"].contains n && vs[0]?==some (rawInt _))=true then _ else _) Q E s;rw [qW (by intro h;rw [hn,Bool.false_and] at h;cases h)];exact qy hQ))
def Itl (K:PySem.W.Frag) (a:Addr):It :=
 ⟨fun i H=>∃ xs x,SqL K H a xs/\xs[i]?=some x,fun i H x H'=>H'=H/\∀ xs,SqL K H a xs->xs[i]?=some x,fun i H=>∃ xs,SqL K H a xs/\xs.length<=i⟩
def Itt (K:PySem.W.Frag) (a:Addr):It :=
 ⟨fun i H=>∃ xs x,SqT K H a xs/\xs[i]?=some x,fun i H x H'=>H'=H/\∀ xs,SqT K H a xs->xs[i]?=some x,fun i H=>∃ xs,SqT K H a xs/\xs.length<=i⟩
noncomputable def Itr (lo:Int) (n:Nat):It:=⟨fun i _=>i < n,fun i H x H'=>H'=H/\x=.int (lo+i),fun i _=>n<=i⟩
variable {K:PySem.W.Frag}
theorem zlk (a it:Addr):Turn P w K tg (Itl K a) [it] it (fun i h=>h.IsListIter it a i) where
 mem:=by simp
 obj:=fun i h st b hb=>by
  have e:b=it:=by simpa using hb
  subst e
  obtain ⟨o,e,c,d⟩:=st
  exact ⟨o,e,fun v z=>by rw [d] at z;cases z⟩
 keep:=fun i h h' st k=>st.at fun o e=>k it (by simp) o e
 item:=by
  intro X hP hw hK hc i pins s σ H E I hf st hg
  subst hP hw hK
  obtain ⟨xs,x,hq,hx⟩:=hg
  obtain ⟨its,rv,p,hz⟩:=I.list hq
  obtain ⟨u,hu,ru⟩:=rv.get hx
  obtain ⟨f0,f1,f2,f3,f4,f5⟩:=hf it (by simp)
  refine wpAny_pyNext_list_item st p.isList (x:=u) (by simpa using hu) fun h' st' sb=>?_
  have I1:Inv X pins σ H { s with heap:=h' }:=I.turned (t':=s.toks) (fun b o hb e=>(sb.2 b hb).trans e) f0 f1 f3 f4 f5
  obtain ⟨o,e,c,d⟩:=id st'
  exact ⟨u,rfl,zqS (s:={ s with heap:=h' }) e c d (by decide) ⟨x,H,I1,ru,⟨rfl,fun ys hy=>by rw [I.list_inj hy hq];exact hx⟩,st',fun b hb=>(hf b hb).1⟩⟩
 done:=by
  intro X hP hw hK hc i pins s σ H E I hf st hg
  subst hP hw hK
  obtain ⟨xs,hq,hx⟩:=hg
  obtain ⟨its,rv,p,hz⟩:=I.list hq
  obtain ⟨f0,f1,f2,f3,f4,f5⟩:=hf it (by simp)
  have hl:=rv.length
  exact wpAny_pyNext_list_end (I.ok.hd hc) st p.isList (by simp;omega) fun h' eb=>⟨rfl,I.turned (t':=s.toks) (fun b o hb e=>eb b o hb e) f0 f1 f3 f4 f5⟩
 self:=fun _ _ _ _ _ st h=>wpAny_pyIter_listiter st h
theorem zkw (a it:Addr):Turn P w K tg (Itt K a) [it] it (fun i h=>h.IsTupleIter it a i) where
 mem:=by simp
 obj:=fun i h st b hb=>by
  have e:b=it:=by simpa using hb
  subst e
  obtain ⟨o,e,c,d⟩:=st
  exact ⟨o,e,fun v z=>by rw [d] at z;cases z⟩
 keep:=fun i h h' st k=>st.at fun o e=>k it (by simp) o e
 item:=by
  intro X hP hw hK hc i pins s σ H E I hf st hg
  subst hP hw hK
  obtain ⟨xs,x,hq,hx⟩:=hg
  obtain ⟨its,rv,p,hz⟩:=I.tuple hq
  obtain ⟨u,hu,ru⟩:=rv.get hx
  obtain ⟨f0,f1,f2,f3,f4,f5⟩:=hf it (by simp)
  refine wpAny_pyNext_tuple_item st (show s.heap.IsTuple a its.toArray from p) (x:=u) (by simpa using hu) fun h' st' sb=>?_
  have I1:Inv X pins σ H { s with heap:=h' }:=I.turned (t':=s.toks) (fun b o hb e=>(sb.2 b hb).trans e) f0 f1 f3 f4 f5
  obtain ⟨o,e,c,d⟩:=id st'
  exact ⟨u,rfl,zqS (s:={ s with heap:=h' }) e c d (by decide) ⟨x,H,I1,ru,⟨rfl,fun ys hy=>by rw [I.tuple_inj hy hq];exact hx⟩,st',fun b hb=>(hf b hb).1⟩⟩
 done:=by
  intro X hP hw hK hc i pins s σ H E I hf st hg
  subst hP hw hK
  obtain ⟨xs,hq,hx⟩:=hg
  obtain ⟨its,rv,p,hz⟩:=I.tuple hq
  obtain ⟨f0,f1,f2,f3,f4,f5⟩:=hf it (by simp)
  have hl:=rv.length
  exact wpAny_pyNext_tuple_end (I.ok.hd hc) st (show s.heap.IsTuple a its.toArray from p) (by simp;omega) fun h' eb=>⟨rfl,I.turned (t':=s.toks) (fun b o hb e=>eb b o hb e) f0 f1 f3 f4 f5⟩
 self:=fun _ _ _ _ _ st h=>wpAny_pyIter_tupleiter st h
theorem zkx (it:Addr) (lo:Int) (n:Nat):Turn P w K tg (Itr lo n) [it] it (fun i h=>IsRangeIter h it (lo+(i:Nat)*1) ((n:Int) - (i:Nat)) 1) where
 mem:=by simp
 obj:=fun i h st b hb=>by
  have e:b=it:=by simpa using hb
  subst e
  exact ⟨_,st,fun v z=>by
   have z':Data.fields _=Data.cell v:=z
   cases z'⟩
 keep:=fun i h h' st k=>k it (by simp) _ st
 item:=by
  intro X hP hw hK hc i pins s σ H E I hf st hg
  subst hP hw hK
  obtain ⟨f0,f1,f2,f3,f4,f5⟩:=hf it (by simp)
  have W:=Walks.range (prog:=X.prog) (w:=X.w) (I.ok.hd hc) it lo 1 n
  refine W.item i s _ _ hg st fun v h' tk hv st' kk=>?_
  obtain ⟨t,rfl⟩:=hv
  have I1:Inv X pins σ H { s with heap:=h',toks:=tk }:=I.turned (fun b o hb e=>kk b o (by simpa using hb) e) f0 f1 f3 f4 f5
  refine ⟨_,rfl,zqS (s:={ s with heap:=h',toks:=tk }) (n:="range_iterator") st' rfl rfl (by decide) ⟨.int (lo+i),H,I1,⟨t,?_⟩,⟨rfl,rfl⟩,st',fun b hb=>(hf b hb).1⟩⟩
  rw [Int.mul_one]
 done:=by
  intro X hP hw hK hc i pins s σ H E I hf st hg
  subst hP hw hK
  obtain ⟨f0,f1,f2,f3,f4,f5⟩:=hf it (by simp)
  exact wpAny_pyNext_range_end (I.ok.hd hc) st (by have:n<=i:=hg;omega) fun h' eb=>⟨rfl,I.turned (t':=s.toks) (fun b o hb e=>eb b o hb e) f0 f1 f3 f4 f5⟩
 self:=fun _ _ _ _ _ st h=>wpAny_pyIter_rangeiter st h
variable {lo:Int} {p:Pos} {fp:List Addr} {iter:Expr} {wi:TI}
theorem zjO {R:It->Hp->Prop} {hi:Int} {t u v:Tok} {tk:Nat} (I:Inv X pins σ H s) (h1 : -(2 ^ 62)<=lo) (h2:lo < 2 ^ 62) (h3 : -(2 ^ 62)<=hi) (h4:hi < 2 ^ 62)
  (q:R (Itr lo (hi - lo).toNat) H):wpAny (model X.prog X.w) X.A (pyIter (.ref s.heap.objs.size)) (PIE X pins σ tg R) E { s with heap:=s.heap.push { cls:=.type "range",data:=.fields #[.int lo t,.int hi u,.int 1 v] },toks:=tk }:=by
 refine wpAny_pyIter_range (IsRange.new ..) (small_one h1 h2 h3 h4) ?_
 have I1:Inv X pins σ H { s with heap:=s.heap.push { cls:=.type "range",data:=.fields #[.int lo t,.int hi u,.int 1 v] },toks:=tk }:=I.kept fun b o e=>qr _ e
 refine ⟨(s.heap.push { cls:=.type "range",data:=.fields #[.int lo t,.int hi u,.int 1 v] }).objs.size,[(s.heap.push { cls:=.type "range",data:=.fields #[.int lo t,.int hi u,.int 1 v] }).objs.size],_,_,H,rfl,
  I1.kept (t':=tk) fun b o e=>qr _ e,zkx _ lo (hi - lo).toNat,?_,fun b hb=>?_,q⟩
 ·have e1:lo+((0:Nat):Int)*1=lo:=by simp
  have e2:(((hi - lo).toNat:Nat):Int) - ((0:Nat):Int)=Builtin.Range.rangeSize lo hi 1:=by rw [rangeSize_one];split <;> omega
  show IsRangeIter _ _ (lo+((0:Nat):Int)*1) ((((hi - lo).toNat:Nat):Int) - ((0:Nat):Int)) 1
  rw [e1,e2]
  exact qF _ rfl
 ·have e:b=(s.heap.push { cls:=.type "range",data:=.fields #[.int lo t,.int hi u,.int 1 v] }).objs.size:=by simpa using hb
  subst e
  exact I1.fpOk (qu _) (I1.hok.fresh (qu _))
def zu6 (ta:TA):TI:=fun σ H R=>ta σ H fun vs H1=>∃ j:Int,vs=[.int j] /\ -(2 ^ 62)<=j/\j < 2 ^ 62/\R (Itr 0 j.toNat) H1
def zu5 (ta:TA):TI:=fun σ H R=>ta σ H fun vs H1=>∃ i j:Int,vs=[.int i,.int j]/\(-(2 ^ 62)<=i/\i < 2 ^ 62 /\ -(2 ^ 62)<=j/\j < 2 ^ 62)/\R (Itr i (j - i).toNat) H1
theorem zlO {a:Expr} {ta:TA} (hg:Gl X "range") (hm:X.mg "range"=none) (ha:PA X [a] ta) (hs:starEach [a] X.env=[(false,eval a X.env)]:=by rfl):PI X tg (.Call (.Name "range" p) [a] [] pos) (zu6 ta):=by
 intro pins s σ H R I h
 refine Call_ (zf9 I hg hm boot_range (PyProof.Rows.callWith_type1 (thn (ha pos pins s σ H _ I h) fun us s1 ⟨vs,H1,I1,r1,q1⟩=>?_) hs rfl))
 obtain ⟨j,e,q1,q2,q⟩:=q1
 subst e
 cases r1 with
 | cons r rr =>
  cases rr
  obtain ⟨t,rfl⟩:=r
  exact call_range_1 (zjO I1 (by omega) (by omega) q1 q2 (by simpa using q))
theorem zlN {a:Expr} {ta:TA} (hg:Gl X "range") (hm:X.mg "range"=none) (ha:PA X [a,b] ta) (hs:starEach [a,b] X.env=[(false,eval a X.env),(false,eval b X.env)]:=by rfl) (hs2:starEach [b] X.env=[(false,eval b X.env)]:=by rfl) :
  PI X tg (.Call (.Name "range" p) [a,b] [] pos) (zu5 ta):=by
 intro pins s σ H R I h
 refine Call_ (zf9 I hg hm boot_range (PyProof.Rows.callWith_type1 (thn (ha pos pins s σ H _ I h) fun us s1 ⟨vs,H1,I1,r1,q1⟩=>?_) (by rw [hs,hs2]) (by rw [hs2];rfl)))
 obtain ⟨i,j,e,⟨q1,q2,q3,q4⟩,q⟩:=q1
 subst e
 cases r1 with
 | cons r rr =>
  cases rr with
  | cons r' rr =>
   cases rr
   obtain ⟨t,rfl⟩:=r
   obtain ⟨t',rfl⟩:=r'
   exact call_range_2 (zjO I1 q1 q2 q3 q4 q)
def zvT (wi:TI) (g:TG) (tb:TS):TS:=fun D σ H=>wi σ H fun J H1=>∃ W:Nat->Nat->St->Hp->Prop,(∃ m,W 0 m σ H1)/\∀ i m σ H,W i m σ H ->
 (J.stop i H/\D.nx σ H)\/(J.go i H/\∃ N:St->Hp->Prop,(∀ σ' H',N σ' H'->∃ m',m' < m/\W (i+1) m' σ' H')/\∀ x H',J.yld i H x H'->g x σ H' fun σ2 H2=>tb { D with nx:=N,ct:=N,bk:=D.nx } σ2 H2)
def zh8 (fp:List Addr) (h:Heap):List (Addr×Obj):=fp.filterMap fun b=>(h.get? b).map fun o=>(b,o)
theorem zdL {h:Heap} {b:Addr} {o:Obj} (hb:b∈fp) (e:h.get? b=some o):(b,o)∈zh8 fp h:=List.mem_filterMap.mpr ⟨b,hb,by rw [e];rfl⟩
theorem zl0 {h:Heap} {p:Addr×Obj} (hp:p∈zh8 fp h):p.1∈fp/\h.get? p.1=some p.2:=by
 obtain ⟨b,hb,e⟩:=List.mem_filterMap.mp hp
 cases q:h.get? b with
 | none=>rw [q] at e;cases e
 | some o =>
  rw [q] at e
  have e':(b,o)=p:=qG e
  subst e'
  exact ⟨hb,q⟩
theorem Inv.pinned (I:Inv X pins σ H s) (hf:∀ b∈fp,zlb X pins H b) (ho:∀ b∈fp,∃ o,s.heap.get? b=some o/\∀ v,o.data≠.cell v):Inv X (pins++zh8 fp s.heap) σ H s :=
 I.pins_of fun p hp=>(List.mem_append.mp hp).elim (fun z=>I.pin p (qP _ z)) fun z=>by
  obtain ⟨hb,e⟩:=zl0 z
  obtain ⟨f0,f1,f2,_⟩:=hf p.1 hb
  obtain ⟨o,e',d⟩:=ho p.1 hb
  rw [e] at e';cases e'
  exact ⟨e,f0,f1,f2,d⟩
theorem Inv.unpinned {pl:List (Addr×Obj)} (I:Inv X (pins++pl) σ H s):Inv X pins σ H s:=I.pins_of fun p hp=>I.pin p (qP _ (List.mem_append_left _ hp))
theorem zo7 {g:TG} {tb:TS} (hp:PassesOwn (model X.prog X.w) X.A X.env X.xe) (hc:X.calm=true) (hi:PI X tg iter wi) (hg:PG X tg g) (hb:PSs X body tb)
  (hs:∀ x,foldedSetIterable iter X.env x=pure x:=by intro _;rfl):PS X (.For tg iter body [] pos) (zvT wi g tb):=by
 intro pins s σ H D I h
 refine wpAny_For (thn (hi pins s σ H _ I h) fun v s1 h1=>thn h1 fun itv s2 h2=>?_) hs
 obtain ⟨it,fp,tn,J,H2,e,I2,T,st2,f2,W,⟨m0,w0⟩,turn⟩:=h2
 subst e
 have stat:∀ {H':Hp},(∀ b∈fp,H' b=none)->∀ b∈fp,zlb X pins H' b:=fun hn b hb=>⟨hn b hb,(f2 b hb).2⟩
 refine codeAny_forLoop_any (fun n s'=>∃ i σ' H',Inv X pins σ' H' s'/\tn i s'.heap/\(∀ b∈fp,H' b=none)/\W i n σ' H') ?_ m0 ⟨0,σ,H2,I2,st2,fun b hb=>(f2 b hb).1,w0⟩
 rintro n s3 ⟨i,σ3,H3,I3,st3,fr3,w3⟩
 rcases turn i n σ3 H3 w3 with ⟨stop,qn⟩ | ⟨go,N,hN,step⟩
 ·refine wpAny_passesOwn hp (thn (T.done X rfl rfl rfl hc i pins s3 σ3 H3 X.xe I3 (stat fr3) st3 stop) fun r s4 ⟨hr,I4⟩=>?_)
  subst hr
  exact wpAny_execs_nil ⟨σ3,H3,I4,qn⟩
 ·refine wpAny_passesOwn hp (thn (T.item X rfl rfl rfl hc i pins s3 σ3 H3 X.xe I3 (stat fr3) st3 go) fun r s4 ⟨u,hr,h4⟩=>?_)
  subst hr
  refine wpAny_passesOwn hp (thn h4 fun _ s5 ⟨x,H5,I5,r5,y5,st5,fr5⟩=>?_)
  have I5':=I5.pinned (stat fr5) (T.obj _ _ st5)
  refine wpAny_passesOwn hp (thn (hg _ s5 σ3 H5 x u _ I5' r5 (step x H5 y5)) fun _ s6 ⟨σ6,H6,I6,q6⟩=>?_)
  refine wpAny_passesOwn hp (thn (hb _ s6 σ6 H6 _ I6 q6) fun f s7 q7=>?_)
  have again:∀ {σ7:St} {H7:Hp},Inv X (pins++zh8 fp s5.heap) σ7 H7 s7->N σ7 H7->∃ m,m < n/\∃ i σ' H',Inv X pins σ' H' s7/\tn i s7.heap/\(∀ b∈fp,H' b=none)/\W i m σ' H':=fun {σ7 H7} I7 n7=>by
   obtain ⟨m',hm,w7⟩:=hN σ7 H7 n7
   refine ⟨m',hm,i+1,σ7,H7,I7.unpinned,T.keep _ _ _ st5 fun b hb o e=>(I7.pin (b,o) (qP _ (qP _ (zdL hb e)))).1,fun b hb=>?_,w7⟩
   obtain ⟨o,e,d⟩:=T.obj _ _ st5 b hb
   exact (I7.pin (b,o) (qP _ (qP _ (zdL hb e)))).2.1
  cases f with
  | next=>obtain ⟨σ7,H7,I7,n7⟩:=q7;exact again I7 n7
  | cont=>obtain ⟨σ7,H7,I7,n7⟩:=q7;exact again I7 n7
  | brk=>obtain ⟨σ7,H7,I7,q7⟩:=q7;exact ⟨σ7,H7,I7.unpinned,q7⟩
  | ret v=>obtain ⟨x7,σ7,H7,I7,r7,q7⟩:=q7;exact ⟨x7,σ7,H7,I7.unpinned,r7,q7⟩
abbrev R2:=V->V->Hp->VK->Prop
def OpR (X:Cx) (f:Value->Value->Sem Value) (r:R2):Prop :=
 ∀ (pins:List (Addr×Obj)) (s:Shared) (σ:St) (H:Hp) (x y:V) (v u:Value) (Q:VK),Inv X pins σ H s->zbX x v->zbX y u->r x y H Q ->
  wpAny (model X.prog X.w) X.A (f v u) (EP X pins σ Q) X.xe s
def UnR (X:Cx) (f:Value->Sem Value) (r:V->Hp->VK->Prop):Prop :=
 ∀ (pins:List (Addr×Obj)) (s:Shared) (σ:St) (H:Hp) (x:V) (v:Value) (Q:VK),Inv X pins σ H s->zbX x v->r x H Q ->
  wpAny (model X.prog X.w) X.A (f v) (EP X pins σ Q) X.xe s
def ze9 (X:Cx) (f:Value) (r:List V->Hp->VK->Prop):Prop :=
 ∀ (pins:List (Addr×Obj)) (s:Shared) (σ:St) (H:Hp) (xs:List V) (us:List Value) (Q:VK),Inv X pins σ H s->zbI xs us->r xs H Q ->
  wpAny (model X.prog X.w) X.A (call f us) (EP X pins σ Q) X.xe s
def tOp (r:R2) (ta tb:TE):TE:=fun σ H Q=>ta σ H fun x H1=>tb σ H1 fun y H2=>r x y H2 Q
def tUn (r:V->Hp->VK->Prop) (ta:TE):TE:=fun σ H Q=>ta σ H fun x H1=>r x H1 Q
def rI (C:Int->Int->Prop) (g:Int->Int->V):R2:=fun x y H Q=>∃ i j,x=.int i/\y=.int j/\C i j/\Q (g i j) H
def rI0 (g:Int->Int->V):R2:=fun x y H Q=>∃ i j,x=.int i/\y=.int j/\Q (g i j) H
def rU (g:Int->V):V->Hp->VK->Prop:=fun x H Q=>∃ i,x=.int i/\Q (g i) H
section
variable {a:Expr} {tc:TE}
theorem zvf (ha:PE X a ta) (hb:PE X b tb) {R:V->V->Hp->Prop} (I:Inv X pins σ H s)
  (h:ta σ H fun x H1=>tb σ H1 fun y H2=>R x y H2) {f:Value->Value->Sem Value} 
  (hf:∀ v u s2 x y H2,Inv X pins σ H2 s2->zbX x v->zbX y u->R x y H2->wpAny (model X.prog X.w) X.A (f v u) Q X.xe s2) :
  wpAny (model X.prog X.w) X.A (eval a X.env) (fun v s₁=>wpAny (model X.prog X.w) X.A (eval b X.env) (fun u s₂=>wpAny (model X.prog X.w) X.A (f v u) Q X.xe s₂) X.xe s₁) X.xe s:=by
 refine thn (ha pins s σ H _ I h) fun v s1 ⟨x,H1,I1,r1,q1⟩=>?_
 refine thn (hb pins s1 σ H1 _ I1 q1) fun u s2 ⟨y,H2,I2,r2,q2⟩=>?_
 exact hf v u s2 x y H2 I2 r1 r2 q2
theorem zuQ {op:Operator} {r:R2} (ho:OpR X (binaryOp op) r) (ha:PE X a ta) (hb:PE X b tb):PE X (.BinOp a op b pos) (tOp r ta tb):=by
 intro pins s σ H Q I h
 exact wpAny_BinOp (zvf ha hb I h fun v u s2 x y H2 I2 rx ry q=>ho pins s2 σ H2 x y v u Q I2 rx ry q)
theorem zuP {op:UnaryOp} {r:V->Hp->VK->Prop} (ho:UnR X (unaryOp op) r) (ha:PE X a ta):PE X (.UnaryOp op a pos) (tUn r ta):=by
 intro pins s σ H Q I h
 exact UnaryOp_ (thn (ha pins s σ H _ I h) fun v s1 ⟨x,H1,I1,r1,q1⟩=>ho pins s1 σ H1 x v Q I1 r1 q1)
theorem opI {f:Value->Value->Sem Value} {C:Int->Int->Prop} {g:Int->Int->Int} 
  (rule:∀ (i j:Int) (t u:Tok) (s:Shared) (Q:Value->Shared->Prop) (E:Value->Shared->Prop),C i j->Q (.int (g i j) s.toks) { s with toks:=s.toks+1 }->wpAny (model X.prog X.w) X.A (f (.int i t) (.int j u)) Q E s) :
  OpR X f (rI C fun i j=>.int (g i j)):=by
 intro pins s σ H x y v u Q I rx ry h
 obtain ⟨i,j,rfl,rfl,hc,q⟩:=h
 obtain ⟨t,rfl⟩:=rx
 obtain ⟨t',rfl⟩:=ry
 exact rule i j t t' s _ _ hc ⟨.int (g i j),H,I.tok _,⟨_,rfl⟩,q⟩
theorem zvz {f:Value->Value->Sem Value} {g:Int->Int->Int} 
  (rule:∀ (i j:Int) (t u:Tok) (s:Shared) (Q:Value->Shared->Prop) (E:Value->Shared->Prop),Q (.int (g i j) s.toks) { s with toks:=s.toks+1 }->wpAny (model X.prog X.w) X.A (f (.int i t) (.int j u)) Q E s) :
  OpR X f (rI0 fun i j=>.int (g i j)):=by
 intro pins s σ H x y v u Q I rx ry h
 obtain ⟨i,j,rfl,rfl,q⟩:=h
 obtain ⟨t,rfl⟩:=rx
 obtain ⟨t',rfl⟩:=ry
 exact rule i j t t' s _ _ ⟨.int (g i j),H,I.tok _,⟨_,rfl⟩,q⟩
theorem zui {f:Value->Value->Sem Value} {g:Int->Int->Bool} 
  (rule:∀ (i j:Int) (t u:Tok) (s:Shared) (Q:Value->Shared->Prop) (E:Value->Shared->Prop),Q (.bool (g i j)) s->wpAny (model X.prog X.w) X.A (f (.int i t) (.int j u)) Q E s) :
  OpR X f (rI0 fun i j=>.bl (g i j)):=by
 intro pins s σ H x y v u Q I rx ry h
 obtain ⟨i,j,rfl,rfl,q⟩:=h
 obtain ⟨t,rfl⟩:=rx
 obtain ⟨t',rfl⟩:=ry
 exact rule i j t t' s _ _ ⟨.bl (g i j),H,I,rfl,q⟩
def zwo (i j:Int):Prop:=0 < j/\j < 1073741824
def zwn (i j:Int):Prop:=0<=j/\j<=1000000/\i.natAbs < 2 ^ 64
def zun (i j:Int):Prop:=(-(2 ^ 64) < i/\i < 2 ^ 64)\/(-(2 ^ 64) < j/\j < 2 ^ 64)
theorem zun.ok {i j:Int} (h:zun i j):IntMulOk i j:=by
 rcases h with ⟨h1,h2⟩ | ⟨h1,h2⟩
 ·exact .of_left (intBits_le_64 h1 h2)
 ·exact .of_right (intBits_le_64 h1 h2)
theorem zsY:OpR X (binaryOp .Add) (rI0 fun i j=>.int (i+j)):=zvz fun _ _ _ _ _ _ _ q=>add_int q
theorem zsN:OpR X (binaryOp .Sub) (rI0 fun i j=>.int (i - j)):=zvz fun _ _ _ _ _ _ _ q=>sub_int q
theorem zsR:OpR X (binaryOp .Mult) (rI zun fun i j=>.int (i*j)):=opI fun _ _ _ _ _ _ _ hc q=>mul_int q hc.ok
theorem zqp:OpR X (binaryOp .FloorDiv) (rI zwo fun i j=>.int (i / j)):=opI fun i j _ _ _ _ _ hc q=>by
 have h1:(0:Int) < j:=hc.1
 have h2:j < 1073741824:=hc.2
 exact floordiv_int (by omega) (by rw [Int.fdiv_eq_ediv_of_nonneg i (by omega)];exact q) (.inl (PyProof.noPylong_small (by omega)))
theorem zsS:OpR X (binaryOp .Mod) (rI (fun _ j=>0 < j) fun i j=>.int (i % j)):=opI fun i j _ _ _ _ _ hc q=>by
 have h1:(0:Int) < j:=hc
 exact mod_int' (by omega) (by rw [Int.fmod_eq_emod_of_nonneg i (by omega)];exact q)
theorem zsP:OpR X (binaryOp .Pow) (rI zwn fun i j=>.int (i ^ j.toNat)):=opI fun _ _ _ _ _ _ _ hc q=>pow_int_small hc.1 hc.2.1 hc.2.2 q
theorem unI {f:Value->Sem Value} {g:Int->Int} 
  (rule:∀ (i:Int) (t:Tok) (s:Shared) (Q:Value->Shared->Prop) (E:Value->Shared->Prop),Q (.int (g i) s.toks) { s with toks:=s.toks+1 }->wpAny (model X.prog X.w) X.A (f (.int i t)) Q E s) :
  UnR X f (rU fun i=>.int (g i)):=by
 intro pins s σ H x v Q I rx h
 obtain ⟨i,rfl,q⟩:=h
 obtain ⟨t,rfl⟩:=rx
 exact rule i t s _ _ ⟨.int (g i),H,I.tok _,⟨_,rfl⟩,q⟩
theorem zrZ:UnR X (unaryOp .USub) (rU fun i=>.int (-i)):=unI fun _ _ _ _ _ q=>neg_int q
end
noncomputable def zuH:V->V->Bool
 | .non,.non=>true | .non,.int _=>true | .int _,.non=>true | .non,.bl _=>true | .bl _,.non=>true | .non,.str _=>true | .str _,.non=>true
 | .int _,.int _=>true | .bl _,.bl _=>true | .str _,.str _=>true | .byt _,.byt _=>true
 | .int _,.str _=>true | .str _,.int _=>true | .bl _,.str _=>true | .str _,.bl _=>true
 | _,_=>false
def rEq:R2:=fun x y H Q=>zuH x y=true/\Q (.bl (decide (x=y))) H
def rNe:R2:=fun x y H Q=>zuH x y=true/\Q (.bl (!decide (x=y))) H
theorem zmR {i j:Int} :decide (V.int i=V.int j)=(i==j):=by
 rw [Bool.eq_iff_iff]
 simp
theorem zpu {i j:Bool} :decide (V.bl i=V.bl j)=(i==j):=by
 rw [Bool.eq_iff_iff]
 simp
theorem zmQ {i j:Str} :decide (V.str i=V.str j)=(i==j):=by
 rw [Bool.eq_iff_iff]
 simp
theorem zmS {i j:Array UInt8} :decide (V.byt i=V.byt j)=(i.toList==j.toList):=by
 rw [Bool.eq_iff_iff]
 cases i
 cases j
 simp
variable {r':R2} {op':CmpOp}
section
variable {a:Expr} {tc:TE}
theorem za2 {Q:VK} {k k':Bool} (I:Inv X pins σ H s) (q:Q (.bl k) H) (e:k=k'):EP X pins σ Q (.bool k') s:=by
 subst e
 exact ⟨.bl k,H,I,rfl,q⟩
theorem zu2:OpR X (compareOp .Eq) rEq:=by
 intro pins s σ H x y v u Q I rx ry h
 obtain ⟨hs,q⟩:=h
 cases x with
 | non =>
  cases rx
  cases y with
  | non=>cases ry;exact PySem.EqNone.eq_none_none (za2 I q (by simp))
  | bl j=>cases ry;exact PySem.EqNone.eq_none_bool (za2 I q (by simp))
  | int j=>obtain ⟨t',rfl⟩:=ry;exact PySem.EqNone.eq_none_int (za2 I q (by simp))
  | str j=>obtain ⟨t',rfl⟩:=ry;exact PySem.EqNone.eq_none_str (za2 I q (by simp))
  | _=>exact absurd (show false=true from hs) qq
 | bl i =>
  cases rx
  cases y with
  | non=>cases ry;exact PySem.EqNone.eq_bool_none (za2 I q (by simp))
  | bl j=>cases ry;exact eq_bool (za2 I q zpu)
  | str j=>obtain ⟨t',rfl⟩:=ry;exact PySem.EqMixed.eq_bool_str (za2 I q (by simp))
  | _=>exact absurd (show false=true from hs) qq
 | int i =>
  obtain ⟨t,rfl⟩:=rx
  cases y with
  | non=>cases ry;exact PySem.EqNone.eq_int_none (za2 I q (by simp))
  | int j=>obtain ⟨t',rfl⟩:=ry;exact eq_int (za2 I q zmR)
  | str j=>obtain ⟨t',rfl⟩:=ry;exact PySem.EqMixed.eq_int_str (za2 I q (by simp))
  | _=>exact absurd (show false=true from hs) qq
 | str i =>
  obtain ⟨t,rfl⟩:=rx
  cases y with
  | non=>cases ry;exact PySem.EqNone.eq_str_none (za2 I q (by simp))
  | bl j=>cases ry;exact PySem.EqMixed.eq_str_bool (za2 I q (by simp))
  | int j=>obtain ⟨t',rfl⟩:=ry;exact PySem.EqMixed.eq_str_int (za2 I q (by simp))
  | str j=>obtain ⟨t',rfl⟩:=ry;exact eq_str (za2 I q zmQ)
  | _=>exact absurd (show false=true from hs) qq
 | byt i =>
  obtain ⟨t,rfl⟩:=rx
  cases y with
  | byt j=>obtain ⟨t',rfl⟩:=ry;exact PySem.W.eq_bytes (za2 I q zmS)
  | _=>exact absurd (show false=true from hs) qq
 | _=>cases y <;> exact absurd (show false=true from hs) qq
theorem zuX:OpR X (compareOp .NotEq) rNe:=by
 intro pins s σ H x y v u Q I rx ry h
 obtain ⟨hs,q⟩:=h
 cases x with
 | non =>
  cases rx
  cases y with
  | non=>cases ry;exact PySem.EqNone.ne_none_none (za2 I q (by simp))
  | bl j=>cases ry;exact PySem.EqNone.ne_none_bool (za2 I q (by simp))
  | int j=>obtain ⟨t',rfl⟩:=ry;exact PySem.EqNone.ne_none_int (za2 I q (by simp))
  | str j=>obtain ⟨t',rfl⟩:=ry;exact PySem.EqNone.ne_none_str (za2 I q (by simp))
  | _=>exact absurd (show false=true from hs) qq
 | bl i =>
  cases rx
  cases y with
  | non=>cases ry;exact PySem.EqNone.ne_bool_none (za2 I q (by simp))
  | bl j=>cases ry;exact ne_bool (za2 I q (congrArg not zpu))
  | str j=>obtain ⟨t',rfl⟩:=ry;exact PySem.EqMixed.ne_bool_str (za2 I q (by simp))
  | _=>exact absurd (show false=true from hs) qq
 | int i =>
  obtain ⟨t,rfl⟩:=rx
  cases y with
  | non=>cases ry;exact PySem.EqNone.ne_int_none (za2 I q (by simp))
  | int j=>obtain ⟨t',rfl⟩:=ry;exact ne_int (za2 I q (congrArg not zmR))
  | str j=>obtain ⟨t',rfl⟩:=ry;exact PySem.EqMixed.ne_int_str (za2 I q (by simp))
  | _=>exact absurd (show false=true from hs) qq
 | str i =>
  obtain ⟨t,rfl⟩:=rx
  cases y with
  | non=>cases ry;exact PySem.EqNone.ne_str_none (za2 I q (by simp))
  | bl j=>cases ry;exact PySem.EqMixed.ne_str_bool (za2 I q (by simp))
  | int j=>obtain ⟨t',rfl⟩:=ry;exact PySem.EqMixed.ne_str_int (za2 I q (by simp))
  | str j=>obtain ⟨t',rfl⟩:=ry;exact ne_str (za2 I q (congrArg not zmQ))
  | _=>exact absurd (show false=true from hs) qq
 | byt i =>
  obtain ⟨t,rfl⟩:=rx
  cases y with
  | byt j=>obtain ⟨t',rfl⟩:=ry;exact PySem.W.ne_bytes (za2 I q (congrArg not zmS))
  | _=>exact absurd (show false=true from hs) qq
 | _=>cases y <;> exact absurd (show false=true from hs) qq
theorem zuY:OpR X (compareOp .Lt) (rI0 fun i j=>.bl (decide (i < j))):=zui fun _ _ _ _ _ _ _ q=>lt_int q
theorem zuZ:OpR X (compareOp .LtE) (rI0 fun i j=>.bl (decide (i<=j))):=zui fun _ _ _ _ _ _ _ q=>le_int q
theorem zu0:OpR X (compareOp .Gt) (rI0 fun i j=>.bl (decide (j < i))):=zui fun _ _ _ _ _ _ _ q=>gt_int q
theorem zu1:OpR X (compareOp .GtE) (rI0 fun i j=>.bl (decide (j<=i))):=zui fun _ _ _ _ _ _ _ q=>ge_int q
theorem zlY:OpR X (compareOp .Lt) (fun x y H Q=>∃ i j,x=.str i/\y=.str j/\Q (.bl (decide (i.cps.toList < j.cps.toList))) H):=by
 intro pins s σ H x y v u Q I rx ry h
 obtain ⟨i,j,rfl,rfl,q⟩:=h
 obtain ⟨t,rfl⟩:=rx
 obtain ⟨t',rfl⟩:=ry
 exact lt_str (za2 I q rfl)
theorem zsT:OpR X (compareOp .Is) (fun x y H Q=>y=.non/\Q (.bl (decide (x=.non))) H):=by
 intro pins s σ H x y v u Q I rx ry h
 obtain ⟨rfl,q⟩:=h
 cases ry
 refine is_none_gen (za2 I q ?_)
 cases x <;> first
  | (cases rx;rfl)
  | (obtain ⟨t,rfl⟩:=rx;rfl)
theorem zql:OpR X (compareOp .IsNot) (fun x y H Q=>y=.non/\Q (.bl (!decide (x=.non))) H):=by
 intro pins s σ H x y v u Q I rx ry h
 obtain ⟨rfl,q⟩:=h
 cases ry
 refine isnot_none_gen (za2 I q ?_)
 cases x <;> first
  | (cases rx;rfl)
  | (obtain ⟨t,rfl⟩:=rx;rfl)
theorem OpR.or {f:Value->Value->Sem Value} {r:R2} (h:OpR X f r) (h':OpR X f r'):OpR X f (fun x y H Q=>r x y H Q\/r' x y H Q):=by
 intro pins s σ H x y v u Q I rx ry q
 rcases q with q | q
 ·exact h pins s σ H x y v u Q I rx ry q
 ·exact h' pins s σ H x y v u Q I rx ry q
theorem zaU (b:Expr) (h:op≠.In:=by decide) (h2:op≠.NotIn:=by decide):behindInMarks op b=false:=by
 have e1:(op==CmpOp.In)=false:=by cases op <;> first | rfl | exact absurd rfl h
 have e2:(op==CmpOp.NotIn)=false:=by cases op <;> first | rfl | exact absurd rfl h2
 cases b <;> simp [behindInMarks,e1,e2]
theorem zqi {r:R2} (ho:OpR X (compareOp op) r) (ha:PE X a ta) (hb:PE X b tb) (hm:behindInMarks op b=false):PE X (.Compare a [op] [b] pos) (tOp r ta tb):=by
 intro pins s σ H Q I h
 exact wpAny_Compare1 (zvf ha hb I h fun v u s2 x y H2 I2 rx ry q=>ho pins s2 σ H2 x y v u Q I2 rx ry q) hm
def zr4 (t:TE):TT:=fun σ H Q=>t σ H fun x H'=>∃ k,x=.bl k/\Q k H'
theorem zlF {r:R2} (ho:OpR X (compareOp op) r) (ha:PE X a ta) (hb:PE X b tb) (hm:behindInMarks op b=false):PT X (.Compare a [op] [b] pos) (zr4 (tOp r ta tb)):=by
 intro pins s σ H Q I h
 refine wpAny_isTrue_Compare1 (thn (ha pins s σ H _ I h) fun v s1 ⟨x,H1,I1,r1,q1⟩=>thn (hb pins s1 σ H1 _ I1 q1) fun u s2 ⟨y,H2,I2,r2,q2⟩ =>
  thn (ho pins s2 σ H2 x y v u _ I2 r1 r2 q2) fun c s3 ⟨z,H3,I3,r3,k,e,q3⟩=>?_) hm
 subst e
 cases r3
 exact wpAny_truthy_bool ⟨H3,I3,q3⟩
def zln (r r':R2) (ta tb tc:TE):TE:=fun σ H Q=>ta σ H fun x H1=>tb σ H1 fun y H2=>r x y H2 fun z H3=>∃ k,z=.bl k /\
 (if k=true then tc σ H3 fun w' H4=>r' y w' H4 Q else Q (.bl false) H3)
theorem zn4 {r:R2} (ho:OpR X (compareOp op) r) (ho':OpR X (compareOp op') r') (ha:PE X a ta) (hb:PE X b tb) (hc:PE X c tc)
  (hm:lastMarks [op,op'] [b,c]=false:=by with_unfolding_all rfl):PE X (.Compare a [op,op'] [b,c] pos) (zln r r' ta tb tc):=by
 intro pins s σ H Q I h
 refine Compare_chain (thn (ha pins s σ H _ I h) fun v s1 ⟨x,H1,I1,r1,q1⟩=>chain_link (thn (hb pins s1 σ H1 _ I1 q1) fun u s2 ⟨y,H2,I2,r2,q2⟩ =>
  thn (ho pins s2 σ H2 x y v u _ I2 r1 r2 q2) fun d s3 ⟨z,H3,I3,r3,k,e,q3⟩=>?_)) hm
 subst e
 cases r3
 refine wpAny_truthy_bool ?_
 cases k with
 | false=>exact ite_ff ⟨.bl false,H3,I3,rfl,q3⟩
 | true=>exact ite_tt (chain_last (thn (hc pins s3 σ H3 _ I3 q3) fun w' s4 ⟨z',H4,I4,r4,q4⟩=>ho' pins s4 σ H4 y z' u w' Q I4 r2 r4 q4))
theorem znR {r:R2} (ho:OpR X (compareOp op) r) (ho':OpR X (compareOp op') r') (ha:PE X a ta) (hb:PE X b tb) (hc:PE X c tc)
  (hm:lastMarks [op,op'] [b,c]=false:=by with_unfolding_all rfl):PT X (.Compare a [op,op'] [b,c] pos) (zr4 (zln r r' ta tb tc)):=by
 intro pins s σ H Q I h
 refine isTrue_chain (thn (ha pins s σ H _ I h) fun v s1 ⟨x,H1,I1,r1,q1⟩=>test_link (thn (hb pins s1 σ H1 _ I1 q1) fun u s2 ⟨y,H2,I2,r2,q2⟩ =>
  thn (ho pins s2 σ H2 x y v u _ I2 r1 r2 q2) fun d s3 ⟨z,H3,I3,r3,k,e,q3⟩=>?_)) hm
 subst e
 cases r3
 refine wpAny_truthy_bool ?_
 cases k with
 | false =>
  obtain ⟨k',e',q'⟩:=q3
  cases e'
  exact ite_ff ⟨H3,I3,q'⟩
 | true =>
  refine ite_tt (test_last (thn (hc pins s3 σ H3 _ I3 q3) fun w' s4 ⟨z',H4,I4,r4,q4⟩=>thn (ho' pins s4 σ H4 y z' u w' _ I4 r2 r4 q4) fun d' s5 ⟨z2,H5,I5,r5,k2,e2,q5⟩=>?_))
  subst e2
  cases r5
  exact wpAny_truthy_bool ⟨H5,I5,q5⟩
theorem zj2:(sizeLine:Nat) < 2 ^ 63:=by rw [sizeLine_eq];decide
theorem zkK:OpR X (binaryOp .Add) (fun x y H Q=>∃ i j,x=.str i/\y=.str j/\i.length+j.length<=sizeLine/\Q (.str (i++j)) H):=by
 intro pins s σ H x y v u Q I rx ry h
 obtain ⟨i,j,rfl,rfl,hz,q⟩:=h
 obtain ⟨t,rfl⟩:=rx
 obtain ⟨t',rfl⟩:=ry
 exact add_str (fun t' tk=>⟨.str (i++j),H,I.tok _,⟨_,rfl⟩,q⟩) hz
theorem zfN {x:V} {us:List Value} (r:zbI [x] us):∃ u,us=[u]/\zbX x u:=by
 cases r with
 | cons r1 r2=>cases r2;exact ⟨_,rfl,r1⟩
theorem zrW {x y:V} {us:List Value} (r:zbI [x,y] us):∃ u w',us=[u,w']/\zbX x u/\zbX y w':=by
 cases r with
 | cons r1 r2 =>
  cases r2 with
  | cons r3 r4=>cases r4;exact ⟨_,_,rfl,r1,r3⟩
theorem zm8 (hc:X.calm=true):ze9 X (.builtin "min") (fun xs H Q=>∃ i j,xs=[.int i,.int j]/\Q (.int (if j < i then j else i)) H):=by
 intro pins s σ H xs us Q I r h
 obtain ⟨i,j,rfl,q⟩:=h
 obtain ⟨u,w',rfl,⟨t,rfl⟩,⟨t',rfl⟩⟩:=zrW r
 refine min_two_ints (I.ok.hd hc) fun h' tk k=>⟨_,H,I.kept k,?_,q⟩
 by_cases hj:j < i
 ·rw [qV hj,qV hj];exact ⟨_,rfl⟩
 ·rw [qW hj,qW hj];exact ⟨_,rfl⟩
def zwm (K:PySem.W.Frag) (x:V) (H:Hp) (n:Nat):Prop :=
 match x with
 | .str y=>y.length<=sizeLine/\n=y.length
 | .byt y=>y.size<=sizeLine/\n=y.size
 | .ref p=>(∃ xs,SqL K H p xs/\n=xs.length)\/∃ xs,SqT K H p xs/\n=xs.length
 | _=>False
theorem zoP:ze9 X (.builtin "len") (fun xs H Q=>∃ x n,xs=[x]/\zwm X.K x H n/\Q (.int n) H):=by
 intro pins s σ H xs us Q I r h
 obtain ⟨x,n,rfl,e,q⟩:=h
 obtain ⟨u,rfl,rx⟩:=zfN r
 have hl:=zj2
 have hs:sizeLine=16777216:=sizeLine_eq
 cases x with
 | str y =>
  obtain ⟨t,rfl⟩:=rx
  obtain ⟨hy,e'⟩:y.length<=sizeLine/\n=y.length:=e
  subst e'
  exact len_str (by omega) ⟨.int _,H,I.tok _,⟨_,rfl⟩,q⟩
 | byt y =>
  obtain ⟨t,rfl⟩:=rx
  obtain ⟨hy,e'⟩:y.size<=sizeLine/\n=y.size:=e
  subst e'
  exact PySem.W.len_bytes (by omega) ⟨.int _,H,I.tok _,⟨_,rfl⟩,q⟩
 | ref p =>
  cases rx
  have e':(∃ xs,SqL X.K H p xs/\n=xs.length)\/∃ xs,SqT X.K H p xs/\n=xs.length:=e
  rcases e' with ⟨xs,hx,e'⟩ | ⟨xs,hx,e'⟩
  ·subst e'
   obtain ⟨its,r',pl,hz⟩:=I.list hx
   have hlen:=r'.length
   exact Calls.call_len_list pl.isList (by simp only [qz];omega) ⟨.int xs.length,H,I.tok _,⟨_,by simp only [qz];rw [hlen]⟩,q⟩
  ·subst e'
   obtain ⟨its,r',pl,hz⟩:=I.tuple hx
   have hlen:=r'.length
   exact len_tuple pl (by simp only [qz];omega) ⟨.int xs.length,H,I.tok _,⟨_,by simp only [qz];rw [hlen]⟩,q⟩
 | _=>exact (show False from e).elim
end
structure ObjM (h:Heap) (x dx C:Addr) (mA:Str->Option Value):Prop where
 obj:h.get? x=some (PySem.W.instObj C dx)
 ns:h.Ns1 dx mA
 ne:dx≠x
variable {dx:Addr} {mA:Str->Option Value}
theorem zmg {h:Heap} (n:h.Ns1 dx mA):∃ od,h.get? dx=some od/\∀ name,PySem.W.lookIn name od=some (mA name):=by
 obtain ⟨o,es,ep,ho,hd,hk,_,hm⟩:=n
 refine ⟨o,ho,fun name=>?_⟩
 have e:=hm name
 unfold nsFind findBy at e
 rw [← Array.find?_toList] at e
 unfold PySem.W.lookIn
 rw [hd]
 dsimp only
 split
 ·rename_i y q
  rw [q] at e
  exact congrArg some e
 ·rename_i q
  rw [q] at e
  have a:es.toList.any (·.refKey)=false:=by
   rw [List.any_eq_false]
   intro y hy
   obtain ⟨z,t,hkey⟩:=hk y (Array.mem_toList_iff.mp hy)
   simp [DictEntry.refKey,hkey]
  have a':¬ es.toList.any (·.refKey)=true:=by rw [a];exact qq
  rw [qW a']
  exact congrArg some e
variable {C:Addr}
theorem ObjM.look {h:Heap} {x:Addr} (I:ObjM h x dx C mA):∃ od,PySem.W.InstAt h x (PySem.W.instObj C dx) C (some od)/\∀ name,PySem.W.lookIn name od=some (mA name) :=
 let ⟨od,ho,hl⟩:=zmg I.ns
 ⟨od,⟨I.obj,rfl,rfl,ho⟩,hl⟩
variable {prog:Program} {name:Str} {pl:Sem Bool} {kw:List (Str×Value)}
section
variable {x f:Addr} {v:Value}
theorem zqU {expr:Bool} (X:K.In s.heap) (I:ObjM s.heap x dx C mA) (hg:PySem.W.plainGet K C name=true) (hh:PySem.W.hasDictIn K C=true)
  (ha:PySem.W.findIn K (.ref C) name=some none) (hv:mA name=some v) (hv':PySem.W.handedIn v=true) (h:Q v { s with toks:=s.toks+1 }) :
  wpAny (model prog w) A (getAttr (.ref x) name expr) Q E s:=by
 obtain ⟨od,J,hl⟩:=I.look
 exact PySem.W.get_value X J (PySem.W.plainGet_of hg).1 (PySem.W.findObj_own hh ha rfl (by rw [hl,hv])) hv' h
theorem zou {Q:Value×List Value->Shared->Prop} (X:K.In s.heap) (I:ObjM s.heap x dx C mA) (hg:PySem.W.plainGet K C name=true)
  (hf:PySem.W.findIn K (.ref C) name=some (some (.ref f))) (ht:PySem.W.isFn K (.ref f)=true) (hv:mA name=none) (h:Q (.ref f,[.ref x]) s) :
  wpAny (model prog w) A (getMethod (.ref x) name pl) Q E s:=by
 obtain ⟨od,J,hl⟩:=I.look
 exact PySem.W.method_fn X J (PySem.W.plainGet_of hg).1 (PySem.W.plainGet_of hg).2 hf (beq_iff_eq.mp ht) (by show (PySem.W.lookIn name od).map (·.isSome)=some false;rw [hl,hv];rfl) h
theorem zpT {ns:List Str} {Q:Unit->Shared->Prop} (X:K.In s.heap) (I:ObjM s.heap x dx C mA)
  (hs:PySem.W.findIn K (.ref C) "__setattr__"=some (some (.builtin "object.__setattr__"))) (hp:PySem.W.plainOver K C=true) (ht:PySem.W.takerIn K C name=some none) (hh:PySem.W.hasDictIn K C=true)
  (hw:PySem.Within mA ns) (hsz:ns.length<=sizeLine)
  (h:∀ h',ObjM h' x dx C (fun y=>if y=name then some v else mA y)->Heap.SameBut dx s.heap h'->Q () { s with heap:=h',toks:=s.toks+2 }) :
  wpAny (model prog w) A (setAttr (.ref x) name v) Q E s:=by
 obtain ⟨od,J,hl⟩:=I.look
 refine PySem.W.set_plain X J hs (PySem.W.osa_open (s:={ s with toks:=s.toks+1 }) (r:=none) X J hp ht fun b=>?_)
 obtain ⟨cd,hc,hd'⟩:=PySem.W.any_some hh
 have hx:s.heap.get? x=some ⟨.ref C,some dx,.plain,#[]⟩:=I.obj
 refine qw (qy (qw (qw (wpAny_loadPart hx (qw (PySem.W.Looks.here (s:={ s with toks:=s.toks+1 }) (PySem.W.looks_clsIn X hc) ?_))))))
 rw [hd']
 refine qy (a:=some dx) (qw (qy (qw ?_)))
 refine wpAny_nsSet1 (s:={ s with toks:=s.toks+1 }) I.ns fun h' hn2 hs2=>?_
 obtain ⟨oD,esD,epD,hoD,hdD,hcD⟩:=hn2.count (PySem.Within.cons name v hw)
 refine qw (wpAny_lookBehind hoD (by rw [hdD];exact pastItsLine_dict (qL hcD (by rw [qh];omega))) ?_)
 exact qy (h _ ⟨(hs2.2 _ (Ne.symm I.ne)).trans I.obj,hn2,I.ne⟩ hs2)
theorem zob {R:Result->Shared->Prop} {vs:List Value} (X:K.In s.heap) (hm:PySem.W.makesIn K C=true)
  (hi:PySem.W.findIn K (.ref C) "__init__"=some (some (.ref f))) (hf:PySem.W.typeIn K (.ref f)=some (.type "function"))
  (h:codeAny (model prog w) (A.under (.builtin "type.__call__" ⟨.ref C::vs,kw⟩)) (.call (.ref f) ⟨.ref (s.heap.objs.size+1)::vs,kw⟩) (PySem.W.InitBack (s.heap.objs.size+1) R)
   { s with heap:=(s.heap.push PySem.W.emptyDict).push (PySem.W.instObj C s.heap.objs.size) }) :
  codeAny (model prog w) A (.call (.ref C) ⟨vs,kw⟩) R s:=by
 obtain ⟨hh,g,d,t,os⟩:=s
 exact PySem.W.make_core (PySem.W.makes_of X hm) (PySem.W.looks_findIn X hi) (fun self=>PySem.W.bind_fn X self hf) (.inl rfl) h
end
def zhQ (f:Str) (v:V):List (Str×V)->List (Str×V)
 | []=>[(f,v)]
 | (g,x)::r=>if g=f then (g,v)::r else (g,x)::zhQ f v r
theorem zf5 (f g:Str) (v:V):∀ fs:List (Str×V),(zhQ f v fs).lookup g=if g=f then some v else fs.lookup g
 | []=>by
  show List.lookup g [(f,v)]=_
  by_cases h:g=f
  ·have hb:(g==f)=true:=beq_iff_eq.mpr h
   simp only [List.lookup,hb,qV h]
  ·have hb:(g==f)=false:=beq_eq_false_iff_ne.mpr h
   simp only [List.lookup,hb,qW h]
 | (k,x)::r=>by
  have ih:=zf5 f g v r
  rw [show zhQ f v ((k,x)::r)=(if k=f then (k,v)::r else (k,x)::zhQ f v r) from rfl]
  by_cases hk:k=f
  ·rw [qV hk]
   by_cases h:g=k
   ·have hb:(g==k)=true:=beq_iff_eq.mpr h
    simp only [List.lookup,hb,qV (h.trans hk)]
   ·have hb:(g==k)=false:=beq_eq_false_iff_ne.mpr h
    simp only [List.lookup,hb,qW (fun e:g=f=>h (e.trans hk.symm))]
  ·rw [qW hk]
   by_cases h:g=k
   ·have hb:(g==k)=true:=beq_iff_eq.mpr h
    simp only [List.lookup,hb,qW (fun e:g=f=>hk (h.symm.trans e))]
   ·have hb:(g==k)=false:=beq_eq_false_iff_ne.mpr h
    simp only [List.lookup,hb]
    exact ih
theorem zga (f:Str) (v:V):∀ fs:List (Str×V),f∈(zhQ f v fs).map (·.1)/\∀ g,g∈fs.map (·.1)->g∈(zhQ f v fs).map (·.1)
 | []=>⟨by simp [zhQ],fun g h=>by simp at h⟩
 | (k,x)::r=>by
  obtain ⟨i1,i2⟩:=zga f v r
  rw [show zhQ f v ((k,x)::r)=(if k=f then (k,v)::r else (k,x)::zhQ f v r) from rfl]
  by_cases hk:k=f
  ·rw [qV hk]
   subst hk
   exact ⟨by simp,fun g h=>by simpa using h⟩
  ·rw [qW hk]
   refine ⟨?_,fun g h=>?_⟩
   ·rw [ql]
    exact qg _ i1
   ·rw [ql] at h ⊢
    rcases List.mem_cons.mp h with e | e
    ·exact List.mem_cons.mpr (.inl e)
    ·exact qg _ (i2 g e)
theorem zf7 (f:Str) (v:V):∀ fs:List (Str×V),(zhQ f v fs).length<=fs.length+1
 | []=>by simp [zhQ]
 | (k,x)::r=>by
  have ih:=zf7 f v r
  rw [show zhQ f v ((k,x)::r)=(if k=f then (k,v)::r else (k,x)::zhQ f v r) from rfl]
  by_cases hk:k=f
  ·rw [qV hk,qh,qh];omega
  ·rw [qW hk,qh,qh];omega
theorem zhO.some_of {o:Option Value} (r:zhO (some v) o):∃ u,o=some u/\zbX v u:=by
 cases o with
 | none=>exact (show False from r).elim
 | some u=>exact ⟨u,rfl,r⟩
theorem zhO.none_of {o:Option Value} (r:zhO none o):o=none:=by
 cases o with
 | none=>rfl
 | some u=>exact (show False from r).elim
theorem zmA (r:zbX v u):PySem.W.handedIn u=true:=by
 cases v with
 | non=>cases (show u=Value.none from r);rfl
 | bl b=>cases (show u=Value.bool b from r);rfl
 | int i=>obtain ⟨t,e⟩:=(show ∃ t,u=Value.int i t from r);cases e;rfl
 | str x=>obtain ⟨t,e⟩:=(show ∃ t,u=Value.str x t from r);cases e;rfl
 | byt b=>obtain ⟨t,e⟩:=(show ∃ t,u=Value.bytes b t from r);cases e;rfl
 | flt b=>obtain ⟨t,e⟩:=(show ∃ t,u=Value.float b t from r);cases e;rfl
 | ref a=>cases (show u=Value.ref a from r);rfl
 | ty n=>cases (show u=Value.type n from r);rfl
section
variable {h:Heap} {fs fs':List (Str×V)}
theorem zhr (hok:HOk P w H h) (e:H a=some (.ins C dx fs)):∃ mA,ObjM h a dx C mA/\(∀ f,zhO (fs.lookup f) (mA f))/\PySem.Within mA (fs.map (·.1))/\fs.length<=1000/\H dx=some (.own a):=by
 obtain ⟨d,z,ne,ob,mA,n,r,q⟩:=(show zcm P w H h a (.ins C dx fs) from hok a _ e)
 exact ⟨mA,⟨ob,n,ne⟩,r,q,z,d⟩
end
structure Cls (K:PySem.W.Frag) (C:Addr):Prop where
 pg:PySem.W.plainGet K C Str.empty=true
 hd:PySem.W.hasDictIn K C=true
 po:PySem.W.plainOver K C=true
 sa:PySem.W.findIn K (.ref C) "__setattr__"=some (some (.builtin "object.__setattr__"))
theorem Cls.get (c:Cls K C) (f:Str):PySem.W.plainGet K C f=true:=c.pg
def zfm (K:PySem.W.Frag) (C:Addr) (f:Str):Prop:=PySem.W.findIn K (.ref C) f=some none
theorem zfm.taker {K:PySem.W.Frag} {C:Addr} {f:Str} (n:zfm K C f):PySem.W.takerIn K C f=some none:=by
 unfold PySem.W.takerIn
 rw [show PySem.W.findIn K (.ref C) f=some none from n]
 rfl
structure Meth (K:PySem.W.Frag) (C:Addr) (m:Str) (f:Addr):Prop where
 at_:PySem.W.findIn K (.ref C) m=some (some (.ref f))
 fn:PySem.W.isFn K (.ref f)=true
 kp:PySem.W.keepIn K (.ref f)=true
variable {m:Str} {env:Env}
section
variable {fs:List (Str×V)} {f:Str}
theorem zkR {b:Bool} (I:Inv X pins σ H s) (e:H a=some (.ins C dx fs)) (c:Cls X.K C) (n:zfm X.K C f) (l:fs.lookup f=some v)
  (h:∀ u s',Inv X pins σ H s'->zbX v u->Q u s'):wpAny (model X.prog X.w) A (getAttr (.ref a) f b) Q E s:=by
 obtain ⟨mA,O,r,_,_,_⟩:=zhr I.hok e
 obtain ⟨u,hu,ru⟩:=zhO.some_of (v:=v) (o:=mA f) (by rw [← l];exact r f)
 exact zqU I.kIn O (c.get f) c.hd n hu (zmA ru) (h u _ (I.tok _) ru)
theorem ze2 {g:Addr} {Q:Value×List Value->Shared->Prop} (I:Inv X pins σ H s) (e:H a=some (.ins C dx fs)) (c:Cls X.K C) (k:Meth X.K C m g) (l:fs.lookup m=none)
  (h:Q (.ref g,[.ref a]) s):wpAny (model X.prog X.w) A (getMethod (.ref a) m pl) Q E s:=by
 obtain ⟨mA,O,r,_,_,_⟩:=zhr I.hok e
 have hn:mA m=none:=zhO.none_of (by rw [← l];exact r m)
 exact zou I.kIn O (c.get m) k.at_ k.fn hn h
theorem zkA {y:V} {Q:Unit->Shared->Prop} (I:Inv X pins σ H s) (e:H a=some (.ins C dx fs)) (c:Cls X.K C) (n:zfm X.K C f) (hl:fs.length < 1000) (ry:zbX y u)
  (h:∀ s',Inv X pins σ (upd H a (.ins C dx (zhQ f y fs))) s'->Q () s'):wpAny (model X.prog X.w) A (setAttr (.ref a) f u) Q E s:=by
 obtain ⟨mA,O,r,wi,_,ho⟩:=zhr I.hok e
 have hz:(fs.map (·.1)).length<=sizeLine:=by rw [qe,sizeLine_eq];omega
 refine zpT I.kIn O c.sa c.po n.taker c.hd wi hz fun h' O' sb=>h _ ?_
 have hd:∃ o,h'.get? dx=some o:=let ⟨o,_,_,e',_⟩:=O'.ns;⟨o,e'⟩
 refine I.write (x:=a) (e:=dx) (by rw [e];exact True.intro) (.inr ho) (fun b q hb z=>(sb.2 b hb).trans z) hd ?_
 refine ⟨by rw [zaj O.ne];exact ho,?_,O.ne,O'.obj,_,O'.ns,fun g=>?_,fun g hg=>?_⟩
 ·have:=zf7 f y fs;omega
 ·show zhO ((zhQ f y fs).lookup g) (if g=f then some u else mA g)
  rw [zf5]
  by_cases q:g=f
  ·rw [qV q,qV q];exact ry
  ·rw [qW q,qW q];exact r g
 ·by_cases q:g=f
  ·rw [q];exact (zga f y fs).1
  ·refine (zga f y fs).2 g (wi g fun z=>hg ?_)
   show (if g=f then some u else mA g)=none
   rw [qW q];exact z
theorem Inv.made (I:Inv X pins σ H s):Inv X pins σ (upd (upd H s.heap.objs.size (.own (s.heap.objs.size+1))) (s.heap.objs.size+1) (.ins C s.heap.objs.size []))
  { s with heap:=(s.heap.push PySem.W.emptyDict).push (PySem.W.instObj C s.heap.objs.size) }:=by
 have e1:(s.heap.push PySem.W.emptyDict).get? s.heap.objs.size=some PySem.W.emptyDict:=qF s.heap rfl
 have e2:((s.heap.push PySem.W.emptyDict).push (PySem.W.instObj C s.heap.objs.size)).get? (s.heap.objs.size+1)=some (PySem.W.instObj C s.heap.objs.size):=by
  have:=qF (s.heap.push PySem.W.emptyDict) (o:=PySem.W.instObj C s.heap.objs.size) rfl
  rwa [Heap.size_push] at this
 have e3:(s.heap.push PySem.W.emptyDict).Ns s.heap.objs.size (fun _=>none):=⟨PySem.W.emptyDict,#[],_,e1,rfl,(fun e he=>absurd he (by simp)),fun _=>rfl⟩
 have I1:=I.laid (a:=s.heap.objs.size) (o:=.own (s.heap.objs.size+1)) (h':=s.heap.push PySem.W.emptyDict) (t':=s.toks) (fun b u q=>qr _ q) (qu _) ⟨_,e1⟩
 refine I1.laid (a:=s.heap.objs.size+1) (o:=.ins C s.heap.objs.size []) (t':=s.toks) (fun b u q=>qr _ q) (Nat.le_of_eq (Heap.size_push _ _)) ?_
 have ne:s.heap.objs.size≠s.heap.objs.size+1:=qA (Nat.lt_succ_self _)
 refine ⟨by rw [zaj ne,zak],Nat.zero_le _,ne,e2,fun _=>none,(Heap.Ns1.of_empty e3).at fun o q=>qr _ q,fun _=>True.intro,fun y hy=>absurd rfl hy⟩
theorem zrv (hb:attributeBase e f env (eval e env)=eval e env)
  (h:wpAny (model prog w) A (eval e env) (fun o s₁=>wpAny (model prog w) A (getAttr o f true) Q E s₁) E s):wpAny (model prog w) A (eval (.Attribute e f pos) env) Q E s :=
 Attribute_any_ h (by rw [arm_eval_Attribute,hb])
end
def zvU (K:PySem.W.Frag) (ta:TE) (f:Str):TE:=fun σ H Q=>ta σ H fun x H1=>∃ a C dx fs v,x=.ref a/\H1 a=some (.ins C dx fs)/\Cls K C/\zfm K C f/\fs.lookup f=some v/\Q v H1
def zvY (K:PySem.W.Frag) (ta tv:TE) (f:Str):TS:=fun D σ H=>tv σ H fun y H1=>ta σ H1 fun x H2=>∃ a C dx fs,x=.ref a/\H2 a=some (.ins C dx fs)/\Cls K C/\zfm K C f/\fs.length < 1000 /\
 D.nx σ (upd H2 a (.ins C dx (zhQ f y fs)))
variable {o value:Expr} {tpos apos:Pos} {tv:TE}
section
variable {f:Str}
theorem zlQ (he:PE X e ta) (hb:attributeBase e f X.env (eval e X.env)=eval e X.env):PE X (.Attribute e f pos) (zvU X.K ta f):=by
 intro pins s σ H Q I h
 refine zrv hb (thn (he pins s σ H _ I h) fun u s1 ⟨x,H1,I1,rx,a,C,dx,fs,v,ex,ea,c,n,l,q⟩=>?_)
 subst ex
 obtain rfl:u=Value.ref a:=rx
 exact zkR I1 ea c n l fun u' s2 I2 ru=>⟨v,H1,I2,ru,q⟩
theorem zo8 (ha:PE X o ta) (hv:PE X value tv) (hs:swapsWith value (some (.Attribute o f pos')) pos.line X.env=pure false):PS X (.Assign [.Attribute o f pos'] value pos) (zvY X.K ta tv f):=by
 intro pins s σ H D I h
 refine plainObj_wpAny_Assign_Attribute (thn (hv pins s σ H _ I h) fun u s1 ⟨y,H1,I1,ry,q⟩=>thn (ha pins s1 σ H1 _ I1 q) fun ov s2 ⟨x,H2,I2,rx,a,C,dx,fs,ex,ea,c,n,l,q2⟩=>?_) hs
 subst ex
 obtain rfl:ov=Value.ref a:=rx
 exact zkA I2 ea c n l ry fun s3 I3=>⟨σ,_,I3,q2⟩
theorem zqE {args:List Expr} (he:PE X e te) (I:Inv X pins σ H s)
  (h:te σ H fun x H1=>∃ a C dx fs g,x=.ref a/\H1 a=some (.ins C dx fs)/\Cls X.K C/\Meth X.K C m g/\fs.lookup m=none /\
   ∀ s1,Inv X pins σ H1 s1->wpAny (model X.prog X.w) X.A (callWith pos (.ref g) [.ref a] (backTo pos (starEach args X.env)) (backToKw pos (keywordEach [] X.env))) Q X.xe s1)
  (ht:eval (.Call (.Attribute e m apos) args [] pos) X.env=(do
   let ov ← eval e X.env
   standAt apos.atName
   let (f,first) ← holding [ov] (getMethod ov m pl)
   callWith pos f first (backTo pos (starEach args X.env)) (backToKw pos (keywordEach [] X.env)))) :
  wpAny (model X.prog X.w) X.A (eval (.Call (.Attribute e m apos) args [] pos) X.env) Q X.xe s:=by
 refine PySem.W.methodCall_KW (pl:=pl) (thn (he pins s σ H _ I h) fun u s1 ⟨x,H1,I1,rx,a,C,dx,fs,g,ex,ea,c,k,l,q⟩=>?_) ht
 subst ex
 obtain rfl:u=Value.ref a:=rx
 exact ze2 I1 ea c k l (q s1 I1)
end
section
variable {c:Value} {b:Bool}
inductive TyOf (K:PySem.W.Frag) (H:Hp):V->Value->Prop where
 | non:TyOf K H .non (.type "NoneType")
 | bl (x:Bool):TyOf K H (.bl x) (.type "bool")
 | int (i:Int):TyOf K H (.int i) (.type "int")
 | str (x:Str):TyOf K H (.str x) (.type "str")
 | flt (x:UInt64):TyOf K H (.flt x) (.type "float")
 | lst {a:Addr} {xs:List V} (e:H a=some (.lst xs)):TyOf K H (.ref a) (.type "list")
 | frz {a:Addr} {o:Obj} {xs:List V} (e:H a=some (.frz o (.lst xs))):TyOf K H (.ref a) (.type "list")
 | tup {a:Addr} {xs:List V} (e:H a=some (.tup xs)):TyOf K H (.ref a) (.type "tuple")
 | dK {a:Addr} {kvs:List (Key×V)} (e:H a=some (.dK kvs)):TyOf K H (.ref a) (.type "dict")
 | dT {a:Addr} {kvs:List (List Key×V)} (e:H a=some (.dT kvs)):TyOf K H (.ref a) (.type "dict")
 | ins {a C dx:Addr} {fs:List (Str×V)} (e:H a=some (.ins C dx fs)) (cl:Cls K C) (ha:PySem.W.findIn K (.ref C) "__class__"=some (some (.builtin "object.__class__")))
   (hn:PySem.W.specialIn K (.builtin "object.__class__") "__get__"=some (some (.builtin "getset_descriptor.__get__"))) (htk:PySem.W.takesIn K (.builtin "object.__class__")=some true)
   (hm:PySem.W.mroIn K C (.type "object")=some true):TyOf K H (.ref a) (.ref C)
theorem zmw {x:V} {t:Value} (I:Inv X pins σ H s) (rx:zbX x u) (ty:TyOf X.K H x t) (e:PySem.W.kitOne X.K t c=some b) (h:∀ tk,Q (.bool b) { s with toks:=tk }) :
  wpAny (model X.prog X.w) A (call (.builtin "isinstance") [u,c]) Q E s:=by
 cases ty with
 | non=>cases (show u=Value.none from rx);exact PySem.W.kia_one PySem.W.kitx_none I.kIn True.intro e (fun z=>nomatch z) h
 | bl y=>cases (show u=Value.bool y from rx);exact PySem.W.kia_one PySem.W.kitx_bool I.kIn True.intro e (fun z=>nomatch z) h
 | int i=>obtain ⟨t,q⟩:=(show ∃ t,u=Value.int i t from rx);cases q;exact PySem.W.kia_one PySem.W.kitx_int I.kIn True.intro e (fun z=>nomatch z) h
 | str y=>obtain ⟨t,q⟩:=(show ∃ t,u=Value.str y t from rx);cases q;exact PySem.W.kia_one PySem.W.kitx_str I.kIn True.intro e (fun z=>nomatch z) h
 | flt y=>obtain ⟨t,q⟩:=(show ∃ t,u=Value.float y t from rx);cases q;exact PySem.W.kia_one PySem.W.kitx_float I.kIn True.intro e (fun z=>nomatch z) h
 | @lst a xs ea =>
  cases (show u=Value.ref a from rx)
  obtain ⟨_,_,n,_,h1⟩:=(show zcm X.prog X.w H s.heap a (.lst xs) from I.hok a _ ea)
  exact PySem.W.kia_one PySem.W.kitx_list I.kIn ⟨_,h1,rfl⟩ e (fun z=>nomatch z) h
 | @frz a ob xs ea =>
  cases (show u=Value.ref a from rx)
  obtain ⟨_,_,_,n,_,h1⟩:=(show zcm X.prog X.w H s.heap a (.frz ob (.lst xs)) from I.hok a _ ea)
  exact PySem.W.kia_one PySem.W.kitx_list I.kIn ⟨_,h1,rfl⟩ e (fun z=>nomatch z) h
 | @tup a xs ea =>
  cases (show u=Value.ref a from rx)
  obtain ⟨_,_,_,p⟩:=(show zcm X.prog X.w H s.heap a (.tup xs) from I.hok a _ ea)
  obtain ⟨o,h1,h2,_⟩:=p
  exact PySem.W.kia_one PySem.W.kitx_tuple I.kIn ⟨o,h1,h2⟩ e (fun z=>nomatch z) h
 | @dK a kvs ea =>
  cases (show u=Value.ref a from rx)
  obtain ⟨_,_,vs,_,p⟩:=(show zcm X.prog X.w H s.heap a (.dK kvs) from I.hok a _ ea)
  obtain ⟨o,es,ep,h1,h2,_⟩:=p
  exact PySem.W.kia_one PySem.W.kitx_dict I.kIn ⟨o,h1,h2.1⟩ e (fun z=>nomatch z) h
 | @dT a kvs ea =>
  cases (show u=Value.ref a from rx)
  obtain ⟨_,_,xs,_,o,es,ep,h1,h2,_⟩:=(show zcm X.prog X.w H s.heap a (.dT kvs) from I.hok a _ ea)
  exact PySem.W.kia_one PySem.W.kitx_dict I.kIn ⟨o,h1,h2.1⟩ e (fun z=>nomatch z) h
 | @ins a C dx fs ea cl ha hn htk hm =>
  cases (show u=Value.ref a from rx)
  obtain ⟨mA,O,_⟩:=zhr I.hok ea
  obtain ⟨od,J,_⟩:=O.look
  exact PySem.W.kia_one (PySem.W.kitx_own (cl.get _) cl.hd ha hn htk hm) I.kIn J e (fun z=>nomatch z) h
end
structure Room (k:Nat) (A:Around):Prop where
 hd:A.handled=none
 dp:A.depth+3*k+5 < recursionLimit
 un:A.units+16*k+200 < cLine
theorem Room.mono {k:Nat} (r:Room k A) (h:j<=k):Room j A:=⟨r.hd,by have:=r.dp;omega,by have:=r.un;omega⟩
theorem Room.deeper {k:Nat} (r:Room (k+1) A) (env:Env):Room k (A.deeper env) :=
 ⟨r.hd,by have:=r.dp;show A.depth+1+3*k+5 < _;omega,by have:=r.un;show A.units+3+16*k+200 < _;omega⟩
theorem zkN {us:List Value} :(A.under (.builtin "type.__call__" ⟨.ref C::us,kw⟩)).depth=A.depth+1:=by
 first | rfl | simp [Around.under,Code.weight,Code.isCreation,Code.isGuard,Code.isCaller,Code.frames,Code.isFrame,guardIds]
theorem zkM {us:List Value} :(A.under (.builtin "type.__call__" ⟨.ref C::us,kw⟩)).units=A.units+1:=by
 first | rfl | simp [Around.under,Code.cUnits,Code.frames,Code.isFrame]
theorem Room.make {k:Nat} (r:Room (k+1) A) (C:Addr) (us:List Value) (kw:List (Str×Value)):Room k (A.under (.builtin "type.__call__" ⟨.ref C::us,kw⟩)) :=
 ⟨r.hd,by have:=r.dp;rw [zkN];omega,by have:=r.un;rw [zkM];omega⟩
theorem Room.depth {k:Nat} (r:Room k A):A.depth < recursionLimit:=by have:=r.dp;omega
def zut:TA:=fun _ H Q=>Q [] H
def znA (ta:TE) (tr:TA):TA:=fun σ H Q=>ta σ H fun x H1=>tr σ H1 fun xs H2=>Q (x::xs) H2
section
variable {t:TA}
theorem zdz:PA X [] zut:=fun _ _ _ _ H Q I h=>Calls.spliced_nil ⟨[],H,I,.nil,h⟩
theorem zcA (ha:PE X e te) (hr:PA X es t) (hs:starEach (e::es) X.env=(false,eval e X.env)::starEach es X.env:=by rfl):PA X (e::es) (znA te t):=by
 intro pos pins s σ H Q I h
 rw [hs]
 show wpAny _ _ (spliced ((false,eval e X.env)::backTo pos (starEach es X.env))) _ _ s
 refine Calls.spliced_cons (thn (ha pins s σ H _ I h) fun u s1 ⟨x,H1,I1,r1,q1⟩=>?_)
 exact thn (hr pos pins s1 σ H1 _ I1 q1) fun us s2 ⟨xs,H2,I2,r2,q2⟩=>⟨x::xs,H2,I2,.cons r1 r2,q2⟩
def zvO (t:TA):TE:=fun σ H Q=>t σ H fun xs H1=>xs.length<=sizeLine/\∀ p,H1 p=none->Q (.ref p) (upd H1 p (.tup xs))
def zvr (t:TA):TE:=fun σ H Q=>t σ H fun xs H1=>xs.length<=sizeLine/\∀ p,H1 p=none->Q (.ref p) (upd H1 p (.lst xs))
theorem zsF {x1} (h:PA X es t):PE X (.Tuple es x1 pos) (zvO t):=by
 intro pins s σ H Q I hq
 refine wpAny_Tuple_spliced (thn (h pos pins s σ H _ I hq) fun us s1 ⟨xs,H1,I1,r,z,q⟩=>⟨by rw [← r.length];exact z,?_⟩)
 have hf:H1 s1.heap.objs.size=none:=I1.hok.fresh (qu _)
 refine ⟨.ref s1.heap.objs.size,upd H1 s1.heap.objs.size (.tup xs),I1.laid (t':=s1.toks) (fun b u e=>qr _ e) (qu _) ?_,rfl,q _ hf⟩
 exact ⟨z,us,r,⟨_,qF _ rfl,rfl,_,rfl⟩⟩
theorem zlP (h:PA X es t):PE X (.List es pos) (zvr t):=by
 intro pins s σ H Q I hq
 refine wpAny_List_spliced (thn (h pos pins s σ H _ I hq) fun us s1 ⟨xs,H1,I1,r,z,q⟩=>⟨by rw [← r.length];exact z,?_⟩)
 have hf:H1 s1.heap.objs.size=none:=I1.hok.fresh (qu _)
 refine ⟨.ref s1.heap.objs.size,upd H1 s1.heap.objs.size (.lst xs),I1.laid (t':=s1.toks) (fun b u e=>qr _ e) (qu _) ?_,rfl,q _ hf⟩
 exact ⟨z,us,0,r,qF _ rfl⟩
end
abbrev Sp:=List V->Hp->VK->XK->Prop
abbrev CXT:=List Env->Hp->Shared->XK->Value->Shared->Prop
structure Env0 (P:Program) (w:World) (K:PySem.W.Frag) (mg:Str->Option Value) (base:Heap) (A:Around) (outer:List Env) (s:Shared) (H:Hp):Prop where
 frames:A.frames=some outer
 mod:Mod K mg base
 bs:∀ b o,base.get? b=some o->s.heap.get? b=some o/\H b=none
 bsz:base.objs.size<=s.heap.objs.size
 funs:s.heap.FunFrames base outer
 frf:∀ b∈frs outer,H b=none
 hok:HOk P w H s.heap
 bare:AllBare s.gens
def CE (outer:List Env) (P:Program) (w:World) (H:Hp) (s:Shared) (Q:VK) (u:Value) (s':Shared):Prop :=
 ∃ v H',s'.os=s.os/\AllBare s'.gens/\Un (frs outer) [] H H' s.heap s'.heap/\HOk P w H' s'.heap/\zbX v u/\Q v H'
def CR (CX:CXT) (outer:List Env) (P:Program) (w:World) (H:Hp) (s:Shared) (Q:VK) (E:XK) (r:Result) (s':Shared):Prop :=
 match r with
 | .ok (.ret u)=>CE outer P w H s Q u s'
 | .ok _=>False
 | .error e=>CX outer H s E e s'
structure FnOk (P:Program) (w:World) (K:PySem.W.Frag) (mg:Str->Option Value) (base:Heap) (CX:CXT) (k:Nat) (f:Addr) (fd:FuncData) (ps:List Str) (sp:Sp):Prop where
 len:∀ vs H Q E,sp vs H Q E->vs.length=ps.length
 run:∀ (A:Around) (outer:List Env) (s:Shared) (H:Hp) (args:Args) (us:List Value) (vs:List V) (Q:VK) (E:XK),Room k A->Env0 P w K mg base A outer s H->BindsTo s fd args (ps.zip us)->zbI vs us->sp vs H Q E ->
  codeAny (model P w) A (.call (.ref f) args) (CR CX outer P w H s Q E) s
variable {mg:Str->Option Value} {base:Heap} {CX:CXT} {fd:FuncData} {ps:List Str} {sp:Sp}
theorem FnOk.imp {k:Nat} {f:Addr} {sp':Sp} (F:FnOk P w K mg base CX k f fd ps sp)
  (h:∀ vs H Q E,sp' vs H Q E->sp vs H Q E):FnOk P w K mg base CX k f fd ps sp' :=
 ⟨fun vs H Q E q=>F.len vs H Q E (h _ _ _ _ q),fun A outer s H args us vs Q E hr he hb hv hs=>F.run A outer s H args us vs Q E hr he hb hv (h _ _ _ _ hs)⟩
variable {outer:List Env}
theorem Env0.make (e:Env0 P w K mg base A outer s H) (C:Addr) (us:List Value) (kw:List (Str×Value)) :
  Env0 P w K mg base (A.under (.builtin "type.__call__" ⟨.ref C::us,kw⟩)) outer s H:=⟨by first | exact e.frames | (simpa [Around.under,Code.envs,Code.isFrame,pushEnvs] using e.frames),e.mod,e.bs,e.bsz,e.funs,e.frf,e.hok,e.bare⟩
theorem Inv.env0 (I:Inv X pins σ H s):Env0 X.prog X.w X.K X.mg X.base X.A X.stack s H :=
 ⟨I.ok.frames,I.ok.mod,I.bs,qL I.ok.bsz I.sz,I.stack,I.stkFree,I.hok,I.bare⟩
theorem Inv.after {Q:VK} (I:Inv X pins σ H s) (h:CE X.stack X.prog X.w H s Q u s'):EP X pins σ Q u s':=by
 obtain ⟨v,H',os,bare,un,hok,r,q⟩:=h
 obtain ⟨hh,g,d,t,os'⟩:=s'
 obtain rfl:os'=s.os:=os
 exact ⟨v,H',I.call (h':=hh) (g':=g) (d':=d) (t':=t) (ch:=[]) un hok bare (fun b z=>absurd z (by simp)),r,q⟩
def zuz (sp:Sp) (dvs:List V) (E:XK) (t:TA):TE:=fun σ H Q=>t σ H fun vs H1=>sp (vs++dvs) H1 Q E
def zr5 (C:Addr) (m:Str) (sp:Sp) (dvs:List V) (E:XK) (ta:TE) (t:TA):TE:=fun σ H Q=>ta σ H fun x H1=>∃ a dx fs,x=.ref a/\H1 a=some (.ins C dx fs)/\fs.lookup m=none /\
 t σ H1 fun vs H2=>sp (x::(vs++dvs)) H2 Q E
def zuv (C:Addr) (sp:Sp) (dvs:List V) (E:XK) (t:TA):TE:=fun σ H Q=>t σ H fun vs H1=>∀ x dx,H1 x=none->H1 dx=none->dx≠x ->
 sp (.ref x::(vs++dvs)) (upd (upd H1 dx (.own x)) x (.ins C dx [])) (fun v H2=>v=.non/\Q (.ref x) H2) E
def zej (K:PySem.W.Frag) (fd:FuncData) (ps:List Str) (ds:List Value):Prop :=
 ∀ (s:Shared) (us:List Value),K.In s.heap->(us++ds).length=ps.length->BindsTo s fd ⟨us,[]⟩ (ps.zip (us++ds))
theorem zej.all (h:∀ us:List Value,us.length=ps.length->bindArgs fd ⟨us,[]⟩=pure (ps.zip us)):zej K fd ps []:=fun s us _ hl=>by
 rw [List.append_nil] at hl ⊢
 exact .of_eq (h us hl)
def zgs (CX:CXT) (X:Cx) (E:XK):Prop:=∀ (pins:List (Addr×Obj)) (σ:St) (H:Hp) (s:Shared) (e:Value) (s':Shared),Inv X pins σ H s->CX X.stack H s E e s'->X.xe e s'
variable {vs:List V}
section
variable {k:Nat} {f:Addr} {dvs:List V} {ds:List Value} {E:XK} {t:TA}
theorem zlB {Q:VK} {us:List Value} (F:FnOk X.prog X.w X.K X.mg X.base CX k f fd ps sp) (hr:Room k X.A) (hb:zej X.K fd ps ds) (hd:zbI dvs ds) (hx:zgs CX X E)
  (I:Inv X pins σ H s) (r:zbI vs us) (h:sp (vs++dvs) H Q E):wpAny (model X.prog X.w) X.A (call (.ref f) us) (EP X pins σ Q) X.xe s:=by
 have r2:zbI (vs++dvs) (us++ds):=r.append hd
 have hl:(us++ds).length=ps.length:=by rw [← r2.length];exact F.len _ _ _ _ h
 refine wpAny_call (codeAny_mono (F.run X.A X.stack s H ⟨us,[]⟩ (us++ds) (vs++dvs) Q E hr I.env0 (hb s us I.kIn hl) r2 h) fun r s' hq=>?_)
 cases r with
 | error e=>exact hx pins σ H s e s' I hq
 | ok fl =>
  cases fl with
  | ret u=>exact I.after hq
  | next=>exact False.elim hq
  | brk=>exact False.elim hq
  | cont=>exact False.elim hq
theorem zlS (F:FnOk X.prog X.w X.K X.mg X.base CX k f fd ps sp) (hr:Room k X.A) (hg:Gl X x) (hm:X.mg x=some (.ref f)) (hk:PySem.W.keepIn X.K (.ref f)=true) (hb:zej X.K fd ps ds) (hd:zbI dvs ds) (hx:zgs CX X E)
  (ha:PA X (e::es) t) (hdb:(x==("__debug__":Str))=false:=by decide) (he:starEach (e::es) X.env=(false,eval e X.env)::starEach es X.env:=by rfl) (hpl:(backTo pos (starEach es X.env)).any (·.1)=false:=by rfl) :
  PE X (.Call (.Name x p) (e::es) [] pos) (zuz sp dvs E t):=by
 intro pins s σ H Q I h
 refine wpAny_Call_Name_kw (zi6 I hg hm ?_ hdb)
 refine PySem.W.callWith_K (h₀:=X.base) I.ok.mod.kin hk (thn (ha pos pins s σ H _ I h) fun us s1 ⟨vs,H1,I1,r,q⟩=>⟨I1.kIn,?_⟩) he hpl
 exact zlB F hr hb hd hx I1 r q
theorem zqd (he:PE X o ta) (c:Cls X.K C) (hm:Meth X.K C m f) (F:FnOk X.prog X.w X.K X.mg X.base CX k f fd ps sp) (hr:Room k X.A) (hb:zej X.K fd ps ds) (hd:zbI dvs ds) (hx:zgs CX X E) (ha:PA X (e::es) t)
  (hst:starEach (e::es) X.env=(false,eval e X.env)::starEach es X.env:=by rfl) (hpl:(backTo pos (starEach es X.env)).any (·.1)=false:=by rfl)
  (ht:eval (.Call (.Attribute o m apos) (e::es) [] pos) X.env=(do
   let ov ← eval o X.env
   standAt apos.atName
   let (f,first) ← holding [ov] (getMethod ov m pl)
   callWith pos f first (backTo pos (starEach (e::es) X.env)) (backToKw pos (keywordEach [] X.env))):=by rfl) :
  PE X (.Call (.Attribute o m apos) (e::es) [] pos) (zr5 C m sp dvs E ta t):=by
 intro pins s σ H Q I h
 refine PySem.W.methodCall_KW (pl:=pl) (thn (he pins s σ H _ I h) fun u s1 ⟨x,H1,I1,rx,a,dx,fs,ex,ea,l,q⟩=>?_) ht
 subst ex
 obtain rfl:u=Value.ref a:=rx
 refine ze2 I1 ea c hm l ?_
 refine PySem.W.callWith_K (first:=[.ref a]) (h₀:=X.base) I.ok.mod.kin hm.kp (thn (ha pos pins s1 σ H1 _ I1 q) fun us s2 ⟨vs,H2,I2,r,q2⟩=>⟨I2.kIn,?_⟩) hst hpl
 exact zlB (us:=.ref a::us) (vs:=.ref a::vs) F hr hb hd hx I2 (.cons rfl r) q2
theorem zjR (he:PE X o ta) (c:Cls X.K C) (hm:Meth X.K C m f) (F:FnOk X.prog X.w X.K X.mg X.base CX k f fd ps sp) (hr:Room k X.A) (hb:zej X.K fd ps ds) (hd:zbI dvs ds) (hx:zgs CX X E)
  (ht:eval (.Call (.Attribute o m apos) [] [] pos) X.env=(do
   let ov ← eval o X.env
   standAt apos.atName
   let (f,first) ← holding [ov] (getMethod ov m pl)
   callWith pos f first (backTo pos (starEach [] X.env)) (backToKw pos (keywordEach [] X.env))):=by rfl) :
  PE X (.Call (.Attribute o m apos) [] [] pos) (zr5 C m sp dvs E ta zut):=by
 intro pins s σ H Q I h
 refine PySem.W.methodCall_KW (pl:=pl) (thn (he pins s σ H _ I h) fun u s1 ⟨x,H1,I1,rx,a,dx,fs,ex,ea,l,q⟩=>?_) ht
 subst ex
 obtain rfl:u=Value.ref a:=rx
 refine ze2 I1 ea c hm l ?_
 exact PySem.W.callWith_K0 (first:=[.ref a]) I1.kIn hm.kp (zlB (us:=[.ref a]) (vs:=[.ref a]) F hr hb hd hx I1 (.cons rfl .nil) q)
structure Mk (K:PySem.W.Frag) (C f:Addr):Prop where
 makes:PySem.W.makesIn K C=true
 init:PySem.W.findIn K (.ref C) "__init__"=some (some (.ref f))
 fn:PySem.W.isFn K (.ref f)=true
 kp:PySem.W.keepIn K (.ref C)=true
theorem znO {Q:VK} {us:List Value} (M:Mk X.K C f) (F:FnOk X.prog X.w X.K X.mg X.base CX k f fd ps sp) (hr:Room (k+1) X.A) (hb:zej X.K fd ps ds) (hd:zbI dvs ds)
  (hx:zgs CX X E) (I:Inv X pins σ H s) (r:zbI vs us)
  (h:∀ x dx,H x=none->H dx=none->dx≠x->sp (.ref x::(vs++dvs)) (upd (upd H dx (.own x)) x (.ins C dx [])) (fun v H2=>v=.non/\Q (.ref x) H2) E) :
  wpAny (model X.prog X.w) X.A (call (.ref C) us) (EP X pins σ Q) X.xe s:=by
 have hq:=h (s.heap.objs.size+1) s.heap.objs.size (I.hok.fresh (Nat.le_succ _)) (I.hok.fresh (qu _)) (qA (Nat.lt_succ_self _))
 have I2:=Inv.made (C:=C) I
 have r2:zbI (V.ref (s.heap.objs.size+1)::(vs++dvs)) (Value.ref (s.heap.objs.size+1)::(us++ds)):=.cons rfl (r.append hd)
 have hl:(Value.ref (s.heap.objs.size+1)::us++ds).length=ps.length:=by
  have e:=r2.length
  rw [F.len _ _ _ _ hq] at e
  exact e.symm
 refine wpAny_call (zob (f:=f) I.kIn M.makes M.init (beq_iff_eq.mp M.fn) (codeAny_mono (F.run _ X.stack _ _ ⟨Value.ref (s.heap.objs.size+1)::us,[]⟩ (Value.ref (s.heap.objs.size+1)::(us++ds)) _ _ E (hr.make C us [])
  (I2.env0.make C us []) (hb _ (Value.ref (s.heap.objs.size+1)::us) I2.kIn hl) r2 hq) fun r s' hq'=>?_))
 cases r with
 | error e=>exact hx pins σ _ _ e s' I2 hq'
 | ok fl =>
  cases fl with
  | ret u =>
   obtain ⟨v,H',I3,rv,ev,q3⟩:=I2.after hq'
   subst ev
   exact ⟨rv,⟨V.ref (s.heap.objs.size+1),H',I3,rfl,q3⟩⟩
  | next=>exact False.elim hq'
  | brk=>exact False.elim hq'
  | cont=>exact False.elim hq'
theorem zqe (M:Mk X.K C f) (F:FnOk X.prog X.w X.K X.mg X.base CX k f fd ps sp) (hr:Room (k+1) X.A) (hg:Gl X x) (hm:X.mg x=some (.ref C)) (hb:zej X.K fd ps ds) (hd:zbI dvs ds) (hx:zgs CX X E)
  (ha:PA X (e::es) t) (hdb:(x==("__debug__":Str))=false:=by decide) (he:starEach (e::es) X.env=(false,eval e X.env)::starEach es X.env:=by rfl) (hpl:(backTo pos (starEach es X.env)).any (·.1)=false:=by rfl) :
  PE X (.Call (.Name x p) (e::es) [] pos) (zuv C sp dvs E t):=by
 intro pins s σ H Q I h
 refine wpAny_Call_Name_kw (zi6 I hg hm ?_ hdb)
 refine PySem.W.callWith_K (h₀:=X.base) I.ok.mod.kin M.kp (thn (ha pos pins s σ H _ I h) fun us s1 ⟨vs,H1,I1,r,q⟩=>⟨I1.kIn,?_⟩) he hpl
 exact znO M F hr hb hd hx I1 r q
end
structure FnScope (N P:List Str) (sc:Scope):Prop where
 kind:sc.kind=.function
 co:sc.isCoroutine=false
 gen:sc.isGenerator=false
 nd:N.Nodup
 pre:N.take P.length=P
 par:∀ x∈P,sc.names.lookup x=some .local\/sc.names.lookup x=some .cell
 nofree:∀ y∈sc.names,y.2≠.free
theorem ziC {kindOf:Str->Option NameKind} {x:Str}:∀ {binds:List (Str×Value)} {m:Str->Option Value},(∀ v,(x,v)∉binds)->bindL kindOf binds m x=m x
 | [],_,_=>rfl
 | (n,v)::r,m,h=>by
  unfold bindL
  rw [ziC fun w hw=>h w (qg _ hw)]
  split
  ·have:x≠n:=by rintro rfl;exact h v qf
   simp [this]
  ·rfl
theorem ziE {kindOf:Str->Option NameKind} {x:Str}:∀ {binds:List (Str×Value)} {m:Str->Option Value},(∀ v,(x,v)∉binds)->bindC kindOf binds m x=m x
 | [],_,_=>rfl
 | (n,v)::r,m,h=>by
  unfold bindC
  rw [ziE fun w hw=>h w (qg _ hw)]
  split
  ·rfl
  ·have:x≠n:=by rintro rfl;exact h v qf
   simp [this]
theorem ziD {kindOf:Str->Option NameKind} {x:Str} {v:Value}:∀ {P:List Str} {vs:List Value} {i:Nat} {m:Str->Option Value},P.Nodup->P[i]?=some x->vs[i]?=some v->kindOf x=some .local ->
  bindL kindOf (P.zip vs) m x=some v
 | [],_,_,_,_,h,_,_=>by simp at h
 | _::_,[],_,_,_,_,h,_=>by simp at h
 | p::P,w::vs,0,m,nd,h1,h2,hk=>by
  simp at h1 h2;subst h1;subst h2
  show bindL kindOf ((p,w)::P.zip vs) m p=_
  unfold bindL
  rw [ziC fun v hv=>(List.nodup_cons.mp nd).1 (List.of_mem_zip hv).1,qV hk]
  simp
 | p::P,w::vs,i+1,m,nd,h1,h2,hk=>by
  show bindL kindOf ((p,w)::P.zip vs) m x=_
  unfold bindL
  exact ziD (i:=i) (List.nodup_cons.mp nd).2 (by simpa using h1) (by simpa using h2) hk
theorem ziF {kindOf:Str->Option NameKind} {x:Str} {v:Value}:∀ {P:List Str} {vs:List Value} {i:Nat} {m:Str->Option Value},P.Nodup->P[i]?=some x->vs[i]?=some v->kindOf x≠some .local ->
  bindC kindOf (P.zip vs) m x=some v
 | [],_,_,_,_,h,_,_=>by simp at h
 | _::_,[],_,_,_,_,h,_=>by simp at h
 | p::P,w::vs,0,m,nd,h1,h2,hk=>by
  simp at h1 h2;subst h1;subst h2
  show bindC kindOf ((p,w)::P.zip vs) m p=_
  unfold bindC
  rw [ziE fun v hv=>(List.nodup_cons.mp nd).1 (List.of_mem_zip hv).1,qW hk]
  simp
 | p::P,w::vs,i+1,m,nd,h1,h2,hk=>by
  show bindC kindOf ((p,w)::P.zip vs) m x=_
  unfold bindC
  exact ziF (i:=i) (List.nodup_cons.mp nd).2 (by simpa using h1) (by simpa using h2) hk
def zen (N:List Str) (vs:List V):St:=vs.map some++List.replicate (N.length - vs.length) none
noncomputable def ziM (CX:CXT) (P:Program) (w:World) (K:PySem.W.Frag) (mg:Str->Option Value) (base:Heap) (N:List Str) (qual:Str) (scope:Scope) (f:Addr) (cd:Value) (A:Around) (outer:List Env) (s:Shared) (H:Hp) (E:XK):Cx where
 prog:=P
 w:=w
 K:=K
 mg:=mg
 base:=base
 A:=A.deeper (envOfC qual scope s.heap.objs.size f cd)
 N:=N
 s₀:=s
 H₀:=H
 env:=envOfC qual scope s.heap.objs.size f cd
 outer:=outer
 stack:=envOfC qual scope s.heap.objs.size f cd::outer
 ex:=[]
 calm:=true
 fn:=fun _=>true
 pn:=[]
 xe:=fun e s'=>wpAny (model P w) (A.deeper (envOfC qual scope s.heap.objs.size f cd)) (leaving (envOfC qual scope s.heap.objs.size f cd) e) (fun _ s''=>CX outer H s E e s'') (fun e' s''=>CX outer H s E e' s'') s'
variable {sc:Scope}
theorem zkr (h:sc.names.lookup x=some .cell):∃ c,(cellsFrom n sc.names []).lookup x=some c:=by
 have q:=PySem.W.cellsFrom_some sc.names n [] (.inl h)
 exact Option.isSome_iff_exists.mp q
variable {qual:Str} {scope:Scope} {cd:Value}
theorem zmx {f:Addr} {s1:Shared} {E:XK} {us:List Value} 
  (S:FnScope N ps scope) (hd:A.handled=none) (e0:Env0 P w K mg base A outer s H) (hl:vs.length=ps.length) (r:zbI vs us)
  (x:InCallC s s.heap.objs.size (bindL (envOfC qual scope s.heap.objs.size f cd).kindOf (ps.zip us) fun _=>none) (cellsFrom (s.heap.objs.size+1) scope.names []) (bindC (envOfC qual scope s.heap.objs.size f cd).kindOf (ps.zip us) fun _=>none) s1) :
  Inv (ziM CX P w K mg base N qual scope f cd A outer s H E) [] (zen N vs) H s1:=by
 have hpl:ps.length<=N.length:=by have:=congrArg List.length S.pre;rw [qC] at this;omega
 obtain ⟨h1,tk,rfl,hk⟩:=x.done
 have noA:∀ b:Addr,b∉(ziM CX P w K mg base N qual scope f cd A outer s H E).ex:=fun b z=>absurd (show b∈([]:List Addr) from z) (by simp)
 refine ⟨⟨e0.mod,S.kind,rfl,rfl,qu _,fun y z c h1 h2=>?_,fun y hy=>?_,fun y c _ h=>?_,fun _=>hd,Around.frames_deeper e0.frames,.inr ⟨rfl,rfl⟩,fun b z=>absurd z (noA b),e0.bs,e0.bsz,fun b _ _=>noA b,fun b z=>absurd z (noA b),e0.funs,e0.frf⟩,
  rfl,e0.bare,Un.kept hk,⟨_,x.toInCall.ns,fun i y v h1 h2 h3=>?_⟩,fun y c h=>⟨_,x.cell y c h⟩,e0.hok.fresh (qu _),fun y c h=>?_,fun p hp=>absurd (show p∈([]:List (Addr×Obj)) from hp) (by simp),e0.hok.kept hk,?_⟩
 ·exact name_of_addr x.apart (PySem.mem_of_lookup h1) (PySem.mem_of_lookup h2)
 ·have hy:scope.names.lookup y=some .cell\/scope.names.lookup y=some .free:=hy
  rcases hy with hy | hy
  ·exact zkr hy
  ·exact absurd rfl (S.nofree _ (PySem.mem_of_lookup hy))
 ·exact Nat.le_of_lt (x.above y c (PySem.mem_of_lookup h))
 ·have hi:i < vs.length:=by
   unfold zen at h2
   by_cases hi:i < vs.length
   ·exact hi
   ·rw [qJ (by simpa using hi)] at h2
    rw [List.getElem?_replicate] at h2
    split at h2 <;> cases h2
  have ha:vs[i]?=some v:=by
   unfold zen at h2
   rw [qx (by simpa using hi),qj] at h2
   cases e:vs[i]? with
   | none=>rw [e] at h2;cases h2
   | some a=>rw [e] at h2;cases h2;rfl
  obtain ⟨u,hu,rv⟩:=r.get ha
  have hp:ps[i]?=some y:=by
   rw [← S.pre,List.getElem?_take_of_lt (by omega)];exact h1
  have ndP:ps.Nodup:=by rw [← S.pre];exact S.nd.sublist (List.take_sublist _ _)
  refine ⟨u,rv,?_⟩
  rcases S.par y (qO hp) with k | k
  ·exact .inl ⟨k,ziD ndP hp hu k⟩
  ·obtain ⟨c,e⟩:=zkr (n:=s.heap.objs.size+1) k
   refine .inr ⟨.inl k,c,e,?_⟩
   have q:=x.cell y c e
   rw [ziF ndP hp hu (by show scope.names.lookup y≠_;rw [k];decide)] at q
   exact q
 ·exact e0.hok.fresh (Nat.le_of_lt (x.above y c (PySem.mem_of_lookup h)))
 ·unfold zen
  show _=N.length
  rw [qi,qe,List.length_replicate]
  omega
variable {params:Arguments} {doc pm cdv ct oc:Value} {an od:Option Addr} {osl:Array (Option Value)}
theorem ztB {k:Nat} {f:Addr} {dV kV:Value} 
  (lk:K.lookup f=some ⟨oc,od,.func (PySem.W.fnOf name qual params body scope dV kV doc pm an cdv ct),osl⟩) (hcd:PySem.W.codeIn K cdv qual=true) (S:FnScope N ps scope)
  (len:∀ vs H Q E,sp vs H Q E->vs.length=ps.length)
  (hbody:∀ (A:Around) (outer:List Env) (s:Shared) (H:Hp) (vs:List V) (Q:VK) (E:XK),Room k (A.deeper (envOfC qual scope s.heap.objs.size f cdv))->sp vs H Q E ->
   ∃ t,PSs (ziM CX P w K mg base N qual scope f cdv A outer s H E) body t/\t { nx:=fun _ H'=>Q .non H',rt:=Q } (zen N vs) H) :
  FnOk P w K mg base CX (k+1) f (PySem.W.fnOf name qual params body scope dV kV doc pm an cdv ct) ps sp:=by
 refine ⟨len,fun A outer s H args us vs Q E hr e0 hb r hsp=>?_⟩
 have hl:=len _ _ _ _ hsp
 have KX:K.In s.heap:=e0.mod.kin.keeps fun b o e=>(e0.bs b o e).1
 have lim:s.heap.NoLimit:=e0.mod.nolimit.keeps fun b o e=>(e0.bs b o e).1
 have hkind:∀ y∈ps.zip us,scope.names.lookup y.1=some .local\/(scope.names.lookup y.1=some .cell/\((cellsFrom (s.heap.objs.size+1) scope.names []).lookup y.1).isSome=true):=fun ⟨n,v⟩ hy=>by
  rcases S.par n (List.of_mem_zip hy).1 with q | q
  ·exact .inl q
  ·exact .inr ⟨q,PySem.W.cellsFrom_some _ _ _ (.inl q)⟩
 refine codeAny_call_function hr.depth (KX _ _ lk) rfl S.co S.gen rfl (PySem.W.codeRec_of KX hcd) (hb _ _ _ _ ?_)
 refine wpAny_newFunctionEnv_cells S.kind hkind fun env he s1 x=>?_
 subst he
 refine ⟨lim.keeps x.toInCall.keep,codeAny_func ?_⟩
 obtain ⟨t,ht,hq⟩:=hbody A outer s H vs Q E (hr.deeper _) hsp
 have I:Inv (ziM CX P w K mg base N qual scope f cdv A outer s H E) [] (zen N vs) H s1:=zmx S hr.hd e0 hl r x
 refine wpAny_mono (ht [] s1 (zen N vs) H _ I hq) (fun fl s' hs=>?_) fun e s' hs=>hs
 have fin:∀ {σ':St} {H':Hp} {v:V} {u:Value},Inv (ziM CX P w K mg base N qual scope f cdv A outer s H E) [] σ' H' s'->zbX v u->Q v H'->CE outer P w H s Q u s' :=
  fun {σ' H' v u} J rv q=>⟨v,H',J.os,J.bare,J.base,J.hok,rv,q⟩
 cases fl with
 | ret u =>
  obtain ⟨v,σ',H',J,rv,q⟩:=hs
  exact fin J rv q
 | next =>
  obtain ⟨σ',H',J,q⟩:=hs
  exact fin (v:=V.non) (u:=Value.none) J rfl q
 | brk =>
  obtain ⟨_,_,_,q⟩:=hs
  exact False.elim q
 | cont =>
  obtain ⟨_,_,_,q⟩:=hs
  exact False.elim q
variable {T:String}
section
variable {t:TA} {id:String} {r:List V->Hp->VK->Prop}
def tCB (r:List V->Hp->VK->Prop) (t:TA):TE:=fun σ H Q=>t σ H fun vs H1=>r vs H1 Q
theorem zjS (hc:ze9 X (.builtin id) r) (hg:Gl X x) (hm:X.mg x=none) (hv:bootBuiltins x=some (.builtin id)) (ha:PA X (e::es) t) (hn:x≠"__name__":=by decide) (hdb:(x==("__debug__":Str))=false:=by decide)
  (he:starEach (e::es) X.env=(false,eval e X.env)::starEach es X.env:=by rfl) (hpl:(backTo pos (starEach es X.env)).any (·.1)=false:=by rfl):PE X (.Call (.Name x p) (e::es) [] pos) (tCB r t):=by
 intro pins s σ H Q I h
 refine wpAny_Call_Name_kw (zf9 I hg hm hv ?_ hn hdb)
 exact PyProof.Rows.callWith_builtin1 (thn (ha pos pins s σ H _ I h) fun us s1 ⟨vs,H1,I1,r1,q1⟩=>hc pins s1 σ H1 vs us Q I1 r1 q1) he hpl
theorem zh9 (hc:ze9 X (.type T) r) (hg:Gl X x) (hm:X.mg x=none) (hv:bootBuiltins x=some (.type T)) (ha:PA X (e::es) t) (hn:x≠"__name__":=by decide) (hdb:(x==("__debug__":Str))=false:=by decide)
  (he:starEach (e::es) X.env=(false,eval e X.env)::starEach es X.env:=by rfl) (hpl:(backTo pos (starEach es X.env)).any (·.1)=false:=by rfl):PE X (.Call (.Name x p) (e::es) [] pos) (tCB r t):=by
 intro pins s σ H Q I h
 refine wpAny_Call_Name_kw (zf9 I hg hm hv ?_ hn hdb)
 exact PyProof.Rows.callWith_type1 (thn (ha pos pins s σ H _ I h) fun us s1 ⟨vs,H1,I1,r1,q1⟩=>hc pins s1 σ H1 vs us Q I1 r1 q1) he hpl
end
variable {sl:Addr} {vl vu:Value} {hi:Option Int} {items:Array Value}
namespace HT
noncomputable def sIx (n d:Nat):Option Int->Nat
 | none=>d
 | some v=>if v < 0 then (v+(n:Int)).toNat else min v.toNat n
theorem zsh (n d:Nat) (hd:d<=n) (o:Option Int):sIx n d o<=n:=by
 cases o with
 | none=>exact hd
 | some v =>
  show (if v < 0 then (v+(n:Int)).toNat else min v.toNat n)<=n
  by_cases hv:v < 0
  ·rw [qV hv];omega
  ·rw [qW hv];exact Nat.min_le_right _ _
theorem zm2 (v:Int) (n d:Nat):(if v < 0 then max (v+(n:Int)) 0 else min v (n:Int))=((sIx n d (some v):Nat):Int):=by
 show (if v < 0 then max (v+(n:Int)) 0 else min v (n:Int))=(((if v < 0 then (v+(n:Int)).toNat else min v.toNat n):Nat):Int)
 by_cases hv:v < 0
 ·simp only [qV hv];omega
 ·simp only [qW hv];omega
theorem zla (lo hi:Option Int) (n:Nat):Builtin.Slice.sliceAdjust lo hi 1 (n:Int)=(((sIx n 0 lo:Nat):Int),((sIx n n hi:Nat):Int)):=by
 have h1:¬ ((1:Int) < 0):=by omega
 unfold Builtin.Slice.sliceAdjust
 simp only [h1,if_false]
 refine Prod.ext ?_ ?_
 ·cases lo with
  | none=>rfl
  | some v=>exact zm2 v n 0
 ·cases hi with
  | none=>rfl
  | some v=>exact zm2 v n n
theorem zkI (i j:Nat):Builtin.Slice.slicePlaces (i:Int) (j:Int) 1=j - i:=by
 unfold Builtin.Slice.slicePlaces
 have h1:(1:Int) > 0:=by omega
 simp only [h1,if_true,Int.ediv_one]
 split <;> omega
theorem zgH {v:Value} {o:Option Int} {Q:Option Int->Shared->Prop} (p:IsPart v o) (h:Q o s):wpAny (model prog w) A (Builtin.Slice.slicePartIndex v) Q E s:=by
 cases p with
 | none=>exact slicePart_none h
 | int i t=>exact slicePart_int h
theorem zfo {lo:Option Int} {Q:Int×Int×Nat->Shared->Prop} (hs:s.heap.IsSliceOf sl vl vu .none) (pl:IsPart vl lo) (pu:IsPart vu hi)
  (h:Q (((sIx n 0 lo:Nat):Int),1,sIx n n hi - sIx n 0 lo) s):wpAny (model prog w) A (Builtin.Slice.sliceApplied (.ref sl) (pure (n:Int))) Q E s:=by
 obtain ⟨os,hos,hcs,hds⟩:=id hs
 unfold Builtin.Slice.sliceApplied Builtin.Slice.sliceFields
 refine qw (qw (wpAny_field hos hds (x:=vl) rfl (qw (wpAny_field hos hds (x:=vu) rfl (qw (wpAny_field hos hds (x:=.none) rfl (qy ?_)))))))
 refine qw (slicePart_none ?_)
 show wpAny _ _ (if ((1:Int)==0)=true then _ else _) _ _ s
 rw [qW (by decide)]
 refine qw (zgH pl (qw (zgH pu (qw (qy ?_)))))
 show wpAny _ _ (match Builtin.Slice.sliceAdjust lo hi 1 (n:Int) with | (lo,hi)=>pure (lo,(1:Int),Builtin.Slice.slicePlaces lo hi 1)) _ _ s
 rw [zla lo hi n]
 show wpAny _ _ (pure (((sIx n 0 lo:Nat):Int),(1:Int),Builtin.Slice.slicePlaces ((sIx n 0 lo:Nat):Int) ((sIx n n hi:Nat):Int) 1)) _ _ s
 rw [zkI]
 exact qy h
theorem znX (xs:Array Value) (i k:Nat):((List.range k).filterMap fun (m:Nat)=>xs[((i:Int)+(m:Int)*1).toNat]?).toArray=((xs.toList.drop i).take k).toArray:=by
 have e:(fun (m:Nat)=>xs[((i:Int)+(m:Int)*1).toNat]?)=fun m=>xs[i+m]?:=by
  funext m
  have:((i:Int)+(m:Int)*1).toNat=i+m:=by omega
  rw [this]
 rw [e]
 have:=pick_run xs i k
 rw [List.filterMap_map] at this
 have e2:((fun x=>xs[x]?) ∘ fun x=>i+x)=fun m=>xs[i+m]?:=rfl
 rw [e2] at this
 rw [this]
theorem getItem_tuple_cut {t:Addr} {lo:Option Int} (ht:IsTup s.heap t items) (hs:s.heap.IsSliceOf sl vl vu .none) (pl:IsPart vl lo) (pu:IsPart vu hi)
  (hw:¬ (sIx items.size 0 lo=0/\sIx items.size items.size hi=items.size))
  (h:Q (.ref s.heap.objs.size) { s with heap:=s.heap.push { cls:=.type "tuple",data:=.seq ((items.toList.drop (sIx items.size 0 lo)).take (sIx items.size items.size hi - sIx items.size 0 lo)).toArray } })
  (hsz:items.size<=sizeLine):wpAny (model prog w) A (getItem (.ref t) (.ref sl)) Q E s:=by
 have htake:sizeOk (.seq ((items.toList.drop (sIx items.size 0 lo)).take (sIx items.size items.size hi - sIx items.size 0 lo)).toArray):=by
  show ((items.toList.drop (sIx items.size 0 lo)).take (sIx items.size items.size hi - sIx items.size 0 lo)).toArray.size<=sizeLine
  rw [qz,qC,List.length_drop,Array.length_toList]
  omega
 have hj:sIx items.size items.size hi<=items.size:=zsh _ _ (qu _) hi
 obtain ⟨os,hos,hcs,hds⟩:=id hs
 have hTs:s.TypeIs (.ref sl) "slice":=⟨os,hos,hcs⟩
 unfold getItem
 try with_reducible refine qS ?_
 first | refine qw (qy ?_) | skip
 refine qw (wpAny_sequenceKey ht.typeIs (by decide) ?_)
 refine qw (wpAny_callSpecial?_slot (name:=Str.ofString "__getitem__") ht.typeIs PyProof.Rows.slot_tuple_getitem
  (wpAny_call_entry PyProof.Rows.slot_tuple_getitem ht.typeIs entry_tuple_getitem ?_ (args_tuple_getitem _ _)))
 show wpAny _ _ (Builtin.Tuple.tupleItemsOf (.ref t) >>= _) _ _ s
 refine qw (tupleItemsOf_ ht ?_)
 refine qw (wpAny_typeOf hTs ?_)
 rw [qV (by decide)]
 refine qw (zfo hs pl pu ?_)
 have hno:¬ ((((sIx items.size 0 lo:Nat):Int)==0 && (1:Int)==1 && (sIx items.size items.size hi - sIx items.size 0 lo)==items.size)=true):=by
  intro q
  rw [Bool.and_eq_true,Bool.and_eq_true] at q
  have q1:((sIx items.size 0 lo:Nat):Int)=0:=eq_of_beq q.1.1
  have q2:sIx items.size items.size hi - sIx items.size 0 lo=items.size:=eq_of_beq q.2
  exact hw ⟨by omega,by omega⟩
 show wpAny _ _ (if (((sIx items.size 0 lo:Nat):Int)==0 && (1:Int)==1 && (sIx items.size items.size hi - sIx items.size 0 lo)==items.size)=true then _ else _) _ _ s
 rw [qW hno,znX]
 first
  | exact qw (m:=Builtin.Tuple.tupleExact _) (wpAny_newObj_type (qy ⟨_,rfl,qy h⟩) htake)
  | exact qw (m:=Builtin.Tuple.tupleExact _) (wpAny_newObj_type (qw (qy (qy ⟨_,rfl,qy h⟩))) htake)
  | exact qw (qw (m:=Builtin.Tuple.tupleExact _) (wpAny_newObj_type (qy (qy ⟨_,rfl,qy h⟩)) htake))
  | exact qw (qw (m:=Builtin.Tuple.tupleExact _) (wpAny_newObj_type (qy ⟨_,rfl,qy h⟩) htake))
end HT
abbrev TO:=St->Hp->(Option Int->Hp->Prop)->Prop
def PO (X:Cx) (e:Option Expr) (t:TO):Prop :=
 ∀ (pins:List (Addr×Obj)) (s:Shared) (σ:St) (H:Hp) (Q:Option Int->Hp->Prop),Inv X pins σ H s->t σ H Q ->
  wpAny (model X.prog X.w) X.A (evalPart e X.env) (fun u s'=>∃ o H',Inv X pins σ H' s'/\IsPart u o/\Q o H') X.xe s
def zpL:TO:=fun _ H Q=>Q none H
def zur (t:TE):TO:=fun σ H Q=>t σ H fun x H1=>∃ i,x=.int i/\Q (some i) H1
variable {p2:Pos}
section
variable {lo hi:Option Expr} {tl th:TO}
theorem zp9:PO X none zpL:=by
 intro pins s σ H Q I h
 rw [evalPart_none]
 exact qy ⟨none,H,I,.none,h⟩
theorem zp8 (h:PE X e te):PO X (some e) (zur te):=by
 intro pins s σ H Q I hw
 rw [evalPart_some]
 refine thn (h pins s σ H _ I hw) fun u s1 ⟨x,H1,I1,r1,q1⟩=>?_
 obtain ⟨i,rfl,q⟩:=q1
 obtain ⟨t,rfl⟩:=r1
 exact ⟨some i,H1,I1,.int i t,q⟩
def SlR (X:Cx) (r:V->Option Int->Option Int->Hp->VK->Prop):Prop :=
 ∀ (pins:List (Addr×Obj)) (s:Shared) (σ:St) (H:Hp) (x:V) (v vl vu:Value) (lo hi:Option Int) (sl:Addr) (Q:VK),Inv X pins σ H s->zbX x v->s.heap.IsSliceOf sl vl vu .none->IsPart vl lo->IsPart vu hi->r x lo hi H Q ->
  ∃ T id,typeLookup (.type T) "__getitem__"=pure (some (.builtin id))/\s.TypeIs v T/\wpAny (model X.prog X.w) X.A (getItem v (.ref sl)) (EP X pins σ Q) X.xe s
theorem SlR.or {r r':V->Option Int->Option Int->Hp->VK->Prop} (h:SlR X r) (h':SlR X r'):SlR X (fun x lo hi H Q=>r x lo hi H Q\/r' x lo hi H Q):=by
 intro pins s σ H x v vl vu lo hi sl Q I rx hs pl pu q
 rcases q with q | q
 ·exact h pins s σ H x v vl vu lo hi sl Q I rx hs pl pu q
 ·exact h' pins s σ H x v vl vu lo hi sl Q I rx hs pl pu q
def tSl (r:V->Option Int->Option Int->Hp->VK->Prop) (te:TE) (tl th:TO):TE:=fun σ H Q=>te σ H fun x H1=>tl σ H1 fun l H2=>th σ H2 fun u H3=>r x l u H3 Q
theorem znZ {r:V->Option Int->Option Int->Hp->VK->Prop} (hr:SlR X r) (he:PE X e te) (hl:PO X lo tl) (hu:PO X hi th):PE X (.Subscript e (.Slice lo hi none p2) pos) (tSl r te tl th):=by
 intro pins s σ H Q I h
 refine Subscript_ (thn (he pins s σ H _ I h) fun v s1 ⟨x,H1,I1,r1,q1⟩=>?_)
 refine wpAny_Slice (thn (hl pins s1 σ H1 _ I1 q1) fun vl s2 ⟨l,H2,I2,pl,q2⟩=>thn (hu pins s2 σ H2 _ I2 q2) fun vu s3 ⟨u,H3,I3,pu,q3⟩=>?_)
 rw [evalPart_none]
 refine qy ?_
 have I4:Inv X pins σ H3 { s3 with heap:=s3.heap.push { cls:=.type "slice",data:=.fields #[vl,vu,.none] } }:=I3.kept (t':=s3.toks) fun b ob q=>qr _ q
 obtain ⟨T,id,hT,ht,hg⟩:=hr pins { s3 with heap:=s3.heap.push { cls:=.type "slice",data:=.fields #[vl,vu,.none] } } σ H3 x v vl vu l u s3.heap.objs.size Q I4 r1 (Heap.IsSliceOf.new ..) pl pu q3
 show wpAny (model X.prog X.w) X.A (subscriptTail e (.Slice lo hi none p2) v (.ref s3.heap.objs.size)) (EP X pins σ Q) X.xe { s3 with heap:=s3.heap.push { cls:=.type "slice",data:=.fields #[vl,vu,.none] } }
 exact tail_any (ops:=[.ref s3.heap.objs.size,v]) ht hT hg (by with_unfolding_all rfl)
def zpw (xs:List V) (lo hi:Option Int):List V:=(xs.drop (HT.sIx xs.length 0 lo)).take (HT.sIx xs.length xs.length hi - HT.sIx xs.length 0 lo)
theorem zgm (xs:List V) (lo hi:Option Int):(zpw xs lo hi).length<=xs.length:=by
 unfold zpw
 rw [qC,List.length_drop]
 omega
def zv0 (K:PySem.W.Frag):V->Option Int->Option Int->Hp->VK->Prop:=fun x lo hi H Q=>∃ a xs,x=.ref a/\SqT K H a xs /\
 ¬ (HT.sIx xs.length 0 lo=0/\HT.sIx xs.length xs.length hi=xs.length)/\∀ p,H p=none->Q (.ref p) (upd H p (.tup (zpw xs lo hi)))
theorem zsb:SlR X (zv0 X.K):=by
 intro pins s σ H x v vl vu lo hi sl Q I rx hs pl pu h
 obtain ⟨a,xs,rfl,hx,hw,q⟩:=h
 cases rx
 obtain ⟨its,r,ht,hz⟩:=I.tuple hx
 have hlen:its.toArray.size=xs.length:=by rw [qz];exact r.length.symm
 refine ⟨"tuple",_,PyProof.Rows.slot_tuple_getitem.lookup,ht.typeIs,?_⟩
 refine HT.getItem_tuple_cut ht hs pl pu (by rw [hlen];exact hw) ?_ (by rw [hlen];exact hz)
 rw [hlen]
 refine ⟨.ref s.heap.objs.size,_,I.laid (t':=s.toks) (o:=.tup (zpw xs lo hi)) (fun b ob q=>qr _ q) (qu _) ?_,rfl,q _ (I.hok.fresh (qu _))⟩
 exact ⟨qL (zgm xs lo hi) hz,_,(r.drop (HT.sIx xs.length 0 lo)).take (HT.sIx xs.length xs.length hi - HT.sIx xs.length 0 lo),IsTup.new _ _⟩
end
noncomputable def ixN (n:Nat) (i:Int):Option Nat:=if 0<=i then (if i < n then some i.toNat else none) else if -(n:Int)<=i then some (i+n).toNat else none
def atI (xs:List α) (i:Int):Option α:=(ixN xs.length i).bind fun j=>xs[j]?
theorem zqP {i:Int} (h:ixN n i=some j):seqIndex? i n=some j/\j < n /\ -(n:Int)<=i/\i < n:=by
 unfold ixN at h
 by_cases h0:0<=i
 ·rw [qV h0] at h
  by_cases h1:i < n
  ·rw [qV h1] at h
   have e:i.toNat=j:=qG h
   exact ⟨by rw [seqIndex_of h0 h1,e],by omega,by omega,h1⟩
  ·rw [qW h1] at h;cases h
 ·rw [qW h0] at h
  by_cases h1 : -(n:Int)<=i
  ·rw [qV h1] at h
   have e:(i+n).toNat=j:=qG h
   exact ⟨by rw [seqIndex_neg (by omega) h1,e],by omega,h1,by omega⟩
  ·rw [qW h1] at h;cases h
theorem zjx {xs:List α} {i:Int} {v:α} (h:atI xs i=some v):∃ j,seqIndex? i xs.length=some j/\xs[j]?=some v/\j < xs.length /\ -(xs.length:Int)<=i/\i < xs.length:=by
 unfold atI at h
 cases e:ixN xs.length i with
 | none=>rw [e] at h;cases h
 | some j =>
  rw [e] at h
  obtain ⟨h1,h2,h3,h4⟩:=zqP e
  exact ⟨j,h1,h,h2,h3,h4⟩
theorem zdi {xs:List α} {v:α} (h:xs[j]?=some v):atI xs (j:Int)=some v:=by
 have hj:j < xs.length:=(List.getElem?_eq_some_iff.mp h).1
 have e:ixN xs.length (j:Int)=some j:=by
  unfold ixN
  rw [qV (by omega),qV (by omega)];simp
 unfold atI;rw [e];exact h
def zjA (b:Expr):Prop:=∀ o i,subscripted b false o i=operate [o,i] (getItem o i)
def IxR (X:Cx) (r:R2):Prop :=
 ∀ (value slice:Expr) (pins:List (Addr×Obj)) (s:Shared) (σ:St) (H:Hp) (x y:V) (v u:Value) (Q:VK),Inv X pins σ H s->zbX x v->zbX y u->r x y H Q ->
  subscripted slice false v u=operate [v,u] (getItem v u)->wpAny (model X.prog X.w) X.A (subscriptTail value slice v u) (EP X pins σ Q) X.xe s
def MtR (X:Cx) (id:String) (r:V->List V->Hp->VK->Prop):Prop :=
 ∀ (pins:List (Addr×Obj)) (s:Shared) (σ:St) (H:Hp) (x:V) (xs:List V) (v:Value) (us:List Value) (Q:VK),Inv X pins σ H s->zbX x v->zbI xs us->r x xs H Q ->
  wpAny (model X.prog X.w) X.A (call (.builtin id) (v::us)) (EP X pins σ Q) X.xe s
variable {cpos:Pos}
section
variable {a:Expr}
theorem IxR.or {r:R2} (h:IxR X r) (h':IxR X r'):IxR X (fun x y H Q=>r x y H Q\/r' x y H Q):=by
 intro value slice pins s σ H x y v u Q I rx ry q hs
 rcases q with q | q
 ·exact h value slice pins s σ H x y v u Q I rx ry q hs
 ·exact h' value slice pins s σ H x y v u Q I rx ry q hs
theorem zsJ {r:R2} (hr:IxR X r) (ha:PE X a ta) (hb:PE X b tb) (hs:zjA b):PE X (.Subscript a b pos) (tOp r ta tb):=by
 intro pins s σ H Q I h
 exact Subscript_ (zvf ha hb I h fun v u s2 x y H2 I2 rx ry q=>hr a b pins s2 σ H2 x y v u Q I2 rx ry q (hs _ _))
def zvw (K:PySem.W.Frag):R2:=fun x y H Q=>∃ p xs i v,x=.ref p/\y=.int i/\SqL K H p xs/\atI xs i=some v/\Q v H
def zvu (K:PySem.W.Frag):R2:=fun x y H Q=>∃ p xs i v,x=.ref p/\y=.int i/\SqT K H p xs/\atI xs i=some v/\Q v H
def zvv:R2:=fun x y H Q=>∃ z i c,x=.str z/\y=.int i/\z.length<=sizeLine/\atI z.cps.toList i=some c/\Q (.str ⟨#[c]⟩) H
theorem zqO:IxR X (zvw X.K):=by
 intro value slice pins s σ H x y v u Q I rx ry h hs
 obtain ⟨p,xs,i,z,rfl,rfl,hq,he,q⟩:=h
 cases rx
 obtain ⟨t,rfl⟩:=ry
 obtain ⟨its,r,pl,hz⟩:=I.list hq
 obtain ⟨j,h1,h2,h3,h4,h5⟩:=zjx he
 obtain ⟨w,ew,rw'⟩:=r.get h2
 have hl:=r.length
 have hn:=zj2
 have fin:EP X pins σ Q w s:=⟨z,H,I,rw',q⟩
 by_cases h0:0<=i
 ·have hj:i.toNat=j:=by
   rw [seqIndex_of h0 h5] at h1
   exact qG h1
  exact item_listR pl.isList h0 (by omega) (by rw [hj];simpa using ew) fin hs
 ·have hj:(i+(its.toArray.size:Int)).toNat=j:=by
   rw [seqIndex_neg (by omega) h4] at h1
   rw [qz,← hl]
   exact qG h1
  exact subscriptTail_builtinR (x:=w) pl.isList.typeIs slot_list_getitem.lookup
   (wpAny_getItem_list_neg (Q:=fun r s'=>r=w/\EP X pins σ Q r s') pl.isList (by omega) (by rw [qz] <;> omega) (by omega) (by rw [hj];simpa using ew) ⟨rfl,fin⟩) hs
theorem zto:IxR X (zvu X.K):=by
 intro value slice pins s σ H x y v u Q I rx ry h hs
 obtain ⟨p,xs,i,z,rfl,rfl,hq,he,q⟩:=h
 cases rx
 obtain ⟨t,rfl⟩:=ry
 obtain ⟨its,r,pl,hz⟩:=I.tuple hq
 obtain ⟨j,h1,h2,h3,h4,h5⟩:=zjx he
 obtain ⟨w,ew,rw'⟩:=r.get h2
 have hl:=r.length
 have hn:=zj2
 have fin:EP X pins σ Q w s:=⟨z,H,I,rw',q⟩
 exact subscriptTail_builtinR (x:=w) pl.typeIs slot_tuple_getitem.lookup
  (getItem_tuple (j:=j) (Q:=fun r s'=>r=w/\EP X pins σ Q r s') pl (by omega) (by omega) (by rw [qz,← hl];exact h1) (by simpa using ew) ⟨rfl,fin⟩) hs
theorem ztp:IxR X zvv:=by
 intro value slice pins s σ H x y v u Q I rx ry h hs
 obtain ⟨z,i,c,rfl,rfl,hz,he,q⟩:=h
 obtain ⟨t,rfl⟩:=rx
 obtain ⟨t',rfl⟩:=ry
 obtain ⟨j,h1,h2,h3,h4,h5⟩:=zjx he
 have hl:z.cps.toList.length=z.length:=by simp [Str.length]
 rw [hl] at h1 h4 h5
 have hn:=zj2
 exact tail_any (typeIs_str s z t) slot_str_getitem.lookup (getItem_str (c:=c) (by
  have e1:decide (i < -(2 ^ 63:Int))=false:=qM (by omega)
  have e2:decide (i ≥ 2 ^ 63)=false:=qM (by omega)
  rw [e1,e2,Bool.or_false]) (by rw [h1];simpa using h2) ⟨.str ⟨#[c]⟩,H,I.tok _,⟨_,rfl⟩,q⟩) hs
def rIx (K:PySem.W.Frag):R2:=fun x y H Q=>zvw K x y H Q\/zvu K x y H Q\/zvv x y H Q
theorem zpi:IxR X (rIx X.K):=zqO.or (zto.or ztp)
theorem zhX (lo hi:Option Int) (n:Nat):(sliceBounds lo hi none n).1=((HT.sIx n 0 lo:Nat):Int)/\(sliceBounds lo hi none n).2.1=((HT.sIx n n hi:Nat):Int)/\(sliceBounds lo hi none n).2.2=1:=by
 refine ⟨?_,?_,rfl⟩
 ·cases lo with
  | none=>simp [sliceBounds,HT.sIx]
  | some i =>
   simp only [sliceBounds,HT.sIx,Option.getD_none,show (1:Int) > 0 by decide,if_true]
   by_cases h:i < 0
   ·simp only [h,if_true] <;> omega
   ·simp only [h,if_false] <;> omega
 ·cases hi with
  | none=>simp [sliceBounds,HT.sIx]
  | some i =>
   simp only [sliceBounds,HT.sIx,Option.getD_none,show (1:Int) > 0 by decide,if_true]
   by_cases h:i < 0
   ·simp only [h,if_true] <;> omega
   ·simp only [h,if_false] <;> omega
theorem zg9 (its:List Value) (lo hi:Option Int):slicePick its.toArray lo hi none=((its.drop (HT.sIx its.length 0 lo)).take (HT.sIx its.length its.length hi - HT.sIx its.length 0 lo)).toArray:=by
 obtain ⟨h1,h2,h3⟩:=zhX lo hi its.toArray.size
 unfold slicePick
 rw [h1,h2,h3]
 simp only [sliceRange_one,pick_run,qz] <;> rfl
def zv1 (K:PySem.W.Frag):V->Option Int->Option Int->Hp->VK->Prop:=fun x lo hi H Q=>∃ a xs,x=.ref a/\SqL K H a xs/\∀ p,H p=none->Q (.ref p) (upd H p (.lst (zpw xs lo hi)))
theorem zpR:SlR X (zv1 X.K):=by
 intro pins s σ H x v vl vu lo hi sl Q I rx hs pl pu h
 obtain ⟨a,xs,rfl,hx,q⟩:=h
 cases rx
 obtain ⟨its,r,ht,hz⟩:=I.list hx
 have hlen:=r.length
 refine ⟨"list",_,slot_list_getitem.lookup,ht.isList.typeIs,?_⟩
 refine wpAny_getItem_list_slice ht.isList hs pl pu .none (by simp) ?_ (by rw [qz] <;> omega)
 rw [zg9,← hlen]
 refine ⟨.ref s.heap.objs.size,_,I.laid (t':=s.toks) (o:=.lst (zpw xs lo hi)) (fun b ob q=>qr _ q) (qu _) ?_,rfl,q _ (I.hok.fresh (qu _))⟩
 exact ⟨qL (zgm xs lo hi) hz,_,0,(r.drop (HT.sIx xs.length 0 lo)).take (HT.sIx xs.length xs.length hi - HT.sIx xs.length 0 lo),qF _ rfl⟩
theorem zhE:ze9 X (.type "tuple") (fun xs H Q=>∃ p ys,xs=[.ref p]/\((SqL X.K H p ys/\∀ l,H l=none->Q (.ref l) (upd H l (.tup ys)))\/(SqT X.K H p ys/\Q (.ref p) H))):=by
 intro pins s σ H xs us Q I r h
 obtain ⟨p,ys,rfl,h⟩:=h
 obtain ⟨u,rfl,rx⟩:=zfN r
 cases rx
 rcases h with ⟨hq,q⟩ | ⟨hq,q⟩
 ·obtain ⟨its,r',pl,hz⟩:=I.list hq
  have hlen:=r'.length
  refine call_tuple_list pl.isList (fun h' kp=>?_) (by simp only [qz] <;> omega)
  have I1:Inv X pins σ H { s with heap:=h' }:=I.kept (t':=s.toks) kp
  have I2:Inv X pins σ (upd H h'.objs.size (.tup ys)) { s with heap:=h'.push { cls:=.type "tuple",data:=.seq its.toArray } } :=
   I1.laid (t':=s.toks) (fun b o e=>qr _ e) (qu _) (show zcm X.prog X.w _ _ _ (.tup ys) from ⟨hz,its,r',IsTup.new _ _⟩)
  exact ⟨.ref h'.objs.size,_,I2,rfl,q _ (I1.hok.fresh (qu _))⟩
 ·obtain ⟨its,r',pl,hz⟩:=I.tuple hq
  exact call_tuple_same pl ⟨.ref p,H,I,rfl,q⟩
def tyV (K:PySem.W.Frag) (T:String) (x:V) (H:Hp):Prop:=match x with
 | .str _=>T="str"
 | .int _=>T="int"
 | .ref p=>(T="list"/\∃ xs,SqL K H p xs)\/(T="tuple"/\∃ o,K.lookup p=some o/\o.cls=.type "tuple"/\o.dict=none) \/
   (T="dict"/\((∃ kvs,H p=some (.dK kvs))\/∃ kvs,H p=some (.dT kvs)))\/(T="set"/\∃ S n,H p=some (.set S n))
 | _=>False
theorem zr0 {x:V} {v:Value} (I:Inv X pins σ H s) (r:zbX x v) (ty:tyV X.K T x H) :
  s.TypeIs v T/\∀ a,v=.ref a->∃ ob,s.heap.get? a=some ob/\ob.dict=none:=by
 cases x with
 | str z =>
  obtain ⟨t,rfl⟩:=r
  cases (show T="str" from ty)
  exact ⟨typeIs_str s z t,fun _ e=>nomatch e⟩
 | int i =>
  obtain ⟨t,rfl⟩:=r
  cases (show T="int" from ty)
  exact ⟨typeIs_int s i t,fun _ e=>nomatch e⟩
 | ref p =>
  cases r
  rcases ty with ⟨rfl,xs,hq⟩ | ⟨rfl,o,hk,hc,hd⟩ | ⟨rfl,hk⟩ | ⟨rfl,S,n,hk⟩
  ·obtain ⟨its,_,pl,_⟩:=I.list hq
   refine ⟨pl.isList.typeIs,fun a e=>?_⟩
   cases e
   obtain ⟨o,n,e,c,hd,_⟩:=pl
   exact ⟨o,e,hd⟩
  ·refine ⟨⟨o,I.kIn p o hk,hc⟩,fun a e=>?_⟩
   cases e
   exact ⟨o,I.kIn _ o hk,hd⟩
  ·have z:∃ o,s.heap.get? p=some o/\o.ExactDict:=by
    rcases hk with ⟨kvs,hk⟩ | ⟨kvs,hk⟩
    ·obtain ⟨_,_,_,_,o,_,_,e,ex,_⟩:=I.hok p _ hk
     exact ⟨o,e,ex⟩
    ·obtain ⟨_,_,_,_,o,_,_,e,ex,_⟩:=I.hok p _ hk
     exact ⟨o,e,ex⟩
   obtain ⟨o,e,ex⟩:=z
   refine ⟨⟨o,e,ex.1⟩,fun a e2=>?_⟩
   cases e2
   exact ⟨o,e,ex.2.1⟩
  ·obtain ⟨o,_,_,_,e,ex,_⟩:=I.hok p _ hk
   refine ⟨⟨o,e,ex.1⟩,fun a e2=>?_⟩
   cases e2
   exact ⟨o,e,ex.2.1⟩
 | _=>exact False.elim ty
def tBM (K:PySem.W.Frag) (T:String) (r:V->List V->Hp->VK->Prop) (to:TE) (t:TA):TE:=fun σ H Q=>to σ H fun x H1=>tyV K T x H1/\t σ H1 fun xs H2=>r x xs H2 Q
variable {to:TE} {t:TA} {id:String} {r:V->List V->Hp->VK->Prop}
theorem zn5 (pa:PlainAttrs T) (slot:Slot T name id) (hty:typeOf (.builtin id)=pure (.type "method_descriptor")) (hm:MtR X id r) (ho:PE X o to) (ha:PA X (e::es) t)
  (hbase:attributeBase o name X.env (eval o X.env)=eval o X.env:=by rfl)
  (hfew:((backTo cpos (starEach (e::es) X.env)).all (fun x=>!x.1) && (backToKw cpos (keywordEach [] X.env)).all (fun x=>x.1.isSome)
   && decide ((e::es).length+([]:List Keyword).length+(if ([]:List Keyword).isEmpty then 0 else 1) < 30))=true:=by rfl)
  (hline:(apos.endLine==cpos.line)=true:=by rfl) (hs:starEach (e::es) X.env=(false,eval e X.env)::starEach es X.env:=by rfl) (hplain:(backTo cpos (starEach es X.env)).any (·.1)=false:=by rfl) :
  PE X (.Call (.Attribute o name apos) (e::es) [] cpos) (tBM X.K T r to t):=by
 intro pins s σ H Q I h
 refine wpAny_Call_method_late hbase hfew hline rfl (thn (ho pins s σ H _ I h) fun v s1 ⟨x,H1,I1,r1,ty,q1⟩=>?_)
 obtain ⟨h1,h2⟩:=zr0 I1 r1 ty
 refine ⟨T,id,pa,slot,hty,h1,h2,?_⟩
 have hA:=ha cpos pins s1 σ H1 _ I1 q1
 rw [hs] at hA ⊢
 refine Calls.callWith_builtin (by show (false || (backTo cpos (starEach es X.env)).any (·.1))=false;rw [hplain] <;> rfl) (Calls.evalArgs_plain ?_)
 exact thn hA fun us s2 ⟨vs,H2,I2,r2,q2⟩=>hm pins s2 σ H2 x vs v us Q I2 r1 r2 q2
end
def MtM (X:Cx) (id:String) (r:V->List V->Hp->VK->Prop):Prop :=
 ∀ (pins:List (Addr×Obj)) (s:Shared) (σ:St) (H:Hp) (x:V) (xs:List V) (v:Value) (us:List Value) (Q:VK),Inv X pins σ H s->zbX x v->zbI xs us->r x xs H Q ->
  wpAny (model X.prog X.w) X.A (call (.builtin id) (v::us)) (EP X pins σ Q) X.xe s
theorem zbI.one:∀ {x:V} {us:List Value},zbI [x] us->∃ u,us=[u]/\zbX x u
 | _,_,.cons r .nil=>⟨_,rfl,r⟩
theorem zbI.reverse {xs:List V} {us:List Value} (h:zbI xs us):zbI xs.reverse us.reverse:=by
 induction h with
 | nil=>exact .nil
 | cons r t ih=>rw [List.reverse_cons,List.reverse_cons];exact zbI.append ih (.cons r .nil)
theorem zbI.rep {xs:List V} {us:List Value} (h:zbI xs us):∀ k:Nat,zbI (List.replicate k xs).flatten (List.replicate k us).flatten
 | 0=>.nil
 | k+1=>by
  rw [List.replicate_succ,List.replicate_succ,List.flatten_cons,List.flatten_cons]
  exact zbI.append h (zbI.rep h k)
theorem zin (its:List Value):∀ (k:Nat) (acc:List Value),
  List.foldl (fun x1 x2=>x1++x2) acc.toArray (List.replicate k its.toArray)=(acc++(List.replicate k its).flatten).toArray
 | 0,acc=>by simp
 | k+1,acc=>by
  have e:acc.toArray++its.toArray=(acc++its).toArray:=by simp
  have e2:(acc++its)++(List.replicate k its).flatten=acc++(List.replicate (k+1) its).flatten:=by
   rw [List.replicate_succ,List.flatten_cons,qv]
  rw [← e2,← zin its k (acc++its),← e,List.replicate_succ,List.foldl_cons]
variable {l:Addr} {its:List Value}
section
variable {b:Addr} {xs zs:List V}
theorem Inv.lset {its':List Value} {f:Array Value->Array Value} (I:Inv X pins σ H s) (hH:H l=some (.lst xs))
  (e:s.heap.get? l=some { cls:=.type "list",data:=.seq its.toArray n }) (hf:f its.toArray=its'.toArray) (hv:zbI ys its') (hz:ys.length<=sizeLine) :
  Inv X pins σ (upd H l (.lst ys)) { s with heap:=s.heap.update l (Obj.mapSeq f),toks:=t' }:=by
 have q:=PySem.IsL.update e f
 rw [hf] at q
 refine I.write (x:=l) (e:=l) (by rw [hH];exact trivial) (.inl rfl) (fun b' u hb hu=>(Heap.get?_update_other s.heap (Obj.mapSeq f) (Ne.symm hb)).trans hu) ⟨_,q⟩ ?_
 exact ⟨hz,its',_,hv,q⟩
theorem Inv.lnew (I:Inv X pins σ H s) (hv:zbI ys its) (hz:ys.length<=sizeLine) :
  Inv X pins σ (upd H s.heap.objs.size (.lst ys)) { s with heap:=s.heap.push { cls:=.type "list",data:=.seq its.toArray },toks:=t' } :=
 I.laid (fun _ _ q=>qr _ q) (qu _) ⟨hz,its,0,hv,qF _ rfl⟩
theorem Inv.fresh (I:Inv X pins σ H s):H s.heap.objs.size=none:=I.hok.fresh (qu _)
theorem Inv.lstM (I:Inv X pins σ H s) (hH:H l=some (.lst xs)):xs.length<=sizeLine/\∃ (its:List Value) (n:Nat),zbI xs its/\xs.length=its.length/\s.heap.get? l=some { cls:=.type "list",data:=.seq its.toArray n }:=by
 obtain ⟨z,its,n,r,e⟩:=I.hok l _ hH
 exact ⟨z,its,n,r,r.length,e⟩
theorem zjW (h:n<=sizeLine):Builtin.List.listTooLong n=false:=by
 unfold Builtin.List.listTooLong
 exact qM (by omega)
end
def zp1:V->List V->Hp->VK->Prop:=fun x vs H Q=>∃ l xs y,x=.ref l/\vs=[y]/\H l=some (.lst xs)/\xs.length < sizeLine/\Q .non (upd H l (.lst (xs++[y])))
theorem zf3:MtM X "list.append" zp1:=by
 intro pins s σ H x vs v us Q I rx rv h
 obtain ⟨l,xs,y,rfl,rfl,hH,hz,q⟩:=h
 cases rx
 obtain ⟨u,rfl,ru⟩:=rv.one
 obtain ⟨z,its,n,r,hl,e⟩:=I.lstM hH
 refine call_meets F.slot_list_append ⟨_,e,rfl⟩ F.entry_list_append (F.args_list_append_2 _ _) (PySem.list_append l its.toArray n u (by rw [qz];omega)) ⟨e,?_⟩
 refine ⟨.non,_,I.lset (its':=its++[u]) hH e (by simp) (r.append (.cons ru .nil)) ?_,rfl,q⟩
 rw [qi,List.length_singleton]
 omega
def zp0:V->List V->Hp->VK->Prop:=fun x vs H Q=>∃ l b xs zs,x=.ref l/\vs=[.ref b]/\H l=some (.lst xs)/\H b=some (.lst zs)/\xs.length+zs.length<=sizeLine/\Q .non (upd H l (.lst (xs++zs)))
theorem zl7:MtM X "list.extend" zp0:=by
 intro pins s σ H x vs v us Q I rx rv h
 obtain ⟨l,b,xs,zs,rfl,rfl,hH,hB,hz,q⟩:=h
 cases rx
 obtain ⟨u,rfl,ru⟩:=rv.one
 cases ru
 obtain ⟨z,its,n,r,hl,e⟩:=I.lstM hH
 obtain ⟨z2,its2,n2,r2,hl2,e2⟩:=I.lstM hB
 have hsz:its.toArray.size+its2.toArray.size<=sizeLine:=by rw [qz,qz];omega
 have hlong:¬ (!its.toArray.isEmpty && Builtin.List.listTooLong (its.toArray.size+its2.toArray.size))=true:=by
  rw [zjW hsz,Bool.and_false]
  exact qq
 refine call_meets F.slot_list_extend ⟨_,e,rfl⟩ F.entry_list_extend (F.args_list_extend_2 _ _)
  (AutoSeq1.list_extend_list_list_0 l its.toArray n b its2.toArray n2 hlong (by rw [qz];omega) (by omega)) ⟨e,e2,?_⟩
 refine ⟨.non,_,I.lset (its':=its++its2) hH e (by simp) (r.append r2) ?_,rfl,q⟩
 rw [qi]
 omega
def zuN:R2:=fun x y H Q=>∃ l b xs zs,x=.ref l/\y=.ref b/\H l=some (.lst xs)/\H b=some (.lst zs)/\xs.length+zs.length<=sizeLine/\∀ p,H p=none->Q (.ref p) (upd H p (.lst (xs++zs)))
theorem zsX:OpR X (binaryOp .Add) zuN:=by
 intro pins s σ H x y v u Q I rx ry h
 obtain ⟨l,b,xs,zs,rfl,rfl,hH,hB,hz,q⟩:=h
 cases rx
 cases ry
 obtain ⟨z,its,n,r,hl,e⟩:=I.lstM hH
 obtain ⟨z2,its2,n2,r2,hl2,e2⟩:=I.lstM hB
 refine PySem.P.add_list e e2 ?_ (by rw [qz,qz];omega)
 have ea:its.toArray++its2.toArray=(its++its2).toArray:=by simp
 rw [ea]
 exact ⟨.ref _,_,I.lnew (t':=s.toks) (r.append r2) (by rw [qi];omega),rfl,q _ I.fresh⟩
def zvt:R2:=fun x y H Q=>∃ l k xs,x=.ref l/\y=.int k/\H l=some (.lst xs) /\ -(2 ^ 63)<=k/\k < 2 ^ 63/\xs.length*k.toNat<=sizeLine /\
 ∀ p,H p=none->Q (.ref p) (upd H p (.lst (List.replicate k.toNat xs).flatten))
theorem zmh (xs:List α) (k:Nat):(List.replicate k xs).flatten.length=k*xs.length:=by
 induction k with
 | zero=>simp
 | succ k ih=>rw [List.replicate_succ,List.flatten_cons,qi,ih,Nat.succ_mul,Nat.add_comm]
theorem zsO:OpR X (binaryOp .Mult) zvt:=by
 intro pins s σ H x y v u Q I rx ry h
 obtain ⟨l,k,xs,rfl,rfl,hH,h1,h2,hz,q⟩:=h
 cases rx
 obtain ⟨t,rfl⟩:=ry
 obtain ⟨z,its,n,r,hl,e⟩:=I.lstM hH
 have hlen:its.toArray.size*k.toNat<=sizeLine:=by rw [qz,← hl];exact hz
 have hcap:¬ its.toArray.size*k.toNat > (2 ^ 63 - 1) / 8:=by
  have:(sizeLine:Nat)<=(2 ^ 63 - 1) / 8:=by decide
  omega
 have hfit:¬ (!Builtin.List.listFitsIndex k)=true:=by
  rw [fitsIndex_both h1 h2]
  exact qq
 have hlong:¬ Builtin.List.listTooLong (its.toArray.size*k.toNat)=true:=by
  rw [zjW hlen]
  exact qq
 have hnew:List.foldl (fun x1 x2=>x1++x2) #[] (List.replicate (if its.toArray.isEmpty=true then 0 else k.toNat) its.toArray)=(List.replicate k.toNat its).flatten.toArray:=by
  have f0:∀ m:Nat,List.foldl (fun x1 x2=>x1++x2) #[] (List.replicate m its.toArray)=(List.replicate m its).flatten.toArray:=fun m=>by
   have:=zin its m []
   rw [qQ] at this
   exact this
  rw [f0]
  cases its with
  | nil=>simp
  | cons a r'=>rw [qW (by simp)]
 refine wpAny_binaryOp_repeat_ref (T:="list") (U:="int") (by decide) ⟨_,e,rfl⟩ (fun s'=>typeIs_int s' k t) noFill_list_mul F.fills_int_mul F.slot_int_rmul repeat_list F.slot_int_index.lookup
  (call_meets F.slot_int_rmul (typeIs_int s k t) F.entry_int_rmul (F.args_int_rmul_2 _ _) (int___rmul___int_list k t l its.toArray n)
   ⟨e,rfl,⟨_,e,rfl⟩,call_meets F.slot_list_mul ⟨_,e,rfl⟩ F.entry_list_mul (F.args_list_mul_2 _ _) (AutoListH.list___mul___list_int_3 l its.toArray n k t hfit hcap hlong) ⟨e,?_⟩⟩)
 rw [hnew]
 exact ⟨.ref _,_,I.lnew (t':=s.toks) (r.rep k.toNat) (by rw [zmh,Nat.mul_comm];exact hz),rfl,q _ I.fresh⟩
section
variable [DecidableEq κ]
noncomputable def ziI (kvs:List (κ×V)) (k:κ):Option V:=(kvs.find? fun kv=>decide (kv.1=k)).map (·.2)
def zeO (kvs:List (κ×V)) (k:κ) (v:V):List (κ×V) :=
 if (kvs.any fun kv=>decide (kv.1=k))=true then kvs.map (fun kv=>if kv.1=k then (kv.1,v) else kv) else kvs++[(k,v)]
theorem zfA {p:κ×V} {r:List (κ×V)} {k:κ} (e:p.1=k):ziI (p::r) k=some p.2:=by simp [ziI,List.find?_cons,e]
theorem zfB {p:κ×V} {r:List (κ×V)} {k:κ} (e:¬ p.1=k):ziI (p::r) k=ziI r k:=by simp [ziI,List.find?_cons,e]
theorem zjE (k:κ):∀ kvs:List (κ×V),(kvs.any fun kv=>decide (kv.1=k))=(ziI kvs k).isSome
 | []=>rfl
 | p::r=>by
  rw [List.any_cons]
  by_cases e:p.1=k
  ·simp only [zfA e,qR e,Bool.true_or,Option.isSome_some]
  ·rw [zfB e,qM e,Bool.false_or];exact zjE k r
theorem zec (kvs:List (κ×V)) (k:κ) (v:V):(zeO kvs k v).length<=kvs.length+1:=by
 unfold zeO
 split
 ·rw [qe];omega
 ·rw [qi,qh,qk];omega
theorem zhO.isSome_eq {o:Option V} {u:Option Value} (r:zhO o u):o.isSome=u.isSome:=by
 cases o with
 | none=>cases u with
  | none=>rfl
  | some _=>exact (show False from r).elim
 | some _=>cases u with
  | none=>exact (show False from r).elim
  | some _=>rfl
theorem zhO.getD {o:Option V} {u:Option Value} {d:V} {d':Value} (r:zhO o u) (rd:zbX d d'):zbX (o.getD d) (u.getD d'):=by
 cases o with
 | none=>cases u with
  | none=>exact rd
  | some _=>exact (show False from r).elim
 | some _=>cases u with
  | none=>exact (show False from r).elim
  | some _=>exact r
theorem KV.val {kvs:List (κ×V)} {vs:List (κ×Value)} (r:KV kvs vs) (k:κ):zhO (ziI kvs k) (valueAt vs k):=by
 unfold KV at r
 induction r with
 | nil=>exact True.intro
 | @cons p q ps qs h t ih =>
  obtain ⟨h1,h2⟩:=h
  by_cases e:p.1=k
  ·have e':q.1=k:=h1.symm.trans e
   have b:valueAt (q::qs) k=some q.2:=by simp [valueAt,List.find?_cons,e']
   rw [zfA e,b];exact h2
  ·have e':¬ q.1=k:=fun z=>e (h1.trans z)
   have b:valueAt (q::qs) k=valueAt qs k:=by simp [valueAt,List.find?_cons,e']
   rw [zfB e,b];exact ih
theorem KV.any {kvs:List (κ×V)} {vs:List (κ×Value)} (r:KV kvs vs) (k:κ):(kvs.any fun kv=>decide (kv.1=k))=vs.any fun kv=>decide (kv.1=k):=by
 unfold KV at r
 induction r with
 | nil=>rfl
 | cons h t ih=>rw [List.any_cons,List.any_cons,ih,h.1]
theorem KV.repl {kvs:List (κ×V)} {vs:List (κ×Value)} (r:KV kvs vs) (k:κ) {y:V} (ry:zbX y u) :
  KV (kvs.map fun kv=>if kv.1=k then (kv.1,y) else kv) (vs.map fun kv=>if kv.1=k then (kv.1,u) else kv):=by
 unfold KV at r ⊢
 induction r with
 | nil=>exact .nil
 | @cons p q ps qs h t ih =>
  rw [ql,ql]
  refine .cons ?_ ih
  obtain ⟨h1,h2⟩:=h
  by_cases e:p.1=k
  ·rw [qV e,qV (h1.symm.trans e)];exact ⟨h1,ry⟩
  ·rw [qW e,qW (fun z=>e (h1.trans z))];exact ⟨h1,h2⟩
theorem KV.put {kvs:List (κ×V)} {vs:List (κ×Value)} (r:KV kvs vs) (k:κ) {y:V} (ry:zbX y u):KV (zeO kvs k y) (stored vs k u):=by
 unfold zeO stored
 rw [r.any k]
 by_cases e:(vs.any fun kv=>decide (kv.1=k))=true
 ·rw [qV e,qV e];exact r.repl k ry
 ·rw [qW e,qW e];exact Paired.snoc r ⟨rfl,ry⟩
theorem KV.length {kvs:List (κ×V)} {vs:List (κ×Value)} (r:KV kvs vs):kvs.length=vs.length:=Paired.length r
end
theorem zho {k:Key} (r:zbX (kV k) u):(zaM P w).is k u=true:=by
 cases k with
 | inl i=>obtain ⟨t,e⟩:=(show ∃ t,u=Value.int i t from r);subst e;exact zi4 P w i t
 | inr x=>obtain ⟨t,e⟩:=(show ∃ t,u=Value.str x t from r);subst e;exact zi3 P w x t
theorem zij {P:Program} {w:World}:∀ {ks:List Key} {us:List Value},zbI (ks.map kV) us->ItemsAre (zaM P w) ks us
 | [],_,r=>by rw [qN] at r;cases r;exact .nil
 | k::ks,_,r=>by
  rw [ql] at r
  cases r with
  | cons h t=>exact .cons (zho h) (zij t)
abbrev KT (H:Hp):List (List Key×V)->List (List Key×Addr×Value)->Prop:=Paired fun p q=>p.1=q.1/\H q.2.1=some (.tup (p.1.map kV))/\zbX p.2 q.2.2
variable {kvs:List (List Key×V)}
theorem KT.val {xs:List (List Key×Addr×Value)} (r:KT H kvs xs) (k:List Key):zhO (ziI kvs k) ((atKey xs k).map (·.2)):=by
 induction r with
 | nil=>exact True.intro
 | @cons p q ps qs h t ih =>
  obtain ⟨h1,_,h2⟩:=h
  by_cases e:p.1=k
  ·have e':q.1=k:=h1.symm.trans e
   have b:atKey (q::qs) k=some q.2:=by simp [atKey,List.find?_cons,e']
   rw [zfA e,b];exact h2
  ·have e':¬ q.1=k:=fun z=>e (h1.trans z)
   have b:atKey (q::qs) k=atKey qs k:=by simp [atKey,List.find?_cons,e']
   rw [zfB e,b];exact ih
theorem KT.repl {xs:List (List Key×Addr×Value)} (r:KT H kvs xs) (k:List Key) {y:V} (ry:zbX y u) :
  KT H (kvs.map fun kv=>if kv.1=k then (kv.1,y) else kv) (xs.map (putAt k u)):=by
 induction r with
 | nil=>exact .nil
 | @cons p q ps qs h t ih =>
  rw [ql,ql]
  refine .cons ?_ ih
  obtain ⟨h1,h2,h3⟩:=h
  unfold putAt
  by_cases e:p.1=k
  ·rw [qV e,qV (h1.symm.trans e)];exact ⟨h1,h2,ry⟩
  ·rw [qW e,qW (fun z=>e (h1.trans z))];exact ⟨h1,h2,h3⟩
theorem KT.put {xs:List (List Key×Addr×Value)} (r:KT H kvs xs) (k:List Key) {b:Addr} {y:V} (hb:H b=some (.tup (k.map kV))) (ry:zbX y u) :
  KT H (zeO kvs k y) (storedH xs k b u):=by
 have e:(kvs.any fun kv=>decide (kv.1=k))=(atKey xs k).isSome:=by
  rw [zjE,(r.val k).isSome_eq,Option.isSome_map]
 unfold zeO storedH
 rw [e]
 by_cases q:(atKey xs k).isSome=true
 ·rw [qV q,qV q];exact r.repl k ry
 ·rw [qW q,qW q];exact Paired.snoc r ⟨rfl,hb,ry⟩
theorem KT.keeps {xs:List (List Key×Addr×Value)} (r:KT H kvs xs) (ht:∀ b ys,H b=some (.tup ys)->H' b=some (.tup ys)):KT H' kvs xs :=
 Paired.mapP r fun _ _ z=>⟨z.1,ht _ _ z.2.1,z.2.2⟩
section
variable {h:Heap}
theorem zsk {u:HO} (ok:HOk P w H h) (e:Rd H a u):zcm P w H h a u:=e.ok ok
theorem zje {kvs:List (Key×V)} (ok:HOk P w H h) (e:Rd H a (.dK kvs)):kvs.length<=sizeLine/\(a==sysModules)=false/\∃ vs,KV kvs vs/\h.DictOf (zaM P w) a vs :=
 show zcm P w H h a (.dK kvs) from zsk ok e
theorem ztH {kvs:List (Key×V)} (ok:HOk P w H h) (e:H a=some (.dK kvs)):kvs.length<=sizeLine/\(a==sysModules)=false/\∃ vs,KV kvs vs/\h.DictOf (zaM P w) a vs:=zje ok (.inl e)
theorem zgb {ks:List Key} (ok:HOk P w H h) (e:H a=some (.tup (ks.map kV))):(tupleKind (zaM P w)).is h ks a:=by
 obtain ⟨_,its,r,o,h1,h2,n,h3⟩:=(show zcm P w H h a (.tup (ks.map kV)) from ok a _ e)
 exact ⟨o,its.toArray,n,h1,h2,h3,by simpa using zij r⟩
theorem zkU (ok:HOk P w H h) (e:Rd H a (.dT kvs)):kvs.length<=sizeLine/\(a==sysModules)=false /\
  ∃ xs,KT H kvs xs/\h.DictOfH (tupleKind (zaM P w)) a xs:=by
 obtain ⟨z,y,xs,r,o,es,ep,h1,h2,h3,h4,h5⟩:=(show zcm P w H h a (.dT kvs) from zsk ok e)
 refine ⟨z,y,xs,r,o,es,ep,h1,h2,h3,h4,fun x hx=>?_,h5⟩
 have all:∀ {l:List (List Key×V)} {m:List (List Key×Addr×Value)},KT H l m->∀ x∈m,(tupleKind (zaM P w)).is h x.1 x.2.1:=by
  intro l m q
  induction q with
  | nil=>intro x hx;exact nomatch hx
  | @cons p q ps qs hq t ih =>
   intro x hx
   rcases List.mem_cons.mp hx with e | hx
   ·subst e
    exact zgb ok (by rw [← hq.1];exact hq.2.1)
   ·exact ih x hx
 exact all r x hx
theorem zu9 (ok:HOk P w H h) (e:H a=some (.dT kvs)):kvs.length<=sizeLine/\(a==sysModules)=false /\
  ∃ xs,KT H kvs xs/\h.DictOfH (tupleKind (zaM P w)) a xs:=zkU ok (.inl e)
end
def zlc (H:Hp) (a:Addr) (y:V) (r:Option V):Prop :=
 (∃ kvs k,Rd H a (.dK kvs)/\y=kV k/\r=ziI kvs k)\/∃ kvs k b,Rd H a (.dT kvs)/\y=.ref b/\H b=some (.tup (k.map kV))/\r=ziI kvs k
def zoZ (H:Hp) (a:Addr) (y v:V) (H':Hp):Prop :=
 (∃ kvs k,H a=some (.dK kvs)/\y=kV k/\kvs.length < sizeLine/\H'=upd H a (.dK (zeO kvs k v))) \/
 ∃ kvs k b,H a=some (.dT kvs)/\y=.ref b/\H b=some (.tup (k.map kV))/\kvs.length < sizeLine/\H'=upd H a (.dT (zeO kvs k v))
theorem zlc.k {kvs:List (Key×V)} {k:Key} (e:H a=some (.dK kvs)):zlc H a (kV k) (ziI kvs k):=.inl ⟨kvs,k,.inl e,rfl,rfl⟩
theorem zlc.t {b:Addr} {k:List Key} (e:H a=some (.dT kvs)) (eb:H b=some (.tup (k.map kV))):zlc H a (.ref b) (ziI kvs k):=.inr ⟨kvs,k,b,.inl e,rfl,eb,rfl⟩
theorem zoZ.k {kvs:List (Key×V)} {k:Key} (e:H a=some (.dK kvs)) (hl:kvs.length < sizeLine):zoZ H a (kV k) v (upd H a (.dK (zeO kvs k v))):=.inl ⟨kvs,k,e,rfl,hl,rfl⟩
theorem zoZ.t {b:Addr} {k:List Key} (e:H a=some (.dT kvs)) (eb:H b=some (.tup (k.map kV))) (hl:kvs.length < sizeLine) :
  zoZ H a (.ref b) v (upd H a (.dT (zeO kvs k v))):=.inr ⟨kvs,k,b,e,rfl,eb,hl,rfl⟩
section
variable {y:V} {r:Value} {o:Option V}
theorem Inv.big (I:Inv X pins σ H s):sysModules < s.heap.objs.size:=by
 have h:mainGlobals < s.heap.objs.size:=(I.mod.glob.keeps I.bk).lt
 exact Nat.lt_trans (by decide) h
theorem zmW (hu:A.units+1 < cLine) (I:Inv X pins σ H s) (g:zlc H a y (some v)) (ry:zbX y u) (h:∀ w' s',Inv X pins σ H s'->zbX v w'->Q w' s') :
  wpAny (model X.prog X.w) A (getItem (.ref a) u) Q E s:=by
 rcases g with ⟨kvs,k,e,ey,l⟩ | ⟨kvs,k,b,e,ey,eb,l⟩
 ·subst ey
  obtain ⟨z,hd,vs,rel,dd⟩:=zje I.hok e
  obtain ⟨w',hw,rw'⟩:=zhO.some_of (v:=v) (o:=valueAt vs k) (by rw [l];exact rel.val k)
  exact wpAny_getItem_of (zho ry) dd.mapOf hw (h w' _ (I.tok _) rw')
 ·subst ey
  cases (show u=Value.ref b from ry)
  obtain ⟨z,hd,xs,rel,dd⟩:=zkU I.hok e
  obtain ⟨w',hw,rw'⟩:=zhO.some_of (v:=v) (o:=(atKey xs k).map (·.2)) (by rw [l];exact rel.val k)
  obtain ⟨p,hp,hp2⟩:=oMd hw
  refine wpAny_getItem_heap (tupleKind_room_in1 hu) (zgb I.hok eb) dd hp ?_
  rw [hp2]
  exact h w' _ (I.tok _) rw'
theorem zwd (hu:A.units+1 < cLine) (I:Inv X pins σ H s) (g:zlc H a y o) (ry:zbX y u) (h:∀ s',Inv X pins σ H s'->Q (.bool o.isSome) s') :
  wpAny (model X.prog X.w) A (compareOp .In u (.ref a)) Q E s:=by
 rcases g with ⟨kvs,k,e,ey,l⟩ | ⟨kvs,k,b,e,ey,eb,l⟩
 ·subst ey
  obtain ⟨z,hd,vs,rel,dd⟩:=zje I.hok e
  refine wpAny_in_of (zho ry) hd dd.mapOf ?_
  rw [← (rel.val k).isSome_eq,← l]
  exact h _ (I.tok _)
 ·subst ey
  cases (show u=Value.ref b from ry)
  obtain ⟨z,hd,xs,rel,dd⟩:=zkU I.hok e
  refine wpAny_in_heap (tupleKind_room_in1 hu) (zgb I.hok eb) hd dd ?_
  have q:=(rel.val k).isSome_eq
  rw [Option.isSome_map] at q
  rw [← q,← l]
  exact h _ (I.tok _)
theorem zjl {ob:HO} (I:Inv X pins σ H s) (mu:Mut (H a)) (hs:Heap.SameBut a s.heap h') (he:∃ q,h'.get? a=some q) (new:zcm X.prog X.w (upd H a ob) h' a ob) :
  Inv X pins σ (upd H a ob) { s with heap:=h',toks:=t' } :=
 I.write (x:=a) (e:=a) mu (.inl rfl) (fun b q hb z=>(hs.2 b hb).trans z) he new
theorem zpt {kvs:List (Key×V)} {vs:List (Key×Value)} (z:kvs.length<=sizeLine) (hd:(a==sysModules)=false) (rel:KV kvs vs) (dd:h'.DictOf (zaM P w) a vs) :
  zcm P w H' h' a (.dK kvs):=⟨z,hd,vs,rel,dd⟩
theorem zmV {Q:Unit->Shared->Prop} (hu:A.units+1 < cLine) (I:Inv X pins σ H s) (g:zoZ H a y v H') (ry:zbX y u) (rv:zbX v r) (h:∀ s',Inv X pins σ H' s'->Q () s') :
  wpAny (model X.prog X.w) A (setItem (.ref a) u r) Q E s:=by
 rcases g with ⟨kvs,k,e,ey,l,eH⟩ | ⟨kvs,k,b,e,ey,eb,l,eH⟩
 ·subst ey eH
  obtain ⟨z,hd,vs,rel,dd⟩:=ztH I.hok e
  have hz:vs.length<=sizeLine:=by rw [← rel.length];exact z
  have hl:(zeO kvs k v).length<=sizeLine:=by have:=zec kvs k v;omega
  refine wpAny_setItem_pairs (hsz:=hz) (zho ry) dd fun h' dd' hs=>h _ ?_
  have he:∃ q,h'.get? a=some q:=let ⟨q,_,_,hq,_⟩:=dd';⟨q,hq⟩
  exact zjl I (by rw [e];exact True.intro) hs he (zpt hl hd (rel.put k rv) dd')
 ·subst ey eH
  cases (show u=Value.ref b from ry)
  obtain ⟨z,hd,xs,rel,dd⟩:=zu9 I.hok e
  have hz:xs.length<=sizeLine:=by rw [← Paired.length rel];exact z
  have hl:(zeO kvs k v).length<=sizeLine:=by have:=zec kvs k v;omega
  refine wpAny_setItem_heap (hsz:=hz) (tupleKind_room_in1 hu) (zgb I.hok eb) dd fun h' dd' hs=>h _ ?_
  obtain ⟨q,es,ep,hq,h2,h3,h4,_,h5⟩:=dd'
  refine zjl I (by rw [e];exact True.intro) hs ⟨q,hq⟩ ⟨hl,hd,_,(rel.put k eb rv).keeps fun c ys ec=>?_,q,es,ep,hq,h2,h3,h4,h5⟩
  rw [zaj (zl3 ec e (fun z=>nomatch z))]
  exact ec
end
def zvl (i:Expr):Prop:=∀ ov iv,subscripted i false ov iv=operate [ov,iv] (getItem ov iv)
theorem zlo {slice:Expr} {id:String} 
  (hl:typeLookup (.type T) "__getitem__"=pure (some (.builtin id))) (hs:zvl slice)
  (h:wpAny (model prog w) A (eval value env) (fun o s₁=>wpAny (model prog w) A (eval slice env) (fun i s₂=>s₂.TypeIs o T/\wpAny (model prog w) A (getItem o i) Q E s₂) E s₁) E s) :
  wpAny (model prog w) A (eval (.Subscript value slice pos) env) Q E s:=by
 refine Subscript_ (wpAny_mono h (fun o s₁ h₁=>wpAny_mono h₁ (fun i s₂ h₂=>?_) fun _ _ x=>x) fun _ _ x=>x)
 obtain ⟨hT,h₂⟩:=h₂
 unfold subscriptTail
 refine qw ?_
 rw [getitemInPython_of_ne hT.not_modules]
 refine qw (wpAny_specialOf hT hl ?_)
 have fin:wpAny (model prog w) A (subscripted slice false o i) (fun r s₃=>wpAny (model prog w) A (letTemporaryGo value o r >>= fun _=>pure r) Q E s₃) E s₂:=by
  rw [hs o i]
  exact wpAny_operating (wpAny_mono h₂ (fun r s₃ h₃=>qw (wpAny_letTemporaryGo (qy h₃))) fun _ _ x=>x)
 first
  | exact qy (qw fin)
  | exact qw (qy (qw fin))
  | exact qw fin
theorem zjf {y:V} {o:Option V} (I:Inv X pins σ H s) (g:zlc H a y o):s.TypeIs (.ref a) "dict":=by
 rcases g with ⟨kvs,k,e,_,_⟩ | ⟨kvs,k,b,e,_,_,_⟩
 ·obtain ⟨_,_,vs,_,dd⟩:=zje I.hok e
  exact dd.typeIs
 ·obtain ⟨_,_,xs,_,dd⟩:=zkU I.hok e
  exact dd.typeIs
def zuy (td ty:TE):TE:=fun σ H Q=>td σ H fun x H1=>ty σ H1 fun y H2=>∃ a v,x=.ref a/\zlc H2 a y (some v)/\Q v H2
def zuL (td ty tv:TE):TS:=fun D σ H=>tv σ H fun v H1=>td σ H1 fun x H2=>ty σ H2 fun y H3=>∃ a H4,x=.ref a/\zoZ H3 a y v H4/\D.nx σ H4
variable {td ty:TE}
section
variable {i:Expr}
theorem zqh (hu:X.A.units+1 < cLine) (ho:PE X o td) (hi:PE X i ty) (hs:zvl i):PE X (.Subscript o i pos) (zuy td ty):=by
 intro pins s σ H Q I h
 refine zlo PySem.F.slot_dict_getitem.lookup hs (thn (ho pins s σ H _ I h) fun u s1 ⟨x,H1,I1,rx,q1⟩=>thn (hi pins s1 σ H1 _ I1 q1) fun iv s2 ⟨y,H2,I2,ry,a,v,ex,g,q2⟩=>?_)
 subst ex
 obtain rfl:u=Value.ref a:=rx
 exact ⟨zjf I2 g,zmW hu I2 g ry fun w' s3 I3 rw'=>⟨v,H2,I3,rw',q2⟩⟩
theorem zlI (hu:X.A.units+1 < cLine) (ho:PE X o td) (hi:PE X i ty) (hv:PE X value tv) (hs:swapsWith value (some (.Subscript o i pos')) pos.line X.env=pure false) :
  PS X (.Assign [.Subscript o i pos'] value pos) (zuL td ty tv):=by
 intro pins s σ H D I h
 refine wpAny_Assign_Subscript (thn (hv pins s σ H _ I h) fun r s1 ⟨v,H1,I1,rv,q1⟩=>thn (ho pins s1 σ H1 _ I1 q1) fun u s2 ⟨x,H2,I2,rx,q2⟩=>thn (hi pins s2 σ H2 _ I2 q2) fun iv s3 ⟨y,H3,I3,ry,a,H4,ex,g,q3⟩=>?_) hs
 subst ex
 obtain rfl:u=Value.ref a:=rx
 exact zmV hu I3 g ry rv fun s4 I4=>⟨σ,H4,I4,q3⟩
end
theorem zkm (h:Heap) (hb:sysModules < h.objs.size):zcm P w H (h.push { cls:=.type "dict",data:=.dict #[] }) h.objs.size (.dK []) :=
 ⟨Nat.zero_le _,beq_eq_false_iff_ne.mpr (Ne.symm (qA hb)),[],.nil,Heap.DictOf.new h⟩
theorem zox (h:Heap) (hb:sysModules < h.objs.size):zcm P w H (h.push { cls:=.type "dict",data:=.dict #[] }) h.objs.size (.dT []) :=
 ⟨Nat.zero_le _,beq_eq_false_iff_ne.mpr (Ne.symm (qA hb)),[],.nil,_,#[],0,qF _ rfl,⟨rfl,rfl,rfl⟩,rfl,rfl,List.nodup_nil⟩
def zr7:TE:=fun _ H Q=>∀ p,H p=none->Q (.ref p) (upd H p (.dK []))
def zr6:TE:=fun _ H Q=>∀ p,H p=none->Q (.ref p) (upd H p (.dT []))
theorem zn2:PE X (.Dict [] [] pos) zr7:=fun pins s σ H Q I h =>
 wpAny_Dict_empty ⟨.ref s.heap.objs.size,_,I.laid (a:=s.heap.objs.size) (o:=.dK []) (t':=s.toks) (fun _ _ q=>qr _ q) (qu _) (zkm s.heap I.big),rfl,h _ (I.hok.fresh (qu _))⟩
theorem zn1:PE X (.Dict [] [] pos) zr6:=fun pins s σ H Q I h =>
 wpAny_Dict_empty ⟨.ref s.heap.objs.size,_,I.laid (a:=s.heap.objs.size) (o:=.dT []) (t':=s.toks) (fun _ _ q=>qr _ q) (qu _) (zox s.heap I.big),rfl,h _ (I.hok.fresh (qu _))⟩
def zjG:List (TE×TE)->St->Hp->(List (V×V)->Hp->Prop)->Prop
 | [],_,H,Q=>Q [] H
 | (tk,tv)::r,σ,H,Q=>tk σ H fun x H1=>tv σ H1 fun y H2=>zjG r σ H2 fun ps H3=>Q ((x,y)::ps) H3
abbrev VV:List (V×V)->List (Value×Value)->Prop:=Paired fun p q=>zbX p.1 q.1/\zbX p.2 q.2
def PPs (X:Cx) (pos:Pos) (keys:List (Option Expr)) (values:List Expr) (trs:List (TE×TE)):Prop :=
 ∀ (pins:List (Addr×Obj)) (s:Shared) (σ:St) (H:Hp) (Q:List (V×V)->Hp->Prop),Inv X pins σ H s->zjG trs σ H Q ->
  wpAny (model X.prog X.w) X.A (evalPairs (pairTrees keys values X.env pos)) (fun vs s'=>∃ ps H',Inv X pins σ H' s'/\VV ps vs/\Q ps H') X.xe s
theorem zp7 :PPs X pos [] [] []:=fun pins s σ H Q I h=>pairTrees_nil_walk ⟨[],H,I,.nil,h⟩
variable {trs:List (TE×TE)}
theorem znT {k v:Expr} {ks:List (Option Expr)} {vs:List Expr} {tk:TE} (hk:PE X k tk) (hv:PE X v tv) (hr:PPs X pos ks vs trs) :
  PPs X pos (some k::ks) (v::vs) ((tk,tv)::trs):=fun pins s σ H Q I h =>
 pairTrees_cons_walk (thn (hk pins s σ H _ I h) fun u s1 ⟨x,H1,I1,rx,q1⟩=>thn (hv pins s1 σ H1 _ I1 q1) fun w2 s2 ⟨y,H2,I2,ry,q2⟩ =>
  thn (hr pins s2 σ H2 _ I2 q2) fun ws s3 ⟨ps,H3,I3,rel,q3⟩=>⟨(x,y)::ps,H3,I3,.cons ⟨rx,ry⟩ rel,q3⟩)
def zey (kvs more:List (Key×V)):List (Key×V):=more.foldl (fun acc kv=>zeO acc kv.1 kv.2) kvs
theorem KV.merge:∀ {more:List (Key×V)} {rs:List (Key×Value)} {kvs:List (Key×V)} {vs:List (Key×Value)},KV more rs->KV kvs vs->KV (zey kvs more) (merged vs rs):=by
 intro more rs kvs vs r
 unfold KV at r
 induction r generalizing kvs vs with
 | nil=>intro q;exact q
 | @cons p q ps qs h t ih =>
  intro r0
  have e:KV (zeO kvs p.1 p.2) (stored vs q.1 q.2):=by
   have:=r0.put p.1 h.2
   rw [← h.1];exact this
  exact ih e
theorem zez:∀ (more kvs:List (Key×V)),(zey kvs more).length<=kvs.length+more.length
 | [],kvs=>by show kvs.length<=kvs.length+0;omega
 | p::r,kvs=>by
  have h1:=zez r (zeO kvs p.1 p.2)
  have h2:=zec kvs p.1 p.2
  show (zey (zeO kvs p.1 p.2) r).length<=_
  rw [qh];omega
theorem zgZ {P:Program} {w:World}:∀ {kvs:List (Key×V)} {ws:List (Value×Value)},VV (kvs.map fun kv=>(kV kv.1,kv.2)) ws->∃ rs,Carries (zaM P w) ws rs/\KV kvs rs
 | [],_,r=>by rw [qN] at r;cases r;exact ⟨[],True.intro,.nil⟩
 | p::kvs,_,r=>by
  rw [ql] at r
  cases r with
  | @cons a b as bs h t =>
   obtain ⟨rs,c,q⟩:=zgZ (P:=P) (w:=w) t
   obtain ⟨b1,b2⟩:=b
   exact ⟨(p.1,b2)::rs,⟨zho h.1,rfl,c⟩,.cons ⟨rfl,h.2⟩ q⟩
def zux (trs:List (TE×TE)):TE:=fun σ H Q=>∀ p,H p=none->zjG trs σ (upd H p (.dK [])) fun ps H2=>H2 p=some (.dK [])/\∃ kvs:List (Key×V),ps=kvs.map (fun kv=>(kV kv.1,kv.2))/\kvs.length<=15/\Q (.ref p) (upd H2 p (.dK (zey [] kvs)))
variable {keys:List (Option Expr)} {values:List Expr}
theorem zqg (h:PPs X pos keys values trs) (hall:keys.all (·.isSome)=true) (hl:keys.length=values.length) (h0:keys≠[])
  (h15:keys.length<=15):PE X (.Dict keys values pos) (zux trs):=by
 intro pins s σ H Q I q
 have hn:=I.hok.fresh (qu s.heap.objs.size)
 have I1:=I.laid (a:=s.heap.objs.size) (o:=.dK []) (h':=s.heap.push { cls:=.type "dict",data:=.dict #[] }) (t':=s.toks) (fun _ _ q=>qr _ q) (qu _) (zkm s.heap I.big)
 refine wpAny_Dict_walk (knd:=zaM X.prog X.w) hall hl h0 h15 (thn (h pins _ σ _ _ I1 (q _ hn)) fun ws s2 ⟨ps,H2,I2,rel,e,kvs,ep,lk,q2⟩=>?_)
 subst ep
 obtain ⟨rs,c,rk⟩:=zgZ (P:=X.prog) (w:=X.w) rel
 obtain ⟨z,hd,vs0,r0,dd⟩:=ztH I2.hok e
 cases r0
 refine ⟨rs,c,dd,fun h' dd' hs=>⟨.ref s.heap.objs.size,_,?_,rfl,q2⟩⟩
 have hz:(zey [] kvs).length<=sizeLine:=by
  have h1:=zez kvs []
  rw [qk] at h1
  rw [sizeLine_eq];omega
 have he:∃ q,h'.get? s.heap.objs.size=some q:=let ⟨q,_,_,hq,_⟩:=dd';⟨q,hq⟩
 exact zjl I2 (by rw [e];exact True.intro) hs he (zpt hz hd (rk.merge .nil) dd')
structure M1 (X:Cx) (o:Expr) (m:Str) (apos:Pos) (e:Expr) (cpos:Pos):Prop where
 base:attributeBase o m X.env (eval o X.env)=eval o X.env
 few:((backTo cpos (starEach [e] X.env)).all (fun x=>!x.1) && (backToKw cpos (keywordEach [] X.env)).all (fun x=>x.1.isSome)
  && decide (([e]:List Expr).length+([]:List Keyword).length+(if ([]:List Keyword).isEmpty then 0 else 1) < 30))=true
 line:(apos.endLine==cpos.line)=true
 trees:backTo cpos (starEach [e] X.env)=[(false,eval e X.env)]
def IsD (H:Hp) (a:Addr):Prop:=(∃ kvs,Rd H a (.dK kvs))\/∃ kvs,Rd H a (.dT kvs)
theorem zts (I:Inv X pins σ H s) (d:IsD H a) :
  s.TypeIs (.ref a) "dict"/\(∀ b,Value.ref a=.ref b->∃ ob,s.heap.get? b=some ob/\ob.dict=none)/\(a==sysModules)=false:=by
 rcases d with ⟨kvs,e⟩ | ⟨kvs,e⟩
 ·obtain ⟨_,hd,vs,_,dd⟩:=zje I.hok e
  refine ⟨dd.typeIs,fun b q=>?_,hd⟩
  cases q
  obtain ⟨ob,_,_,h1,h2,_⟩:=dd
  exact ⟨ob,h1,h2.2.1⟩
 ·obtain ⟨_,hd,xs,_,dd⟩:=zkU I.hok e
  refine ⟨dd.typeIs,fun b q=>?_,hd⟩
  cases q
  obtain ⟨ob,_,_,h1,h2,_⟩:=dd
  exact ⟨ob,h1,h2.2.1⟩
section
variable {y d:V} {r:Value} {o:Option V}
theorem ztN (hu:A.units+1 < cLine) (I:Inv X pins σ H s) (g:zlc H a y o) (ry:zbX y u) (h:∀ w' s',Inv X pins σ H s'->zbX (o.getD .non) w'->Q w' s') :
  wpAny (model X.prog X.w) A (call (.builtin "dict.get") [.ref a,u]) Q E s:=by
 rcases g with ⟨kvs,k,e,ey,l⟩ | ⟨kvs,k,b,e,ey,eb,l⟩
 ·subst ey
  obtain ⟨z,hd,vs,rel,dd⟩:=zje I.hok e
  refine call_meetsIn PySem.F.slot_dict_get dd.typeIs PySem.F.entry_dict_get (PySem.F.args_dict_get_2 _ _) (meets_dict_get (zaM X.prog X.w) a (zho ry) hd) ⟨_,dd.mapOf,h _ _ (I.tok _) ?_⟩
  rw [l]
  exact (rel.val k).getD rfl
 ·subst ey
  cases (show u=Value.ref b from ry)
  obtain ⟨z,hd,xs,rel,dd⟩:=zkU I.hok e
  refine call_meetsIn PySem.F.slot_dict_get dd.typeIs PySem.F.entry_dict_get (PySem.F.args_dict_get_2 _ _) (meetsH_dict_get (tupleKind (zaM X.prog X.w)) a b hd) ⟨tupleKind_room_in1 hu,k,xs,zgb I.hok eb,dd,h _ _ (I.tok _) ?_⟩
  rw [l]
  exact (rel.val k).getD rfl
end
def zr8 (td ty:TE):TE:=fun σ H Q=>td σ H fun x H1=>∃ a,x=.ref a/\IsD H1 a/\ty σ H1 fun y H2=>∃ o,zlc H2 a y o/\Q (o.getD .non) H2
section
variable {f:Expr} {tx:TE}
theorem zn3 (hu:X.A.units+1 < cLine) (ho:PE X o td) (he:PE X e ty) (m:M1 X o "get" apos e cpos):PE X (.Call (.Attribute o "get" apos) [e] [] cpos) (zr8 td ty):=by
 intro pins s σ H Q I h
 refine wpAny_Call_method m.base m.few m.line PySem.F.plainAttrs_dict PySem.F.slot_dict_get PySem.F.type_dict_get (thn (ho pins s σ H _ I h) fun u s1 ⟨x,H1,I1,rx,a,ex,d,q1⟩=>?_)
 subst ex
 obtain rfl:u=Value.ref a:=rx
 obtain ⟨t1,t2,_⟩:=zts I1 d
 refine ⟨t1,t2,?_⟩
 rw [m.trees]
 refine Calls.callWith_builtin rfl (Calls.evalArgs_plain (Calls.spliced_cons (thn (he pins s1 σ H1 _ I1 q1) fun iv s2 ⟨y,H2,I2,ry,ov,g,q2⟩=>Calls.spliced_nil ?_)))
 exact ztN hu I2 g ry fun w' s3 I3 rw'=>⟨_,H2,I3,rw',q2⟩
end
variable {q:Program} {loose:List Str} {XP:(Str->Option Value)->Heap->Prop} {YP:World->Heap->Prop}
namespace Att
open PySem PySem.W PySem.Calls PyProof.Rows
theorem zgd {P:Params} {h:Heap} :∀ (ns:List Int) (vs:List Value),WellAll P h vs (ns.map WData.int)->IntsAre vs ns:=by
 intro ns
 induction ns with
 | nil =>
  intro vs w
  rw [qN] at w
  cases w
  exact .nil
 | cons n ns ih =>
  intro vs w
  rw [ql] at w
  cases w with
  | cons a b =>
   cases a
   exact .cons _ _ (ih _ b)
theorem zh0 {l:OpenLaw} (hn:l.most=some n) {P:Params} {h:Heap} {args:List WData} {vals:List Value} 
  (hpre:l.row.toRowW.claim.pre args=true) (hwl:WellAll P h vals args) :
  ∃ a vs ns,vals=[Value.ref a]/\args=[WData.list (ns.map WData.int)]/\h.get? a=some { cls:=.type "list",data:=.seq vs.toArray }/\IntsAre vs ns/\ns.length<=n:=by
 have hsh:WShape.hasAll [] args [.list .int]=true:=(pre_splitW hpre).1
 have hc:l.pre.holds [] { args:=args }=true:=(pre_splitW hpre).2
 obtain ⟨d,r,rfl,h1,h2⟩:=hasAllW_cons hsh
 obtain rfl:=hasAllW_nil h2
 obtain ⟨xs,rfl,h3⟩:=hasW_list h1
 obtain ⟨ns,rfl⟩:=items_int h3
 have hlen:ns.length<=n:=by
  unfold OpenLaw.pre at hc
  have h4:(WTm.not (.lt (.lit (.int (n:Int))) (.len (.arg 0)))).holds [] { args:=[.list (ns.map .int)] }=true:=by
   have h4:=(holds_andW hc).1
   rw [hn] at h4
   exact h4
  have h5:=condW_of h4 (w_not (w_lt w_lit (w_len_list (w_arg rfl))))
  rw [qe] at h5
  refine Nat.le_of_not_lt fun q=>?_
  have q':(n:Int) < ((ns.length:Nat):Int):=by omega
  first
   | (rw [qR q'] at h5;exact absurd h5 (by decide))
   | (simp at h5;omega)
 cases hwl with
 | cons w1 w2 =>
  cases w2
  cases w1 with
  | list ho hall=>exact ⟨_,_,ns,rfl,rfl,ho,zgd ns _ hall,hlen⟩
theorem zh7 (l:OpenLaw) (args:List WData):l.row.toRowW.claim.post args (.bool true) args=true :=
 postW_of (r:=l.row.toRowW) (X:=(true==true))
  (show WShape.has [] (.bool true) .bool=true by first | rfl | decide | simp [WShape.has,WShape.arms,WShape.armsAll])
  (show (WTm.eq .res (.lit (.bool true))).value [] { args:=args,res:=some (.bool true),after:=args }=some (.bool (true==true)) from w_eq_bool (w_res rfl) w_lit) rfl
theorem zvG {l:OpenLaw} {d:DefRec} 
  (hn:l.most=some n) (hdf:d.params.defaults=[])
  (hbind:∀ pm cd doc v:Value,bindArgs (docDef d.name d.params d.body d.scope pm cd doc) ⟨[v],[]⟩=pure [(x,v)])
  (hx:d.scope.names.lookup x=some .local\/d.scope.names.lookup x=some .cell)
  (hk:d.scope.kind=.function) (hco:d.scope.isCoroutine=false) (hgen:d.scope.isGenerator=false)
  (body:∀ (w:World) (s₀ s₁ s:Shared) (mg mb:Str->Option Value) (fa:Addr) (o:Obj) (pm cd doc:Value) (a:Addr) (vs:List Value) (ns:List Int),
   Ground q loose [] XP w s₀ mg mb s₁.heap->YP w s₁.heap ->
   s₁.heap.get? fa=some o->o.data=.func (docDef d.name d.params d.body d.scope pm cd doc)->s₁.heap.CodeRec cd d.name->mg d.name=some (.ref fa) ->
   s₁.heap.get? a=some { cls:=.type "list",data:=.seq vs.toArray }->IntsAre vs ns->ns.length<=n ->
   s.gens=#[]->s.os=s₁.os ->
   Fr s₁.heap s₁.heap.objs.size s.heap (bindL (envOfC d.name d.scope s₁.heap.objs.size fa cd).kindOf [(x,.ref a)] fun _=>none) ->
   Cl s₁.heap.objs.size (cellsFrom (s₁.heap.objs.size+1) d.scope.names []) s.heap (bindC (envOfC d.name d.scope s₁.heap.objs.size fa cd).kindOf [(x,.ref a)] fun _=>none) ->
   wpAny (model l.prog w) (callerA.deeper (envOfC d.name d.scope s₁.heap.objs.size fa cd)) (execs d.body (envOfC d.name d.scope s₁.heap.objs.size fa cd))
    (fun f s'=>f=.ret (.bool true)/\OldK s₁.heap s'.heap/\s'.os=s₁.os/\AllBare s'.gens) (fun _ _=>False) s) :
  WalkO q loose XP YP l.row.toRowW d [] (fun f vs=>PySem.call f vs):=by
 intro w s₀ s₁ mg mb G Y fa o pm cd doc dV kV ho hd hcd hD hmg hg args vals as hpre hlay hrd hwl hlo
 obtain rfl:dV=.none:=Dflts.none hD hdf
 obtain rfl:kV=.none:=Dflts.noKw hD
 obtain ⟨a,vs,ns,rfl,rfl,hobj,hints,hlen⟩:=zh0 hn hpre hwl
 refine enter_call ?_
 refine call_cells_ret (o:=o) (by rw [depth_caller];decide) ho (fd_plain hd) G.T.nolimit hcd (hbind pm cd doc (.ref a)) (fun y hy=>?_) (fun h₁ tk F X=>?_) hco hgen hk
 ·obtain rfl:y=(x,Value.ref a):=List.mem_singleton.mp hy
  rcases hx with e | e
  ·exact .inl e
  ·exact .inr ⟨e,cellsFrom_some _ _ _ (.inl e)⟩
 ·refine wpAny_mono (body w s₀ s₁ { s₁ with heap:=h₁,toks:=tk } mg mb fa o pm cd doc a vs ns G Y ho (fd_plain hd) hcd hmg hobj hints hlen hg rfl F X) (fun f s' hq=>?_) (fun _ _ hq=>hq)
  obtain ⟨rfl,h2,h3,h4⟩:=hq
  exact ⟨.inl ⟨.bool true,.bool true,[],rfl,fun _=>rfl,.bool true,zh7 l _,fun _=>⟨List.Pairwise.nil,fun _ hm=>(nomatch hm)⟩⟩,h2,h3,h4⟩
theorem attach_call {l:OpenLaw} {d:DefRec} 
  (hn:l.most=some n) (hdf:d.params.defaults=[])
  (call:∀ (w:World) (s₀ s₁:Shared) (mg mb:Str->Option Value) (fa:Addr) (o:Obj) (pm cd doc:Value) (a:Addr) (vs:List Value) (ns:List Int),
   Ground q loose [] XP w s₀ mg mb s₁.heap->YP w s₁.heap ->
   s₁.heap.get? fa=some o->o.data=.func (docDef d.name d.params d.body d.scope pm cd doc)->s₁.heap.CodeRec cd d.name->mg d.name=some (.ref fa) ->
   s₁.heap.get? a=some { cls:=.type "list",data:=.seq vs.toArray }->IntsAre vs ns->ns.length<=n->s₁.gens=#[] ->
   codeAny (model l.prog w) callerA (.call (.ref fa) ⟨[.ref a],[]⟩) (fun r s'=>r=.ok (.ret (.bool true))/\OldK s₁.heap s'.heap/\s'.os=s₁.os/\AllBare s'.gens) s₁) :
  WalkO q loose XP YP l.row.toRowW d [] (fun f vs=>PySem.call f vs):=by
 intro w s₀ s₁ mg mb G Y fa o pm cd doc dV kV ho hd hcd hD hmg hg args vals as hpre hlay hrd hwl hlo
 obtain rfl:dV=.none:=Dflts.none hD hdf
 obtain rfl:kV=.none:=Dflts.noKw hD
 obtain ⟨a,vs,ns,rfl,rfl,hobj,hints,hlen⟩:=zh0 hn hpre hwl
 refine enter_call (codeAny_mono (call w s₀ s₁ mg mb fa o pm cd doc a vs ns G Y ho (fd_plain hd) hcd hmg hobj hints hlen hg) fun r s' hq=>?_)
 obtain ⟨rfl,h2,h3,h4⟩:=hq
 exact ⟨.inl ⟨.bool true,.bool true,[],rfl,fun _=>rfl,.bool true,zh7 l _,fun _=>⟨List.Pairwise.nil,fun _ hm=>(nomatch hm)⟩⟩,h2,h3,h4⟩
section
variable {K:Frag}
def zvB (h:Heap) (L d:Addr):List (Addr×Obj):=(List.range h.objs.size).filterMap fun a=>if a=L\/a=d then none else (h.get? a).map fun o=>(a,o)
end
end Att
theorem zfM:∀ {vs:List Value} {ns:List Int},IntsAre vs ns->zbI (ns.map V.int) vs
 | _,_,.nil=>.nil
 | _,_,.cons n t h=>.cons ⟨t,rfl⟩ (zfM h)
def zvk (H:Hp):Prop:=∀ b,H b=none\/∃ o xs,H b=some (.frz o (.lst xs))
variable {mb:Str->Option Value} {s₁:Shared} {ns:List Int}
theorem zoj {k:Nat} {fa:Addr} {vs:List Value} 
  (KX:K.In s₁.heap) (hns:s₁.heap.Ns mainGlobals mg) (hb:s₁.heap.Ns builtinsNs mb) (hbb:∀ x:Str,x≠"__name__"->mb x=bootBuiltins x) (hlim:s₁.heap.NoLimit) (hg:s₁.gens=#[])
  (ha:s₁.heap.get? a=some { cls:=.type "list",data:=.seq vs.toArray }) (hi:IntsAre vs ns) (hl:ns.length<=sizeLine) (hr:Room k callerA)
  (F:∀ base:Heap,K.In base->base.Ns mainGlobals mg->FnOk P w K mg base CX k fa fd [x] sp) (hbind:∀ (s:Shared) (u:Value),BindsTo s fd ⟨[u],[]⟩ [(x,u)])
  (hsp:∀ H:Hp,zvk H->SqL K H a (ns.map V.int)->sp [.ref a] H (fun v _=>v=.bl true) fun _ _ _=>False)
  (hCX:∀ H e s',CX [] H s₁ (fun _ _ _=>False) e s'->False) :
  codeAny (model P w) callerA (.call (.ref fa) ⟨[.ref a],[]⟩) (fun r s'=>r=.ok (.ret (.bool true))/\OldK s₁.heap s'.heap/\s'.os=s₁.os/\AllBare s'.gens) s₁:=by
 have rv:=zfM hi
 have lenV:=hi.length
 have core:∀ H:Hp,zvk H->SqL K H a (ns.map V.int)->HOk P w H s₁.heap->(∀ b,H b≠none->b=a)->(H a≠none->K.lookup a=none) ->
   codeAny (model P w) callerA (.call (.ref fa) ⟨[.ref a],[]⟩) (fun r s'=>r=.ok (.ret (.bool true))/\OldK s₁.heap s'.heap/\s'.os=s₁.os/\AllBare s'.gens) s₁:=by
  intro H hO hS hok hA hK
  have base_of:∀ {b:Addr} {o:Obj},s₁.heap.get? b=some o->H b=none->(zjc s₁.heap H).get? b=some o:=fun e n=>zkc e n
  have noA:∀ {b:Addr} {o:Obj} {es:Array DictEntry} {ep:Nat},s₁.heap.get? b=some o->o.data=.dict es ep->H b=none:=fun {b o es ep} e d=>by
   cases q:H b with
   | none=>rfl
   | some u =>
    have e':b=a:=hA b (by rw [q];simp)
    subst e'
    rw [ha] at e;cases e
    have d':Data.seq vs.toArray _=Data.dict es ep:=d
    cases d'
  have nsK:∀ {b:Addr} {m:Str->Option Value},s₁.heap.Ns b m->(zjc s₁.heap H).Ns b m:=fun {b m} ⟨o,es,ep,e,d,r⟩=>⟨o,es,ep,base_of e (noA e d),d,r⟩
  have hKb:K.In (zjc s₁.heap H):=fun b o e=>base_of (KX b o e) (by
   cases q:H b with
   | none=>rfl
   | some u =>
    have e':b=a:=hA b (by rw [q];simp)
    subst e'
    rw [hK (by rw [q];simp)] at e;cases e)
  have hM:Mod K mg (zjc s₁.heap H):=⟨hKb,nsK hns,⟨mb,nsK hb,hbb⟩,let ⟨mc,h1,h2⟩:=hlim;⟨mc,nsK h1,h2⟩⟩
  have e0:Env0 P w K mg (zjc s₁.heap H) callerA [] s₁ H:=⟨rfl,hM,fun b o e=>zl1 e,Nat.le_of_eq (zim _ _),trivial,fun b hb=>absurd (show b∈([]:List Addr) from hb) (by simp),hok,.of_eq hg⟩
  refine codeAny_mono ((F _ hKb (nsK hns)).run callerA [] s₁ H ⟨[.ref a],[]⟩ [.ref a] [.ref a] _ _ hr e0 (hbind s₁ (.ref a)) (.cons rfl .nil) (hsp H hO hS)) fun r s' h=>?_
  cases r with
  | error e=>exact (hCX H e s' h).elim
  | ok fl =>
   cases fl with
   | next=>exact False.elim h
   | brk=>exact False.elim h
   | cont=>exact False.elim h
   | ret u =>
    obtain ⟨v,H',os,bare,un,hok',r',q⟩:=h
    have q':v=.bl true:=q
    subst q'
    obtain rfl:u=Value.bool true:=r'
    refine ⟨rfl,OldK.of_keep fun b o e=>?_,os,bare⟩
    cases q:H b with
    | none=>exact un.keep b o e q (by intro z;exact absurd (show b∈([]:List Addr) from z) (by simp)) (by simp)
    | some u =>
     rcases hO b with z | ⟨ob,xs,z⟩
     ·rw [q] at z;cases z
     ·have z2:=un.frzs b ob _ z
      obtain ⟨e1,_⟩:=hok b _ z
      obtain ⟨e2,_⟩:=hok' b _ z2
      rw [e] at e1;cases e1
      exact e2
 cases hk:K.lookup a with
 | some o =>
  have e:=KX a o hk
  rw [ha] at e
  cases e
  refine core (fun _=>none) (fun _=>.inl rfl) (.inr ⟨_,vs.toArray,_,hk,rfl,rfl,rfl,by rw [qz,lenV];exact hl,by simpa using rv⟩) (fun b u z=>by have z':(none:Option HO)=some u:=z;cases z') (fun b z=>absurd rfl z) fun z=>absurd rfl z
 | none =>
  refine core (fun b=>if b=a then some (.frz { cls:=.type "list",data:=.seq vs.toArray } (.lst (ns.map V.int))) else none) (fun b=>?_) (.inl (.inr ⟨{ cls:=.type "list",data:=.seq vs.toArray },qV rfl⟩)) (fun b u z=>?_) (fun b z=>?_) fun _=>hk
  ·by_cases hb:b=a
   ·exact .inr ⟨_,_,qV hb⟩
   ·exact .inl (qW hb)
  ·by_cases hb:b=a
   ·have z':=(qV hb).symm.trans z
    cases z'
    subst hb
    exact ⟨ha,by rw [qe];exact hl,vs,_,rv,ha⟩
   ·have z':=(qW hb).symm.trans z
    cases z'
  ·by_cases hb:b=a
   ·exact hb
   ·exact absurd (qW hb) z
abbrev KOf {h:Heap} (_:K.In h):PySem.W.Frag:=K
theorem zuo {l:PySem.W.OpenLaw} {k:Nat} {d:DefRec} {K:Params->PySem.W.Frag} {CX:World->CXT} {sp:World->Sp} 
  (hn:l.most=some n) (hn2:n<=sizeLine) (hdf:d.params.defaults=[]) (hr:Room k callerA)
  (hY:∀ (w:World) (h:Heap),YP w h->(K w.params).In h)
  (F:∀ (w:World) (mg:Str->Option Value) (fa:Addr) (h:Heap),(K w.params).In h->h.Ns mainGlobals mg->mg d.name=some (.ref fa) ->
   ∃ fd:FuncData,(∀ (s:Shared) (u:Value),BindsTo s fd ⟨[u],[]⟩ [(x,u)]) /\
    ∀ base:Heap,(K w.params).In base->base.Ns mainGlobals mg->FnOk l.prog w (K w.params) mg base (CX w) k fa fd [x] (sp w))
  (hsp:∀ (w:World) (H:Hp) (a:Addr) (ns:List Int),ns.length<=n->zvk H->SqL (K w.params) H a (ns.map V.int)->sp w [.ref a] H (fun v _=>v=.bl true) fun _ _ _=>False)
  (hCX:∀ (w:World) (H:Hp) (s:Shared) (e:Value) (s':Shared),CX w [] H s (fun _ _ _=>False) e s'->False) :
  PySem.W.WalkO q loose XP YP l.row.toRowW d [] (fun f vs=>PySem.call f vs):=by
 refine Att.attach_call hn hdf fun w s₀ s₁ mg mb fa o pm cd doc a vs ns G Y ho hd hcd hmg hobj hints hlen hg=>?_
 have KX:=hY w _ Y
 obtain ⟨fd,hb,hF⟩:=F w mg fa _ KX G.T.g hmg
 exact zoj KX G.T.g G.T.b G.T.builtins G.T.nolimit hg hobj hints (qL hlen hn2) hr hF hb (fun H hO hS=>hsp w H a ns hlen hO hS) fun H e s'=>hCX w H s₁ e s'
def zbM (s:Stmt) (j:Nat):Stmt:=match s with
 | .ClassDef _ _ _ body _ _ _ _ _ _ _=>body.getD j (.Pass ⟨0,0,0,0⟩)
 | _=>.Pass ⟨0,0,0,0⟩
def zbW (s:Stmt):Arguments:=match s with
 | .FunctionDef _ a _ _ _ _ _ _ _ _=>a
 | _=>{ posonlyargs:=[],args:=[],vararg:=none,kwonlyargs:=[],kw_defaults:=[],kwarg:=none,defaults:=[] }
def zaV (s:Stmt):List Stmt:=match s with
 | .FunctionDef _ _ b _ _ _ _ _ _ _=>b
 | _=>[]
def zah (s:Stmt):Scope:=match s with
 | .FunctionDef _ _ _ _ _ _ sc _ _ _=>sc
 | _=>{ kind:=.function,names:=[],isGenerator:=false,isCoroutine:=false }
abbrev CX0:CXT:=fun _ _ _ _ _ _=>False
abbrev E0:XK:=fun _ _ _=>False
theorem zkJ :zgs CX0 X E0:=fun _ _ _ _ _ _ _ h=>h.elim
structure Fun (K:PySem.W.Frag) (x qual:Str) (st:Stmt) (f:Addr) (fd:FuncData):Prop where
 ex:∃ (oc:Value) (od:Option Addr) (kV doc pm:Value) (an:Option Addr) (cdv ct:Value) (osl:Array (Option Value)),
  fd=PySem.W.fnOf x qual (zbW st) (zaV st) (zah st) .none kV doc pm an cdv ct/\K.lookup f=some ⟨oc,od,.func fd,osl⟩/\PySem.W.codeIn K cdv qual=true
 kp:PySem.W.keepIn K (.ref f)=true
theorem Fun.ok {f:Addr} {k:Nat} (F:Fun K x qual st f fd) (S:FnScope N ps (zah st)) (len:∀ vs H Q E,sp vs H Q E->vs.length=ps.length)
  (hbody:∀ (cdv:Value) (A:Around) (outer:List Env) (s:Shared) (H:Hp) (vs:List V) (Q:VK) (E:XK),Room k (A.deeper (envOfC qual (zah st) s.heap.objs.size f cdv))->sp vs H Q E ->
   ∃ t,PSs (ziM CX0 P w K mg base N qual (zah st) f cdv A outer s H E).nox (zaV st) t/\t { nx:=fun _ H'=>Q .non H',rt:=Q } (zen N vs) H):FnOk P w K mg base CX0 (k+1) f fd ps sp:=by
 obtain ⟨oc,od,kV,doc,pm,an,cdv,ct,osl,rfl,lk,hcd⟩:=F.ex
 refine ztB lk hcd S len fun A outer s H vs Q E hr hsp=>?_
 obtain ⟨t,h,q⟩:=hbody cdv A outer s H vs Q E hr hsp
 exact ⟨t,h.nox,q⟩
theorem Fun.binds {f:Addr} (F:Fun K x qual st f fd)
  (h:∀ (kV doc pm:Value) (an:Option Addr) (cdv ct:Value) (us:List Value),us.length=ps.length->bindArgs (PySem.W.fnOf x qual (zbW st) (zaV st) (zah st) .none kV doc pm an cdv ct) ⟨us,[]⟩=pure (ps.zip us)):zej K fd ps []:=by
 obtain ⟨oc,od,kV,doc,pm,an,cdv,ct,osl,rfl,lk,hcd⟩:=F.ex
 exact .all (h kV doc pm an cdv ct)
theorem zpm {f:Addr} {kV:Value} (l:K.lookup f=some ⟨oc,od,.func (PySem.W.fnOf x qual (zbW st) (zaV st) (zah st) .none kV doc pm an cdv ct),osl⟩)
  (c:PySem.W.codeIn K cdv qual=true) (k:PySem.W.keepIn K (.ref f)=true):Fun K x qual st f (PySem.W.fnOf x qual (zbW st) (zaV st) (zah st) .none kV doc pm an cdv ct):=⟨⟨oc,od,kV,doc,pm,an,cdv,ct,osl,rfl,l,c⟩,k⟩
theorem pv (i:Nat) (hN:X.N[i]?=some x:=by rfl) (hv:Vis X.env.scope x:=by first | exact Or.inl rfl | exact Or.inr (Or.inl rfl) | exact Or.inr (Or.inr rfl)) (hd:(x==("__debug__":Str))=false:=by decide)
  (hcd:(x==("__classdict__":Str))=false:=by decide):PE X (.Name x pos) (zvq i):=zds hN hv hd hcd
theorem zoq {A B:Prop} (h:B):if false=true then A else B:=by
 rw [qW qq]
 exact h
theorem zop {A B:Prop} (h:A):if true=true then A else B:=by
 rw [qV rfl]
 exact h
def zbh (H H':Hp):Prop:=∀ b o,H b=some o->H' b=some o
theorem zbh.refl (H:Hp):zbh H H:=fun _ _ h=>h
theorem zbh.trans (a:zbh H H1) (b:zbh H1 H2):zbh H H2:=fun c o h=>b c o (a c o h)
theorem zbh.free (e:zbh H H') (h:H' l=Option.none):H l=Option.none:=by
 cases q:H l with
 | none=>rfl
 | some o =>
  rw [e l o q] at h
  cases h
theorem zbh.seq {xs:List V} (e:zbh H H') (h:SqL K H a xs):SqL K H' a xs:=by
 rcases h with (h | ⟨o,h⟩) | h
 ·exact .inl (.inl (e _ _ h))
 ·exact .inl (.inr ⟨o,e _ _ h⟩)
 ·exact .inr h
variable {elt:Expr} {ifs:List Expr}
theorem zdX {R:Result->Shared->Prop} {target:Expr} {it acc:Value} (I:Nat->Shared->Prop)
  (turn:∀ n s,I n s->wpAny (model prog w) A (pyNext it) (fun r s₁=>match r with
   | none=>R (.ok .next) s₁
   | some v=>wpAny (model prog w) A (letOwnedTupleGo target it v) (fun _ s₁'=>wpAny (model prog w) A (assign target env v) (fun _ s₂ =>
     wpAny (model prog w) A (forIn ifs true fun c r=>if r=true then do let ok ← isTrue c env (eval c env);pure (ForInStep.yield ok) else pure (ForInStep.yield r)) (fun ok s₃ =>
      if ok=true then wpAny (model prog w) A (eval elt env) (fun x s₄ =>
       wpAny (model prog w) A (call (.builtin "list.append") [acc,x]) (fun _ s₅=>∃ m,m < n/\I m s₅) (fun _ _=>False) s₄) (fun _ _=>False) s₃
      else ∃ m,m < n/\I m s₃) (fun _ _=>False) s₂) (fun _ _=>False) s₁') (fun _ _=>False) s₁) (fun _ _=>False) s)
  (n:Nat) (h:I n s) :
  codeAny (model prog w) A (.compLoop (.ListComp elt [⟨target,iter,ifs,0⟩] scope pos) 0 it acc env) R s:=by
 refine codeAny_loop rfl I (fun n s hI=>?_) n h
 show wpAny _ A ((compTurn (.ListComp elt [⟨target,iter,ifs,0⟩] scope pos) 0 it acc env).onRaise (fun x=>do noteFrame x env;theTreesLotGoes x)) _ _ s
 refine wpAny_noted ?_
 rw [compTurn_list]
 refine qw (wpAny_standAt (qw (wpAny_mono (turn n s hI) (fun r s₁ h₁=>?_) fun _ _ h'=>h'.elim)))
 cases r with
 | none=>exact qy h₁
 | some v =>
  refine qw (wpAny_mono h₁ (fun _ s₁' h₁'=>?_) fun _ _ h'=>h'.elim)
  refine qw (wpAny_mono h₁' (fun _ s₂ h₂=>qw (wpAny_mono h₂ (fun ok s₃ h₃=>?_) fun _ _ h'=>h'.elim)) fun _ _ h'=>h'.elim)
  cases ok with
  | false=>exact qy ⟨rfl,h₃⟩
  | true =>
   exact qw (qw (wpAny_mono h₃ (fun x s₄ h₄=>qw (wpAny_mono h₄ (fun _ s₅ h₅=>qy (qy ⟨rfl,h₅⟩)) fun _ _ h'=>h'.elim)) fun _ _ h'=>h'.elim))
def zdG (X:Cx) (N':List Str) (scope:Scope) (cl:List (Str×Addr)) (C:Addr) (s₀:Shared) (H₀:Hp) (fp:List Addr):Cx :=
 { X with N:=N',s₀:=s₀,H₀:=H₀,env:=compEnvC scope cl C X.env,outer:=X.stack,stack:=X.stack,ex:=fp,fn:=fun _=>false,pn:=[],xe:=fun _ _=>False }
def zc7 (env:Env):List (Str×NameKind)->List (Str×Addr)->List (Str×Addr)
 | [],acc=>acc
 | (n,k)::r,acc=>zc7 env r (if k==.free then (match env.cells.lookup n with | some c=>(n,c)::acc | none=>acc) else acc)
theorem zhB (h:∀ y∈scope.names,y.2=.free->∃ c,env.cells.lookup y.1=some c):closureFor scope env=pure (zc7 env scope.names []):=by
 have all:∀ (l:List (Str×NameKind)) (acc:List (Str×Addr)),(∀ y∈l,y.2=.free->∃ c,env.cells.lookup y.1=some c) ->
   (forIn l acc fun x r=>match x with
    | (name,kind)=>if kind==.free then do let c ← cellOf env name;pure (ForInStep.yield ((name,c)::r)) else pure (ForInStep.yield r):Sem (List (Str×Addr)))=pure (zc7 env l acc):=by
  intro l
  induction l with
  | nil=>intro acc _;rfl
  | cons y r ih =>
   intro acc hl
   obtain ⟨n,k⟩:=y
   rw [List.forIn_cons]
   have hr:∀ y∈r,y.2=.free->∃ c,env.cells.lookup y.1=some c:=fun y hy=>hl y (qg _ hy)
   unfold zc7
   cases hk:(k==NameKind.free) with
   | false =>
    simp only [hk,qp,if_false,pure_bind]
    exact ih acc hr
   | true =>
    obtain ⟨c,hc⟩:=hl (n,k) qf (by simpa using hk)
    have hc':env.cells.lookup n=some c:=hc
    simp only [hk,if_true,cellOf,hc',pure_bind]
    exact ih _ hr
 have e:=all scope.names [] h
 exact Eq.trans (bind_pure _) e
theorem zeG {env:Env}:∀ (l:List (Str×NameKind)) (acc:List (Str×Addr)),(∀ x c,acc.lookup x=some c->env.cells.lookup x=some c)->∀ x c,(zc7 env l acc).lookup x=some c->env.cells.lookup x=some c
 | [],_,h=>h
 | (n,k)::r,acc,h=>by
  unfold zc7
  refine zeG r _ ?_
  split
  ·split
   ·rename_i c hc
    intro x d hx
    rw [List.lookup_cons] at hx
    cases e:x==n with
    | true =>
     rw [e] at hx
     have e':x=n:=by simpa using e
     have e2:c=d:=qG hx
     rw [e',← e2];exact hc
    | false=>rw [e] at hx;exact h x d hx
   ·exact h
  ·exact h
theorem zgY {env:Env}:∀ (l:List (Str×NameKind)) (acc:List (Str×Addr)) (x:Str),(acc.lookup x).isSome=true->((zc7 env l acc).lookup x).isSome=true
 | [],_,_,h=>h
 | (n,k)::r,acc,x,h=>by
  unfold zc7
  refine zgY r _ x ?_
  split
  ·split
   ·rw [List.lookup_cons]
    split
    ·rfl
    ·exact h
   ·exact h
  ·exact h
theorem zeH {env:Env}:∀ (l:List (Str×NameKind)) (acc:List (Str×Addr)) (x:Str) (c:Addr),(x,NameKind.free)∈l->env.cells.lookup x=some c->((zc7 env l acc).lookup x).isSome=true
 | [],_,_,_,h,_=>nomatch h
 | (n,k)::r,acc,x,c,h,hc=>by
  unfold zc7
  rcases List.mem_cons.mp h with e | h
  ·injection e with e1 e2
   subst e1;subst e2
   refine zgY r _ _ ?_
   rw [qV (by rfl),hc]
   simp
  ·exact zeH r _ x c h hc
theorem zcs {env:Env}:∀ (names:List (Str×NameKind)) (x:Str) (k':NameKind),
  (names.map fun (n,k)=>if (k==NameKind.free && env.scope.kind==.function && env.kindOf n==some .cell) then (n,NameKind.cell) else (n,k)).lookup x=some k' ->
  names.lookup x=some k'\/(k'=.cell/\names.lookup x=some .free)
 | [],_,_,h=>by simp at h
 | (n,k)::r,x,k',h=>by
  have ih:=@zcs env r x k'
  have h':List.lookup x ((if (k==NameKind.free && env.scope.kind==.function && env.kindOf n==some .cell)=true then (n,NameKind.cell) else (n,k))::(r.map fun (n,k)=>if (k==NameKind.free && env.scope.kind==.function && env.kindOf n==some .cell) then (n,NameKind.cell) else (n,k)))=some k':=h
  cases hx:x==n with
  | true =>
   by_cases hc:(k==NameKind.free && env.scope.kind==.function && env.kindOf n==some .cell)=true
   ·rw [qV hc] at h'
    simp only [List.lookup_cons,hx] at h' ⊢
    have hk:k=.free:=by
     simp only [Bool.and_eq_true,beq_iff_eq] at hc
     exact hc.1.1
    right
    exact ⟨(qG h').symm,by rw [hk]⟩
   ·rw [qW hc] at h'
    simp only [List.lookup_cons,hx] at h' ⊢
    exact .inl h'
  | false =>
   have h2:List.lookup x (r.map fun (n,k)=>if (k==NameKind.free && env.scope.kind==.function && env.kindOf n==some .cell) then (n,NameKind.cell) else (n,k))=some k':=by
    by_cases hc:(k==NameKind.free && env.scope.kind==.function && env.kindOf n==some .cell)=true
    ·rw [qV hc] at h'
     simpa only [List.lookup_cons,hx] using h'
    ·rw [qW hc] at h'
     simpa only [List.lookup_cons,hx] using h'
   simp only [List.lookup_cons,hx]
   exact ih h2
structure CompScope (X:Cx) (scope:Scope):Prop where
 kind:scope.kind=.function
 nocell:∀ y∈scope.names,y.2≠.cell
 names:∀ y∈scope.names,y.2=.local->scope.names.lookup y.1=some .local
 free:∀ y∈scope.names,y.2=.free->X.env.kindOf y.1=some .cell\/X.env.kindOf y.1=some .free
def zmB (fv:List (Option Nat)) (σ:St):St:=fv.map fun o=>o.bind fun j=>(σ[j]?).join
variable {N':List Str} {fv:List (Option Nat)} {σ':St}
theorem zcX (I:Inv X pins σ H s) (S:CompScope X scope):closureFor scope X.env=pure (zc7 X.env scope.names []) :=
 zhB fun y hy hf=>I.ok.has y.1 (S.free y hy hf)
theorem zrl (I:Inv X pins σ H s) (S:CompScope X scope) (hf:∀ b∈fp,zlb X pins H b) (hlt:∀ b∈fp,b < s.heap.objs.size) (hC:s.heap.objs.size<=C) :
  (zdG X N' scope (zc7 X.env scope.names []) C s H fp).Ok:=by
 have sub:=zeG (env:=X.env) scope.names [] (fun x c h=>by simp at h)
 refine ⟨I.ok.mod,S.kind,I.ok.glob,I.ok.blt,hC,fun x y c h1 h2=>I.ok.inj x y c (sub x c h1) (sub y c h2),fun x hx=>?_,fun x c h _=>by simp [zdG] at h,I.ok.hd,I.ok.frames,.inl rfl,fun b hb=>⟨?_,fun x c e=>?_⟩,I.bs,qL I.ok.bsz I.sz,
  fun b o e hb=>?_,fun b hb=>?_,I.stack,I.stkFree⟩
 ·have hx':((relabel scope X.env).names.lookup x=some .cell\/(relabel scope X.env).names.lookup x=some .free):=hx
  have hfr:scope.names.lookup x=some .free:=by
   rcases hx' with h | h
   ·rcases zcs _ _ _ h with h | ⟨_,h⟩
    ·exact absurd rfl (S.nocell _ (PySem.mem_of_lookup h))
    ·exact h
   ·rcases zcs _ _ _ h with h | ⟨h,_⟩
    ·exact h
    ·cases h
  have hm:=PySem.mem_of_lookup hfr
  obtain ⟨c,hc⟩:=I.ok.has x (S.free _ hm rfl)
  exact Option.isSome_iff_exists.mp (zeH _ _ x c hm hc)
 ·exact qA (qD (hlt b hb) hC)
 ·exact (hf b hb).2.2.2.2.1 x c (sub x c e)
 ·rcases (hf b hb).2.2.2.1 with z | z
  ·exact I.ok.noex b o e z
  ·exact absurd (qD (qt e) I.ok.bsz) (Nat.not_lt.mpr z)
 ·intro z
  rcases List.mem_cons.mp (I.stkSub b z) with e | e
  ·exact (hf b hb).2.1 e
  ·exact (hf b hb).2.2.1 e
theorem zkV (I:Inv X pins σ H s) (S:CompScope X scope) (hf:∀ b∈fp,zlb X pins H b) (hlt:∀ b∈fp,b < s.heap.objs.size) (hC:C=s.heap.objs.size) (hlen:fv.length=N'.length)
  (hfv:∀ (i j:Nat) x,N'[i]?=some x->fv[i]?=some (some j)->X.N[j]?=some x/\(X.env.kindOf x=some .cell\/X.env.kindOf x=some .free)/\scope.names.lookup x=some .free) {m:Str->Option Value} (hn:h'.Ns C m) (hk:∀ b o,s.heap.get? b=some o->h'.get? b=some o) :
  Inv (zdG X N' scope (zc7 X.env scope.names []) C s H fp) [] (zmB fv σ) H { s with heap:=h',toks:=t' }:=by
 have ok:=zrl (N':=N') I S hf hlt (C:=C) (Nat.le_of_eq hC.symm)
 have sub:=zeG (env:=X.env) scope.names [] (fun x c h=>by simp at h)
 refine ⟨ok,rfl,I.bare,Un.kept hk,⟨m,hn,fun i x v e1 e2 e3=>?_⟩,fun x c e=>?_,?_,fun x c e=>I.freeC x c (sub x c e),fun p hp=>?_,I.hok.kept hk,?_⟩
 ·have e1':N'[i]?=some x:=e1
  have e2':(zmB fv σ)[i]?=some (some v):=e2
  unfold zmB at e2'
  rw [qj] at e2'
  cases q:fv[i]? with
  | none=>rw [q] at e2';cases e2'
  | some o =>
   rw [q] at e2'
   cases o with
   | none=>cases e2'
   | some j =>
    have e2'':(σ[j]?).join=some v:=by simpa using e2'
    obtain ⟨hN,hkk,hfree⟩:=hfv i j x e1' q
    have hσ:σ[j]?=some (some v):=by
     cases z:σ[j]? with
     | none=>rw [z] at e2'';cases e2''
     | some w=>rw [z] at e2'';cases w with
      | none=>cases e2''
      | some w'=>simp at e2'';rw [e2'']
    obtain ⟨m0,hn0,hl⟩:=I.loc
    obtain ⟨u,r,l⟩:=hl j x v hN hσ (.inr hkk)
    refine ⟨u,r,.inr ⟨?_,?_⟩⟩
    ·rcases e3 with z | z | z
     ·have z':(relabel scope X.env).names.lookup x=some .local:=z
      rcases zcs _ _ _ z' with y | ⟨y,_⟩
      ·rw [hfree] at y;cases y
      ·cases y
     ·exact .inl z
     ·exact .inr z
    ·rcases l with ⟨k,_⟩ | ⟨_,c,hc,hcell⟩
     ·rcases hkk with y | y
      ·rw [k] at y;cases y
      ·rw [k] at y;cases y
     ·obtain ⟨c',hc'⟩:=Option.isSome_iff_exists.mp (zeH scope.names [] x c (PySem.mem_of_lookup hfree) hc)
      have e:=sub x c' hc'
      rw [hc] at e
      cases e
      obtain ⟨oc,ho,hd⟩:=hcell
      exact ⟨c,hc',oc,hk _ _ ho,hd⟩
 ·obtain ⟨v,oc,ho,hd⟩:=I.cell x c (sub x c e)
  exact ⟨v,oc,hk _ _ ho,hd⟩
 ·exact I.hok.fresh (Nat.le_of_eq hC.symm)
 ·exact absurd (show p∈([]:List (Addr×Obj)) from hp) (by simp)
 ·show (zmB fv σ).length=N'.length
  unfold zmB
  rw [qe,hlen]
theorem zoK (I:Inv X pins σ H s) {cl:List (Str×Addr)} (hf:∀ b∈fp,zlb X pins H b) (hC:s.heap.objs.size<=C) {pl:List (Addr×Obj)} 
  (J:Inv (zdG X N' scope cl C s H fp) pl σ' H' s') (hs:Heap.SameBut C s'.heap h'):Inv X pins σ H' { s' with heap:=h' }:=by
 have hCn:H' C=none:=J.free
 refine I.call' (ch:=fp) (s':={ s' with heap:=h' }) J.os ?_ ?_ J.bare fun b hb=>⟨(hf b hb).2.2.2.1,(hf b hb).2.1,(hf b hb).2.2.2.2.1,(hf b hb).2.2.2.2.2⟩
 ·have U:Un (frs X.stack) fp H H' s.heap s'.heap:=J.base
  have neC:∀ b o,s.heap.get? b=some o->b≠C:=fun b o e=>qA (qD (qt e) hC)
  refine ⟨fun b o e n h1 h2=>?_,fun b o e n h1 h2=>?_,U.free,fun b o e h2=>?_,U.tups,U.frzs,U.tbls⟩
  ·exact (hs.2 b (neC b o e)).trans (U.keep b o e n h1 h2)
  ·obtain ⟨sl,q⟩:=U.slot b o e n h1 h2
   exact ⟨sl,(hs.2 b (neC b o e)).trans q⟩
  ·obtain ⟨o',q⟩:=U.there b o e h2
   exact ⟨o',(hs.2 b (neC b o e)).trans q⟩
 ·intro b u e
  refine (J.hok b u e).stay (fun c v hc q=>(hs.2 c ?_).trans q) (fun _ q=>q) fun _ _ q=>q
  rintro rfl
  rcases hc with z | z
  ·rw [← z,hCn] at e;cases e
  ·rw [hCn] at z;cases z
def PTs (X:Cx) (es:List Expr) (t:TT):Prop :=
 ∀ (pins:List (Addr×Obj)) (s:Shared) (σ:St) (H:Hp) (Q:Bool->Hp->Prop),Inv X pins σ H s->t σ H Q ->
  wpAny (model X.prog X.w) X.A (forIn es true fun c r=>if r=true then do let ok ← isTrue c X.env (eval c X.env);pure (ForInStep.yield ok) else pure (ForInStep.yield r)) (TP X pins σ Q) X.xe s
def zuq:TT:=fun _ H Q=>Q true H
theorem zp4 :PTs X [] zuq:=fun _ _ _ H _ I h=>wpAny_tests_nil ⟨H,I,h⟩
theorem zp3 {t:TT} (hc:PT X c t):PTs X [c] t:=fun pins s σ H Q I h=>wpAny_tests_one (hc pins s σ H Q I h)
def LcW (J:It) (g:TG) (tc:TT) (te:TE) (acc:Addr) (Q:V->Hp->Prop) (σ0:St) (H1:Hp):Prop :=
 ∃ W:Nat->Nat->List V->St->Hp->Prop,(∃ m,W 0 m [] σ0 (upd H1 acc (.lst [])))/\∀ i m ys σ' H',W i m ys σ' H'->H' acc=some (.lst ys) /\
  ((J.stop i H'/\Q (.ref acc) H')\/(J.go i H'/\∀ x H2,J.yld i H' x H2->g x σ' H2 fun σ2 H3=>tc σ2 H3 fun b H4 =>
   if b=true then te σ2 H4 fun v H5=>H5 acc=some (.lst ys)/\ys.length < sizeLine/\∃ m',m' < m/\W (i+1) m' (ys++[v]) σ2 (upd H5 acc (.lst (ys++[v])))
   else ∃ m',m' < m/\W (i+1) m' ys σ2 H4))
def tLC (wi:TI) (g:TG) (tc:TT) (te:TE) (fv:List (Option Nat)):TE:=fun σ H Q=>wi σ H fun J H1=>∀ acc,H1 acc=none->LcW J g tc te acc Q (zmB fv σ) H1
def PB (X:Cx) (N':List Str) (scope:Scope) (tg:Expr) (ifs:List Expr) (elt:Expr) (g:TG) (tc:TT) (te:TE):Prop :=
 ∀ (cl:List (Str×Addr)) (C:Addr) (s₀:Shared) (H₀:Hp) (fp:List Addr),PG (zdG X N' scope cl C s₀ H₀ fp) tg g/\PTs (zdG X N' scope cl C s₀ H₀ fp) ifs tc/\PE (zdG X N' scope cl C s₀ H₀ fp) elt te
structure FvOk (X:Cx) (N':List Str) (scope:Scope) (fv:List (Option Nat)):Prop where
 len:fv.length=N'.length
 at':∀ (i j:Nat) x,N'[i]?=some x->fv[i]?=some (some j)->X.N[j]?=some x/\(X.env.kindOf x=some .cell\/X.env.kindOf x=some .free)/\scope.names.lookup x=some .free
variable {y:Str} {py spos:Pos}
section
variable {g:TG}
theorem zkq {s2:Shared} {it:Addr} {tn:Nat->Heap->Prop} {J:It} {Q:VK} {RR:Value->Addr->Result->Shared->Prop} (hc:X.calm=true) (S:CompScope X scope) (F:FvOk X N' scope fv) (hb:PB X N' scope tg ifs elt g tc te)
  (I2:Inv X pins σ H1 s2) (T:Turn X.prog X.w X.K tg J fp it tn) (st2:tn 0 s2.heap) (f2:∀ b∈fp,zlb X pins H1 b) (q:∀ acc,H1 acc=none->LcW J g tc te acc Q (zmB fv σ) H1)
  (hRR:∀ (a C:Addr) (H':Hp) (s':Shared) (m:Str->Option Value),s'.heap.Ns C m->(∀ h',Heap.SameBut C s'.heap h'->Inv X pins σ H' { s' with heap:=h' })->zlb X pins H' C->Q (.ref a) H'->RR (.ref a) C (.ok .next) s') :
  wpAny (model X.prog X.w) X.A (newList []) (fun acc s₃=>wpAny (model X.prog X.w) X.A (newFunctionEnv scope X.env.globals (zc7 X.env scope.names []) [] X.env.qual none .none (some X.env)) (fun cenv s₄ =>
   codeAny (model X.prog X.w) X.A (.compStart (.ListComp elt [⟨tg,iter,ifs,0⟩] scope pos) 0 (.ref it) acc { cenv with scope:=relabel scope X.env }) (RR acc cenv.locals) s₄) X.xe s₃) X.xe s2:=by
 refine wpAny_newObj_type ?_
 have hacc:H1 s2.heap.objs.size=none:=I2.fresh
 have I3:Inv X pins σ (upd H1 s2.heap.objs.size (.lst [])) { s2 with heap:=s2.heap.push { cls:=.type "list",data:=.seq ([]:List Value).toArray } }:=I2.lnew (t':=s2.toks) .nil (Nat.zero_le _)
 generalize hs3:({ s2 with heap:=s2.heap.push { cls:=.type "list",data:=.seq ([]:List Value).toArray } }:Shared)=s3 at I3 ⊢
 have up:∀ b o,s2.heap.get? b=some o->s3.heap.get? b=some o:=fun b o e=>by rw [← hs3];exact qr _ e
 have lt2:∀ b∈fp,b < s2.heap.objs.size:=fun b hb=>by
  obtain ⟨o,e,_⟩:=T.obj 0 _ st2 b hb
  exact qt e
 have sz3:s2.heap.objs.size < s3.heap.objs.size:=by rw [← hs3];show _ < (s2.heap.push _).objs.size;rw [Heap.size_push];exact Nat.lt_succ_self _
 have lt3:∀ b∈fp,b < s3.heap.objs.size:=fun b hb=>Nat.lt_trans (lt2 b hb) sz3
 have f3:∀ b∈fp,zlb X pins (upd H1 s2.heap.objs.size (.lst [])) b:=fun b hb=>⟨by rw [zaj (qA (lt2 b hb))];exact (f2 b hb).1,(f2 b hb).2⟩
 have st3:tn 0 s3.heap:=T.keep _ _ _ st2 fun b _ o e=>up b o e
 refine wpAny_newFunctionEnv S.nocell (by intro y hy;simp at hy) (fun h4 hn4 sb4=>?_) S.kind
 have k4:∀ b o,s3.heap.get? b=some o->h4.get? b=some o:=fun b o e=>(sb4.2 b (qA (qt e))).trans (qr _ e)
 have st4:tn 0 h4:=T.keep _ _ _ st3 fun b _ o e=>k4 b o e
 have I4:=zkV I3 S f3 lt3 (C:=s3.heap.objs.size) rfl F.len F.at' hn4 k4 (t':=s3.toks+([]:List (Str×Value)).length)
 generalize hX:zdG X N' scope (zc7 X.env scope.names []) s3.heap.objs.size s3 (upd H1 s2.heap.objs.size (.lst [])) fp=X' at I4
 obtain ⟨bg,bt,be⟩:=hb (zc7 X.env scope.names []) s3.heap.objs.size s3 (upd H1 s2.heap.objs.size (.lst [])) fp
 rw [hX] at bg bt be
 have hprog:X'.prog=X.prog:=by rw [← hX];rfl
 have hw:X'.w=X.w:=by rw [← hX];rfl
 have hK:X'.K=X.K:=by rw [← hX];rfl
 have hA:X'.A=X.A:=by rw [← hX];rfl
 have hcalm:X'.calm=true:=by rw [← hX];exact hc
 have hxe:X'.xe=fun _ _=>False:=by rw [← hX];rfl
 have henv:X'.env=compEnvC scope (zc7 X.env scope.names []) s3.heap.objs.size X.env:=by rw [← hX];rfl
 have stat:∀ {H':Hp},(∀ b∈fp,H' b=none)->∀ b∈fp,zlb X' [] H' b:=fun {H'} hn b hb=>by
  have f:=f3 b hb
  have ok:=I4.ok
  refine ⟨hn b hb,(ok.exf b (by rw [← hX];exact hb)).1,ok.exfs b (by rw [← hX];exact hb),.inl (by rw [← hX];exact hb),fun x c e=>(ok.exf b (by rw [← hX];exact hb)).2 x c e,fun p hp=>?_⟩
  rw [← hX] at hp
  exact absurd (show p∈([]:List (Addr×Obj)) from hp) (by simp)
 obtain ⟨W,⟨m0,w0⟩,turn⟩:=q s2.heap.objs.size hacc
 have loop:∀ s5:Shared,s5={ s3 with heap:=h4,toks:=s3.toks+([]:List (Str×Value)).length } ->
   codeAny (model X.prog X.w) X.A (.compLoop (.ListComp elt [⟨tg,iter,ifs,0⟩] scope pos) 0 (.ref it) (.ref s2.heap.objs.size) (compEnvC scope (zc7 X.env scope.names []) s3.heap.objs.size X.env))
    (RR (.ref s2.heap.objs.size) s3.heap.objs.size) s5:=by
  intro s5 hs5
  refine zdX (fun n s'=>∃ i ys σ' H',Inv X' [] σ' H' s'/\tn i s'.heap/\(∀ b∈fp,H' b=none)/\W i n ys σ' H') ?_ m0 ⟨0,[],zmB fv σ,_,hs5▸I4,hs5▸st4,fun b hb=>(f3 b hb).1,w0⟩
  rintro n s6 ⟨i,ys,σ6,H6,I6,st6,fr6,w6⟩
  obtain ⟨ha6,turn6⟩:=turn i n ys σ6 H6 w6
  rw [← henv]
  rcases turn6 with ⟨stop,qn⟩ | ⟨go,step⟩
  ·have d:=T.done X' hprog hw hK hcalm i [] s6 σ6 H6 (fun _ _=>False) I6 (stat fr6) st6 stop
   rw [hA] at d
   refine thn d fun r s7 ⟨hr,I7⟩=>?_
   subst hr
   obtain ⟨m7,hn7,_⟩:=I7.loc
   have hl:X'.env.locals=s3.heap.objs.size:=by rw [henv];rfl
   refine hRR _ _ H6 s7 m7 (hl▸hn7) (fun h' hs'=>?_) ?_ qn
   ·rw [← hX] at I7
    exact zoK I3 f3 (qu _) I7 hs'
   ·exact I3.fpOk (qu _) (by have:=I7.free;rw [hl] at this;exact this)
  ·have d:=T.item X' hprog hw hK hcalm i [] s6 σ6 H6 (fun _ _=>False) I6 (stat fr6) st6 go
   rw [hA] at d
   refine thn d fun r s7 ⟨u,hr,h7⟩=>?_
   subst hr
   refine thn h7 fun _ s8 ⟨x,H8,I8,r8,y8,st8,fr8⟩=>?_
   have I8':=I8.pinned (stat fr8) (T.obj _ _ st8)
   have dg:=bg _ s8 σ6 H8 x u _ I8' r8 (step x H8 y8)
   rw [hprog,hw,hA,hxe] at dg
   refine thn dg fun _ s9 ⟨σ9,H9,I9,q9⟩=>?_
   have dt:=bt _ s9 σ9 H9 _ I9 q9
   rw [hprog,hw,hA,hxe] at dt
   refine thn dt fun b s10 ⟨H10,I10,q10⟩=>?_
   have again:∀ {σ7:St} {H7:Hp} {s7:Shared} {ys':List V},Inv X' ([]++zh8 fp s8.heap) σ7 H7 s7->(∃ m',m' < n/\W (i+1) m' ys' σ7 H7)->∃ m,m < n/\∃ i ys σ' H',Inv X' [] σ' H' s7/\tn i s7.heap/\(∀ b∈fp,H' b=none)/\W i m ys σ' H':=fun {σ7 H7 s7 ys'} I7 n7=>by
    obtain ⟨m',hm,w7⟩:=n7
    refine ⟨m',hm,i+1,ys',σ7,H7,I7.unpinned,T.keep _ _ _ st8 fun b hb o e=>(I7.pin (b,o) (qP _ (qP _ (zdL hb e)))).1,fun b hb=>?_,w7⟩
    obtain ⟨o,e,_⟩:=T.obj _ _ st8 b hb
    exact (I7.pin (b,o) (qP _ (qP _ (zdL hb e)))).2.1
   cases b with
   | false =>
    rw [qW qq] at q10 ⊢
    exact again I10 q10
   | true =>
    rw [qV rfl] at q10 ⊢
    have de:=be _ s10 σ9 H10 _ I10 q10
    rw [hprog,hw,hA,hxe] at de
    refine thn de fun v s11 ⟨y,H11,I11,r11,ha11,hz11,n11⟩=>?_
    have da:=zf3 _ s11 σ9 H11 (.ref s2.heap.objs.size) [y] (.ref s2.heap.objs.size) [v] (fun _ H'=>H'=upd H11 s2.heap.objs.size (.lst (ys++[y]))) I11 rfl (.cons r11 .nil) ⟨_,ys,y,rfl,rfl,ha11,hz11,rfl⟩
    rw [hprog,hw,hA,hxe] at da
    refine thn da fun _ s12 ⟨_,H12,I12,_,e12⟩=>?_
    subst e12
    exact again I12 n11
 exact codeAny_compStart_list (loop _ rfl) (T.self _ 0 _ _ _ st4 (loop _ rfl))
theorem zuR (hc:X.calm=true) (S:CompScope X scope) (F:FvOk X N' scope fv) (hi:PI X tg iter wi) (hb:PB X N' scope tg ifs elt g tc te) (hs:∀ x,foldedSetIterable iter X.env x=pure x:=by intro _;rfl) :
  PE X (.ListComp elt [⟨tg,iter,ifs,0⟩] scope pos) (tLC wi g tc te fv):=by
 intro pins s σ H Q I h
 rw [eval_ListComp]
 refine wpAny_comprehension_free (use:=none) rfl hs (zcX I S) S.kind S.names (thn (hi pins s σ H _ I h) fun x s1 h1=>thn h1 fun itv s2 h2=>?_)
 obtain ⟨it,fp,tn,J,H1,e,I2,T,st2,f2,q⟩:=h2
 subst e
 refine zkq (RR:=fun acc C=>compPost (model X.prog X.w) X.A X.xe none (EP X pins σ Q) acc C) hc S F hb I2 T st2 f2 q ?_
 intro a C H' s' m hn hI hCL hq
 exact ⟨m,hn,fun h' hs'=>⟨.ref a,H',hI h' hs',rfl,hq⟩⟩
theorem zsv (hN:X.N.Nodup) (hy:X.N[i]?=some y) (hyl:X.env.scope.names.lookup y=some .local) (hc:X.calm=true) (S:CompScope X scope) (F:FvOk X N' scope fv) (hi:PI X tg iter wi) (hb:PB X N' scope tg ifs elt g tc te)
  (hsw:swapsWith (.ListComp elt [⟨tg,iter,ifs,0⟩] scope pos) (some (.Name y py)) spos.line X.env=pure true)
  (hs:∀ x,foldedSetIterable iter X.env x=pure x:=by intro _;rfl) :
  PS X (.Assign [.Name y py] (.ListComp elt [⟨tg,iter,ifs,0⟩] scope pos) spos) (zrD (tLC wi g tc te fv) (zkS i)):=by
 intro pins s σ H D I h
 rw [exec_Assign_Name_used _ _ _ _ hsw]
 refine qw (wpAny_standAt (qw ?_))
 show wpAny _ _ (do let _ ← comprehension (.ListComp elt [⟨tg,iter,ifs,0⟩] scope pos) scope X.env _ (newList []) false (eval iter X.env) (some (assign (.Name y py) X.env))) _ _ s
 refine qw (wpAny_mono (wpAny_comprehension_free (use:=some (assign (.Name y py) X.env)) (Q:=fun _ s'=>SP X pins D .next s') rfl hs (zcX I S) S.kind S.names
  (thn (hi pins s σ H _ I h) fun x s1 h1=>thn h1 fun itv s2 h2=>?_)) (fun _ s' hq=>qy (qy hq)) fun _ _ e=>e)
 obtain ⟨it,fp,tn,J,H1,e,I2,T,st2,f2,q⟩:=h2
 subst e
 refine zkq (RR:=fun acc C=>compPost (model X.prog X.w) X.A X.xe (some (assign (.Name y py) X.env)) (fun _ s'=>SP X pins D .next s') acc C) hc S F hb I2 T st2 f2 q ?_
 intro a C H' s' m hn hI hCL hq
 show wpAny _ _ (assign (.Name y py) X.env (.ref a)) _ _ _
 have I':Inv X pins σ H' s':=hI s'.heap (Heap.SameBut.refl _ _)
 refine wpAny_assign_Name ?_
 refine zhV (v:=.ref a) I' hN hy (.inl hyl) rfl (fun s'' I'' hch=>?_) (.inr hyl)
 obtain ⟨ad,hsb,had⟩:=hch
 obtain ⟨f0,f1,f2',f3,f4,f5⟩:=hCL
 have hne:C≠ad:=by
  rcases had with z | z
  ·rw [z];exact f1
  ·exact fun e=>f4 y ad z e.symm
 refine ⟨m,hn.sameBut hsb hne,fun h' hs'=>?_⟩
 exact ⟨_,H',I''.turned (t':=s''.toks) (fun b o hb e=>(hs'.2 b hb).trans e) f0 f1 f3 f4 f5,hq⟩
end
def Its (x:Str):It:=⟨fun i _=>i < x.cps.size,fun i H v H'=>H'=H/\∃ c,x.cps[i]?=some c/\v=.str ⟨#[c]⟩,fun i _=>i=x.cps.size⟩
theorem zqT {M:Model} {n:Str} {it:Value} {Q:Unit->Shared->Prop} (hQ:Q () s):wpAny M A (letOwnedTupleGo (.Name n p) it u) Q E s:=qy hQ
theorem zjF {n:Str} {ty:String} (it:Addr) (x:Str) (t:Tok)
  (W:∀ A:Around,A.handled=none->Walks P w A it [it] [it] x.cps.size (SignAt x) (fun i h=>h.IsStrIter it ty x t i))
  (sf:∀ (A:Around) (i:Nat) (s:Shared) (Q:Value->Shared->Prop) (E:Value->Shared->Prop),s.heap.IsStrIter it ty x t i->Q (.ref it) s->wpAny (model P w) A (pyIter (.ref it)) Q E s):Turn P w K (.Name n p) (Its x) [it] it (fun i h=>h.IsStrIter it ty x t i) where
 mem:=by simp
 obj:=fun i h st b hb=>by
  have e:b=it:=by simpa using hb
  subst e
  obtain ⟨o,e,c,d⟩:=st
  exact ⟨o,e,fun v z=>by rw [d] at z;cases z⟩
 keep:=fun i h h' st k=>by
  obtain ⟨o,e,r⟩:=st
  exact ⟨o,k it (by simp) o e,r⟩
 item:=by
  intro X hP hw hK hc i pins s σ H E I hf st hg
  subst hP hw hK
  obtain ⟨f0,f1,f2,f3,f4,f5⟩:=hf it (by simp)
  refine (W X.A (I.ok.hd hc)).item i s _ _ hg st fun v h' tk hv st' kk=>?_
  obtain ⟨c,u,hcc,rfl⟩:=hv
  have I1:Inv X pins σ H { s with heap:=h',toks:=tk }:=I.turned (fun b o hb e=>kk b o (by simpa using hb) e) f0 f1 f3 f4 f5
  exact ⟨_,rfl,zqT ⟨.str ⟨#[c]⟩,H,I1,⟨_,rfl⟩,⟨rfl,c,hcc,rfl⟩,st',fun b hb=>(hf b hb).1⟩⟩
 done:=by
  intro X hP hw hK hc i pins s σ H E I hf st hg
  subst hP hw hK
  obtain ⟨f0,f1,f2,f3,f4,f5⟩:=hf it (by simp)
  have hi:i=x.cps.size:=hg
  subst hi
  exact (W X.A (I.ok.hd hc)).done s _ _ st fun h' tk kk=>⟨rfl,I.turned (fun b o hb e=>kk b o (by simpa using hb) e) f0 f1 f3 f4 f5⟩
 self:=sf
def zv9 (te:TE):TI:=fun σ H R=>te σ H fun v H1=>∃ x,v=.str x/\R (Its x) H1
theorem zsB {n:Str} (he:PE X e te):PI X (.Name n p) e (zv9 te):=by
 intro pins s σ H R I h
 refine thn (he pins s σ H _ I h) fun v s1 ⟨y,H1,I1,r1,q1⟩=>?_
 obtain ⟨x,e,q⟩:=q1
 subst e
 obtain ⟨t,rfl⟩:=r1
 have fin:∀ (ty:String) (o:Obj),(s1.heap.push o).IsStrIter s1.heap.objs.size ty x t 0->Turn X.prog X.w X.K (.Name n p) (Its x) [s1.heap.objs.size] s1.heap.objs.size (fun i h=>h.IsStrIter s1.heap.objs.size ty x t i) ->
   PIE X pins σ (.Name n p) R (.ref s1.heap.objs.size) { s1 with heap:=s1.heap.push o }:=fun ty o st T=>by
  refine ⟨s1.heap.objs.size,[s1.heap.objs.size],_,_,H1,rfl,I1.kept (t':=s1.toks) fun b o e=>qr _ e,T,st,fun b hb=>?_,q⟩
  have e:b=s1.heap.objs.size:=by simpa using hb
  subst e
  exact I1.fpOk (qu _) (I1.hok.fresh (qu _))
 cases ha:x.cps.all (· < 128)
 ·exact wpAny_pyIter_wide ha (fin _ _ ⟨_,qF _ rfl,rfl,rfl⟩ (zjF _ x t (fun A' hA=>Walks.strWide hA _ x t) fun _ _ _ _ _ st h=>wpAny_pyIter_striter_wide st h))
 ·exact wpAny_pyIter_ascii ha (fin _ _ ⟨_,qF _ rfl,rfl,rfl⟩ (zjF _ x t (fun A' hA=>Walks.strAscii hA _ x t) fun _ _ _ _ _ st h=>wpAny_pyIter_striter_ascii st h))
def Ite (K:PySem.W.Frag) (a:Addr):It :=
 ⟨fun i H=>∃ xs x,SqL K H a xs/\xs[i]?=some x,fun i H v H'=>∃ T x,v=.ref T/\H T=none/\H'=upd H T (.tup [.int i,x])/\∀ xs,SqL K H a xs->xs[i]?=some x,fun i H=>∃ xs,SqL K H a xs/\xs.length<=i⟩
variable {elts:List Expr}
theorem zll {k1:Nat} (e it a:Addr) (hei:e≠it) :
  Turn P w K (.Tuple elts k1 pos) (Ite K a) [e,it] e (fun i h=>(∃ old,IsEnum h e it i old)/\h.IsListIter it a i) where
 mem:=by simp
 obj:=fun i h st b hb=>by
  obtain ⟨⟨old,he⟩,o,ho,c,d⟩:=st
  rcases List.mem_cons.mp hb with z | z
  ·subst z
   exact ⟨_,he,fun v z=>by cases z⟩
  ·have z':b=it:=by simpa using z
   subst z'
   exact ⟨o,ho,fun v z=>by rw [d] at z;cases z⟩
 keep:=fun i h h' st k=>by
  obtain ⟨⟨old,he⟩,hi⟩:=st
  exact ⟨⟨old,k e (by simp) _ he⟩,hi.at fun o x=>k it (by simp) o x⟩
 item:=by
  intro X hP hw hK hc i pins s σ H E I hf st hg
  subst hP hw hK
  obtain ⟨xs,x,hq,hx⟩:=hg
  obtain ⟨its,rv,p,hz⟩:=I.list hq
  obtain ⟨u,hu,ru⟩:=rv.get hx
  obtain ⟨⟨old,he⟩,hit⟩:=st
  obtain ⟨e0,e1,e2,e3,e4,e5⟩:=hf e (by simp)
  obtain ⟨f0,f1,f2,f3,f4,f5⟩:=hf it (by simp)
  have helt:e < s.heap.objs.size:=qt he
  have hilt:it < s.heap.objs.size:=by obtain ⟨_,x,_⟩:=hit;exact qt x
  refine wpAny_pyNext_enum_item he hit p.isList (x:=u) (by simpa using hu) hei fun h' ho hit' hT hsz hk=>?_
  refine ⟨_,rfl,wpAny_letOwnedTupleGo_enum ho fun h2 he2 hs2=>?_⟩
  have hs2':Heap.SameBut e h' h2:=hs2
  have kk:∀ b o,b≠e->b≠it->s.heap.get? b=some o->h2.get? b=some o:=fun b o h1 h3 q=>(hs2'.2 b h1).trans (hk b o h1 h3 q)
  have hT2:h2.get? s.heap.objs.size=some { cls:=.type "tuple",data:=.seq #[.int i s.toks,u] }:=(hs2'.2 _ (Nat.ne_of_gt helt)).trans hT
  have nH:H s.heap.objs.size=none:=I.fresh
  have I1:Inv X pins σ (upd H s.heap.objs.size (.tup [.int i,x])) { s with heap:=h2,toks:=s.toks+1 }:=by
   have ne:∀ b o,H b=some o->b≠e/\b≠it:=fun b o q=>⟨fun z=>(by rw [z,e0] at q;cases q),fun z=>(by rw [z,f0] at q;cases q)⟩
   refine I.step (g':=s.gens) (d':=s.drawn) (ch:=[e,it]) (fun b hb=>?_) (fun b o _ _ hc q _=>kk b o (fun z=>hc (by simp [z])) (fun z=>hc (by simp [z])) q) (fun b o _ _ hc q _=>⟨o.slots,kk b o (fun z=>hc (by simp [z])) (fun z=>hc (by simp [z])) q⟩) (fun b o _ q n=>?_)
    (fun b o hc q=>⟨o,kk b o (fun z=>hc (by simp [z])) (fun z=>hc (by simp [z])) q⟩) (fun b ys q=>?_) (fun b o y q=>?_) (fun b ps q=>⟨#[],?_⟩) (fun m hm=>?_) (fun b v q=>?_) I.bare
   ·rcases List.mem_cons.mp hb with z | z
    ·subst z;exact ⟨e3,e1,e4,e5⟩
    ·have z':b=it:=by simpa using z
     subst z';exact ⟨f3,f1,f4,f5⟩
   ·rw [zaj (qA (qt q))];exact n
   ·rw [zaj (zal q nH)];exact q
   ·rw [zaj (zal q nH)];exact q
   ·rw [zaj (zal q nH),q];simp
   ·obtain ⟨o,es,ep,q,r⟩:=hm
    exact ⟨o,es,ep,kk _ o (Ne.symm e1) (Ne.symm f1) q,r⟩
   ·by_cases hb:b=s.heap.objs.size
    ·subst hb
     rw [zak] at q
     cases q
     exact ⟨by show 2<=sizeLine;decide,[.int i s.toks,u],.cons ⟨_,rfl⟩ (.cons ru .nil),⟨_,hT2,rfl,_,rfl⟩⟩
    ·rw [zaj hb] at q
     refine (I.hok b v q).stay (fun c v hc r=>?_) (fun c r=>by rw [zaj (zal r nH)];exact r) fun c ys r=>by rw [zaj (zal r nH)];exact r
     rcases hc with z | z
     ·rw [z] at r ⊢;exact kk b v (ne b _ q).1 (ne b _ q).2 r
     ·exact kk c v (ne c _ z).1 (ne c _ z).2 r
  refine ⟨.ref s.heap.objs.size,_,I1,rfl,⟨_,x,rfl,nH,rfl,fun ys hy=>by rw [I.list_inj hy hq];exact hx⟩,⟨⟨_,by simpa using he2⟩,hit'.at fun o y=>(hs2'.2 it hei.symm).trans y⟩,fun b hb=>?_⟩
  rcases List.mem_cons.mp hb with z | z
  ·subst z;rw [zaj (qA helt)];exact e0
  ·have z':b=it:=by simpa using z
   subst z';rw [zaj (qA hilt)];exact f0
 done:=by
  intro X hP hw hK hc i pins s σ H E I hf st hg
  subst hP hw hK
  obtain ⟨xs,hq,hx⟩:=hg
  obtain ⟨its,rv,p,hz⟩:=I.list hq
  obtain ⟨⟨old,he⟩,hit⟩:=st
  obtain ⟨f0,f1,f2,f3,f4,f5⟩:=hf it (by simp)
  have hl:=rv.length
  exact wpAny_pyNext_enum_end (I.ok.hd hc) he hit p.isList (by simp;omega) fun h' eb=>⟨rfl,I.turned (t':=s.toks) (fun b o hb e=>eb b o hb e) f0 f1 f3 f4 f5⟩
 self:=fun A i s Q E st h=>by
  obtain ⟨⟨old,he⟩,_⟩:=st
  exact wpAny_pyIter_enum he h
def zu7 (K:PySem.W.Frag) (ta:TA):TI:=fun σ H R=>ta σ H fun vs H1=>∃ a,vs=[.ref a]/\(∃ xs,SqL K H1 a xs)/\R (Ite K a) H1
theorem zqa {a:Expr} {ta:TA} {k1:Nat} (hg:Gl X "enumerate") (hm:X.mg "enumerate"=none) (ha:PA X [a] ta) (hs:starEach [a] X.env=[(false,eval a X.env)]:=by rfl) :
  PI X (.Tuple elts k1 tpos) (.Call (.Name "enumerate" p) [a] [] pos) (zu7 X.K ta):=by
 intro pins s σ H R I h
 refine Call_ (zf9 I hg hm PyProof.Rows.boot_enumerate (PyProof.Rows.callWith_type1 (thn (ha pos pins s σ H _ I h) fun us s1 ⟨vs,H1,I1,r1,q1⟩=>?_) hs rfl))
 obtain ⟨l,e,⟨xs,hq⟩,q⟩:=q1
 subst e
 obtain ⟨u,rfl,r2⟩:=zfN r1
 cases r2
 obtain ⟨its,rv,pl,hz⟩:=I1.list hq
 refine call_enumerate_list pl.isList fun h' he hit hsz hk=>?_
 have I2:Inv X pins σ H1 { s1 with heap:=h' }:=I1.kept (t':=s1.toks) hk
 refine wpAny_pyIter_enum he ?_
 refine ⟨s1.heap.objs.size+1,[s1.heap.objs.size+1,s1.heap.objs.size],_,_,H1,rfl,I2,zll _ _ l (Nat.succ_ne_self _),⟨⟨_,he⟩,hit⟩,fun b hb=>?_,q⟩
 rcases List.mem_cons.mp hb with z | z
 ·subst z;exact I1.fpOk (Nat.le_succ _) (I1.hok.fresh (Nat.le_succ _))
 ·have z':b=s1.heap.objs.size:=by simpa using z
  subst z';exact I1.fpOk (qu _) (I1.hok.fresh (qu _))
inductive D where
 | non | bl (b:Bool) | int (i:Int) | str (x:Str) | tup (l:List D) | lst (l:List D) | scr (ns:List Int)
 | dk (l:List (Key×D)) | dt (l:List (List Key×D)) | ins (c:Str) (fs:List (Str×D)) | ty (n:String)
structure Cn where
 cls:Str->Option Addr
 self:Option Addr:=none
mutual
inductive Rep (Γ:Cn) (K:PySem.W.Frag) (G:Hp):V->D->Prop where
 | non:Rep Γ K G .non .non
 | bl (b:Bool):Rep Γ K G (.bl b) (.bl b)
 | int (i:Int):Rep Γ K G (.int i) (.int i)
 | str (x:Str):Rep Γ K G (.str x) (.str x)
 | ty (n:String):Rep Γ K G (.ty n) (.ty n)
 | tup {a:Addr} {vs:List V} {ds:List D}:G a=some (.tup vs)->Reps Γ K G vs ds->Rep Γ K G (.ref a) (.tup ds)
 | lst {a:Addr} {vs:List V} {ds:List D}:G a=some (.lst vs)->Reps Γ K G vs ds->Rep Γ K G (.ref a) (.lst ds)
 | scr {a:Addr} {ns:List Int}:SqL K G a (ns.map V.int)->Rep Γ K G (.ref a) (.scr ns)
 | dk {a:Addr} {us:List (Key×V)} {kvs:List (Key×D)}:G a=some (.dK us)->us.map (·.1)=kvs.map (·.1)->Reps Γ K G (us.map (·.2)) (kvs.map (·.2))->Rep Γ K G (.ref a) (.dk kvs)
 | dt {a:Addr} {us:List (List Key×V)} {kvs:List (List Key×D)}:G a=some (.dT us)->us.map (·.1)=kvs.map (·.1)->Reps Γ K G (us.map (·.2)) (kvs.map (·.2))->Rep Γ K G (.ref a) (.dt kvs)
 | ins {a C dx:Addr} {c:Str} {us:List (Str×V)} {fs:List (Str×D)}:G a=some (.ins C dx us)->Γ.cls c=some C->us.map (·.1)=fs.map (·.1)->Reps Γ K G (us.map (·.2)) (fs.map (·.2))->Rep Γ K G (.ref a) (.ins c fs)
inductive Reps (Γ:Cn) (K:PySem.W.Frag) (G:Hp):List V->List D->Prop where
 | nil:Reps Γ K G [] []
 | cons {v:V} {d:D} {vs:List V} {ds:List D}:Rep Γ K G v d->Reps Γ K G vs ds->Reps Γ K G (v::vs) (d::ds)
end
variable {Γ:Cn} {G G' G1 G2:Hp}
mutual
theorem Rep.mono:∀ {v:V} {d:D},Rep Γ K G v d->zbh G G'->Rep Γ K G' v d
 | _,_,.non,_=>.non
 | _,_,.bl b,_=>.bl b
 | _,_,.int i,_=>.int i
 | _,_,.str x,_=>.str x
 | _,_,.ty x,_=>.ty x
 | _,_,.tup h r,s=>.tup (s _ _ h) (r.mono s)
 | _,_,.lst h r,s=>.lst (s _ _ h) (r.mono s)
 | _,_,.scr h,s=>.scr (s.seq h)
 | _,_,.dk h e r,s=>.dk (s _ _ h) e (r.mono s)
 | _,_,.dt h e r,s=>.dt (s _ _ h) e (r.mono s)
 | _,_,.ins h c e r,s=>.ins (s _ _ h) c e (r.mono s)
theorem Reps.mono:∀ {vs:List V} {ds:List D},Reps Γ K G vs ds->zbh G G'->Reps Γ K G' vs ds
 | _,_,.nil,_=>.nil
 | _,_,.cons h r,s=>.cons (h.mono s) (r.mono s)
end
mutual
theorem Rep.re {Γ':Cn} (hc:Γ'.cls=Γ.cls):∀ {v:V} {d:D},Rep Γ K G v d->Rep Γ' K G v d
 | _,_,.non=>.non
 | _,_,.bl b=>.bl b
 | _,_,.int i=>.int i
 | _,_,.str x=>.str x
 | _,_,.ty x=>.ty x
 | _,_,.tup h r=>.tup h (r.re hc)
 | _,_,.lst h r=>.lst h (r.re hc)
 | _,_,.scr h=>.scr h
 | _,_,.dk h e r=>.dk h e (r.re hc)
 | _,_,.dt h e r=>.dt h e (r.re hc)
 | _,_,.ins h c e r=>.ins h (by rw [hc];exact c) e (r.re hc)
theorem Reps.re {Γ':Cn} (hc:Γ'.cls=Γ.cls):∀ {vs:List V} {ds:List D},Reps Γ K G vs ds->Reps Γ' K G vs ds
 | _,_,.nil=>.nil
 | _,_,.cons h r=>.cons (h.re hc) (r.re hc)
end
theorem Reps.length:∀ {vs:List V} {ds:List D},Reps Γ K G vs ds->vs.length=ds.length
 | _,_,.nil=>rfl
 | _,_,.cons _ r=>by rw [qh,qh,r.length]
theorem Reps.get:∀ {vs:List V} {ds:List D} {i:Nat} {d:D},Reps Γ K G vs ds->ds[i]?=some d->∃ v,vs[i]?=some v/\Rep Γ K G v d
 | _,_,_,_,.nil,e=>by simp at e
 | _,_,0,_,.cons r _,e=>by simp at e;subst e;exact ⟨_,rfl,r⟩
 | _,_,i+1,d,.cons _ t,e=>by
  obtain ⟨u,h1,h2⟩:=Reps.get (i:=i) (d:=d) t (by simpa using e)
  exact ⟨u,by simpa using h1,h2⟩
theorem Reps.append:∀ {vs ws:List V} {ds es:List D},Reps Γ K G vs ds->Reps Γ K G ws es->Reps Γ K G (vs++ws) (ds++es)
 | _,_,_,_,.nil,s=>s
 | _,_,_,_,.cons r t,s=>.cons r (t.append s)
theorem Reps.take:∀ {vs:List V} {ds:List D} (n:Nat),Reps Γ K G vs ds->Reps Γ K G (vs.take n) (ds.take n)
 | _,_,0,_=>.nil
 | _,_,_+1,.nil=>.nil
 | _,_,n+1,.cons r t=>.cons r (t.take n)
theorem Reps.drop:∀ {vs:List V} {ds:List D} (n:Nat),Reps Γ K G vs ds->Reps Γ K G (vs.drop n) (ds.drop n)
 | _,_,0,r=>r
 | _,_,_+1,.nil=>.nil
 | _,_,n+1,.cons _ t=>t.drop n
theorem Reps.ints:∀ (ns:List Int),Reps Γ K G (ns.map V.int) (ns.map D.int)
 | []=>.nil
 | n::r=>.cons (.int n) (Reps.ints r)
theorem Reps.rep {vs:List V} {ds:List D} (h:Reps Γ K G vs ds):∀ k:Nat,Reps Γ K G (List.replicate k vs).flatten (List.replicate k ds).flatten
 | 0=>.nil
 | k+1=>by
  rw [List.replicate_succ,List.replicate_succ,List.flatten_cons,List.flatten_cons]
  exact h.append (Reps.rep h k)
structure Step (G H G' H':Hp):Prop where
 hh:zbh H H'
 gg:zbh G G'
 gh:zbh G' H'
 out:∀ a o,H a=some o->G' a=G a
theorem Step.refl (gh:zbh G H):Step G H G H:=⟨.refl _,.refl _,gh,fun _ _ _=>rfl⟩
theorem Step.trans (a:Step G H G1 H1) (b:Step G1 H1 G2 H2):Step G H G2 H2 :=
 ⟨a.hh.trans b.hh,a.gg.trans b.gg,b.gh,fun c o e=>(b.out c o (a.hh c o e)).trans (a.out c o e)⟩
theorem Step.new {p:Addr} {o:HO} (gh:zbh G H) (hp:H p=none):Step G H (upd G p o) (upd H p o):=by
 have gp:G p=none:=gh.free hp
 refine ⟨fun b u e=>?_,fun b u e=>?_,fun b u e=>?_,fun b u e=>?_⟩
 ·rw [zaj (zal e hp)];exact e
 ·rw [zaj (zal e gp)];exact e
 ·by_cases hb:b=p
  ·subst hb;rw [zak] at e ⊢;exact e
  ·rw [zaj hb] at e ⊢;exact gh b u e
 ·rw [zaj (zal e hp)]
theorem Step.newOwn {p:Addr} {o:HO} (gh:zbh G H) (hp:H p=none):Step G H G (upd H p o):=by
 refine ⟨fun b u e=>?_,.refl _,fun b u e=>?_,fun _ _ _=>rfl⟩
 ·rw [zaj (zal e hp)];exact e
 ·rw [zaj (zal (gh b u e) hp)];exact gh b u e
inductive Slot where
 | sh (d:D)
 | own (ds:List D)
 | obj (c:Str) (fs:List (Str×D))
 | objd (c:Str) (fs:List (Str×D)) (n:Str) (kvs:List (Key×D))
 | odk (kvs:List (Key×D))
 | odt (kvs:List (List Key×D))
 | tlo (ds es:List D)
 | pin (a:Addr)
 | oll (dss:List (List D))
abbrev zaI:=List (Option Slot)
noncomputable def zio:D->Bool
 | .non=>true
 | .bl _=>true
 | .int _=>true
 | .str _=>true
 | _=>false
def zck (H:Hp):List Addr->List (List V)->Prop
 | [],[]=>True
 | p::ps,vs::vss=>H p=some (.lst vs)/\zck H ps vss
 | _,_=>False
def zdj (Γ:Cn) (K:PySem.W.Frag) (G:Hp):List (List V)->List (List D)->Prop
 | [],[]=>True
 | vs::vss,ds::dss=>Reps Γ K G vs ds/\zdj Γ K G vss dss
 | _,_=>False
theorem zck.mem {H:Hp}:∀ {ps:List Addr} {vss:List (List V)},zck H ps vss->∀ b∈ps,∃ o,H b=some o
 | [],_,_,b,hb=>by cases hb
 | p::ps,[],h,b,hb=>h.elim
 | p::ps,vs::vss,h,b,hb=>by
  rcases List.mem_cons.mp hb with rfl | hb
  ·exact ⟨_,h.1⟩
  ·exact h.2.mem b hb
theorem zck.stay {H H':Hp}:∀ {ps:List Addr} {vss:List (List V)},zck H ps vss->(∀ b∈ps,H' b=H b)->zck H' ps vss
 | [],[],_,_=>trivial
 | [],_::_,h,_=>h.elim
 | p::ps,[],h,_=>h.elim
 | p::ps,vs::vss,h,e=>⟨(e p qf).trans h.1,h.2.stay fun b hb=>e b (qg _ hb)⟩
theorem zdj.map {Γ:Cn} {K:PySem.W.Frag} {G G':Hp} (f:∀ {vs:List V} {ds:List D},Reps Γ K G vs ds->Reps Γ K G' vs ds):∀ {vss:List (List V)} {dss:List (List D)},zdj Γ K G vss dss->zdj Γ K G' vss dss
 | [],[],_=>trivial
 | [],_::_,h=>h.elim
 | _::_,[],h=>h.elim
 | _::_,_::_,h=>⟨f h.1,h.2.map f⟩
theorem zjN:∀ {ps qs:List Addr},ps.map V.ref=qs.map V.ref->ps=qs
 | [],[],_=>rfl
 | [],_::_,h=>by cases h
 | _::_,[],h=>by cases h
 | p::ps,q::qs,h=>by
  have h1:=List.cons.inj h
  rw [V.ref.inj h1.1,zjN h1.2]
inductive SR (Γ:Cn) (K:PySem.W.Frag) (H₀ G H:Hp):Slot->V->List Addr->Prop where
 | sh {d:D} {v:V}:Rep Γ K G v d->SR Γ K H₀ G H (.sh d) v []
 | own {a:Addr} {vs:List V} {ds:List D}:H₀ a=none->G a=none->H a=some (.lst vs)->Reps Γ K G vs ds->SR Γ K H₀ G H (.own ds) (.ref a) [a]
 | obj {c:Str} {a C dx:Addr} {vs:List (Str×V)} {fs:List (Str×D)}:Γ.cls c=some C->H₀ a=none->G a=none->H a=some (.ins C dx vs)->vs.map (·.1)=fs.map (·.1)->Reps Γ K G (vs.map (·.2)) (fs.map (·.2))->Γ.self=some a->SR Γ K H₀ G H (.obj c fs) (.ref a) [a]
 | objd {c n:Str} {a C dx p:Addr} {vs:List (Str×V)} {fs:List (Str×D)} {us:List (Key×V)} {kvs:List (Key×D)}:Γ.cls c=some C->H₀ a=none->G a=none->H a=some (.ins C dx (vs++[(n,.ref p)]))->vs.map (·.1)=fs.map (·.1)->Reps Γ K G (vs.map (·.2)) (fs.map (·.2)) ->
   H₀ p=none->G p=none->H p=some (.dK us)->us.map (·.1)=kvs.map (·.1)->Reps Γ K G (us.map (·.2)) (kvs.map (·.2))->Γ.self=some a->SR Γ K H₀ G H (.objd c fs n kvs) (.ref a) [a,p]
 | odk {a:Addr} {us:List (Key×V)} {kvs:List (Key×D)}:H₀ a=none->G a=none->H a=some (.dK us)->us.map (·.1)=kvs.map (·.1)->Reps Γ K G (us.map (·.2)) (kvs.map (·.2))->SR Γ K H₀ G H (.odk kvs) (.ref a) [a]
 | odt {a:Addr} {us:List (List Key×V)} {kvs:List (List Key×D)}:H₀ a=none->G a=none->H a=some (.dT us)->us.map (·.1)=kvs.map (·.1)->Reps Γ K G (us.map (·.2)) (kvs.map (·.2))->SR Γ K H₀ G H (.odt kvs) (.ref a) [a]
 | tlo {t p:Addr} {vs ws:List V} {ds es:List D}:H₀ p=none->G p=none->H p=some (.lst ws)->G t=some (.tup (vs++[.ref p]))->Reps Γ K G vs ds->Reps Γ K G ws es->SR Γ K H₀ G H (.tlo ds es) (.ref t) [p]
 | pin (a:Addr):SR Γ K H₀ G H (.pin a) (.ref a) []
 | oll {a:Addr} {ps:List Addr} {vss:List (List V)} {dss:List (List D)}:(∀ b∈a::ps,H₀ b=none/\G b=none)->(a::ps).Nodup->H a=some (.lst (ps.map V.ref))->zck H ps vss->zdj Γ K G vss dss->SR Γ K H₀ G H (.oll dss) (.ref a) (a::ps)
variable {H₀:Hp}
section
variable {s:Slot}
theorem SR.fpt (r:SR Γ K H₀ G H s v fp):∀ b∈fp,H₀ b=none/\G b=none/\∃ o,H b=some o:=by
 cases r with
 | sh r=>intro b hb;cases hb
 | own h1 h2 h3 _=>intro b hb;rw [List.mem_singleton.mp hb];exact ⟨h1,h2,_,h3⟩
 | obj _ h1 h2 h3 _ _ _=>intro b hb;rw [List.mem_singleton.mp hb];exact ⟨h1,h2,_,h3⟩
 | objd _ h1 h2 h3 _ _ q1 q2 q3 _ _ _ =>
  intro b hb
  rcases List.mem_cons.mp hb with rfl | hb
  ·exact ⟨h1,h2,_,h3⟩
  ·rw [List.mem_singleton.mp hb];exact ⟨q1,q2,_,q3⟩
 | odk h1 h2 h3 _ _=>intro b hb;rw [List.mem_singleton.mp hb];exact ⟨h1,h2,_,h3⟩
 | odt h1 h2 h3 _ _=>intro b hb;rw [List.mem_singleton.mp hb];exact ⟨h1,h2,_,h3⟩
 | tlo h1 h2 h3 _ _ _=>intro b hb;rw [List.mem_singleton.mp hb];exact ⟨h1,h2,_,h3⟩
 | pin a=>intro b hb;cases hb
 | oll h1 h2 h3 h4 _ =>
  intro b hb
  refine ⟨(h1 b hb).1,(h1 b hb).2,?_⟩
  rcases List.mem_cons.mp hb with rfl | hb
  ·exact ⟨_,h3⟩
  ·exact h4.mem b hb
theorem SR.stay (r:SR Γ K H₀ G H s v fp) (gg:zbh G G') (hg:∀ b∈fp,G' b=none) (hh:∀ b∈fp,H' b=H b):SR Γ K H₀ G' H' s v fp:=by
 cases r with
 | sh r=>exact .sh (r.mono gg)
 | own h1 h2 h3 h4=>exact .own h1 (hg _ (List.mem_singleton.mpr rfl)) ((hh _ (List.mem_singleton.mpr rfl)).trans h3) (h4.mono gg)
 | obj c h1 h2 h3 h4 h5 hs=>exact .obj c h1 (hg _ (List.mem_singleton.mpr rfl)) ((hh _ (List.mem_singleton.mpr rfl)).trans h3) h4 (h5.mono gg) hs
 | objd c h1 h2 h3 h4 h5 q1 q2 q3 q4 q5 hs =>
  exact .objd c h1 (hg _ qf) ((hh _ qf).trans h3) h4 (h5.mono gg) q1 (hg _ (qg _ qf)) ((hh _ (qg _ qf)).trans q3) q4 (q5.mono gg) hs
 | odk h1 h2 h3 h4 h5=>exact .odk h1 (hg _ (List.mem_singleton.mpr rfl)) ((hh _ (List.mem_singleton.mpr rfl)).trans h3) h4 (h5.mono gg)
 | odt h1 h2 h3 h4 h5=>exact .odt h1 (hg _ (List.mem_singleton.mpr rfl)) ((hh _ (List.mem_singleton.mpr rfl)).trans h3) h4 (h5.mono gg)
 | pin a=>exact .pin a
 | oll h1 h2 h3 h4 h5=>exact .oll (fun b hb=>⟨(h1 b hb).1,hg b hb⟩) h2 ((hh _ qf).trans h3) (h4.stay fun b hb=>hh b (qg _ hb)) (h5.map fun r=>r.mono gg)
 | tlo h1 h2 h3 h4 h5 h6=>exact .tlo h1 (hg _ (List.mem_singleton.mpr rfl)) ((hh _ (List.mem_singleton.mpr rfl)).trans h3) (gg _ _ h4) (h5.mono gg) (h6.mono gg)
theorem SR.stepS (r:SR Γ K H₀ G H s v fp) (t:Step G H G' H'):SR Γ K H₀ G' H' s v fp:=r.stay t.gg (fun b hb=>by
 obtain ⟨_,h2,o,h3⟩:=r.fpt b hb
 exact (t.out b o h3).trans h2) (fun b hb=>by
 obtain ⟨_,_,o,h3⟩:=r.fpt b hb
 rw [h3];exact t.hh b o h3)
end
theorem SR.uniq {s:Slot} {fq:List Addr} (r:SR Γ K H₀ G H s v fp) (q:SR Γ K H₀ G H s v fq):fp=fq:=by
 cases r with
 | sh r=>cases q;rfl
 | own h1 h2 h3 _=>cases q;rfl
 | obj _ h1 h2 h3 _ _ _=>cases q;rfl
 | objd _ h1 h2 h3 _ _ q1 q2 q3 _ _ _ =>
  cases q with
  | objd _ _ _ k3 _ _ _ _ _ _ _ _ =>
   rw [h3] at k3
   have z:=(HO.ins.inj (qG k3)).2.2
   have z2:=(List.append_inj' z rfl).2
   cases z2
   rfl
 | odk h1 h2 h3 _ _=>cases q;rfl
 | odt h1 h2 h3 _ _=>cases q;rfl
 | pin a=>cases q;rfl
 | oll _ _ h3 _ _ =>
  cases q with
  | oll _ _ k3 _ _ =>
   rw [h3] at k3
   rw [zjN (HO.lst.inj (qG k3))]
 | tlo _ _ _ h4 _ _ =>
  cases q with
  | tlo _ _ _ k4 _ _ =>
   rw [h4] at k4
   have z:=HO.tup.inj (qG k4)
   have z2:=(List.append_inj' z rfl).2
   cases z2
   rfl
structure EnvRel (Γ:Cn) (K:PySem.W.Frag) (H₀ G H:Hp) (ρ:zaI) (σ:St):Prop where
 len:ρ.length=σ.length
 sl:∃ fps:Nat->List Addr,(∀ (i:Nat) s,ρ[i]?=some (some s)->∃ v,σ[i]?=some (some v)/\SR Γ K H₀ G H s v (fps i)) /\
  ∀ (i j:Nat) s t,i≠j->ρ[i]?=some (some s)->ρ[j]?=some (some t)->∀ b∈fps i,b∉fps j
structure At (Γ:Cn) (K:PySem.W.Frag) (G₀ H₀ G H:Hp) (ρ:zaI) (σ:St):Prop where
 st:Step G₀ H₀ G H
 env:EnvRel Γ K H₀ G H ρ σ
def ze6 (ρ:zaI):Prop:=∀ (i:Nat) s,ρ[i]?=some (some s)->∃ d,s=.sh d
variable {G₀:Hp} {ρ:zaI} {fp':List Addr} {d:D} {ds:List D}
theorem EnvRel.ofSh (len:ρ.length=σ.length) (no:ze6 ρ) (sh:∀ (i:Nat) d,ρ[i]?=some (some (.sh d))->∃ v,σ[i]?=some (some v)/\Rep Γ K G v d):EnvRel Γ K H₀ G H ρ σ :=
 ⟨len,fun _=>[],fun i s e=>by
  obtain ⟨d,rfl⟩:=no i s e
  obtain ⟨v,h1,h2⟩:=sh i d e
  exact ⟨v,h1,.sh h2⟩,fun _ _ _ _ _ _ _ b hb=>by cases hb⟩
theorem EnvRel.sh (E:EnvRel Γ K H₀ G H ρ σ) (i:Nat) (d:D) (e:ρ[i]?=some (some (.sh d))):∃ v,σ[i]?=some (some v)/\Rep Γ K G v d:=by
 obtain ⟨fps,h,_⟩:=E.sl
 obtain ⟨v,h1,h2⟩:=h i _ e
 generalize fps i=fp at h2
 cases h2 with
 | sh r=>exact ⟨v,h1,r⟩
theorem EnvRel.own (E:EnvRel Γ K H₀ G H ρ σ) (i:Nat) (ds:List D) (e:ρ[i]?=some (some (.own ds))):∃ a vs,σ[i]?=some (some (.ref a))/\H₀ a=none/\G a=none/\H a=some (.lst vs)/\Reps Γ K G vs ds:=by
 obtain ⟨fps,h,_⟩:=E.sl
 obtain ⟨v,h1,h2⟩:=h i _ e
 generalize fps i=fp at h2
 cases h2 with
 | own q1 q2 q3 q4=>exact ⟨_,_,h1,q1,q2,q3,q4⟩
theorem At.gh (A:At Γ K G₀ H₀ G H ρ σ):zbh G H:=A.st.gh
theorem At.step (A:At Γ K G₀ H₀ G H ρ σ) (s:Step G H G' H'):At Γ K G₀ H₀ G' H' ρ σ:=by
 obtain ⟨fps,h,ap⟩:=A.env.sl
 exact ⟨A.st.trans s,A.env.len,fps,fun i t e=>by
  obtain ⟨v,h1,h2⟩:=h i t e
  exact ⟨v,h1,h2.stepS s⟩,ap⟩
theorem At.put (A:At Γ K G₀ H₀ G H ρ σ) {s':Slot} {v':V} 
  (hfp:fp=[]\/∃ s v,ρ[i]?=some (some s)/\σ[i]?=some (some v)/\SR Γ K H₀ G H s v fp)
  (hH:∀ b o,H b=some o->b∉fp->H' b=some o) (hS:SR Γ K H₀ G' H' s' v' fp') (hn:∀ b∈fp',b∈fp\/H b=none)
  (gg:zbh G G') (gh:zbh G' H') (out:∀ b o,H b=some o->b∉fp->G' b=G b) (out2:∀ b∈fp,H₀ b=none):At Γ K G₀ H₀ G' H' (ρ.set i (some s')) (σ.set i (some v')):=by
 obtain ⟨fps,h,ap⟩:=A.env.sl
 have hl:=A.env.len
 have old:∀ b∈fp,∀ j t,j≠i->ρ[j]?=some (some t)->b∉fps j:=fun b hb j t hj e=>by
  rcases hfp with rfl | ⟨s,v,h1,h2,h3⟩
  ·cases hb
  ·obtain ⟨v2,h4,h5⟩:=h i s h1
   rw [h2] at h4
   cases h4
   have efp:fp=fps i:=h3.uniq h5
   subst efp
   exact ap i j s t (Ne.symm hj) h1 e b hb
 have slj:∀ (j:Nat) t,j≠i->ρ[j]?=some (some t)->∃ v,σ[j]?=some (some v)/\SR Γ K H₀ G' H' t v (fps j):=fun j t hj e=>by
  obtain ⟨v,h1,h2⟩:=h j t e
  refine ⟨v,h1,h2.stay gg (fun b hb=>?_) (fun b hb=>?_)⟩
  ·obtain ⟨_,q2,o,q3⟩:=h2.fpt b hb
   exact (out b o q3 fun z=>old b z j t hj e hb).trans q2
  ·obtain ⟨_,_,o,q3⟩:=h2.fpt b hb
   rw [q3];exact hH b o q3 fun z=>old b z j t hj e hb
 have no2:∀ b o,H₀ b=some o->b∉fp:=fun b o e z=>by rw [out2 b z] at e;cases e
 have hst:Step G₀ H₀ G' H':=⟨fun b o e=>hH b o (A.st.hh b o e) (no2 b o e),A.st.gg.trans gg,gh,fun b o e=>(out b o (A.st.hh b o e) (no2 b o e)).trans (A.st.out b o e)⟩
 refine ⟨hst,by simp [hl],fun j=>if j=i then fp' else fps j,fun j t e=>?_,fun j k t u hjk e1 e2 b hb=>?_⟩
 ·by_cases hj:j=i
  ·subst hj
   have hlt:j < ρ.length:=by
    rcases Nat.lt_or_ge j ρ.length with q | q
    ·exact q
    ·rw [List.getElem?_eq_none (by simp;omega)] at e;cases e
   rw [List.getElem?_set_self hlt] at e
   cases e
   show ∃ v,_/\SR _ _ _ _ _ _ v (if j=j then fp' else fps j)
   rw [qV rfl]
   exact ⟨v',by rw [List.getElem?_set_self (by omega)],hS⟩
  ·rw [List.getElem?_set_ne (Ne.symm hj)] at e ⊢
   show ∃ v,_/\SR _ _ _ _ _ _ v (if j=i then fp' else fps j)
   rw [qW hj]
   exact slj j t hj e
 ·have cross:∀ {k:Nat} {u:Slot},k≠i->ρ[k]?=some (some u)->∀ b∈fp',b∉fps k:=fun {k u} hk e b hb hb2=>by
   rcases hn b hb with z | z
   ·exact old b z k u hk e hb2
   ·obtain ⟨v,_,q⟩:=h k u e
    obtain ⟨_,_,o,q3⟩:=q.fpt b hb2
    rw [z] at q3;cases q3
  replace hb:b∈(if j=i then fp' else fps j):=hb
  show b∉(if k=i then fp' else fps k)
  by_cases hj:j=i
  ·subst hj
   have hk:k≠j:=Ne.symm hjk
   rw [qV rfl] at hb
   rw [qW hk]
   rw [List.getElem?_set_ne hjk] at e2
   exact cross hk e2 b hb
  ·rw [qW hj] at hb
   rw [List.getElem?_set_ne (Ne.symm hj)] at e1
   by_cases hk:k=i
   ·subst hk
    rw [qV rfl]
    exact fun z=>cross hj e1 b z hb
   ·rw [qW hk]
    rw [List.getElem?_set_ne (Ne.symm hk)] at e2
    exact ap j k t u hjk e1 e2 b hb
theorem At.setSh (A:At Γ K G₀ H₀ G H ρ σ) (r:Rep Γ K G v d):At Γ K G₀ H₀ G H (ρ.set i (some (.sh d))) (σ.set i (some v)) :=
 A.put (fp:=[]) (fp':=[]) (.inl rfl) (fun b o e _=>e) (.sh r) (fun b hb=>by cases hb) (.refl _) A.gh (fun _ _ _ _=>rfl) (fun b hb=>by cases hb)
theorem At.setOwn (A:At Γ K G₀ H₀ G H ρ σ) (ha:H a=none) (r:Reps Γ K G vs ds):At Γ K G₀ H₀ G (upd H a (.lst vs)) (ρ.set i (some (.own ds))) (σ.set i (some (.ref a))):=by
 have h0:H₀ a=none:=A.st.hh.free ha
 have hg:G a=none:=A.gh.free ha
 refine A.put (fp:=[]) (fp':=[a]) (.inl rfl) (fun b o e _=>by rw [zaj (zal e ha)];exact e) (.own h0 hg zak r) (fun b hb=>.inr (by rw [List.mem_singleton.mp hb];exact ha)) (.refl _) (fun b o e=>?_) (fun _ _ _ _=>rfl) (fun b hb=>by cases hb)
 rw [zaj (zal e hg)];exact A.gh b o e
theorem zhY {l:List α} {x:α} (h:l[i]?=some x):l.set i x=l:=by
 apply List.ext_getElem?
 intro j
 by_cases hj:j=i
 ·subst hj
  rw [List.getElem?_set_self (List.getElem?_eq_some_iff.mp h).1,h]
 ·rw [List.getElem?_set_ne (Ne.symm hj)]
theorem At.ch (A:At Γ K G₀ H₀ G H ρ σ) {s s':Slot} (hi:ρ[i]?=some (some s)) (hv:σ[i]?=some (some v)) (hs:SR Γ K H₀ G H s v fp)
  (hH:∀ b o,H b=some o->b∉fp->H' b=some o) (hS:SR Γ K H₀ G' H' s' v fp') (hn:∀ b∈fp',b∈fp\/H b=none)
  (gg:zbh G G') (gh:zbh G' H') (out:∀ b o,H b=some o->b∉fp->G' b=G b):At Γ K G₀ H₀ G' H' (ρ.set i (some s')) σ:=by
 have:=A.put (i:=i) (.inr ⟨s,v,hi,hv,hs⟩) hH hS hn gg gh out fun b hb=>(hs.fpt b hb).1
 rwa [zhY hv] at this
theorem At.get (A:At Γ K G₀ H₀ G H ρ σ) {s:Slot} (hi:ρ[i]?=some (some s)):∃ v fp,σ[i]?=some (some v)/\SR Γ K H₀ G H s v fp:=by
 obtain ⟨fps,h,_⟩:=A.env.sl
 obtain ⟨v,h1,h2⟩:=h i s hi
 exact ⟨v,_,h1,h2⟩
theorem At.chOwn (A:At Γ K G₀ H₀ G H ρ σ) {es:List D} {ws:List V} (hi:ρ[i]?=some (some (.own ds))) (ha:σ[i]?=some (some (.ref a))) (r:Reps Γ K G ws es):At Γ K G₀ H₀ G (upd H a (.lst ws)) (ρ.set i (some (.own es))) σ:=by
 obtain ⟨v,fp,h1,h2⟩:=A.get hi
 rw [ha] at h1
 cases h1
 cases h2 with
 | own q1 q2 q3 q4 =>
  refine A.ch hi ha (.own q1 q2 q3 q4) (fun b o e hb=>?_) (.own q1 q2 zak r) (fun b hb=>.inl hb) (.refl _) (fun b o e=>?_) (fun _ _ _ _=>rfl)
  ·rw [zaj (fun z=>hb (List.mem_singleton.mpr z))];exact e
  ·rw [zaj (zal e q2)];exact A.gh b o e
theorem At.freeze (A:At Γ K G₀ H₀ G H ρ σ) (hi:ρ[i]?=some (some (.own ds))):∃ G',zbh G G'/\At Γ K G₀ H₀ G' H (ρ.set i (some (.sh (.lst ds)))) σ:=by
 obtain ⟨v,fp,h1,h2⟩:=A.get hi
 cases h2 with
 | own q1 q2 q3 q4 =>
  rename_i a vs
  have sm:zbh G (upd G a (.lst vs)):=fun b o e=>by rw [zaj (zal e q2)];exact e
  refine ⟨upd G a (.lst vs),sm,A.ch hi h1 (.own q1 q2 q3 q4) (fun b o e hb=>e) (.sh (.lst zak (q4.mono sm))) (fun b hb=>by cases hb) sm (fun b o e=>?_) (fun b o e hb=>?_)⟩
  ·by_cases hb:b=a
   ·subst hb;rw [zak] at e;cases e;exact q3
   ·rw [zaj hb] at e;exact A.gh b o e
  ·rw [zaj (fun z=>hb (List.mem_singleton.mpr z))]
mutual
inductive NewL (H G:Hp):V->D->Prop where
 | flat {v:V} {d:D}:zio d=true->NewL H G v d
 | tup {a:Addr} {vs:List V} {ds:List D}:G a=some (.tup vs)->NewLs H G vs ds->NewL H G (.ref a) (.tup ds)
 | lst {a:Addr} {vs:List V} {ds:List D}:G a=some (.lst vs)->H a=none->NewLs H G vs ds->NewL H G (.ref a) (.lst ds)
inductive NewLs (H G:Hp):List V->List D->Prop where
 | nil:NewLs H G [] []
 | cons {v:V} {d:D} {vs:List V} {ds:List D}:NewL H G v d->NewLs H G vs ds->NewLs H G (v::vs) (d::ds)
end
mutual
theorem NewL.mono:∀ {v:V} {d:D},NewL H G v d->zbh G G'->zbh H' H->NewL H' G' v d
 | _,_,.flat h,_,_=>.flat h
 | _,_,.tup h r,s,t=>.tup (s _ _ h) (r.mono s t)
 | _,_,.lst h n r,s,t=>.lst (s _ _ h) (t.free n) (r.mono s t)
theorem NewLs.mono:∀ {vs:List V} {ds:List D},NewLs H G vs ds->zbh G G'->zbh H' H->NewLs H' G' vs ds
 | _,_,.nil,_,_=>.nil
 | _,_,.cons h r,s,t=>.cons (h.mono s t) (r.mono s t)
end
inductive Fl where
 | nx | bk | ct | rt (d:D) | ow (ds:List D) | nw (d:D) | od (kvs:List (Key×D))
abbrev FE:=zaI->Option D
abbrev FT:=zaI->Option Bool
abbrev FA:=zaI->Option (List D)
abbrev FS:=zaI->Option (Fl×zaI)
def TD (Γ:Cn) (K:PySem.W.Frag) (f:FE):TE:=fun σ H Q=>∃ G₀ H₀ G ρ d,At Γ K G₀ H₀ G H ρ σ/\f ρ=some d/\∀ v G' H',Step G H G' H'->Rep Γ K G' v d->Q v H'
def TDt (Γ:Cn) (K:PySem.W.Frag) (f:FT):TT:=fun σ H Q=>∃ G₀ H₀ G ρ b,At Γ K G₀ H₀ G H ρ σ/\f ρ=some b/\∀ G' H',Step G H G' H'->Q b H'
def TDa (Γ:Cn) (K:PySem.W.Frag) (f:FA):TA:=fun σ H Q=>∃ G₀ H₀ G ρ ds,At Γ K G₀ H₀ G H ρ σ/\f ρ=some ds/\∀ vs G' H',Step G H G' H'->Reps Γ K G' vs ds->Q vs H'
noncomputable def zt6 (Γ:Cn) (K:PySem.W.Frag) (E:Ends) (H₀ G' H':Hp) (σ':St):Fl->Prop
 | .nx=>E.nx σ' H'
 | .bk=>E.bk σ' H'
 | .ct=>E.ct σ' H'
 | .rt d=>∀ v,Rep Γ K G' v d->E.rt v H'
 | .ow ds=>∀ p vs,H₀ p=none->G' p=none->H' p=some (.lst vs)->Reps Γ K G' vs ds->E.rt (.ref p) H'
 | .nw d=>∀ v,Rep Γ K G' v d->NewL H₀ G' v d->E.rt v H'
 | .od kvs=>∀ p us,H₀ p=none->G' p=none->H' p=some (.dK us)->us.map (·.1)=kvs.map (·.1)->Reps Γ K G' (us.map (·.2)) (kvs.map (·.2))->E.rt (.ref p) H'
def TDs (Γ:Cn) (K:PySem.W.Frag) (g:FS):TS:=fun E σ H=>∃ G₀ H₀ G ρ fl ρ',At Γ K G₀ H₀ G H ρ σ/\g ρ=some (fl,ρ')/\∀ σ' G' H',zbh G G'->At Γ K G₀ H₀ G' H' ρ' σ'->zt6 Γ K E H₀ G' H' σ' fl
def TDo (Γ:Cn) (K:PySem.W.Frag) (f:FA):TE:=fun σ H Q=>∃ G₀ H₀ G ρ ds,At Γ K G₀ H₀ G H ρ σ/\f ρ=some ds/\∀ p vs G' H',Step G H G' H'->H' p=none->Reps Γ K G' vs ds->Q (.ref p) (upd H' p (.lst vs))
structure DE (Γ:Cn) (X:Cx) (e:Expr) (f:FE):Prop where
 out:PE X e (TD Γ X.K f)
structure DT (Γ:Cn) (X:Cx) (e:Expr) (f:FT):Prop where
 out:PT X e (TDt Γ X.K f)
structure DW (Γ:Cn) (X:Cx) (e:Expr) (f:FT):Prop where
 out:PW X e (TDt Γ X.K f)
structure DA (Γ:Cn) (X:Cx) (es:List Expr) (f:FA):Prop where
 out:PA X es (TDa Γ X.K f)
structure DS (Γ:Cn) (X:Cx) (st:Stmt) (g:FS):Prop where
 out:PS X st (TDs Γ X.K g)
structure DSs (Γ:Cn) (X:Cx) (st:List Stmt) (g:FS):Prop where
 out:PSs X st (TDs Γ X.K g)
structure DO (Γ:Cn) (X:Cx) (e:Expr) (f:FA):Prop where
 out:PE X e (TDo Γ X.K f)
variable {fa fb fc f:FE}
section
variable {a:Expr}
theorem PE.imp {t t':TE} (h:PE X e t) (i:∀ σ H Q,t' σ H Q->t σ H Q):PE X e t':=fun pins s σ H Q I q=>h pins s σ H Q I (i _ _ _ q)
theorem PT.imp {t t':TT} (h:PT X e t) (i:∀ σ H Q,t' σ H Q->t σ H Q):PT X e t':=fun pins s σ H Q I q=>h pins s σ H Q I (i _ _ _ q)
theorem PW.imp {t t':TT} (h:PW X e t) (i:∀ σ H Q,t' σ H Q->t σ H Q):PW X e t':=fun wh pins s σ H Q I q=>h wh pins s σ H Q I (i _ _ _ q)
theorem PA.imp {t t':TA} (h:PA X es t) (i:∀ σ H Q,t' σ H Q->t σ H Q):PA X es t':=fun p pins s σ H Q I q=>h p pins s σ H Q I (i _ _ _ q)
theorem PS.imp {t t':TS} (h:PS X st t) (i:∀ E σ H,t' E σ H->t E σ H):PS X st t':=fun pins s σ H E I q=>h pins s σ H E I (i _ _ _ q)
theorem PSs.imp {st:List Stmt} {t t':TS} (h:PSs X st t) (i:∀ E σ H,t' E σ H->t E σ H):PSs X st t':=fun pins s σ H E I q=>h pins s σ H E I (i _ _ _ q)
noncomputable def vSh (i:Nat):FE:=fun ρ=>match ρ[i]? with
 | some (some (.sh d))=>some d
 | _=>none
theorem znv (h:vSh i ρ=some d):ρ[i]?=some (some (.sh d)):=by
 unfold vSh at h
 split at h
 ·rename_i e;cases h;exact e
 ·cases h
theorem zab (i:Nat) (hN:X.N[i]?=some x:=by rfl) (hv:Vis X.env.scope x:=by first | exact Or.inl rfl | exact Or.inr (Or.inl rfl) | exact Or.inr (Or.inr rfl)) (hd:(x==("__debug__":Str))=false:=by decide)
  (hcd:(x==("__classdict__":Str))=false:=by decide):DE Γ X (.Name x pos) (vSh i):=⟨(zds hN hv hd hcd).imp fun σ H Q ⟨G₀,H₀,G,ρ,d,A,h,k⟩=>by
 obtain ⟨v,h1,h2⟩:=A.env.sh i d (znv h)
 exact ⟨v,h1,k v G H (.refl A.gh) h2⟩⟩
def vC (d:D):FE:=fun _=>some d
theorem TD.const (r:∀ G,Rep Γ X.K G v d) (h:PE X e (tC v)):DE Γ X e (vC d):=⟨h.imp fun σ H Q ⟨G₀,H₀,G,ρ,d',A,h,k⟩=>by
 cases h
 exact k v G H (.refl A.gh) (r G)⟩
theorem zad {i j}:DE Γ X (.Constant (.int i) j pos) (vC (.int i)):=TD.const (fun _=>.int i) zpa
theorem zc6 {i j}:DE Γ X (.Constant (.bool i) j pos) (vC (.bl i)):=TD.const (fun _=>.bl i) zuS
theorem zd1 {j}:DE Γ X (.Constant .none j pos) (vC .non):=TD.const (fun _=>.non) zsI
theorem zbc {i j}:DE Γ X (.Constant (.str i) j pos) (vC (.str i)):=TD.const (fun _=>.str i) zo9
theorem zb5 {i:Int} {t:Tok} (hg:Gl X x) (hm:X.mg x=some (.int i t)) (hd:(x==("__debug__":Str))=false:=by decide):DE Γ X (.Name x pos) (vC (.int i)):=TD.const (fun _=>.int i) (zqf hg hm ⟨t,rfl⟩ hd)
def b2 (g:D->D->Option D) (fa fb:FE):FE:=fun ρ=>(fa ρ).bind fun x=>(fb ρ).bind fun y=>g x y
def b1 (g:D->Option D) (fa:FE):FE:=fun ρ=>(fa ρ).bind g
def zjB (Γ:Cn) (K:PySem.W.Frag) (g:D->D->Option D) (r:R2):Prop :=
 ∀ {G H v u x y z},zbh G H->Rep Γ K G v x->Rep Γ K G u y->g x y=some z->∀ Q:VK,(∀ w G' H',Step G H G' H'->Rep Γ K G' w z->Q w H')->r v u H Q
theorem TD.two {g:D->D->Option D} {r:R2} (hr:zjB Γ X.K g r):∀ σ H Q,TD Γ X.K (b2 g fa fb) σ H Q->tOp r (TD Γ X.K fa) (TD Γ X.K fb) σ H Q:=by
 rintro σ H Q ⟨G₀,H₀,G,ρ,d,A,h,k⟩
 unfold b2 at h
 cases ha:fa ρ with
 | none=>rw [ha] at h;cases h
 | some x =>
  cases hb:fb ρ with
  | none=>rw [ha] at h;simp only [qa,hb,Option.bind_none] at h;cases h
  | some y =>
   simp only [ha,hb,qa] at h
   refine ⟨G₀,H₀,G,ρ,x,A,ha,fun v G1 H1 s1 r1=>⟨G₀,H₀,G1,ρ,y,A.step s1,hb,fun u G2 H2 s2 r2=>?_⟩⟩
   exact hr s2.gh (r1.mono s2.gg) r2 h Q fun w G' H' s r=>k w G' H' ((s1.trans s2).trans s) r
theorem zji {op:Operator} {g:D->D->Option D} {r:R2} (ho:OpR X (binaryOp op) r) (hr:zjB Γ X.K g r) (ha:DE Γ X a fa) (hb:DE Γ X b fb):DE Γ X (.BinOp a op b pos) (b2 g fa fb):=⟨(zuQ ho ha.1 hb.1).imp (TD.two hr)⟩
def zbY:D->D->Option D
 | .int i,.int j=>some (.int (i+j))
 | .str x,.str y=>if x.length+y.length<=sizeLine then some (.str (x++y)) else none
 | .lst x,.lst y=>if x.length+y.length<=sizeLine then some (.lst (x++y)) else none
 | _,_=>none
def ziQ:D->D->Option D
 | .int i,.int j=>some (.int (i - j))
 | _,_=>none
noncomputable def zno (x:Str) (n:Nat):Str:=⟨(List.replicate n x.cps.toList).flatten.toArray⟩
def zfG:D->D->Option D
 | .int i,.int j=>if (-(2 ^ 64) < i/\i < 2 ^ 64)\/(-(2 ^ 64) < j/\j < 2 ^ 64) then some (.int (i*j)) else none
 | .lst x,.int j=>if -(2 ^ 63)<=j/\j < 2 ^ 63/\x.length*j.toNat<=sizeLine then some (.lst (List.replicate j.toNat x).flatten) else none
 | .str x,.int j=>if 0<=j/\j < 1000/\x.length < 1000 then some (.str (zno x j.toNat)) else none
 | _,_=>none
def za4:D->D->Option D
 | .int i,.int j=>if 0 < j/\j < 1073741824 then some (.int (i / j)) else none
 | _,_=>none
def zbQ:D->D->Option D
 | .int i,.int j=>if 0 < j then some (.int (i % j)) else none
 | _,_=>none
def znU:D->D->Option D
 | .int i,.int j=>if 0<=j/\j<=1000000/\i.natAbs < 2 ^ 64 then some (.int (i ^ j.toNat)) else none
 | _,_=>none
theorem Rep.int_inv {i:Int} (r:Rep Γ K G v (.int i)):v=.int i:=by cases r;rfl
theorem Rep.str_inv {i:Str} (r:Rep Γ K G v (.str i)):v=.str i:=by cases r;rfl
theorem Rep.bl_inv {i:Bool} (r:Rep Γ K G v (.bl i)):v=.bl i:=by cases r;rfl
theorem Rep.lst_inv (r:Rep Γ K G v (.lst ds)):∃ a vs,v=.ref a/\G a=some (.lst vs)/\Reps Γ K G vs ds:=by cases r;exact ⟨_,_,rfl,by assumption,by assumption⟩
theorem Rep.tup_inv (r:Rep Γ K G v (.tup ds)):∃ a vs,v=.ref a/\G a=some (.tup vs)/\Reps Γ K G vs ds:=by cases r;exact ⟨_,_,rfl,by assumption,by assumption⟩
theorem Rep.scr_inv (r:Rep Γ K G v (.scr ns)):∃ a,v=.ref a/\SqL K G a (ns.map V.int):=by cases r;exact ⟨_,rfl,by assumption⟩
theorem zd9 {Q:VK} (gh:zbh G H) (r:Reps Γ K G vs ds) (k:∀ w G' H',Step G H G' H'->Rep Γ K G' w (.lst ds)->Q w H'):∀ p,H p=none->Q (.ref p) (upd H p (.lst vs)):=fun p hp=>by
 have s:=Step.new (o:=.lst vs) gh hp
 exact k _ _ _ s (.lst zak (r.mono s.gg))
theorem zi2 {Q:VK} (gh:zbh G H) (r:Reps Γ K G vs ds) (k:∀ w G' H',Step G H G' H'->Rep Γ K G' w (.tup ds)->Q w H'):∀ p,H p=none->Q (.ref p) (upd H p (.tup vs)):=fun p hp=>by
 have s:=Step.new (o:=.tup vs) gh hp
 exact k _ _ _ s (.tup zak (r.mono s.gg))
theorem zoE :zjB Γ K zbY (fun x y H Q=>(rI0 (fun i j=>V.int (i+j)) x y H Q\/(∃ i j,x=.str i/\y=.str j/\i.length+j.length<=sizeLine/\Q (.str (i++j)) H))\/zuN x y H Q):=by
 intro G H v u x y z gh r1 r2 h Q k
 unfold zbY at h
 split at h
 ·cases h
  cases r1.int_inv;cases r2.int_inv
  exact .inl (.inl ⟨_,_,rfl,rfl,k _ G H (.refl gh) (.int _)⟩)
 ·split at h
  ·cases h
   cases r1.str_inv;cases r2.str_inv
   exact .inl (.inr ⟨_,_,rfl,rfl,by assumption,k _ G H (.refl gh) (.str _)⟩)
  ·cases h
 ·split at h
  ·rename_i hz
   cases h
   obtain ⟨a,vs,rfl,ha,ra⟩:=r1.lst_inv
   obtain ⟨b,us,rfl,hb,rb⟩:=r2.lst_inv
   exact .inr ⟨a,b,vs,us,rfl,rfl,gh _ _ ha,gh _ _ hb,by rw [ra.length,rb.length];exact hz,zd9 gh (ra.append rb) k⟩
  ·cases h
 ·cases h
theorem zqq:OpR X (binaryOp .Add) (fun x y H Q=>(rI0 (fun i j=>V.int (i+j)) x y H Q\/(∃ i j,x=.str i/\y=.str j/\i.length+j.length<=sizeLine/\Q (.str (i++j)) H))\/zuN x y H Q):=(zsY.or zkK).or zsX
theorem zaQ (ha:DE Γ X a fa) (hb:DE Γ X b fb):DE Γ X (.BinOp a .Add b pos) (b2 zbY fa fb):=zji zqq zoE ha hb
theorem zmL {g:D->D->Option D} {o:Int->Int->Int} (hg:∀ x y z,g x y=some z->∃ i j,x=.int i/\y=.int j/\z=.int (o i j)):zjB Γ K g (rI0 fun i j=>V.int (o i j)):=by
 intro G H v u x y z gh r1 r2 h Q k
 obtain ⟨i,j,rfl,rfl,rfl⟩:=hg x y z h
 cases r1.int_inv;cases r2.int_inv
 exact ⟨_,_,rfl,rfl,k _ G H (.refl gh) (.int _)⟩
theorem zeB {g:D->D->Option D} {C:Int->Int->Prop} {o:Int->Int->Int} (hg:∀ x y z,g x y=some z->∃ i j,x=.int i/\y=.int j/\C i j/\z=.int (o i j)):zjB Γ K g (rI C fun i j=>V.int (o i j)):=by
 intro G H v u x y z gh r1 r2 h Q k
 obtain ⟨i,j,rfl,rfl,hc,rfl⟩:=hg x y z h
 cases r1.int_inv;cases r2.int_inv
 exact ⟨_,_,rfl,rfl,hc,k _ G H (.refl gh) (.int _)⟩
theorem zgX (ha:DE Γ X a fa) (hb:DE Γ X b fb):DE Γ X (.BinOp a .Sub b pos) (b2 ziQ fa fb):=zji zsN (zmL fun x y z h=>by
 unfold ziQ at h;split at h <;> cases h;exact ⟨_,_,rfl,rfl,rfl⟩) ha hb
theorem zaN (ha:DE Γ X a fa) (hb:DE Γ X b fb):DE Γ X (.BinOp a .FloorDiv b pos) (b2 za4 fa fb):=zji zqp (zeB fun x y z h=>by
 unfold za4 at h;split at h
 ·split at h <;> cases h;exact ⟨_,_,rfl,rfl,by assumption,rfl⟩
 ·cases h) ha hb
theorem zaL (ha:DE Γ X a fa) (hb:DE Γ X b fb):DE Γ X (.BinOp a .Mod b pos) (b2 zbQ fa fb):=zji zsS (zeB fun x y z h=>by
 unfold zbQ at h;split at h
 ·split at h <;> cases h;exact ⟨_,_,rfl,rfl,by assumption,rfl⟩
 ·cases h) ha hb
theorem zko (ha:DE Γ X a fa) (hb:DE Γ X b fb):DE Γ X (.BinOp a .Pow b pos) (b2 znU fa fb):=zji zsP (zeB fun x y z h=>by
 unfold znU at h;split at h
 ·split at h <;> cases h;exact ⟨_,_,rfl,rfl,by assumption,rfl⟩
 ·cases h) ha hb
theorem zkd (a:Array Nat):∀ (k:Nat) (acc:List Nat),(List.replicate k a).foldl (·++·) acc.toArray=(acc++(List.replicate k a.toList).flatten).toArray
 | 0,acc=>by simp
 | k+1,acc=>by
  rw [List.replicate_succ,List.foldl_cons,List.replicate_succ,List.flatten_cons,← qv,← zkd a k (acc++a.toList)]
  congr 1
  simp
def zsm:R2:=fun x y H Q=>∃ z n,x=.str z/\y=.int n/\0<=n/\n < 1000/\z.length < 1000/\Q (.str (zno z n.toNat)) H
theorem zqn:OpR X (binaryOp .Mult) zsm:=by
 intro pins s σ H x y v u Q I rx ry h
 obtain ⟨z,n,rfl,rfl,h0,h1,h2,q⟩:=h
 obtain ⟨t,rfl⟩:=rx
 obtain ⟨t',rfl⟩:=ry
 have hl:z.length*n.toNat<=1000000:=qL (Nat.mul_le_mul (Nat.le_of_lt h2) (show n.toNat<=1000 by omega)) (by decide)
 have e0:(List.replicate n.toNat z.cps).foldl (·++·) #[]=(zno z n.toNat).cps:=by
  have:=zkd z.cps n.toNat []
  simpa [zno] using this
 refine PySem.P.mul_str ?_ (fun h _=>?_) (fun _ _=>?_) ?_
 ·rw [qM (by omega),qM (by omega)];rfl
 ·have e:(z.length:Int)*n=((z.length*n.toNat:Nat):Int):=by rw [Int.natCast_mul];congr 1;omega
  have:(z.length:Int)<=(2 ^ 63 - 1:Int) / n:=Int.le_ediv_of_mul_le (by omega) (by rw [e];omega)
  omega
 ·unfold Builtin.Str.tooLong
  exact qM (by have:=sizeLine_eq;omega)
 ·split
  ·have:n=0:=by omega
   subst this
   exact ⟨by decide,⟨.str _,H,I.tok _,⟨_,rfl⟩,by simpa [zno,Str.empty] using q⟩⟩
  ·split
   ·rename_i hc
    have ez:zno z n.toNat=z:=by
     rcases Bool.or_eq_true _ _▸hc with e | e
     ·have:n=1:=by simpa using e
      subst this
      simp [zno]
     ·have hz:z.cps=#[]:=by
       have:z.cps.size=0:=by simpa [Str.length] using e
       exact Array.eq_empty_of_size_eq_zero this
      cases z
      simp only at hz
      subst hz
      simp [zno]
    exact ⟨.str _,H,I,⟨_,rfl⟩,by rw [← ez];exact q⟩
   ·rw [e0]
    refine ⟨?_,⟨.str _,H,I.tok _,⟨_,rfl⟩,q⟩⟩
    have e1:(zno z n.toNat).length=n.toNat*z.length:=by
     show (List.replicate n.toNat z.cps.toList).flatten.toArray.size=_
     rw [qz,zmh]
     simp [Str.length]
    show (zno z n.toNat).length<=sizeLine
    rw [e1,Nat.mul_comm]
    have:=sizeLine_eq
    omega
theorem zoD :zjB Γ K zfG (fun x y H Q=>(rI zun (fun i j=>V.int (i*j)) x y H Q\/zvt x y H Q)\/zsm x y H Q):=by
 intro G H v u x y z gh r1 r2 h Q k
 unfold zfG at h
 split at h
 ·split at h
  ·cases h
   cases r1.int_inv;cases r2.int_inv
   exact .inl (.inl ⟨_,_,rfl,rfl,by assumption,k _ G H (.refl gh) (.int _)⟩)
  ·cases h
 ·split at h
  ·rename_i hz
   cases h
   obtain ⟨a,vs,rfl,ha,ra⟩:=r1.lst_inv
   cases r2.int_inv
   exact .inl (.inr ⟨a,_,vs,rfl,rfl,gh _ _ ha,hz.1,hz.2.1,by rw [ra.length];exact hz.2.2,zd9 gh (ra.rep _) k⟩)
  ·cases h
 ·split at h
  ·rename_i hz
   cases h
   cases r1.str_inv
   cases r2.int_inv
   exact .inr ⟨_,_,rfl,rfl,hz.1,hz.2.1,hz.2.2,k _ G H (.refl gh) (.str _)⟩
  ·cases h
 ·cases h
theorem zcW (ha:DE Γ X a fa) (hb:DE Γ X b fb):DE Γ X (.BinOp a .Mult b pos) (b2 zfG fa fb):=zji ((zsR.or zsO).or zqn) zoD ha hb
end
variable {ft:FT}
section
variable {a:Expr}
theorem Rep.non_inv (r:Rep Γ K G v .non):v=.non:=by cases r;rfl
noncomputable def ltS (x y:Str):Bool:=decide (x.cps.toList < y.cps.toList)
def ltD:D->D->Option D
 | .int i,.int j=>some (.bl (decide (i < j)))
 | .str x,.str y=>some (.bl (ltS x y))
 | _,_=>none
def leD:D->D->Option D
 | .int i,.int j=>some (.bl (decide (i<=j)))
 | .str x,.str y=>some (.bl (!ltS y x))
 | _,_=>none
def gtD:D->D->Option D
 | .int i,.int j=>some (.bl (decide (j < i)))
 | _,_=>none
def geD:D->D->Option D
 | .int i,.int j=>some (.bl (decide (j<=i)))
 | _,_=>none
noncomputable def eqS:D->D->Option Bool
 | .int i,.int j=>some (decide (i=j))
 | .bl i,.bl j=>some (decide (i=j))
 | .str i,.str j=>some (decide (i=j))
 | .non,.non=>some true
 | .non,.int _=>some false | .int _,.non=>some false | .non,.bl _=>some false | .bl _,.non=>some false | .non,.str _=>some false | .str _,.non=>some false
 | .int _,.str _=>some false | .str _,.int _=>some false | .bl _,.str _=>some false | .str _,.bl _=>some false
 | _,_=>none
def eqD (x y:D):Option D:=(eqS x y).map D.bl
def neD (x y:D):Option D:=(eqS x y).map fun b=>D.bl (!b)
theorem zpr {u:V} {x y:D} {k:Bool} (r1:Rep Γ K G v x) (r2:Rep Γ K G u y) (h:eqS x y=some k):zuH v u=true/\decide (v=u)=k:=by
 unfold eqS at h
 split at h <;> cases h
 ·cases r1.int_inv;cases r2.int_inv;exact ⟨rfl,by simp⟩
 ·cases r1.bl_inv;cases r2.bl_inv;exact ⟨rfl,by simp⟩
 ·cases r1.str_inv;cases r2.str_inv;exact ⟨rfl,by simp⟩
 ·cases r1.non_inv;cases r2.non_inv;exact ⟨rfl,by simp⟩
 ·cases r1.non_inv;cases r2.int_inv;exact ⟨rfl,by simp⟩
 ·cases r1.int_inv;cases r2.non_inv;exact ⟨rfl,by simp⟩
 ·cases r1.non_inv;cases r2.bl_inv;exact ⟨rfl,by simp⟩
 ·cases r1.bl_inv;cases r2.non_inv;exact ⟨rfl,by simp⟩
 ·cases r1.non_inv;cases r2.str_inv;exact ⟨rfl,by simp⟩
 ·cases r1.str_inv;cases r2.non_inv;exact ⟨rfl,by simp⟩
 ·cases r1.int_inv;cases r2.str_inv;exact ⟨rfl,by simp⟩
 ·cases r1.str_inv;cases r2.int_inv;exact ⟨rfl,by simp⟩
 ·cases r1.bl_inv;cases r2.str_inv;exact ⟨rfl,by simp⟩
 ·cases r1.str_inv;cases r2.bl_inv;exact ⟨rfl,by simp⟩
theorem zrd :zjB Γ K eqD rEq:=by
 intro G H v u x y z gh r1 r2 h Q k
 unfold eqD at h
 cases e:eqS x y with
 | none=>rw [e] at h;cases h
 | some b =>
  rw [e] at h
  cases h
  obtain ⟨h1,h2⟩:=zpr r1 r2 e
  exact ⟨h1,by rw [h2];exact k _ G H (.refl gh) (.bl _)⟩
theorem zq9 :zjB Γ K neD rNe:=by
 intro G H v u x y z gh r1 r2 h Q k
 unfold neD at h
 cases e:eqS x y with
 | none=>rw [e] at h;cases h
 | some b =>
  rw [e] at h
  cases h
  obtain ⟨h1,h2⟩:=zpr r1 r2 e
  exact ⟨h1,by rw [h2];exact k _ G H (.refl gh) (.bl _)⟩
theorem zis {g:D->D->Option D} {o:Int->Int->Bool} (hg:∀ x y z,g x y=some z->∃ i j,x=.int i/\y=.int j/\z=.bl (o i j)):zjB Γ K g (rI0 fun i j=>V.bl (o i j)):=by
 intro G H v u x y z gh r1 r2 h Q k
 obtain ⟨i,j,rfl,rfl,rfl⟩:=hg x y z h
 cases r1.int_inv;cases r2.int_inv
 exact ⟨_,_,rfl,rfl,k _ G H (.refl gh) (.bl _)⟩
theorem zlZ:OpR X (compareOp .LtE) (fun x y H Q=>∃ i j,x=.str i/\y=.str j/\Q (.bl (!ltS j i)) H):=by
 intro pins s σ H x y v u Q I rx ry h
 obtain ⟨i,j,rfl,rfl,q⟩:=h
 obtain ⟨t,rfl⟩:=rx
 obtain ⟨t',rfl⟩:=ry
 exact PySem.P.le_str (za2 I q (by simp [ltS]))
theorem zra :zjB Γ K ltD (fun x y H Q=>rI0 (fun i j=>V.bl (decide (i < j))) x y H Q\/∃ i j,x=.str i/\y=.str j/\Q (.bl (decide (i.cps.toList < j.cps.toList))) H):=by
 intro G H v u x y z gh r1 r2 h Q k
 unfold ltD at h
 split at h <;> cases h
 ·cases r1.int_inv;cases r2.int_inv;exact .inl ⟨_,_,rfl,rfl,k _ G H (.refl gh) (.bl _)⟩
 ·cases r1.str_inv;cases r2.str_inv;exact .inr ⟨_,_,rfl,rfl,k _ G H (.refl gh) (.bl _)⟩
theorem zrb :zjB Γ K leD (fun x y H Q=>rI0 (fun i j=>V.bl (decide (i<=j))) x y H Q\/∃ i j,x=.str i/\y=.str j/\Q (.bl (!ltS j i)) H):=by
 intro G H v u x y z gh r1 r2 h Q k
 unfold leD at h
 split at h <;> cases h
 ·cases r1.int_inv;cases r2.int_inv;exact .inl ⟨_,_,rfl,rfl,k _ G H (.refl gh) (.bl _)⟩
 ·cases r1.str_inv;cases r2.str_inv;exact .inr ⟨_,_,rfl,rfl,k _ G H (.refl gh) (.bl _)⟩
structure CmpD (Γ:Cn) (X:Cx) (op:CmpOp) (g:D->D->Option D):Prop where
 ex:∃ r,OpR X (compareOp op) r/\zjB Γ X.K g r
theorem zm3:CmpD Γ X .Lt ltD:=⟨_,zuY.or zlY,zra⟩
theorem zhD:CmpD Γ X .LtE leD:=⟨_,zuZ.or zlZ,zrb⟩
theorem zm5:CmpD Γ X .Gt gtD:=⟨_,zu0,zis fun x y z h=>by unfold gtD at h;split at h <;> cases h;exact ⟨_,_,rfl,rfl,rfl⟩⟩
theorem zve:CmpD Γ X .GtE geD:=⟨_,zu1,zis fun x y z h=>by unfold geD at h;split at h <;> cases h;exact ⟨_,_,rfl,rfl,rfl⟩⟩
theorem zfu:CmpD Γ X .Eq eqD:=⟨_,zu2,zrd⟩
theorem zvd:CmpD Γ X .NotEq neD:=⟨_,zuX,zq9⟩
theorem zfj {g:D->D->Option D} (h:CmpD Γ X op g) (ha:DE Γ X a fa) (hb:DE Γ X b fb) (hm:behindInMarks op b=false):DE Γ X (.Compare a [op] [b] pos) (b2 g fa fb):=⟨by
 obtain ⟨r,ho,hr⟩:=h.ex
 exact (zqi ho ha.1 hb.1 hm).imp (TD.two hr)⟩
def chD (g g':D->D->Option D) (fa fb fc:FE):FE:=fun ρ=>(fa ρ).bind fun x=>(fb ρ).bind fun y=>(g x y).bind fun z=>match z with
 | .bl true=>(fc ρ).bind fun w=>g' y w
 | .bl false=>some (.bl false)
 | _=>none
theorem TD.chain {g g':D->D->Option D} {r:R2} (hr:zjB Γ X.K g r) (hr':zjB Γ X.K g' r'):∀ σ H Q,TD Γ X.K (chD g g' fa fb fc) σ H Q->zln r r' (TD Γ X.K fa) (TD Γ X.K fb) (TD Γ X.K fc) σ H Q:=by
 rintro σ H Q ⟨G₀,H₀,G,ρ,d,A,h,k⟩
 unfold chD at h
 obtain ⟨x,ha,h⟩:=oBd h
 obtain ⟨y,hb,h⟩:=oBd h
 obtain ⟨z,hz,h⟩:=oBd h
 refine ⟨G₀,H₀,G,ρ,x,A,ha,fun v G1 H1 s1 r1=>⟨G₀,H₀,G1,ρ,y,A.step s1,hb,fun u G2 H2 s2 r2=>?_⟩⟩
 refine hr s2.gh (r1.mono s2.gg) r2 hz _ fun w G3 H3 s3 r3=>?_
 split at h
 ·cases r3.bl_inv
  obtain ⟨w,hc,h⟩:=oBd h
  refine ⟨true,rfl,zop ⟨G₀,H₀,G3,ρ,w,((A.step s1).step s2).step s3,hc,fun q G4 H4 s4 r4=>?_⟩⟩
  exact hr' s4.gh ((r2.mono s3.gg).mono s4.gg) r4 h Q fun w' G' H' s r=>k w' G' H' ((((s1.trans s2).trans s3).trans s4).trans s) r
 ·cases r3.bl_inv
  cases h
  exact ⟨false,rfl,zoq (k _ G3 H3 ((s1.trans s2).trans s3) (.bl _))⟩
 ·cases h
theorem zhz {g g':D->D->Option D} (h:CmpD Γ X op g) (h':CmpD Γ X op' g') (ha:DE Γ X a fa) (hb:DE Γ X b fb) (hc:DE Γ X c fc) (hm:lastMarks [op,op'] [b,c]=false:=by with_unfolding_all rfl) :
  DE Γ X (.Compare a [op,op'] [b,c] pos) (chD g g' fa fb fc):=⟨by
 obtain ⟨r,ho,hr⟩:=h.ex
 obtain ⟨r',ho',hr'⟩:=h'.ex
 exact (zn4 ho ho' ha.1 hb.1 hc.1 hm).imp (TD.chain hr hr')⟩
def toB (f:FE):FT:=fun ρ=>(f ρ).bind fun d=>match d with
 | .bl b=>some b
 | _=>none
theorem TDt.val :∀ σ H Q,TDt Γ X.K (toB f) σ H Q->TD Γ X.K f σ H fun x H'=>∃ k,x=.bl k/\Q k H':=by
 rintro σ H Q ⟨G₀,H₀,G,ρ,b,A,h,k⟩
 unfold toB at h
 obtain ⟨d,hd,h⟩:=oBd h
 split at h <;> cases h
 exact ⟨G₀,H₀,G,ρ,_,A,hd,fun v G' H' s r=>⟨b,r.bl_inv,k G' H' s⟩⟩
theorem zaW {g:D->D->Option D} (h:CmpD Γ X op g) (ha:DE Γ X a fa) (hb:DE Γ X b fb) (hm:behindInMarks op b=false):DT Γ X (.Compare a [op] [b] pos) (toB (b2 g fa fb)):=⟨by
 obtain ⟨r,ho,hr⟩:=h.ex
 exact (zlF ho ha.1 hb.1 hm).imp fun σ H Q q=>TD.two hr σ H _ (TDt.val σ H Q q)⟩
theorem zoy {g g':D->D->Option D} (h:CmpD Γ X op g) (h':CmpD Γ X op' g') (ha:DE Γ X a fa) (hb:DE Γ X b fb) (hc:DE Γ X c fc) (hm:lastMarks [op,op'] [b,c]=false:=by with_unfolding_all rfl) :
  DT Γ X (.Compare a [op,op'] [b,c] pos) (toB (chD g g' fa fb fc)):=⟨by
 obtain ⟨r,ho,hr⟩:=h.ex
 obtain ⟨r',ho',hr'⟩:=h'.ex
 exact (znR ho ho' ha.1 hb.1 hc.1 hm).imp fun σ H Q q=>TD.chain hr hr' σ H _ (TDt.val σ H Q q)⟩
theorem zaB (h:DE Γ X e f) (he:∀ whole,isTrue e X.env whole=(do let v ← whole;standAt e.pos;holding [v] (truthy v)):=by intro _;rfl):DT Γ X e (toB f):=⟨(zss h.1 he).imp TDt.val⟩
def zbR (f:FT):FT:=fun ρ=>(f ρ).map (!·)
def zhR (f g:FT):FT:=fun ρ=>(f ρ).bind fun b=>if b=true then g ρ else some false
def orT (f g:FT):FT:=fun ρ=>(f ρ).bind fun b=>if b=true then some true else g ρ
variable {gt:FT} {zcK:List Expr}
theorem DW.dt (h:DW Γ X e ft):DT Γ X e ft:=⟨h.1.pt⟩
theorem zaG (h:DT Γ X a ft):DT Γ X (.UnaryOp .Not a pos) (zbR ft):=⟨(zst h.1).imp fun σ H Q=>by
 rintro ⟨G₀,H₀,G,ρ,b,A,h,k⟩
 unfold zbR at h
 obtain ⟨c,hc,h⟩:=oMd h
 exact ⟨G₀,H₀,G,ρ,c,A,hc,fun G' H' s=>by show Q (!c) H';rw [h];exact k G' H' s⟩⟩
theorem zhu (h:DT Γ X a ft):DW Γ X (.BoolOp .And [a] pos) ft:=⟨zp2 h.1⟩
theorem zb0 (h:DT Γ X a ft):DW Γ X (.BoolOp .Or [a] pos) ft:=⟨zsp h.1⟩
theorem zki (h:DT Γ X a ft) (h':DW Γ X (.BoolOp .And (b::zcK) pos) gt):DW Γ X (.BoolOp .And (a::b::zcK) pos) (zhR ft gt):=⟨(zsq h.1 h'.1).imp fun σ H Q=>by
 rintro ⟨G₀,H₀,G,ρ,r,A,h,k⟩
 unfold zhR at h
 obtain ⟨c,hc,h⟩:=oBd h
 refine ⟨G₀,H₀,G,ρ,c,A,hc,fun G1 H1 s1=>?_⟩
 cases c with
 | true=>exact zop ⟨G₀,H₀,G1,ρ,r,A.step s1,by simpa using h,fun G' H' s=>k G' H' (s1.trans s)⟩
 | false =>
  rw [qW qq] at h
  cases h
  exact zoq (k _ _ s1)⟩
theorem zcB (h:DT Γ X a ft) (h':DW Γ X (.BoolOp .Or (b::zcK) pos) gt):DW Γ X (.BoolOp .Or (a::b::zcK) pos) (orT ft gt):=⟨(zuO h.1 h'.1).imp fun σ H Q=>by
 rintro ⟨G₀,H₀,G,ρ,r,A,h,k⟩
 unfold orT at h
 obtain ⟨c,hc,h⟩:=oBd h
 refine ⟨G₀,H₀,G,ρ,c,A,hc,fun G1 H1 s1=>?_⟩
 cases c with
 | false=>exact zoq ⟨G₀,H₀,G1,ρ,r,A.step s1,by simpa using h,fun G' H' s=>k G' H' (s1.trans s)⟩
 | true =>
  rw [qV rfl] at h
  cases h
  exact zop (k _ _ s1)⟩
def zd4 (fa fb:FE):FE:=fun ρ=>(fa ρ).bind fun d=>match d with
 | .bl true=>fb ρ
 | .bl false=>some (.bl false)
 | _=>none
def zuj (fa:FE):FE:=fun ρ=>(fa ρ).bind fun d=>match d with
 | .bl b=>some (.bl (!b))
 | _=>none
theorem zde {op} (h:DE Γ X a fa):DE Γ X (.BoolOp op [a] pos) fa:=⟨zsG h.1⟩
theorem zcw (ha:DE Γ X a fa) (hb:DE Γ X (.BoolOp .And (b::zcK) pos) fb):DE Γ X (.BoolOp .And (a::b::zcK) pos) (zd4 fa fb):=⟨(zsK ha.1 hb.1).imp fun σ H Q=>by
 rintro ⟨G₀,H₀,G,ρ,d,A,h,k⟩
 unfold zd4 at h
 obtain ⟨x,hx,h⟩:=oBd h
 refine ⟨G₀,H₀,G,ρ,x,A,hx,fun v G1 H1 s1 r1=>?_⟩
 split at h
 ·cases r1.bl_inv
  exact ⟨true,rfl,zop ⟨G₀,H₀,G1,ρ,d,A.step s1,h,fun w G' H' s r=>k w G' H' (s1.trans s) r⟩⟩
 ·cases r1.bl_inv
  cases h
  exact ⟨false,rfl,zoq (k _ G1 H1 s1 (.bl _))⟩
 ·cases h⟩
theorem ztM (ha:DE Γ X a fa):DE Γ X (.UnaryOp .Not a pos) (zuj fa):=⟨(zsH ha.1).imp fun σ H Q=>by
 rintro ⟨G₀,H₀,G,ρ,d,A,h,k⟩
 unfold zuj at h
 obtain ⟨x,hx,h⟩:=oBd h
 refine ⟨G₀,H₀,G,ρ,x,A,hx,fun v G1 H1 s1 r1=>?_⟩
 split at h
 ·cases r1.bl_inv
  cases h
  exact ⟨_,rfl,k _ G1 H1 s1 (.bl _)⟩
 ·cases h⟩
def ifD (ft:FT) (fa fb:FE):FE:=fun ρ=>(ft ρ).bind fun c=>if c=true then fa ρ else fb ρ
theorem zoH (hc:DT Γ X c ft) (ha:DE Γ X a fa) (hb:DE Γ X b fb):DE Γ X (.IfExp c a b pos) (ifD ft fa fb):=⟨(zn0 hc.1 ha.1 hb.1).imp fun σ H Q=>by
 rintro ⟨G₀,H₀,G,ρ,d,A,h,k⟩
 unfold ifD at h
 obtain ⟨x,hx,h⟩:=oBd h
 refine ⟨G₀,H₀,G,ρ,x,A,hx,fun G1 H1 s1=>?_⟩
 cases x with
 | true=>exact zop ⟨G₀,H₀,G1,ρ,d,A.step s1,by simpa using h,fun w G' H' s r=>k w G' H' (s1.trans s) r⟩
 | false=>exact zoq ⟨G₀,H₀,G1,ρ,d,A.step s1,by simpa using h,fun w G' H' s r=>k w G' H' (s1.trans s) r⟩⟩
def zai:FA:=fun _=>some []
def zac (fa:FE) (fr:FA):FA:=fun ρ=>(fa ρ).bind fun x=>(fr ρ).map (x::·)
variable {fr:FA}
theorem zae:DA Γ X [] zai:=⟨zdz.imp fun σ H Q=>by
 rintro ⟨G₀,H₀,G,ρ,d,A,h,k⟩
 cases h
 exact k _ G H (.refl A.gh) .nil⟩
theorem zaa (ha:DE Γ X e fa) (hr:DA Γ X es fr) (hs:starEach (e::es) X.env=(false,eval e X.env)::starEach es X.env:=by rfl):DA Γ X (e::es) (zac fa fr):=⟨(zcA ha.1 hr.1 hs).imp fun σ H Q=>by
 rintro ⟨G₀,H₀,G,ρ,d,A,h,k⟩
 unfold zac at h
 obtain ⟨x,hx,h⟩:=oBd h
 obtain ⟨xs,hxs,h⟩:=oMd h
 subst h
 exact ⟨G₀,H₀,G,ρ,x,A,hx,fun v G1 H1 s1 r1=>⟨G₀,H₀,G1,ρ,xs,A.step s1,hxs,fun vs G2 H2 s2 r2=>k _ G2 H2 (s1.trans s2) (.cons (r1.mono s2.gg) r2)⟩⟩⟩
def szF (fr:FA):FA:=fun ρ=>(fr ρ).bind fun l=>if l.length<=sizeLine then some l else none
def zbb (fr:FA):FE:=fun ρ=>(fr ρ).map D.lst
def zbJ (fr:FA):FE:=fun ρ=>(fr ρ).map D.tup
theorem DO.de (h:DO Γ X e fr):DE Γ X e (zbb fr):=⟨h.1.imp fun σ H Q=>by
 rintro ⟨G₀,H₀,G,ρ,d,A,h,k⟩
 unfold zbb at h
 obtain ⟨ds,hd,rfl⟩:=oMd h
 exact ⟨G₀,H₀,G,ρ,ds,A,hd,fun p vs G' H' s hp r=>zd9 s.gh r (fun w G2 H2 s2 r2=>k w G2 H2 (s.trans s2) r2) p hp⟩⟩
theorem zbf (h:DA Γ X es fr):DO Γ X (.List es pos) (szF fr):=⟨(zlP h.1).imp fun σ H Q=>by
 rintro ⟨G₀,H₀,G,ρ,d,A,h,k⟩
 unfold szF at h
 obtain ⟨ds,hd,h⟩:=oBd h
 split at h
 ·rename_i hz
  cases h
  exact ⟨G₀,H₀,G,ρ,d,A,hd,fun vs G' H' s r=>⟨by rw [r.length];exact hz,fun p hp=>k p vs G' H' s hp r⟩⟩
 ·cases h⟩
theorem zbB {x1} (h:DA Γ X es fr):DE Γ X (.Tuple es x1 pos) (zbJ (szF fr)):=⟨(zsF h.1).imp fun σ H Q=>by
 rintro ⟨G₀,H₀,G,ρ,d,A,h,k⟩
 unfold zbJ szF at h
 obtain ⟨ds',hd',rfl⟩:=oMd h
 obtain ⟨ds,hd,h⟩:=oBd hd'
 split at h
 ·rename_i hz
  cases h
  exact ⟨G₀,H₀,G,ρ,ds',A,hd,fun vs G' H' s r=>⟨by rw [r.length];exact hz,zi2 s.gh r fun w G2 H2 s2 r2=>k w G2 H2 (s.trans s2) r2⟩⟩
 ·cases h⟩
def zrA (Γ:Cn) (K:PySem.W.Frag) (g:List D->Option D) (r:List V->Hp->VK->Prop):Prop :=
 ∀ {G H vs ds z},zbh G H->Reps Γ K G vs ds->g ds=some z->∀ Q:VK,(∀ w G' H',Step G H G' H'->Rep Γ K G' w z->Q w H')->r vs H Q
def cF (g:List D->Option D) (fr:FA):FE:=fun ρ=>(fr ρ).bind g
theorem TD.call {g:List D->Option D} {r:List V->Hp->VK->Prop} (hr:zrA Γ X.K g r):∀ σ H Q,TD Γ X.K (cF g fr) σ H Q->tCB r (TDa Γ X.K fr) σ H Q:=by
 rintro σ H Q ⟨G₀,H₀,G,ρ,d,A,h,k⟩
 unfold cF at h
 obtain ⟨ds,hd,h⟩:=oBd h
 exact ⟨G₀,H₀,G,ρ,ds,A,hd,fun vs G1 H1 s1 r1=>hr s1.gh r1 h Q fun w G' H' s r=>k w G' H' (s1.trans s) r⟩
structure BltD (Γ:Cn) (X:Cx) (id:String) (g:List D->Option D):Prop where
 ex:∃ r,ze9 X (.builtin id) r/\zrA Γ X.K g r
structure TyD (Γ:Cn) (X:Cx) (id:String) (g:List D->Option D):Prop where
 ex:∃ r,ze9 X (.type id) r/\zrA Γ X.K g r
theorem zap {id:String} {g:List D->Option D} (hc:BltD Γ X id g) (hg:Gl X x) (hm:X.mg x=none) (hv:bootBuiltins x=some (.builtin id)) (ha:DA Γ X (e::es) fr) (hn:x≠"__name__":=by decide) (hdb:(x==("__debug__":Str))=false:=by decide)
  (he:starEach (e::es) X.env=(false,eval e X.env)::starEach es X.env:=by rfl) (hpl:(backTo pos (starEach es X.env)).any (·.1)=false:=by rfl):DE Γ X (.Call (.Name x p) (e::es) [] pos) (cF g fr):=⟨by
 obtain ⟨r,h1,h2⟩:=hc.ex
 exact (zjS h1 hg hm hv ha.1 hn hdb he hpl).imp (TD.call h2)⟩
theorem zdF {id:String} {g:List D->Option D} (hc:TyD Γ X id g) (hg:Gl X x) (hm:X.mg x=none) (hv:bootBuiltins x=some (.type id)) (ha:DA Γ X (e::es) fr) (hn:x≠"__name__":=by decide) (hdb:(x==("__debug__":Str))=false:=by decide)
  (he:starEach (e::es) X.env=(false,eval e X.env)::starEach es X.env:=by rfl) (hpl:(backTo pos (starEach es X.env)).any (·.1)=false:=by rfl):DE Γ X (.Call (.Name x p) (e::es) [] pos) (cF g fr):=⟨by
 obtain ⟨r,h1,h2⟩:=hc.ex
 exact (zh9 h1 hg hm hv ha.1 hn hdb he hpl).imp (TD.call h2)⟩
theorem zhx {n:String} (hg:Gl X x) (hm:X.mg x=none) (hv:bootBuiltins x=some (.type n)) (hn:x≠"__name__":=by decide) (hd:(x==("__debug__":Str))=false:=by decide):DE Γ X (.Name x pos) (vC (.ty n)):=TD.const (fun _=>.ty n) (zqj hg hm hv rfl hn hd)
theorem Reps.one (r:Reps Γ K G vs [d]):∃ v,vs=[v]/\Rep Γ K G v d:=by
 cases r with
 | cons h t=>cases t;exact ⟨_,rfl,h⟩
theorem Reps.two {d':D} (r:Reps Γ K G vs [d,d']):∃ v u,vs=[v,u]/\Rep Γ K G v d/\Rep Γ K G u d':=by
 cases r with
 | cons h t=>cases t with
  | cons h2 t2=>cases t2;exact ⟨_,_,rfl,h,h2⟩
def zwr:List D->Option D
 | [.int i]=>some (.int (if i < 0 then -i else i))
 | _=>none
def zwp:List D->Option D
 | [.int i,.int j]=>some (.int (if j > i then j else i))
 | _=>none
def zma:List D->Option D
 | [.int i,.int j]=>some (.int (if j < i then j else i))
 | _=>none
theorem ziG (hc:X.calm=true):BltD Γ X "min" zma:=⟨_,zm8 hc,fun {G H vs ds z} gh r h Q k=>by
 unfold zma at h
 split at h <;> cases h
 obtain ⟨v,u,rfl,r1,r2⟩:=r.two
 cases r1.int_inv;cases r2.int_inv
 exact ⟨_,_,rfl,k _ G H (.refl gh) (.int _)⟩⟩
def zcT:List D->Option D
 | [.str x]=>if x.length<=sizeLine then some (.int (x.length:Nat)) else none
 | [.lst l]=>some (.int (l.length:Nat))
 | [.tup l]=>some (.int (l.length:Nat))
 | [.scr l]=>some (.int (l.length:Nat))
 | _=>none
theorem zbO:BltD Γ X "len" zcT:=⟨_,zoP,fun {G H vs ds z} gh r h Q k=>by
 unfold zcT at h
 split at h
 ·split at h
  ·cases h
   obtain ⟨v,rfl,r1⟩:=r.one
   cases r1.str_inv
   exact ⟨_,_,rfl,⟨by assumption,rfl⟩,k _ G H (.refl gh) (.int _)⟩
  ·cases h
 ·cases h
  obtain ⟨v,rfl,r1⟩:=r.one
  obtain ⟨a,vs,rfl,ha,rv⟩:=r1.lst_inv
  exact ⟨_,_,rfl,.inl ⟨vs,.inl (.inl (gh _ _ ha)),rfl⟩,k _ G H (.refl gh) (by rw [rv.length];exact .int _)⟩
 ·cases h
  obtain ⟨v,rfl,r1⟩:=r.one
  obtain ⟨a,vs,rfl,ha,rv⟩:=r1.tup_inv
  exact ⟨_,_,rfl,.inr ⟨vs,.inl (.inl (gh _ _ ha)),rfl⟩,k _ G H (.refl gh) (by rw [rv.length];exact .int _)⟩
 ·cases h
  obtain ⟨v,rfl,r1⟩:=r.one
  obtain ⟨a,rfl,ha⟩:=r1.scr_inv
  exact ⟨_,_,rfl,.inl ⟨_,gh.seq ha,rfl⟩,k _ G H (.refl gh) (by rw [qe];exact .int _)⟩
 ·cases h⟩
def tyD:D->Option String
 | .non=>some "NoneType"
 | .bl _=>some "bool"
 | .int _=>some "int"
 | .str _=>some "str"
 | .lst _=>some "list"
 | .tup _=>some "tuple"
 | .dk _=>some "dict"
 | .dt _=>some "dict"
 | _=>none
def ziL (t c:String):Option Bool:=if (Value.type t==Value.type c)=true then some true else if PySem.W.kitMeta c=true then Option.map (fun x=>x.contains (Value.type c)) (PySem.fastBuiltinMro t) else none
def zeZ:List D->Option D
 | [d,.ty c]=>(tyD d).bind fun t=>(ziL t c).map D.bl
 | _=>none
theorem zpG {t:String} (gh:zbh G H) (r:Rep Γ K G v d) (h:tyD d=some t):TyOf K H v (.type t):=by
 unfold tyD at h
 split at h <;> cases h
 ·cases r.non_inv;exact .non
 ·cases r.bl_inv;exact .bl _
 ·cases r.int_inv;exact .int _
 ·cases r.str_inv;exact .str _
 ·obtain ⟨a,vs,rfl,ha,_⟩:=r.lst_inv;exact .lst (gh _ _ ha)
 ·obtain ⟨a,vs,rfl,ha,_⟩:=r.tup_inv;exact .tup (gh _ _ ha)
 ·cases r with
  | dk h _ _=>exact .dK (gh _ _ h)
 ·cases r with
  | dt h _ _=>exact .dT (gh _ _ h)
theorem zeK:BltD Γ X "isinstance" zeZ:=by
 refine ⟨fun vs H Q=>∃ v t c b,vs=[v,.ty c]/\TyOf X.K H v (.type t)/\PySem.W.kitOne X.K (.type t) (.type c)=some b/\Q (.bl b) H,?_,?_⟩
 ·intro pins s σ H xs us Q I r h
  obtain ⟨v,t,c,b,rfl,ty,hk,q⟩:=h
  obtain ⟨u,w',rfl,r1,r2⟩:=zrW r
  cases r2
  exact zmw I r1 ty hk fun tk=>⟨.bl b,H,I.tok tk,rfl,q⟩
 ·intro G H vs ds z gh r h Q k
  unfold zeZ at h
  split at h
  ·obtain ⟨t,ht,h⟩:=oBd h
   obtain ⟨b,hb,rfl⟩:=oMd h
   obtain ⟨v,u,rfl,r1,r2⟩:=r.two
   cases r2
   exact ⟨v,t,_,b,rfl,zpG gh r1 ht,hb,k _ G H (.refl gh) (.bl _)⟩
  ·cases h
end
variable {β:Type} {fo:FE}
section
variable {a:Expr} {fr:FA}
theorem Reps.atI {K:PySem.W.Frag} {G:Hp} {vs:List V} {ds:List D} {i:Int} {d:D} (r:Reps Γ K G vs ds) (h:L2.atI ds i=some d):∃ v,L2.atI vs i=some v/\Rep Γ K G v d:=by
 unfold L2.atI at h ⊢
 rw [r.length]
 cases e:ixN ds.length i with
 | none=>rw [e] at h;cases h
 | some j =>
  rw [e] at h
  obtain ⟨v,h1,h2⟩:=r.get (i:=j) (d:=d) h
  exact ⟨v,h1,h2⟩
theorem zrw (g:α->β) (xs:List α) (i:Int):L2.atI (xs.map g) i=(L2.atI xs i).map g:=by
 unfold L2.atI
 rw [qe]
 cases ixN xs.length i with
 | none=>rfl
 | some j=>simp
def ixD:D->D->Option D
 | .lst l,.int i=>atI l i
 | .tup l,.int i=>atI l i
 | .scr l,.int i=>(atI l i).map D.int
 | .str x,.int i=>if x.length<=sizeLine then (atI x.cps.toList i).map fun c=>D.str ⟨#[c]⟩ else none
 | _,_=>none
theorem zrc :zjB Γ K ixD (rIx K):=by
 intro G H v u x y z gh r1 r2 h Q k
 unfold ixD at h
 split at h
 ·obtain ⟨a,vs,rfl,ha,rv⟩:=r1.lst_inv
  cases r2.int_inv
  obtain ⟨w,hw,rw'⟩:=rv.atI h
  exact .inl ⟨a,vs,_,w,rfl,rfl,.inl (.inl (gh _ _ ha)),hw,k w G H (.refl gh) rw'⟩
 ·obtain ⟨a,vs,rfl,ha,rv⟩:=r1.tup_inv
  cases r2.int_inv
  obtain ⟨w,hw,rw'⟩:=rv.atI h
  exact .inr (.inl ⟨a,vs,_,w,rfl,rfl,.inl (.inl (gh _ _ ha)),hw,k w G H (.refl gh) rw'⟩)
 ·obtain ⟨a,rfl,ha⟩:=r1.scr_inv
  cases r2.int_inv
  obtain ⟨n,hn,rfl⟩:=oMd h
  exact .inl ⟨a,_,_,.int n,rfl,rfl,gh.seq ha,by rw [zrw,hn];rfl,k _ G H (.refl gh) (.int _)⟩
 ·split at h
  ·cases r1.str_inv
   cases r2.int_inv
   obtain ⟨n,hn,rfl⟩:=oMd h
   exact .inr (.inr ⟨_,_,n,rfl,rfl,by assumption,hn,k _ G H (.refl gh) (.str _)⟩)
  ·cases h
 ·cases h
theorem zat (ha:DE Γ X a fa) (hb:DE Γ X b fb) (hs:zjA b:=by intro _ _;rfl):DE Γ X (.Subscript a b pos) (b2 ixD fa fb):=⟨(zsJ zpi ha.1 hb.1 hs).imp (TD.two zrc)⟩
def ziN (xs:List α) (lo hi:Option Int):List α:=(xs.drop (HT.sIx xs.length 0 lo)).take (HT.sIx xs.length xs.length hi - HT.sIx xs.length 0 lo)
theorem zoJ (g:α->β) (xs:List α) (lo hi:Option Int):ziN (xs.map g) lo hi=(ziN xs lo hi).map g:=by
 unfold ziN
 simp
theorem Reps.cut (r:Reps Γ K G vs ds) (lo hi:Option Int):Reps Γ K G (zpw vs lo hi) (ziN ds lo hi):=by
 unfold zpw ziN
 rw [r.length]
 exact (r.drop _).take _
def zrK (x:Str) (lo hi:Option Int):Str:=⟨(ziN x.cps.toList lo hi).toArray⟩
theorem zhU (lo hi:Option Int) (n:Nat):Builtin.Str.strSliceIndices lo hi 1 n=(List.range (HT.sIx n n hi - HT.sIx n 0 lo)).map (HT.sIx n 0 lo+·):=by
 rw [← sliceRange_one]
 unfold Builtin.Str.strSliceIndices
 have h1:∀ (o:Option Int) (d:Nat),d<=n->(match o with | none=>(d:Int) | some i=>if (1:Int) > 0 then max 0 (min (if i < 0 then i+(n:Int) else i) n) else max (-1) (min (if i < 0 then i+(n:Int) else i) ((n:Int) - 1)))=((HT.sIx n d o:Nat):Int):=fun o d hd=>by
  cases o with
  | none=>simp [HT.sIx]
  | some i =>
   simp only [HT.sIx,show (1:Int) > 0 by decide,if_true]
   by_cases h:i < 0
   ·simp only [h,if_true];omega
   ·simp only [h,if_false];omega
 have e0:=h1 lo 0 (Nat.zero_le _)
 have e1:=h1 hi n (qu _)
 rw [← e0,← e1]
 rfl
theorem zjJ (x:Str) (lo hi:Option Int):Txt.slice x lo hi=zrK x lo hi:=by
 have key:(Builtin.Str.strSliceIndices lo hi 1 x.length).filterMap (x.cps[·]?)=ziN x.cps.toList lo hi:=by
  rw [zhU,pick_run]
  unfold ziN
  rw [show x.cps.toList.length=x.length by simp [Str.length]]
 unfold Txt.slice zrK
 split
 ·rename_i h
  rw [← key]
  have hl:(Builtin.Str.strSliceIndices lo hi 1 x.length).length=x.length:=by simpa using h
  rw [zhU] at hl ⊢
  rw [pick_run]
  rw [qe,qT] at hl
  have hb:HT.sIx x.length x.length hi<=x.length:=by
   cases hi with
   | none=>simp [HT.sIx]
   | some i=>simp only [HT.sIx];split <;> omega
  have h0:HT.sIx x.length 0 lo=0\/x.length=0:=by omega
  have hx:x.cps.toList.length=x.length:=by simp [Str.length]
  have e:(x.cps.toList.drop (HT.sIx x.length 0 lo)).take (HT.sIx x.length x.length hi - HT.sIx x.length 0 lo)=x.cps.toList:=by
   rcases h0 with h0 | h0
   ·rw [h0,List.drop_zero]
    rw [h0] at hl
    exact List.take_of_length_le (by omega)
   ·have:x.cps.toList=[]:=List.length_eq_zero_iff.mp (by omega)
    rw [this];simp
  rw [e]
 ·rw [key]
def pN:zaI->Option (Option Int):=fun _=>some none
def pS (f:FE):zaI->Option (Option Int):=fun ρ=>(f ρ).bind fun d=>match d with
 | .int i=>some (some i)
 | _=>none
def TDp (Γ:Cn) (K:PySem.W.Frag) (f:zaI->Option (Option Int)):TO:=fun σ H Q=>∃ G₀ H₀ G ρ o,At Γ K G₀ H₀ G H ρ σ/\f ρ=some o/\∀ G' H',Step G H G' H'->Q o H'
structure DP (Γ:Cn) (X:Cx) (e:Option Expr) (f:zaI->Option (Option Int)):Prop where
 out:PO X e (TDp Γ X.K f)
theorem zdE:DP Γ X none pN:=⟨fun pins s σ H Q I ⟨G₀,H₀,G,ρ,o,A,h,k⟩=>by
 cases h
 exact zp9 pins s σ H Q I (k G H (.refl A.gh))⟩
theorem zdD (h:DE Γ X e f):DP Γ X (some e) (pS f):=⟨fun pins s σ H Q I ⟨G₀,H₀,G,ρ,o,A,q,k⟩=>by
 unfold pS at q
 obtain ⟨d,hd,q⟩:=oBd q
 split at q <;> cases q
 exact zp8 h.1 pins s σ H Q I ⟨G₀,H₀,G,ρ,_,A,hd,fun v G' H' s r=>⟨_,r.int_inv,k G' H' s⟩⟩⟩
theorem zsc:SlR X (fun x lo hi H Q=>∃ z,x=.str z/\z.length<=sizeLine/\Q (.str (zrK z lo hi)) H):=by
 intro pins s σ H x v vl vu lo hi sl Q I rx hs pl pu h
 obtain ⟨z,rfl,hz,q⟩:=h
 obtain ⟨t,rfl⟩:=rx
 refine ⟨"str",_,PySem.F.slot_str_getitem.lookup,typeIs_str _ _ _,?_⟩
 obtain ⟨l,rfl,el⟩:∃ l:Option (Int×Tok),vl=partValue l/\l.map (·.1)=lo:=by
  cases pl with
  | none=>exact ⟨none,rfl,rfl⟩
  | int i t=>exact ⟨some (i,t),rfl,rfl⟩
 obtain ⟨u,rfl,eu⟩:∃ l:Option (Int×Tok),vu=partValue l/\l.map (·.1)=hi:=by
  cases pu with
  | none=>exact ⟨none,rfl,rfl⟩
  | int i t=>exact ⟨some (i,t),rfl,rfl⟩
 refine wpAny_getItem_str_slice (l:=l) (u:=u) (st:=none) hs rfl ?_
 have e:(if ((Option.map (fun x=>x.fst) (none:Option (Int×Tok))).getD 1==1 && (slicePicked z l u none).length==z.length)=true then z else { cps:=(List.filterMap (fun x=>z.cps[x]?) (slicePicked z l u none)).toArray })=zrK z lo hi:=by
  have e0:Txt.slice z (l.map (·.1)) (u.map (·.1))=zrK z lo hi:=by
   rw [el,eu]
   exact zjJ z lo hi
  exact e0
 refine post_val_or_str ⟨?_,fun t' k=>?_⟩
 ·rw [e,← zjJ]
  exact qL (Txt.slice_le z _ _) hz
 ·rw [e]
  exact ⟨.str _,H,I.tok k,⟨_,rfl⟩,q⟩
def zeo (lo hi:Option Int):D->Option D
 | .lst l=>some (.lst (ziN l lo hi))
 | .scr l=>some (.lst ((ziN l lo hi).map D.int))
 | .tup l=>if HT.sIx l.length 0 lo=0/\HT.sIx l.length l.length hi=l.length then none else some (.tup (ziN l lo hi))
 | .str x=>if x.length<=sizeLine then some (.str (zrK x lo hi)) else none
 | _=>none
def slF (f:FE) (fl fh:zaI->Option (Option Int)):FE:=fun ρ=>(f ρ).bind fun d=>(fl ρ).bind fun l=>(fh ρ).bind fun h=>zeo l h d
variable {fl fh:zaI->Option (Option Int)} {lo hi:Option Expr}
theorem zcV (he:DE Γ X e f) (hl:DP Γ X lo fl) (hh:DP Γ X hi fh):DE Γ X (.Subscript e (.Slice lo hi none p2) pos) (slF f fl fh):=⟨(znZ (zpR.or (zsb.or zsc)) he.1 hl.1 hh.1).imp fun σ H Q=>by
 rintro ⟨G₀,H₀,G,ρ,d,A,h,k⟩
 unfold slF at h
 obtain ⟨x,hx,h⟩:=oBd h
 obtain ⟨l,hl,h⟩:=oBd h
 obtain ⟨u,hu,h⟩:=oBd h
 refine ⟨G₀,H₀,G,ρ,x,A,hx,fun v G1 H1 s1 r1=>⟨G₀,H₀,G1,ρ,l,A.step s1,hl,fun G2 H2 s2=>⟨G₀,H₀,G2,ρ,u,(A.step s1).step s2,hu,fun G3 H3 s3=>?_⟩⟩⟩
 have s:=(s1.trans s2).trans s3
 have r:=r1.mono (s2.gg.trans s3.gg)
 have gh:=s3.gh
 unfold zeo at h
 split at h
 ·cases h
  obtain ⟨a,vs,rfl,ha,rv⟩:=r.lst_inv
  exact .inl ⟨a,vs,rfl,.inl (.inl (gh _ _ ha)),zd9 gh (rv.cut l u) fun w G4 H4 s4 r4=>k w G4 H4 (s.trans s4) r4⟩
 ·cases h
  obtain ⟨a,rfl,ha⟩:=r.scr_inv
  refine .inl ⟨a,_,rfl,gh.seq ha,zd9 gh ?_ fun w G4 H4 s4 r4=>k w G4 H4 (s.trans s4) r4⟩
  show Reps Γ X.K G3 (ziN _ l u) _
  rw [zoJ]
  exact Reps.ints _
 ·split at h
  ·cases h
  ·rename_i hw
   cases h
   obtain ⟨a,vs,rfl,ha,rv⟩:=r.tup_inv
   exact .inr (.inl ⟨a,vs,rfl,.inl (.inl (gh _ _ ha)),by rw [rv.length];exact hw,zi2 gh (rv.cut l u) fun w G4 H4 s4 r4=>k w G4 H4 (s.trans s4) r4⟩)
 ·split at h
  ·cases h
   cases r.str_inv
   exact .inr (.inr ⟨_,rfl,by assumption,k _ _ _ s (.str _)⟩)
  ·cases h
 ·cases h⟩
noncomputable def zfT:List D->Option (List Str)
 | []=>some []
 | .str x::r=>(zfT r).map (x::·)
 | _::_=>none
def zv7:D->List D->Option D
 | .str sep,[.lst l]=>(zfT l).bind fun ys=>if (ys.map (·.length)).sum+ys.length*sep.length<=16777216 then some (.str (Txt.join sep ys)) else none
 | _,_=>none
theorem zfD {K:PySem.W.Frag} {G:Hp}:∀ {vs:List V} {ds:List D} {ys:List Str},Reps Γ K G vs ds->zfT ds=some ys->vs=ys.map V.str
 | _,[],ys,r,h=>by cases r;cases h;rfl
 | _,d::ds,ys,.cons h1 h2,h=>by
  cases d with
  | str x =>
   obtain ⟨zs,hz,rfl⟩:=oMd (show (zfT ds).map (x::·)=some ys from h)
   rw [h1.str_inv,zfD h2 hz];rfl
  | _=>cases h
theorem zeQ:∀ {ys:List Str} {us:List Value},zbI (ys.map V.str) us->StrsAre us ys
 | [],_,r=>by rw [qN] at r;cases r;exact .nil
 | y::ys,_,r=>by
  rw [ql] at r
  cases r with
  | cons r1 r2 =>
   obtain ⟨t,e⟩:=r1
   subst e
   exact .cons y t (zeQ r2)
def zrL:List D->Option (List Bool)
 | []=>some []
 | .bl x::r=>(zrL r).map (x::·)
 | _::_=>none
theorem znh {K:PySem.W.Frag} {G:Hp}:∀ {vs:List V} {ds:List D} {ys:List Bool},Reps Γ K G vs ds->zrL ds=some ys->vs=ys.map V.bl
 | _,[],ys,r,h=>by cases r;cases h;rfl
 | _,d::ds,ys,.cons h1 h2,h=>by
  cases d with
  | bl x =>
   obtain ⟨zs,hz,rfl⟩:=oMd (show (zrL ds).map (x::·)=some ys from h)
   rw [h1.bl_inv,znh h2 hz];rfl
  | _=>cases h
def ziH:List D->Option D
 | [.lst l]=>(zrL l).map fun bs=>D.bl (bs.all id)
 | _=>none
theorem zlj:∀ {bs:List Bool} {us:List Value},zbI (bs.map V.bl) us->us=bs.map Value.bool
 | [],_,r=>by rw [qN] at r;cases r;rfl
 | y::ys,_,r=>by
  rw [ql] at r
  cases r with
  | cons r1 r2=>cases r1;rw [zlj r2];rfl
theorem znm (bs:List Bool):(List.range bs.length).all (fun i=>bs.getD i false)=bs.all id:=by
 rw [Bool.eq_iff_iff,List.all_eq_true,List.all_eq_true]
 constructor
 ·intro h x hx
  obtain ⟨i,hi,e⟩:=List.mem_iff_getElem.mp hx
  have:=h i (List.mem_range.mpr hi)
  simp [List.getD,hi] at this
  rw [← e];exact this
 ·intro h i hi
  have hi':=List.mem_range.mp hi
  have:=h (bs[i]) (List.getElem_mem hi')
  simp [List.getD,hi']
  exact this
theorem znw {bs:List Bool} :TruthOf prog w A (fun i v=>(bs.map Value.bool).toArray[i]?=some v) (fun i=>bs.getD i false):=fun i v s Q E hP hQ=>by
 have hP':(bs.map Value.bool)[i]?=some v:=by simpa using hP
 rw [qj] at hP'
 obtain ⟨b,hb,rfl⟩:=oMd hP'
 have:bs.getD i false=b:=by simp [List.getD,hb]
 have hQ':Q (bs.getD i false) s:=hQ
 rw [this] at hQ'
 exact wpAny_truthy_bool hQ'
theorem zdt (hc:X.calm=true):BltD Γ X "all" ziH:=by
 refine ⟨fun vs H Q=>∃ (a:Addr) (bs:List Bool),vs=[.ref a]/\H a=some (.lst (bs.map V.bl))/\Q (.bl (bs.all id)) H,?_,?_⟩
 ·intro pins s σ H xs us Q I r h
  obtain ⟨a,bs,rfl,ha,q⟩:=h
  obtain ⟨u,rfl,ru⟩:=zfN r
  cases ru
  obtain ⟨its,rv,pl,_⟩:=I.list (.inl (.inl ha))
  have e:=zlj rv
  subst e
  refine call_all_walk (wpAny_pyIter_list pl.isList ?_)
  have ne:a≠s.heap.objs.size:=by obtain ⟨o,_,h1,_⟩:=pl;exact qA (qt h1)
  refine ⟨s.heap.objs.size,_,_,_,_,_,fun i=>bs.getD i false,rfl,Walks.list (A:=X.A.in1) (show X.A.in1.handled=none from I.ok.hd hc) s.heap.objs.size a ne (bs.map Value.bool).toArray,⟨⟨_,qF _ rfl,rfl,rfl⟩,pl.isList.at fun o q=>qr _ q⟩,znw,fun h' tk hk=>?_⟩
  have e2:(bs.map Value.bool).toArray.size=bs.length:=by simp
  rw [e2,znm]
  refine ⟨.bl _,H,I.kept fun b o z=>hk b o ?_ (qr _ z),rfl,q⟩
  intro z'
  have:b=s.heap.objs.size:=by simpa using z'
  exact absurd (qt z) (by rw [this];exact Nat.lt_irrefl _)
 ·intro G H vs ds z gh r h Q k
  unfold ziH at h
  split at h
  ·obtain ⟨bs,hb,rfl⟩:=oMd h
   obtain ⟨v,rfl,r1⟩:=r.one
   obtain ⟨a,ws,rfl,ha,rw'⟩:=r1.lst_inv
   refine ⟨a,bs,rfl,?_,k _ G H (.refl gh) (.bl _)⟩
   rw [← znh rw' hb]
   exact gh _ _ ha
  ·cases h
end
structure Yd (Γ:Cn) (K:PySem.W.Frag) (J:It) (G:Hp) (ds:List D):Prop where
 go:∀ (i:Nat) d G2 H2,ds[i]?=some d->zbh G G2->zbh G2 H2->J.go i H2/\∀ x H3,J.yld i H2 x H3->∃ G3,Step G2 H2 G3 H3/\Rep Γ K G3 x d
 stop:∀ G2 H2,zbh G G2->zbh G2 H2->J.stop ds.length H2
def TDi (Γ:Cn) (K:PySem.W.Frag) (f:FA):TI:=fun σ H R=>∃ G₀ H₀ G ρ ds,At Γ K G₀ H₀ G H ρ σ/\f ρ=some ds/\∀ J G' H',Step G H G' H'->Yd Γ K J G' ds->R J H'
structure DI (Γ:Cn) (X:Cx) (tg e:Expr) (f:FA):Prop where
 out:PI X tg e (TDi Γ X.K f)
theorem PI.imp {t t':TI} (h:PI X tg e t) (i:∀ σ H R,t' σ H R->t σ H R):PI X tg e t':=fun pins s σ H R I q=>h pins s σ H R I (i _ _ _ q)
variable {fi:FA} {ts:List Expr} {fe:FE}
section
variable {a:Expr} {fr:FA}
theorem zrM {a:Addr} (h:G a=some (.tup vs)) (r:Reps Γ K G vs ds):Yd Γ K (Itt K a) G ds:=by
 refine ⟨fun i d G2 H2 hd g1 g2=>?_,fun G2 H2 g1 g2=>⟨vs,.inl (.inl (g2 _ _ (g1 _ _ h))),by rw [r.length];exact qu _⟩⟩
 obtain ⟨v,hv,rv⟩:=r.get hd
 refine ⟨⟨vs,v,.inl (.inl (g2 _ _ (g1 _ _ h))),hv⟩,fun x H3 ⟨e1,e2⟩=>?_⟩
 subst e1
 have:=e2 vs (.inl (.inl (g2 _ _ (g1 _ _ h))))
 rw [hv] at this
 cases this
 exact ⟨G2,.refl g2,rv.mono g1⟩
theorem zlf {a:Addr} (h:SqL K G a vs) (r:Reps Γ K G vs ds):Yd Γ K (Ite K a) G (ds.mapIdx fun i d=>D.tup [.int i,d]):=by
 refine ⟨fun i d G2 H2 hd g1 g2=>?_,fun G2 H2 g1 g2=>⟨vs,g2.seq (g1.seq h),by rw [List.length_mapIdx,r.length];exact qu _⟩⟩
 rw [List.getElem?_mapIdx] at hd
 obtain ⟨d',hd',rfl⟩:=oMd hd
 obtain ⟨v,hv,rv⟩:=r.get hd'
 refine ⟨⟨vs,v,g2.seq (g1.seq h),hv⟩,fun x H3 ⟨T,y,e0,hT,e1,e2⟩=>?_⟩
 subst e0
 have:=e2 vs (g2.seq (g1.seq h))
 rw [hv] at this
 cases this
 subst e1
 have s:=Step.new (o:=.tup [.int i,v]) g2 hT
 exact ⟨_,s,.tup zak (.cons (.int _) (.cons ((rv.mono g1).mono s.gg) .nil))⟩
def zik:D->Option (List D)
 | .lst l=>some l
 | .tup l=>some l
 | .scr l=>some (l.map D.int)
 | _=>none
def itF (f:FE):FA:=fun ρ=>(f ρ).bind zik
theorem zsC {l:Expr} {tl:TE} (hl:PE X l tl):PI X tg l (fun σ H R=>tl σ H fun x H1=>(∃ a,x=.ref a/\(∃ xs,SqL X.K H1 a xs)/\R (Itl X.K a) H1)\/(∃ a,x=.ref a/\(∃ xs,SqT X.K H1 a xs)/\R (Itt X.K a) H1)):=by
 intro pins s σ H R I h
 refine thn (hl pins s σ H _ I h) fun v s1 ⟨x,H1,I1,r1,q1⟩=>?_
 rcases q1 with ⟨a,e,⟨xs,hq⟩,q⟩ | ⟨a,e,⟨xs,hq⟩,q⟩
 ·subst e
  cases r1
  obtain ⟨its,rv,p,hz⟩:=I1.list hq
  refine wpAny_pyIter_list p.isList ?_
  refine ⟨s1.heap.objs.size,[s1.heap.objs.size],_,_,H1,rfl,I1.kept (t':=s1.toks) fun b o e=>qr _ e,zlk a _,⟨_,qF _ rfl,rfl,rfl⟩,fun b hb=>?_,q⟩
  have e:b=s1.heap.objs.size:=by simpa using hb
  subst e
  exact I1.fpOk (qu _) (I1.hok.fresh (qu _))
 ·subst e
  cases r1
  obtain ⟨its,rv,p,hz⟩:=I1.tuple hq
  refine wpAny_pyIter_tuple (show s1.heap.IsTuple a its.toArray from p) ?_
  refine ⟨s1.heap.objs.size,[s1.heap.objs.size],_,_,H1,rfl,I1.kept (t':=s1.toks) fun b o e=>qr _ e,zkw a _,⟨_,qF _ rfl,rfl,rfl⟩,fun b hb=>?_,q⟩
  have e:b=s1.heap.objs.size:=by simpa using hb
  subst e
  exact I1.fpOk (qu _) (I1.hok.fresh (qu _))
theorem zaC (h:DE Γ X iter f):DI Γ X tg iter (itF f):=⟨(zsC h.1).imp fun σ H R=>by
 rintro ⟨G₀,H₀,G,ρ,ds,A,h,k⟩
 unfold itF at h
 obtain ⟨d,hd,h⟩:=oBd h
 refine ⟨G₀,H₀,G,ρ,d,A,hd,fun v G' H' s r=>?_⟩
 unfold zik at h
 split at h
 ·cases h
  obtain ⟨a,vs,rfl,ha,rv⟩:=r.lst_inv
  refine .inl ⟨a,rfl,⟨vs,.inl (.inl (s.gh _ _ ha))⟩,k _ G' H' s ?_⟩
  refine ⟨fun i d G2 H2 hd g1 g2=>?_,fun G2 H2 g1 g2=>⟨vs,.inl (.inl (g2 _ _ (g1 _ _ ha))),by rw [rv.length];exact qu _⟩⟩
  obtain ⟨v,hv,rv'⟩:=rv.get hd
  refine ⟨⟨vs,v,.inl (.inl (g2 _ _ (g1 _ _ ha))),hv⟩,fun x H3 ⟨e1,e2⟩=>?_⟩
  subst e1
  have:=e2 vs (.inl (.inl (g2 _ _ (g1 _ _ ha))))
  rw [hv] at this
  cases this
  exact ⟨G2,.refl g2,rv'.mono g1⟩
 ·cases h
  obtain ⟨a,vs,rfl,ha,rv⟩:=r.tup_inv
  exact .inr ⟨a,rfl,⟨vs,.inl (.inl (s.gh _ _ ha))⟩,k _ G' H' s (zrM ha rv)⟩
 ·rename_i l
  cases h
  obtain ⟨a,rfl,ha⟩:=r.scr_inv
  refine .inl ⟨a,rfl,⟨_,s.gh.seq ha⟩,k _ G' H' s ?_⟩
  refine ⟨fun i d G2 H2 hd g1 g2=>?_,fun G2 H2 g1 g2=>⟨_,g2.seq (g1.seq ha),by simp⟩⟩
  rw [qj] at hd
  obtain ⟨n,hn,rfl⟩:=oMd hd
  have hv:(List.map V.int l)[i]?=some (V.int n):=by rw [qj,hn];rfl
  refine ⟨⟨_,_,g2.seq (g1.seq ha),hv⟩,fun x H3 ⟨e1,e2⟩=>?_⟩
  subst e1
  have:=e2 _ (g2.seq (g1.seq ha))
  rw [hv] at this
  cases this
  exact ⟨G2,.refl g2,.int _⟩
 ·cases h⟩
def zlv:D->Option (List D)
 | .str x=>some (x.cps.toList.map fun c=>D.str ⟨#[c]⟩)
 | _=>none
def itS (f:FE):FA:=fun ρ=>(f ρ).bind zlv
theorem ztJ {n:Str} {q:Pos} (h:DE Γ X iter f):DI Γ X (.Name n q) iter (itS f):=⟨(zsB h.1).imp fun σ H R=>by
 rintro ⟨G₀,H₀,G,ρ,ds,A,h,k⟩
 unfold itS at h
 obtain ⟨d,hd,h⟩:=oBd h
 refine ⟨G₀,H₀,G,ρ,d,A,hd,fun v G' H' s r=>?_⟩
 unfold zlv at h
 split at h <;> cases h
 cases r.str_inv
 rename_i x
 refine ⟨x,rfl,k _ G' H' s ⟨fun i d G2 H2 hd g1 g2=>?_,fun G2 H2 g1 g2=>?_⟩⟩
 ·rw [qj] at hd
  obtain ⟨c,hc,rfl⟩:=oMd hd
  have hc':x.cps[i]?=some c:=by simpa using hc
  refine ⟨(Array.getElem?_eq_some_iff.mp hc').1,fun y H3 ⟨e1,c2,h2,e2⟩=>?_⟩
  subst e1
  subst e2
  rw [hc'] at h2
  cases h2
  exact ⟨G2,.refl g2,.str _⟩
 ·show _=x.cps.size
  simp⟩
def ztC:D->Option (List D)
 | .lst l=>some (l.mapIdx fun i d=>D.tup [.int i,d])
 | .scr l=>some ((l.map D.int).mapIdx fun i d=>D.tup [.int i,d])
 | _=>none
def itE (f:FE):FA:=fun ρ=>(f ρ).bind ztC
theorem zre {k1:Nat} (hg:Gl X "enumerate") (hm:X.mg "enumerate"=none) (h:DE Γ X a f) (hs:starEach [a] X.env=[(false,eval a X.env)]:=by rfl) (hs0:starEach ([a]:List Expr) X.env=(false,eval a X.env)::starEach [] X.env:=by rfl) :
  DI Γ X (.Tuple elts k1 tpos) (.Call (.Name "enumerate" p) [a] [] pos) (itE f):=⟨(zqa hg hm (zcA h.1 zdz hs0) hs).imp fun σ H R=>by
 rintro ⟨G₀,H₀,G,ρ,ds,A,h,k⟩
 unfold itE at h
 obtain ⟨d,hd,h⟩:=oBd h
 refine ⟨G₀,H₀,G,ρ,d,A,hd,fun v G' H' s r=>?_⟩
 unfold ztC at h
 split at h
 ·cases h
  obtain ⟨a,vs,rfl,ha,rv⟩:=r.lst_inv
  exact ⟨a,rfl,⟨vs,.inl (.inl (s.gh _ _ ha))⟩,k _ G' H' s (zlf (.inl (.inl ha)) rv)⟩
 ·cases h
  obtain ⟨a,rfl,ha⟩:=r.scr_inv
  exact ⟨a,rfl,⟨_,s.gh.seq ha⟩,k _ G' H' s (zlf ha (Reps.ints _))⟩
 ·cases h⟩
theorem zjC :Yd Γ K (Itr lo n) G ((List.range n).map fun i:Nat=>D.int (lo+i)):=by
 refine ⟨fun i d G2 H2 hd g1 g2=>?_,fun G2 H2 g1 g2=>?_⟩
 ·rw [qj] at hd
  obtain ⟨j,hj,rfl⟩:=oMd hd
  have hi:i < n:=by
   have:=(List.getElem?_eq_some_iff.mp hj).1
   simpa using this
  have e:j=i:=by simpa [hi] using hj.symm
  subst e
  refine ⟨hi,fun x H3 ⟨e1,e2⟩=>?_⟩
  subst e1
  subst e2
  exact ⟨G2,.refl g2,.int _⟩
 ·show n<=_
  simp
def ziK:List D->Option (List D)
 | [.int j]=>if -(2 ^ 62)<=j/\j < 2 ^ 62 then some ((List.range j.toNat).map fun i:Nat=>D.int (0+i)) else none
 | _=>none
def znP:List D->Option (List D)
 | [.int i,.int j]=>if -(2 ^ 62)<=i/\i < 2 ^ 62 /\ -(2 ^ 62)<=j/\j < 2 ^ 62 then some ((List.range (j - i).toNat).map fun k:Nat=>D.int (i+k)) else none
 | _=>none
def itR (g:List D->Option (List D)) (fr:FA):FA:=fun ρ=>(fr ρ).bind g
theorem zb1 (hg:Gl X "range") (hm:X.mg "range"=none) (h:DA Γ X [a] fr) (hs:starEach [a] X.env=[(false,eval a X.env)]:=by rfl):DI Γ X tg (.Call (.Name "range" p) [a] [] pos) (itR ziK fr):=⟨(zlO hg hm h.1 hs).imp fun σ H R=>by
 rintro ⟨G₀,H₀,G,ρ,ds,A,h,k⟩
 unfold itR at h
 obtain ⟨d,hd,h⟩:=oBd h
 refine ⟨G₀,H₀,G,ρ,d,A,hd,fun v G' H' s r=>?_⟩
 unfold ziK at h
 split at h
 ·split at h
  ·rename_i hz
   cases h
   obtain ⟨v,rfl,r1⟩:=r.one
   cases r1.int_inv
   exact ⟨_,rfl,hz.1,hz.2,k _ G' H' s zjC⟩
  ·cases h
 ·cases h⟩
theorem zit (hg:Gl X "range") (hm:X.mg "range"=none) (h:DA Γ X [a,b] fr) (hs:starEach [a,b] X.env=[(false,eval a X.env),(false,eval b X.env)]:=by rfl) (hs2:starEach [b] X.env=[(false,eval b X.env)]:=by rfl):DI Γ X tg (.Call (.Name "range" p) [a,b] [] pos) (itR znP fr):=⟨(zlN hg hm h.1 hs hs2).imp fun σ H R=>by
 rintro ⟨G₀,H₀,G,ρ,ds,A,h,k⟩
 unfold itR at h
 obtain ⟨d,hd,h⟩:=oBd h
 refine ⟨G₀,H₀,G,ρ,d,A,hd,fun v G' H' s r=>?_⟩
 unfold znP at h
 split at h
 ·split at h
  ·rename_i hz
   cases h
   obtain ⟨v,u,rfl,r1,r2⟩:=r.two
   cases r1.int_inv
   cases r2.int_inv
   exact ⟨_,_,rfl,hz,k _ G' H' s zjC⟩
  ·cases h
 ·cases h⟩
abbrev FG:=D->zaI->Option zaI
abbrev FGs:=List D->zaI->Option zaI
def TDg (Γ:Cn) (K:PySem.W.Frag) (g:FG):TG:=fun v σ H Q=>∃ G₀ H₀ G ρ d ρ',At Γ K G₀ H₀ G H ρ σ/\Rep Γ K G v d/\g d ρ=some ρ'/\∀ σ',At Γ K G₀ H₀ G H ρ' σ'->Q σ' H
def zwk (Γ:Cn) (K:PySem.W.Frag) (g:FGs):TGs:=fun vs σ H Q=>∃ G₀ H₀ G ρ ds ρ',At Γ K G₀ H₀ G H ρ σ/\Reps Γ K G vs ds/\g ds ρ=some ρ'/\∀ σ',At Γ K G₀ H₀ G H ρ' σ'->Q σ' H
structure DG (Γ:Cn) (X:Cx) (tg:Expr) (g:FG):Prop where
 pg:PG X tg (TDg Γ X.K g)
 no:∀ d ρ ρ',g d ρ=some ρ'->ze6 ρ->ze6 ρ'
structure DGs (Γ:Cn) (X:Cx) (ts:List Expr) (g:FGs):Prop where
 pg:PGs X ts (zwk Γ X.K g)
 no:∀ d ρ ρ',g d ρ=some ρ'->ze6 ρ->ze6 ρ'
theorem PG.imp {t t':TG} (h:PG X tg t) (i:∀ v σ H Q,t' v σ H Q->t v σ H Q):PG X tg t':=fun pins s σ H v u Q I r q=>h pins s σ H v u Q I r (i _ _ _ _ q)
theorem PGs.imp {t t':TGs} (h:PGs X ts t) (i:∀ v σ H Q,t' v σ H Q->t v σ H Q):PGs X ts t':=fun pins s σ H v u Q I r q=>h pins s σ H v u Q I r (i _ _ _ _ q)
def zau (i:Nat):FG:=fun d ρ=>some (ρ.set i (some (.sh d)))
theorem zl2 (h:ze6 ρ):ze6 (ρ.set i (some (.sh d))):=fun j ds e=>by
 by_cases hj:j=i
 ·subst hj
  rw [List.getElem?_set,qV rfl] at e
  split at e <;> cases e
  exact ⟨_,rfl⟩
 ·rw [List.getElem?_set_ne (Ne.symm hj)] at e
  exact h j ds e
theorem zam (i:Nat) (hN:X.N.Nodup) (hi:X.N[i]?=some x:=by rfl) (hx:Loc X.env.scope x:=by first | exact Or.inl rfl | exact Or.inr rfl) (hf:X.fn x=true\/X.env.scope.names.lookup x=some .local:=by first | exact .inl rfl | exact .inr rfl | assumption):DG Γ X (.Name x pos) (zau i):=by
 refine ⟨(zqc hN hi hx hf).imp fun v σ H Q=>?_,fun d ρ ρ' e h=>?_⟩
 ·rintro ⟨G₀,H₀,G,ρ,d,ρ',A,r,h,k⟩
  cases h
  exact k _ (A.setSh r)
 ·cases e
  exact zl2 h
def zbN:FGs:=fun ds ρ=>match ds with
 | []=>some ρ
 | _=>none
def zaq (g:FG) (gs:FGs):FGs:=fun ds ρ=>match ds with
 | d::r=>(g d ρ).bind fun ρ'=>gs r ρ'
 | _=>none
theorem zc5:DGs Γ X [] zbN:=by
 refine ⟨zqb.imp fun vs σ H Q=>?_,fun d ρ ρ' e h=>?_⟩
 ·rintro ⟨G₀,H₀,G,ρ,ds,ρ',A,r,h,k⟩
  unfold zbN at h
  split at h <;> cases h
  cases r
  exact ⟨rfl,k σ A⟩
 ·unfold zbN at e
  split at e <;> cases e
  exact h
theorem zaE {g:FG} {gs:FGs} (h1:DG Γ X e g) (h2:DGs Γ X ts gs) (hs:(assignEach (e::ts) X.env).map (·.2)=assign e X.env::(assignEach ts X.env).map (·.2):=by rfl):DGs Γ X (e::ts) (zaq g gs):=by
 refine ⟨(znY h1.pg h2.pg hs).imp fun vs σ H Q=>?_,fun ds ρ ρ' e h=>?_⟩
 ·rintro ⟨G₀,H₀,G,ρ,ds,ρ',A,r,h,k⟩
  unfold zaq at h
  split at h
  ·obtain ⟨ρ1,h1,h⟩:=oBd h
   cases r with
   | cons r1 r2=>exact ⟨_,_,rfl,G₀,H₀,G,ρ,_,ρ1,A,r1,h1,fun σ1 A1=>⟨G₀,H₀,G,ρ1,_,ρ',A1,r2,h,k⟩⟩
  ·cases h
 ·unfold zaq at e
  split at e
  ·obtain ⟨ρ1,e1,e⟩:=oBd e
   exact h2.no _ _ _ e (h1.no _ _ _ e1 h)
  ·cases e
def zbS (n:Nat) (gs:FGs):FG:=fun d ρ=>match d with
 | .tup ds=>if ds.length=n then gs ds ρ else none
 | _=>none
theorem zeD {k:Nat} {gs:FGs} (hc:X.calm=true) (h:DGs Γ X ts gs) (hn:(assignEach ts X.env).length=n:=by rfl) (hst:(assignEach ts X.env).findIdx? (·.1)=none:=by rfl):DG Γ X (.Tuple ts k pos) (zbS n gs):=by
 refine ⟨(zsD hc h.pg hn hst).imp fun v σ H Q=>?_,fun ds ρ ρ' e q=>?_⟩
 ·rintro ⟨G₀,H₀,G,ρ,d,ρ',A,r,h,k⟩
  unfold zbS at h
  split at h
  ·split at h
   ·rename_i hl
    obtain ⟨a,vs,rfl,ha,rv⟩:=r.tup_inv
    exact ⟨a,vs,rfl,.inl (.inl (A.gh _ _ ha)),by rw [rv.length];exact hl,G₀,H₀,G,ρ,_,ρ',A,rv,h,k⟩
   ·cases h
  ·cases h
 ·unfold zbS at e
  split at e
  ·split at e
   ·exact h.no _ _ _ e q
   ·cases e
  ·cases e
noncomputable def zbr (g:FG) (ft:FT) (fe:FE):List D->zaI->Option (List D)
 | [],_=>some []
 | x::xs,ρ=>(g x ρ).bind fun ρ1=>(ft ρ1).bind fun b=>if b=true then (fe ρ1).bind fun d=>(zbr g ft fe xs ρ1).map (d::·) else zbr g ft fe xs ρ1
def zeA (fv:List (Option Nat)) (ρ:zaI):zaI:=fv.map fun o=>o.bind fun j=>match ρ[j]? with
 | some (some (.sh d))=>some (.sh d)
 | _=>none
def zaw (fi:FA) (g:FG) (ft:FT) (fe:FE) (fv:List (Option Nat)):FA:=fun ρ=>(fi ρ).bind fun xs=>if xs.length<=sizeLine then zbr g ft fe xs (zeA fv ρ) else none
structure DTs (Γ:Cn) (X:Cx) (es:List Expr) (f:FT):Prop where
 out:PTs X es (TDt Γ X.K f)
theorem PTs.imp {t t':TT} (h:PTs X es t) (i:∀ σ H Q,t' σ H Q->t σ H Q):PTs X es t':=fun pins s σ H Q I q=>h pins s σ H Q I (i _ _ _ q)
def tT:FT:=fun _=>some true
theorem zaF:DTs Γ X [] tT:=⟨zp4.imp fun σ H Q=>by
 rintro ⟨G₀,H₀,G,ρ,b,A,h,k⟩
 cases h
 exact k G H (.refl A.gh)⟩
theorem zhw (h:DT Γ X c ft):DTs Γ X [c] ft:=⟨zp3 h.1⟩
variable {g:FG}
structure DB (Γ:Cn) (X:Cx) (N':List Str) (scope:Scope) (tg:Expr) (ifs:List Expr) (elt:Expr) (g:FG) (ft:FT) (fe:FE):Prop where
 out:∀ (cl:List (Str×Addr)) (C:Addr) (s₀:Shared) (H₀:Hp) (fp:List Addr),DG Γ (zdG X N' scope cl C s₀ H₀ fp) tg g/\DTs Γ (zdG X N' scope cl C s₀ H₀ fp) ifs ft/\DE Γ (zdG X N' scope cl C s₀ H₀ fp) elt fe
theorem DB.pb (h:DB Γ X N' scope tg ifs elt g ft fe):PB X N' scope tg ifs elt (TDg Γ X.K g) (TDt Γ X.K ft) (TD Γ X.K fe):=fun cl C s₀ H₀ fp=>⟨(h.1 cl C s₀ H₀ fp).1.pg,(h.1 cl C s₀ H₀ fp).2.1.1,(h.1 cl C s₀ H₀ fp).2.2.1⟩
theorem ztx (A:At Γ K G₀ H₀ G H ρ σ):At Γ K G H G H (zeA fv ρ) (zmB fv σ)/\ze6 (zeA fv ρ):=by
 have no:ze6 (zeA fv ρ):=fun i ds e=>by
  unfold zeA at e
  rw [qj] at e
  obtain ⟨o,ho,e⟩:=oMd e
  cases o with
  | none=>cases e
  | some j =>
   simp only [qa] at e
   split at e <;> cases e
   exact ⟨_,rfl⟩
 refine ⟨⟨.refl A.gh,.ofSh (by simp [zeA,zmB]) no fun i d e=>?_⟩,no⟩
 unfold zeA at e
 unfold zmB
 rw [qj] at e ⊢
 obtain ⟨o,ho,e⟩:=oMd e
 rw [ho]
 cases o with
 | none=>cases e
 | some j =>
  simp only [qa] at e
  split at e
  ·rename_i d' hd'
   cases e
   obtain ⟨v,h1,h2⟩:=A.env.sh j d hd'
   exact ⟨v,by simp [h1],h2⟩
  ·cases e
theorem zhA (no:∀ d ρ ρ',g d ρ=some ρ'->ze6 ρ->ze6 ρ'):∀ σ H Q,TDo Γ X.K (zaw fi g ft fe fv) σ H Q->tLC (TDi Γ X.K fi) (TDg Γ X.K g) (TDt Γ X.K ft) (TD Γ X.K fe) fv σ H Q:=by
 rintro σ H Q ⟨G₀,H₀,G,ρ,ds,A,h,k⟩
 unfold zaw at h
 obtain ⟨xs,hx,h⟩:=oBd h
 split at h
 case isFalse=>cases h
 rename_i hz
 refine ⟨G₀,H₀,G,ρ,xs,A,hx,fun J G1 H1 s1 Y acc hacc=>?_⟩
 have gacc:G1 acc=none:=s1.gh.free hacc
 obtain ⟨A0,no0⟩:=ztx (fv:=fv) (A.step s1)
 refine ⟨fun i m ys σ' H'=>m=xs.length - i/\i<=xs.length/\ys.length<=i/\∃ G' ρ' done zcK,At Γ X.K G1 H1 G' H' ρ' σ'/\ze6 ρ'/\H' acc=some (.lst ys)/\G' acc=none/\Reps Γ X.K G' ys done/\zbr g ft fe (xs.drop i) ρ'=some zcK/\done++zcK=ds,?_,?_⟩
 ·refine ⟨xs.length,rfl,Nat.zero_le _,qu _,G1,zeA fv ρ,[],ds,?_,no0,zak,gacc,.nil,by rw [List.drop_zero];exact h,rfl⟩
  have sn:=Step.newOwn (o:=.lst []) s1.gh hacc
  exact ⟨sn,.ofSh A0.env.len no0 A0.env.sh⟩
 ·rintro i m ys σ' H' ⟨hm,hi,hyi,G',ρ',done,zcK,A',no',hacc',gacc',ry,hr,hd⟩
  subst hm
  refine ⟨hacc',?_⟩
  by_cases hlt:i < xs.length
  ·right
   have hxi:xs[i]?=some xs[i]:=by simp [hlt]
   obtain ⟨go,yl⟩:=Y.go i _ G' H' hxi A'.st.gg A'.gh
   refine ⟨go,fun x H2 hy=>?_⟩
   obtain ⟨G2,s2,r2⟩:=yl x H2 hy
   have A2:=A'.step s2
   have hdr:xs.drop i=xs[i]::xs.drop (i+1):=List.drop_eq_getElem_cons hlt
   rw [hdr] at hr
   unfold zbr at hr
   obtain ⟨ρ1,h1,hr⟩:=oBd hr
   obtain ⟨b,h2,hr⟩:=oBd hr
   refine ⟨G1,H1,G2,ρ',_,ρ1,A2,r2,h1,fun σ2 A3=>⟨G1,H1,G2,ρ1,b,A3,h2,fun G4 H4 s4=>?_⟩⟩
   have no1:=no _ _ _ h1 no'
   have hH4:H4 acc=some (.lst ys):=s4.hh _ _ (s2.hh _ _ hacc')
   have hG4:G4 acc=none:=(s4.out _ _ (s2.hh _ _ hacc')).trans ((s2.out _ _ hacc').trans gacc')
   cases b with
   | false =>
    rw [qW qq] at hr
    refine zoq ⟨xs.length - (i+1),by omega,rfl,hlt,by omega,G4,ρ1,done,zcK,A3.step s4,no1,hH4,hG4,(ry.mono s2.gg).mono s4.gg,hr,hd⟩
   | true =>
    rw [qV rfl] at hr
    obtain ⟨d,h3,hr⟩:=oBd hr
    obtain ⟨zs,h5,rfl⟩:=oMd hr
    refine zop ⟨G1,H1,G4,ρ1,d,A3.step s4,h3,fun v G5 H5 s5 r5=>?_⟩
    have A5:=(A3.step s4).step s5
    have hH5:H5 acc=some (.lst ys):=s5.hh _ _ hH4
    have hG5:G5 acc=none:=(s5.out _ _ hH4).trans hG4
    refine ⟨hH5,by omega,xs.length - (i+1),by omega,rfl,hlt,by rw [qi,List.length_singleton];omega,G5,ρ1,done++[d],zs,?_,no1,zak,hG5,((((ry.mono s2.gg).mono s4.gg).mono s5.gg).append (.cons r5 .nil)),h5,by rw [qv];exact hd⟩
    refine ⟨⟨fun b o e=>?_,A5.st.gg,fun b o e=>?_,A5.st.out⟩,.ofSh A5.env.len no1 A5.env.sh⟩
    ·rw [zaj (zal e hacc)];exact A5.st.hh b o e
    ·rw [zaj (zal e hG5)];exact A5.st.gh b o e
  ·left
   have e:i=xs.length:=by omega
   subst e
   rw [List.drop_length] at hr
   cases hr
   rw [List.append_nil] at hd
   subst hd
   refine ⟨Y.stop G' H' A'.st.gg A'.gh,?_⟩
   have hf:H'=upd (fun b=>if b=acc then none else H' b) acc (.lst ys):=by
    funext b
    by_cases hb:b=acc
    ·subst hb;rw [zak];exact hacc'
    ·rw [zaj hb,qW hb]
   rw [hf]
   refine k acc ys G' (fun b=>if b=acc then none else H' b) (s1.trans ⟨fun b o e=>?_,A'.st.gg,fun b o e=>?_,A'.st.out⟩) (qV rfl) ry
   ·show (if b=acc then none else H' b)=some o
    rw [qW (zal e hacc)];exact A'.st.hh b o e
   ·show (if b=acc then none else H' b)=some o
    rw [qW (zal e gacc')];exact A'.st.gh b o e
theorem zbT (hc:X.calm=true) (S:CompScope X scope) (F:FvOk X N' scope fv) (hi:DI Γ X tg iter fi) (hb:DB Γ X N' scope tg ifs elt g ft fe) (hs:∀ x,foldedSetIterable iter X.env x=pure x:=by intro _;rfl) :
  DO Γ X (.ListComp elt [⟨tg,iter,ifs,0⟩] scope pos) (zaw fi g ft fe fv):=⟨(zuR hc S F hi.1 hb.pb hs).imp (zhA (hb.1 [] 0 X.s₀ X.H₀ []).1.no)⟩
end
variable {g g':FS} {sts sa sb:List Stmt} {gg:FG} {vp:Pos}
section
variable {a:Expr} {fr:FA}
def zbd:FS:=fun ρ=>some (.nx,ρ)
def zar (g g':FS):FS:=fun ρ=>(g ρ).bind fun r=>match r.1 with
 | .nx=>g' r.2
 | fl=>some (fl,r.2)
theorem zas:DSs Γ X [] zbd:=⟨zp6.imp fun E σ H=>by
 rintro ⟨G₀,H₀,G,ρ,fl,ρ',A,h,k⟩
 cases h
 exact k σ G H (.refl _) A⟩
theorem zag (h:DS Γ X st g):DSs Γ X [st] g:=⟨zlG h.1⟩
theorem zaf (h1:DS Γ X st g) (h2:DSs Γ X sts g'):DSs Γ X (st::sts) (zar g g'):=⟨(zjQ h1.1 h2.1).imp fun E σ H=>by
 rintro ⟨G₀,H₀,G,ρ,fl,ρ',A,h,k⟩
 unfold zar at h
 obtain ⟨⟨fl1,ρ1⟩,h1,h⟩:=oBd h
 refine ⟨G₀,H₀,G,ρ,fl1,ρ1,A,h1,fun σ1 G1 H1 sm A1=>?_⟩
 cases fl1 with
 | nx=>exact ⟨G₀,H₀,G1,ρ1,fl,ρ',A1,h,fun σ' G' H' sm' A'=>k σ' G' H' (sm.trans sm') A'⟩
 | bk=>cases h;exact k σ1 G1 H1 sm A1
 | ct=>cases h;exact k σ1 G1 H1 sm A1
 | rt d=>cases h;exact k σ1 G1 H1 sm A1
 | ow d=>cases h;exact k σ1 G1 H1 sm A1
 | nw d=>cases h;exact k σ1 G1 H1 sm A1
 | od d=>cases h;exact k σ1 G1 H1 sm A1⟩
def zaJ (f:FE):FS:=fun ρ=>(f ρ).map fun d=>(.rt d,ρ)
theorem zao (h:DE Γ X e f):DS Γ X (.Return (some e) pos) (zaJ f):=⟨(zlH h.1).imp fun E σ H=>by
 rintro ⟨G₀,H₀,G,ρ,fl,ρ',A,h,k⟩
 unfold zaJ at h
 obtain ⟨d,hd,h⟩:=oMd h
 cases h
 exact ⟨G₀,H₀,G,ρ,d,A,hd,fun v G' H' s r=>k σ G' H' s.gg (A.step s) v r⟩⟩
def zbq (i:Nat) (f:FE):FS:=fun ρ=>(f ρ).map fun d=>(.nx,ρ.set i (some (.sh d)))
theorem zaD (i:Nat) (hN:X.N.Nodup) (h:DE Γ X e f) (hi:X.N[i]?=some x:=by rfl) (hx:Loc X.env.scope x:=by first | exact Or.inl rfl | exact Or.inr rfl) (hs:swapsWith e (some (.Name x pos')) pos.line X.env=pure false:=by rfl) (hf:X.fn x=true\/X.env.scope.names.lookup x=some .local:=by first | exact .inl rfl | exact .inr rfl | assumption) :
  DS Γ X (.Assign [.Name x pos'] e pos) (zbq i f):=⟨(zgN hN hi hx h.1 hs hf).imp fun E σ H=>by
 rintro ⟨G₀,H₀,G,ρ,fl,ρ',A,h,k⟩
 unfold zbq at h
 obtain ⟨d,hd,h⟩:=oMd h
 cases h
 exact ⟨G₀,H₀,G,ρ,d,A,hd,fun v G' H' s r=>k _ G' H' s.gg ((A.step s).setSh r)⟩⟩
def zdV (i:Nat) (f:FA):FS:=fun ρ=>(f ρ).map fun d=>(.nx,ρ.set i (some (.own d)))
theorem zpc :∀ E σ H,TDs Γ X.K (zdV i fr) E σ H->zrD (TDo Γ X.K fr) (zkS i) E σ H:=by
 rintro E σ H ⟨G₀,H₀,G,ρ,fl,ρ',A,h,k⟩
 unfold zdV at h
 obtain ⟨d,hd,h⟩:=oMd h
 cases h
 exact ⟨G₀,H₀,G,ρ,d,A,hd,fun p vs G' H' s hp r=>k _ G' _ s.gg ((A.step s).setOwn hp r)⟩
theorem zcD (i:Nat) (hN:X.N.Nodup) (h:DO Γ X e fr) (hi:X.N[i]?=some x:=by rfl) (hx:Loc X.env.scope x:=by first | exact Or.inl rfl | exact Or.inr rfl) (hs:swapsWith e (some (.Name x pos')) pos.line X.env=pure false:=by rfl) (hf:X.fn x=true\/X.env.scope.names.lookup x=some .local:=by first | exact .inl rfl | exact .inr rfl | assumption) :
  DS Γ X (.Assign [.Name x pos'] e pos) (zdV i fr):=⟨(zgN hN hi hx h.1 hs hf).imp zpc⟩
theorem zsd :∀ E σ H,TDs Γ X.K (zbq i (zbb fr)) E σ H->zrD (TDo Γ X.K fr) (zkS i) E σ H:=by
 rintro E σ H ⟨G₀,H₀,G,ρ,fl,ρ',A,h,k⟩
 unfold zbq zbb at h
 obtain ⟨d,hd,h⟩:=oMd h
 obtain ⟨ds,hd',rfl⟩:=oMd hd
 cases h
 refine ⟨G₀,H₀,G,ρ,ds,A,hd',fun p vs G' H' s hp r=>?_⟩
 have s2:=Step.new (o:=.lst vs) s.gh hp
 exact k _ _ _ (s.gg.trans s2.gg) (((A.step s).step s2).setSh (.lst zak (r.mono s2.gg)))
theorem zoC (i:Nat) (hN:X.N.Nodup) (hc:X.calm=true) (S:CompScope X scope) (F:FvOk X N' scope fv) (hi:DI Γ X tg iter fi) (hb:DB Γ X N' scope tg ifs elt gg ft fe)
  (hy:X.N[i]?=some y:=by rfl) (hyl:X.env.scope.names.lookup y=some .local:=by rfl) (hsw:swapsWith (.ListComp elt [⟨tg,iter,ifs,0⟩] scope pos) (some (.Name y py)) spos.line X.env=pure true:=by rfl) (hs:∀ x,foldedSetIterable iter X.env x=pure x:=by intro _;rfl) :
  DS Γ X (.Assign [.Name y py] (.ListComp elt [⟨tg,iter,ifs,0⟩] scope pos) spos) (zbq i (zbb (zaw fi gg ft fe fv))):=⟨(zsv hN hy hyl hc S F hi.1 hb.pb hsw hs).imp fun E σ H q=>zhA (hb.1 [] 0 X.s₀ X.H₀ []).1.no σ H _ (zsd E σ H q)⟩
def zek (i:Nat) (f:FE):FS:=fun ρ=>match ρ[i]? with
 | some (some (.own ds))=>(f ρ).bind fun d=>if ds.length < sizeLine then some (.nx,ρ.set i (some (.own (ds++[d])))) else none
 | _=>none
theorem zbA (i:Nat) (h:DE Γ X e f) (hN:X.N[i]?=some x:=by rfl) (hv:Vis X.env.scope x:=by first | exact Or.inl rfl | exact Or.inr (Or.inl rfl) | exact Or.inr (Or.inr rfl)) (hd:(x==("__debug__":Str))=false:=by decide)
  (hcd:(x==("__classdict__":Str))=false:=by decide)
  (hbase:attributeBase (.Name x vp) "append" X.env (eval (.Name x vp) X.env)=eval (.Name x vp) X.env:=by rfl)
  (hfew:((backTo cpos (starEach [e] X.env)).all (fun x=>!x.1) && (backToKw cpos (keywordEach [] X.env)).all (fun x=>x.1.isSome)
   && decide ([e].length+([]:List Keyword).length+(if ([]:List Keyword).isEmpty then 0 else 1) < 30))=true:=by rfl)
  (hline:(apos.endLine==cpos.line)=true:=by rfl) (hs:starEach [e] X.env=(false,eval e X.env)::starEach [] X.env:=by rfl) (hplain:(backTo cpos (starEach [] X.env)).any (·.1)=false:=by rfl)
  (hsw:swapsWith (.Call (.Attribute (.Name x vp) "append" apos) [e] [] cpos) none pos.line X.env=pure false:=by rfl) :
  DS Γ X (.Expr (.Call (.Attribute (.Name x vp) "append" apos) [e] [] cpos) pos) (zek i f):=⟨(zhi (zn5 PySem.F.plainAttrs_list PySem.F.slot_list_append PySem.F.type_list_append zf3 (zds hN hv hd hcd) (zcA h.1 zdz hs) hbase hfew hline hs hplain) hsw).imp fun E σ H=>by
  rintro ⟨G₀,H₀,G,ρ,fl,ρ',A,h,k⟩
  unfold zek at h
  split at h
  ·rename_i ds hi
   obtain ⟨d,hd,h⟩:=oBd h
   split at h
   ·rename_i hz
    cases h
    obtain ⟨a,vs,h1,h2,h3,h4,h5⟩:=A.env.own i ds hi
    refine ⟨.ref a,h1,.inl ⟨rfl,vs,.inl (.inl h4)⟩,G₀,H₀,G,ρ,d,A,hd,fun v G1 H1 s1 r1=>?_⟩
    have A1:=A.step s1
    refine ⟨a,vs,v,rfl,rfl,s1.hh _ _ h4,by rw [h5.length];exact hz,?_⟩
    exact k σ G1 _ s1.gg (A1.chOwn hi h1 ((h5.mono s1.gg).append (.cons r1 .nil)))
   ·cases h
  ·cases h⟩
def zeN (i:Nat) (g:FS):FS:=fun ρ=>match ρ[i]? with
 | some (some (.own ds))=>g (ρ.set i (some (.sh (.lst ds))))
 | _=>none
theorem TDs.frz (i:Nat):∀ E σ H,TDs Γ X.K (zeN i g) E σ H->TDs Γ X.K g E σ H:=by
 rintro E σ H ⟨G₀,H₀,G,ρ,fl,ρ',A,h,k⟩
 unfold zeN at h
 split at h
 ·rename_i ds hi
  obtain ⟨G',sm,A'⟩:=A.freeze hi
  exact ⟨G₀,H₀,G',_,fl,ρ',A',h,fun σ1 G1 H1 sm1 A1=>k σ1 G1 H1 (sm.trans sm1) A1⟩
 ·cases h
theorem zco (i:Nat) (h:DSs Γ X sts g):DSs Γ X sts (zeN i g):=⟨h.1.imp (TDs.frz i)⟩
def sIf (ft:FT) (g g':FS):FS:=fun ρ=>(ft ρ).bind fun c=>if c=true then g ρ else g' ρ
theorem za0 (hc:DT Γ X c ft) (ha:DSs Γ X sa g) (hb:DSs Γ X sb g'):DS Γ X (.If c sa sb pos) (sIf ft g g'):=⟨(zsw hc.1 ha.1 hb.1).imp fun E σ H=>by
 rintro ⟨G₀,H₀,G,ρ,fl,ρ',A,h,k⟩
 unfold sIf at h
 obtain ⟨x,hx,h⟩:=oBd h
 refine ⟨G₀,H₀,G,ρ,x,A,hx,fun G1 H1 s1=>?_⟩
 cases x with
 | true=>exact zop ⟨G₀,H₀,G1,ρ,fl,ρ',A.step s1,by simpa using h,fun σ2 G2 H2 sm2 A2=>k σ2 G2 H2 (s1.gg.trans sm2) A2⟩
 | false=>exact zoq ⟨G₀,H₀,G1,ρ,fl,ρ',A.step s1,by simpa using h,fun σ2 G2 H2 sm2 A2=>k σ2 G2 H2 (s1.gg.trans sm2) A2⟩⟩
def zuM (gg:FG) (f:FE):FS:=fun ρ=>(f ρ).bind fun d=>(gg d ρ).map fun ρ'=>(.nx,ρ')
theorem ztG (h:DE Γ X e f) (hg:DG Γ X tg gg) (hs:swapsWithSole [tg] e pos.line X.env=pure false:=by rfl) (hw:swappedStores [tg] e X.env=pure none:=by rfl)
  (h1:(assignEach [tg] X.env).map (·.2)=[assign tg X.env]:=by rfl):DS Γ X (.Assign [tg] e pos) (zuM gg f):=⟨(zsx h.1 hg.pg hs hw h1).imp fun E σ H=>by
 rintro ⟨G₀,H₀,G,ρ,fl,ρ',A,h,k⟩
 unfold zuM at h
 obtain ⟨d,hd,h⟩:=oBd h
 obtain ⟨ρ1,h1,h⟩:=oMd h
 cases h
 exact ⟨G₀,H₀,G,ρ,d,A,hd,fun v G' H' s r=>⟨G₀,H₀,G',ρ,d,ρ',A.step s,r,h1,fun σ' A'=>k σ' G' H' s.gg A'⟩⟩⟩
noncomputable def zfI (gg:FG) (body:FS):List D->FS
 | [],ρ=>some (.nx,ρ)
 | x::xs,ρ=>(gg x ρ).bind fun ρ1=>(body ρ1).bind fun r=>match r.1 with
  | .nx=>zfI gg body xs r.2
  | .ct=>zfI gg body xs r.2
  | .bk=>some (.nx,r.2)
  | .rt d=>some (.rt d,r.2)
  | .ow d=>some (.ow d,r.2)
  | .nw d=>some (.nw d,r.2)
  | .od d=>some (.od d,r.2)
def zcS (fi:FA) (gg:FG) (body:FS):FS:=fun ρ=>(fi ρ).bind fun xs=>zfI gg body xs ρ
theorem zbG (hp:PassesOwn (model X.prog X.w) X.A X.env X.xe) (hc:X.calm=true) (hi:DI Γ X tg iter fi) (hg:DG Γ X tg gg) (hb:DSs Γ X body g) (hs:∀ x,foldedSetIterable iter X.env x=pure x:=by intro _;rfl) :
  DS Γ X (.For tg iter body [] pos) (zcS fi gg g):=⟨(zo7 hp hc hi.1 hg.pg hb.1 hs).imp fun E σ H=>by
 rintro ⟨G₀,H₀,G,ρ,fl,ρ',A,h,k⟩
 unfold zcS at h
 obtain ⟨xs,hx,h⟩:=oBd h
 refine ⟨G₀,H₀,G,ρ,xs,A,hx,fun J G1 H1 s1 Y=>?_⟩
 refine ⟨fun i m σ' H'=>m=xs.length - i/\i<=xs.length/\∃ G' ρ1,zbh G1 G'/\At Γ X.K G₀ H₀ G' H' ρ1 σ'/\zfI gg g (xs.drop i) ρ1=some (fl,ρ'),⟨xs.length,rfl,Nat.zero_le _,G1,ρ,.refl _,A.step s1,by rw [List.drop_zero];exact h⟩,?_⟩
 rintro i m σ' H' ⟨rfl,hi,G',ρ1,sm,A',hr⟩
 by_cases hlt:i < xs.length
 ·right
  have hxi:xs[i]?=some xs[i]:=by simp [hlt]
  obtain ⟨go,yl⟩:=Y.go i _ G' H' hxi sm A'.gh
  have hdr:xs.drop i=xs[i]::xs.drop (i+1):=List.drop_eq_getElem_cons hlt
  rw [hdr] at hr
  unfold zfI at hr
  obtain ⟨ρ2,h2,hr⟩:=oBd hr
  obtain ⟨⟨fl3,ρ3⟩,h3,hr⟩:=oBd hr
  refine ⟨go,fun σ3 H3=>(fl3=.nx\/fl3=.ct)/\∃ G3,zbh G1 G3/\At Γ X.K G₀ H₀ G3 H3 ρ3 σ3,fun σ3 H3 ⟨hfl,G3,sm3,A3⟩=>?_,fun x H2 hy=>?_⟩
  ·refine ⟨xs.length - (i+1),by omega,rfl,hlt,G3,ρ3,sm3,A3,?_⟩
   rcases hfl with e | e <;> subst e <;> exact hr
  ·obtain ⟨G2,s2,r2⟩:=yl x H2 hy
   refine ⟨G₀,H₀,G2,ρ1,_,ρ2,A'.step s2,r2,h2,fun σ2 A2=>⟨G₀,H₀,G2,ρ2,fl3,ρ3,A2,h3,fun σ3 G3 H3 sm3 A3=>?_⟩⟩
   have smm:zbh G1 G3:=(sm.trans s2.gg).trans sm3
   cases fl3 with
   | nx=>exact ⟨.inl rfl,G3,smm,A3⟩
   | ct=>exact ⟨.inr rfl,G3,smm,A3⟩
   | bk=>cases hr;exact k σ3 G3 H3 (s1.gg.trans smm) A3
   | rt d=>cases hr;exact k σ3 G3 H3 (s1.gg.trans smm) A3
   | ow d=>cases hr;exact k σ3 G3 H3 (s1.gg.trans smm) A3
   | nw d=>cases hr;exact k σ3 G3 H3 (s1.gg.trans smm) A3
   | od d=>cases hr;exact k σ3 G3 H3 (s1.gg.trans smm) A3
 ·left
  have e:i=xs.length:=by omega
  subst e
  rw [List.drop_length] at hr
  cases hr
  exact ⟨Y.stop G' H' sm A'.gh,k σ' G' H' (s1.gg.trans sm) A'⟩⟩
end
variable {fk:FE} {F:List D->Option D}
section
variable {a:Expr} {fw:FE} {fr:FA}
def spF (Γ:Cn) (K:PySem.W.Frag) (n:Nat) (F:List D->Option D):Sp:=fun vs H Q _=>∃ G ds d,zbh G H/\Reps Γ K G vs ds/\ds.length=n/\F ds=some d/\∀ v G' H',Step G H G' H'->Rep Γ K G' v d->Q v H'
def zby (n:Nat) (g:FS):List D->Option D:=fun ds=>(g (ds.map (fun d=>some (Slot.sh d))++List.replicate n none)).bind fun r=>match r.1 with
 | .rt d=>some d
 | .nx=>some .non
 | _=>none
theorem zfU {m:Nat} (gh:zbh G H) (r:Reps Γ K G vs ds) (hm:m=N.length - vs.length):At Γ K G H G H (ds.map (fun d=>some (Slot.sh d))++List.replicate m none) (zen N vs):=by
 have no:ze6 (ds.map (fun d=>some (Slot.sh d))++List.replicate m none):=fun i es e=>by
  by_cases hi:i < ds.length
  ·rw [qx (by simpa using hi),qj] at e
   obtain ⟨d,_,e⟩:=oMd e
   cases e
   exact ⟨_,rfl⟩
  ·rw [qJ (by simpa using hi),List.getElem?_replicate] at e
   split at e <;> cases e
 refine ⟨.refl gh,.ofSh (by simp [zen,r.length,hm]) no fun i d e=>?_⟩
 by_cases hi:i < ds.length
 ·rw [qx (by simpa using hi),qj] at e
  obtain ⟨d',hd,e⟩:=oMd e
  cases e
  obtain ⟨v,hv,rv⟩:=r.get hd
  refine ⟨v,?_,rv⟩
  unfold zen
  rw [qx (by rw [qe,r.length];exact hi),qj,hv]
  rfl
 ·rw [qJ (by simpa using hi),List.getElem?_replicate] at e
  split at e <;> cases e
theorem Fun.okD {f:Addr} {k:Nat} (F:Fun K x qual st f fd) (S:FnScope N ps (zah st))
  (hbody:∀ (cdv:Value) (A:Around) (outer:List Env) (s:Shared) (H:Hp) (E:XK),Room k (A.deeper (envOfC qual (zah st) s.heap.objs.size f cdv)) ->
   DSs Γ (ziM CX0 P w K mg base N qual (zah st) f cdv A outer s H E).nox (zaV st) g):FnOk P w K mg base CX0 (k+1) f fd ps (spF Γ K ps.length (zby (N.length - ps.length) g)):=by
 refine F.ok S (fun vs H Q E h=>?_) (fun cdv A outer s H vs Q E hr h=>?_)
 ·obtain ⟨G,ds,d,_,r,hl,_⟩:=h
  rw [r.length,hl]
 ·obtain ⟨G,ds,d,gh,r,hl,hd,k⟩:=h
  refine ⟨_,(hbody cdv A outer s H E hr).1,?_⟩
  unfold zby at hd
  obtain ⟨⟨fl,ρ'⟩,hg,hd⟩:=oBd hd
  refine ⟨G,H,G,_,fl,ρ',zfU gh r (by rw [r.length,hl]),hg,fun σ' G' H' sm A'=>?_⟩
  cases fl with
  | rt d'=>cases hd;exact fun v rv=>k v G' H' A'.st rv
  | nx=>cases hd;exact k .non G' H' A'.st .non
  | bk=>cases hd
  | ct=>cases hd
  | ow d=>cases hd
  | nw d=>cases hd
  | od d=>cases hd
theorem zrj {k:Nat} {fx:Addr} (Fo:FnOk X.prog X.w X.K X.mg X.base CX0 k fx fd ps (spF Γ X.K n F)) (hr:Room k X.A) (hg:Gl X x) (hm:X.mg x=some (.ref fx)) (hk:PySem.W.keepIn X.K (.ref fx)=true) (hb:zej X.K fd ps [])
  (ha:DA Γ X (e::es) fr) (hn:∀ ρ ds,fr ρ=some ds->ds.length=n) (hdb:(x==("__debug__":Str))=false:=by decide) (he:starEach (e::es) X.env=(false,eval e X.env)::starEach es X.env:=by rfl) (hpl:(backTo pos (starEach es X.env)).any (·.1)=false:=by rfl) :
  DE Γ X (.Call (.Name x p) (e::es) [] pos) (cF F fr):=⟨(zlS Fo hr hg hm hk hb .nil zkJ ha.1 hdb he hpl).imp fun σ H Q=>by
 rintro ⟨G₀,H₀,G,ρ,d,A,h,k⟩
 unfold cF at h
 obtain ⟨ds,hd,h⟩:=oBd h
 refine ⟨G₀,H₀,G,ρ,ds,A,hd,fun vs G1 H1 s1 r1=>?_⟩
 show spF Γ X.K n F (vs++[]) H1 Q E0
 rw [List.append_nil]
 exact ⟨G1,ds,d,s1.gh,r1,hn ρ ds hd,h,fun v G' H' s r=>k v G' H' (s1.trans s) r⟩⟩
theorem zoY (h:zai ρ=some ds):ds.length=0:=by cases h;rfl
theorem zcP (hn:∀ ρ ds,fr ρ=some ds->ds.length=n):∀ ρ ds,zac fa fr ρ=some ds->ds.length=n+1:=fun ρ ds h=>by
 unfold zac at h
 obtain ⟨x,hx,h⟩:=oBd h
 obtain ⟨xs,hxs,rfl⟩:=oMd h
 rw [qh,hn ρ xs hxs]
end
structure Cal (Γ:Cn) (P:Program) (w:World) (K:PySem.W.Frag) (mg:Str->Option Value) (base:Heap) (x:Str) (n k:Nat) (F:List D->Option D):Prop where
 ex:∃ f fd ps,FnOk P w K mg base CX0 k f fd ps (spF Γ K n F)/\mg x=some (.ref f)/\PySem.W.keepIn K (.ref f)=true/\zej K fd ps []
structure Dfn (K:PySem.W.Frag) (mg:Str->Option Value) (x:Str) (st:Stmt):Prop where
 ex:∃ f fd,Fun K x x st f fd/\mg x=some (.ref f)
section
variable {fr:FA}
theorem zd2 {k:Nat} (C:Cal Γ X.prog X.w X.K X.mg X.base x n k F) (hr:Room j X.A) (hk:k<=j) (hg:Gl X x) (ha:DA Γ X (e::es) fr) (hn:∀ ρ ds,fr ρ=some ds->ds.length=n)
  (hdb:(x==("__debug__":Str))=false:=by decide) (he:starEach (e::es) X.env=(false,eval e X.env)::starEach es X.env:=by rfl) (hpl:(backTo pos (starEach es X.env)).any (·.1)=false:=by rfl) :
  DE Γ X (.Call (.Name x p) (e::es) [] pos) (cF F fr):=by
 obtain ⟨f,fd,ps,h1,h2,h3,h4⟩:=C.ex
 exact zrj h1 (hr.mono hk) hg h2 h3 h4 ha hn hdb he hpl
theorem Dfn.cal {k:Nat} (F:Dfn K mg x st) (S:FnScope N ps (zah st))
  (hb:∀ (kV doc pm:Value) (an:Option Addr) (cdv ct:Value) (us:List Value),us.length=ps.length->bindArgs (PySem.W.fnOf x x (zbW st) (zaV st) (zah st) .none kV doc pm an cdv ct) ⟨us,[]⟩=pure (ps.zip us))
  (hbody:∀ (f:Addr) (cdv:Value) (A:Around) (outer:List Env) (s:Shared) (H:Hp) (E:XK),Room k (A.deeper (envOfC x (zah st) s.heap.objs.size f cdv)) ->
   DSs Γ (ziM CX0 P w K mg base N x (zah st) f cdv A outer s H E).nox (zaV st) g):Cal Γ P w K mg base x ps.length (k+1) (zby (N.length - ps.length) g):=by
 obtain ⟨f,fd,h1,h2⟩:=F.ex
 exact ⟨f,fd,ps,h1.okD S (hbody f),h2,h1.kp,h1.binds hb⟩
theorem Dfn.mk' {h:Heap} {f:Addr} {kV:Value} (X:K.In h) (G:h.Ns mainGlobals mg) (a:PySem.W.nsIn K mainGlobals x=some (some (.ref f)))
  (l:K.lookup f=some ⟨oc,od,.func (PySem.W.fnOf x x (zbW st) (zaV st) (zah st) .none kV doc pm an cdv ct),osl⟩) (c:PySem.W.codeIn K cdv x=true) (k:PySem.W.keepIn K (.ref f)=true):Dfn K mg x st :=
 ⟨f,_,zpm l c k,PySem.W.mg_of X G a⟩
def ztQ (names:List (Str×NameKind)) (outer:List (Str×NameKind)):Bool :=
 names.all fun y=>y.2 != .cell && (y.2 != .local || names.lookup y.1==some .local) && (y.2 != .free || outer.lookup y.1==some .cell || outer.lookup y.1==some .free)
theorem CompScope.of (hk:scope.kind=.function) (h:ztQ scope.names X.env.scope.names=true):CompScope X scope:=by
 unfold ztQ at h
 rw [List.all_eq_true] at h
 refine ⟨hk,fun y hy e=>?_,fun y hy e=>?_,fun y hy e=>?_⟩
 ·have:=h y hy
  rw [e] at this
  simp at this
 ·have:=h y hy
  rw [e] at this
  simpa using this
 ·have:=h y hy
  rw [e] at this
  simpa [Env.kindOf] using this
def zty (N':List Str) (fv:List (Option Nat)) (N:List Str) (outer names:List (Str×NameKind)):Bool :=
 fv.length==N'.length && (N'.zip fv).all fun y=>match y.2 with
  | none=>true
  | some j=>N[j]?==some y.1 && (outer.lookup y.1==some .cell || outer.lookup y.1==some .free) && names.lookup y.1==some .free
theorem FvOk.of (h:zty N' fv X.N X.env.scope.names scope.names=true):FvOk X N' scope fv:=by
 unfold zty at h
 rw [Bool.and_eq_true,List.all_eq_true] at h
 obtain ⟨h1,h2⟩:=h
 refine ⟨by simpa using h1,fun i j x e1 e2=>?_⟩
 have hm:(x,some j)∈N'.zip fv:=by
  refine List.mem_iff_getElem?.mpr ⟨i,?_⟩
  rw [List.getElem?_zip_eq_some]
  exact ⟨e1,e2⟩
 have:=h2 _ hm
 simp only [Bool.and_eq_true,Bool.or_eq_true,beq_iff_eq] at this
 exact ⟨this.1.1,this.1.2,this.2⟩
end
mutual
def pdD:D->Option PyData
 | .non=>some .none
 | .bl b=>some (.bool b)
 | .int i=>some (.int i)
 | .str x=>some (.str x)
 | .tup l=>(zgt l).map PyData.tuple
 | .lst l=>(zgt l).map PyData.list
 | .scr ns=>some (.list (ns.map PyData.int))
 | _=>none
def zgt:List D->Option (List PyData)
 | []=>some []
 | d::r=>(pdD d).bind fun p=>(zgt r).map (p::·)
end
theorem zgM {h:Heap}:∀ {ns:List Int} {us:List Value},zbI (ns.map V.int) us->∃ as,ReadsAll h us (ns.map PyData.int) as
 | [],_,r=>by rw [qN] at r;cases r;exact ⟨_,.nil⟩
 | n::ns,_,r=>by
  rw [ql] at r
  cases r with
  | cons r1 r2 =>
   obtain ⟨t,e⟩:=r1
   subst e
   obtain ⟨as,q⟩:=zgM r2
   exact ⟨_,.cons (.int n t) q⟩
mutual
theorem Rep.reads (I:Inv X pins σ H s) (gh:zbh G H):∀ {v:V} {d:D} {u:Value} {p:PyData},Rep Γ X.K G v d->zbX v u->pdD d=some p->∃ as,Reads s.heap u p as
 | _,_,u,p,.non,r,h=>by cases r;rw [pdD] at h;cases h;exact ⟨_,.none⟩
 | _,_,u,p,.bl b,r,h=>by cases r;rw [pdD] at h;cases h;exact ⟨_,.bool b⟩
 | _,_,u,p,.int i,r,h=>by obtain ⟨t,rfl⟩:=r;rw [pdD] at h;cases h;exact ⟨_,.int i t⟩
 | _,_,u,p,.str x,r,h=>by obtain ⟨t,rfl⟩:=r;rw [pdD] at h;cases h;exact ⟨_,.str x t⟩
 | _,_,u,p,.ty n,r,h=>by rw [pdD] at h;cases h;all_goals (intros;contradiction)
 | _,_,u,p,.tup ha rs,r,h=>by
  cases r
  rw [pdD] at h
  obtain ⟨ps,hp,rfl⟩:=oMd h
  obtain ⟨its,rv,⟨o,e1,e2,n,e3⟩,_⟩:=I.tuple (.inl (.inl (gh _ _ ha)))
  obtain ⟨as,q⟩:=Reps.reads I gh rs rv hp
  exact ⟨_,.tuple e1 e2 e3 (by simpa using q)⟩
 | _,_,u,p,.lst ha rs,r,h=>by
  cases r
  rw [pdD] at h
  obtain ⟨ps,hp,rfl⟩:=oMd h
  obtain ⟨its,rv,⟨o,n,e1,e2,_,e3⟩,_⟩:=I.list (.inl (.inl (gh _ _ ha)))
  obtain ⟨as,q⟩:=Reps.reads I gh rs rv hp
  exact ⟨_,.list e1 e2 e3 (by simpa using q)⟩
 | _,_,u,p,.scr hs,r,h=>by
  cases r
  rw [pdD] at h
  cases h
  obtain ⟨its,rv,⟨o,n,e1,e2,_,e3⟩,_⟩:=I.list (gh.seq hs)
  obtain ⟨as,q⟩:=zgM (h:=s.heap) rv
  exact ⟨_,.list e1 e2 e3 (by simpa using q)⟩
 | _,_,u,p,.dk ha _ _,r,h=>by rw [pdD] at h;cases h;all_goals (intros;contradiction)
 | _,_,u,p,.dt ha _ _,r,h=>by rw [pdD] at h;cases h;all_goals (intros;contradiction)
 | _,_,u,p,.ins ha _ _ _,r,h=>by rw [pdD] at h;cases h;all_goals (intros;contradiction)
theorem Reps.reads (I:Inv X pins σ H s) (gh:zbh G H):∀ {vs:List V} {ds:List D} {us:List Value} {ps:List PyData},Reps Γ X.K G vs ds->zbI vs us->zgt ds=some ps->∃ as,ReadsAll s.heap us ps as
 | _,_,_,_,.nil,r,h=>by cases r;rw [zgt] at h;cases h;exact ⟨_,.nil⟩
 | _,_,_,_,.cons r1 r2,r,h=>by
  cases r with
  | cons q1 q2 =>
   rw [zgt] at h
   obtain ⟨p,hp,h⟩:=oBd h
   obtain ⟨ps,hps,rfl⟩:=oMd h
   obtain ⟨as,a1⟩:=Rep.reads I gh r1 q1 hp
   obtain ⟨bs,a2⟩:=Reps.reads I gh r2 q2 hps
   exact ⟨_,.cons a1 a2⟩
end
section
variable {a:Expr} {fr:FA}
noncomputable def eqX (x y:D):Option Bool:=(pdD x).bind fun p=>(pdD y).bind fun q=>if SeqAt.shaped p=true/\SeqAt.shaped q=true then some (PyData.eqv p q) else none
def zq1 (x y:D):Option D:=(eqX x y).map D.bl
def zqy (x y:D):Option D:=(eqX x y).map fun b=>D.bl (!b)
def rX (Γ:Cn) (K:PySem.W.Frag) (neg:Bool):R2:=fun x y H Q=>∃ G d e b,zbh G H/\Rep Γ K G x d/\Rep Γ K G y e/\eqX d e=some b/\Q (.bl (if neg then !b else b)) H
theorem zkh {x y:D} {b:Bool} (h:eqX x y=some b):∃ p q,pdD x=some p/\pdD y=some q/\SeqAt.shaped p=true/\SeqAt.shaped q=true/\b=PyData.eqv p q:=by
 unfold eqX at h
 obtain ⟨p,hp,h⟩:=oBd h
 obtain ⟨q,hq,h⟩:=oBd h
 split at h
 ·rename_i hz
  cases h
  exact ⟨p,q,hp,hq,hz.1,hz.2,rfl⟩
 ·cases h
theorem zsV (hu:X.A.units+64 < cLine):OpR X (compareOp .Eq) (rX Γ X.K false):=by
 intro pins s σ H x y v u Q I rx ry h
 obtain ⟨G,d,e,b,gh,r1,r2,hb,q⟩:=h
 obtain ⟨p,q',hp,hq,s1,s2,rfl⟩:=zkh hb
 obtain ⟨as,a1⟩:=r1.reads I gh rx hp
 obtain ⟨bs,a2⟩:=r2.reads I gh ry hq
 exact eq_dataH a1 a2 s1 s2 hu ⟨.bl _,H,I,rfl,q⟩
theorem zsQ (hu:X.A.units+64 < cLine):OpR X (compareOp .NotEq) (rX Γ X.K true):=by
 intro pins s σ H x y v u Q I rx ry h
 obtain ⟨G,d,e,b,gh,r1,r2,hb,q⟩:=h
 obtain ⟨p,q',hp,hq,s1,s2,rfl⟩:=zkh hb
 obtain ⟨as,a1⟩:=r1.reads I gh rx hp
 obtain ⟨bs,a2⟩:=r2.reads I gh ry hq
 exact ne_dataH a1 a2 s1 s2 hu ⟨.bl _,H,I,rfl,q⟩
theorem ztV (hu:X.A.units+64 < cLine):CmpD Γ X .Eq zq1:=⟨_,zsV (Γ:=Γ) hu,fun {G H v u x y z} gh r1 r2 h Q k=>by
 unfold zq1 at h
 obtain ⟨b,hb,rfl⟩:=oMd h
 exact ⟨G,x,y,b,gh,r1,r2,hb,k _ G H (.refl gh) (.bl _)⟩⟩
theorem ztU (hu:X.A.units+64 < cLine):CmpD Γ X .NotEq zqy:=⟨_,zsQ (Γ:=Γ) hu,fun {G H v u x y z} gh r1 r2 h Q k=>by
 unfold zqy at h
 obtain ⟨b,hb,rfl⟩:=oMd h
 exact ⟨G,x,y,b,gh,r1,r2,hb,k _ G H (.refl gh) (.bl _)⟩⟩
noncomputable def inX (x y:D):Option Bool:=(pdD x).bind fun p=>(pdD y).bind fun q=>match q with
 | .list l=>if SeqAt.shaped p=true/\PyData.canLayAll0 l=true then some (l.any fun z=>PyData.eqv z p) else none
 | _=>none
def zjb (x y:D):Option D:=(inX x y).map D.bl
def zcf (x y:D):Option D:=(inX x y).map fun b=>D.bl (!b)
def zvx (Γ:Cn) (K:PySem.W.Frag) (neg:Bool):R2:=fun x y H Q=>∃ G d e b,zbh G H/\Rep Γ K G x d/\Rep Γ K G y e/\inX d e=some b/\Q (.bl (if neg then !b else b)) H
theorem zkb {x y:D} {b:Bool} (h:inX x y=some b):∃ p l,pdD x=some p/\pdD y=some (.list l)/\SeqAt.shaped p=true/\PyData.canLayAll0 l=true/\b=l.any fun z=>PyData.eqv z p:=by
 unfold inX at h
 obtain ⟨p,hp,h⟩:=oBd h
 obtain ⟨q,hq,h⟩:=oBd h
 split at h
 ·split at h
  ·rename_i hz
   cases h
   exact ⟨p,_,hp,hq,hz.1,hz.2,rfl⟩
  ·cases h
 ·cases h
theorem zgI {p:PyData} (h:SeqAt.shaped p=true):p.canLay0=true/\p.depth<=64:=by
 unfold SeqAt.shaped at h
 rw [Bool.and_eq_true] at h
 exact ⟨h.1,of_decide_eq_true h.2⟩
theorem zsU (hu:X.A.units+66 < cLine):OpR X (compareOp .In) (zvx Γ X.K false):=by
 intro pins s σ H x y v u Q I rx ry h
 obtain ⟨G,d,e,b,gh,r1,r2,hb,q⟩:=h
 obtain ⟨p,l,hp,hq,s1,s2,rfl⟩:=zkb hb
 obtain ⟨as,a1⟩:=r1.reads I gh rx hp
 obtain ⟨bs,a2⟩:=r2.reads I gh ry hq
 obtain ⟨c1,c2⟩:=zgI s1
 have:=Nat.min_le_right (PyData.depthAll l) p.depth
 exact SeqAt.in_list_reads a2 a1 s2 c1 (by omega) ⟨.bl _,H,I,rfl,q⟩
theorem zqm (hu:X.A.units+66 < cLine):OpR X (compareOp .NotIn) (zvx Γ X.K true):=by
 intro pins s σ H x y v u Q I rx ry h
 obtain ⟨G,d,e,b,gh,r1,r2,hb,q⟩:=h
 obtain ⟨p,l,hp,hq,s1,s2,rfl⟩:=zkb hb
 obtain ⟨as,a1⟩:=r1.reads I gh rx hp
 obtain ⟨bs,a2⟩:=r2.reads I gh ry hq
 obtain ⟨c1,c2⟩:=zgI s1
 have:=Nat.min_le_right (PyData.depthAll l) p.depth
 exact SeqAt.notIn_list_reads a2 a1 s2 c1 (by omega) ⟨.bl _,H,I,rfl,q⟩
theorem zm4 (hu:X.A.units+66 < cLine):CmpD Γ X .In zjb:=⟨_,zsU (Γ:=Γ) hu,fun {G H v u x y z} gh r1 r2 h Q k=>by
 unfold zjb at h
 obtain ⟨b,hb,rfl⟩:=oMd h
 exact ⟨G,x,y,b,gh,r1,r2,hb,k _ G H (.refl gh) (.bl _)⟩⟩
theorem zhC (hu:X.A.units+66 < cLine):CmpD Γ X .NotIn zcf:=⟨_,zqm (Γ:=Γ) hu,fun {G H v u x y z} gh r1 r2 h Q k=>by
 unfold zcf at h
 obtain ⟨b,hb,rfl⟩:=oMd h
 exact ⟨G,x,y,b,gh,r1,r2,hb,k _ G H (.refl gh) (.bl _)⟩⟩
theorem zgU {k:Nat} (hr:Room k X.A):X.A.units+66 < cLine:=by have:=hr.un;omega
theorem zpk {k:Nat} (hr:Room k X.A):X.A.units+64 < cLine:=by have:=hr.un;omega
def zhq (d:D):Bool:=match d with
 | .non=>true
 | _=>false
def isD (x y:D):Option D:=match y with
 | .non=>some (.bl (zhq x))
 | _=>none
def zgc (x y:D):Option D:=match y with
 | .non=>some (.bl (!zhq x))
 | _=>none
theorem zgL (r:Rep Γ K G v d):decide (v=.non)=zhq d:=by
 cases r <;> simp [zhq]
theorem zoN:CmpD Γ X .Is isD:=⟨_,zsT,fun {G H v u x y z} gh r1 r2 h Q k=>by
 unfold isD at h
 split at h <;> cases h
 exact ⟨r2.non_inv,by rw [zgL r1];exact k _ G H (.refl gh) (.bl _)⟩⟩
theorem zks:CmpD Γ X .IsNot zgc:=⟨_,zql,fun {G H v u x y z} gh r1 r2 h Q k=>by
 unfold zgc at h
 split at h <;> cases h
 exact ⟨r2.non_inv,by rw [zgL r1];exact k _ G H (.refl gh) (.bl _)⟩⟩
end
variable {fx:FE}
section
variable {a i:Expr} {fr:FA}
def bwT (i:Nat) (ft:FT):FT:=fun ρ=>match ρ[i]? with
 | some (some (.own ds))=>ft (ρ.set i (some (.sh (.lst ds))))
 | _=>none
theorem Step.back (gh:zbh G H) (s1:zbh G G1) (s:Step G1 H G' H'):Step G H G H':=⟨s.hh,.refl _,(s1.trans s.gg).trans s.gh,fun _ _ _=>rfl⟩
theorem zoz (i:Nat) (h:DT Γ X c ft):DT Γ X c (bwT i ft):=⟨h.1.imp fun σ H Q=>by
 rintro ⟨G₀,H₀,G,ρ,b,A,h,k⟩
 unfold bwT at h
 split at h
 ·rename_i ds hi
  obtain ⟨G1,sm,A1⟩:=A.freeze hi
  exact ⟨G₀,H₀,G1,_,b,A1,h,fun G' H' s=>k G H' (s.back A.gh sm)⟩
 ·cases h⟩
theorem Rep.flat (r:Rep Γ K G v d) (h:zio d=true):Rep Γ K G' v d:=by
 cases r with
 | non=>exact .non
 | bl b=>exact .bl b
 | int i=>exact .int i
 | str x=>exact .str x
 | _=>cases h
def zld (i:Nat) (f:FE):FS:=fun ρ=>match ρ[i]? with
 | some (some (.own ds))=>(f ρ).bind fun d=>match d with
  | .lst l=>if ds.length+l.length<=sizeLine then some (.nx,ρ.set i (some (.own (ds++l)))) else none
  | _=>none
 | _=>none
theorem zgk (i:Nat) (h:DE Γ X e f) (hN:X.N[i]?=some x:=by rfl) (hv:Vis X.env.scope x:=by first | exact Or.inl rfl | exact Or.inr (Or.inl rfl) | exact Or.inr (Or.inr rfl)) (hd:(x==("__debug__":Str))=false:=by decide)
  (hcd:(x==("__classdict__":Str))=false:=by decide)
  (hbase:attributeBase (.Name x vp) "extend" X.env (eval (.Name x vp) X.env)=eval (.Name x vp) X.env:=by rfl)
  (hfew:((backTo cpos (starEach [e] X.env)).all (fun x=>!x.1) && (backToKw cpos (keywordEach [] X.env)).all (fun x=>x.1.isSome)
   && decide ([e].length+([]:List Keyword).length+(if ([]:List Keyword).isEmpty then 0 else 1) < 30))=true:=by rfl)
  (hline:(apos.endLine==cpos.line)=true:=by rfl) (hs:starEach [e] X.env=(false,eval e X.env)::starEach [] X.env:=by rfl) (hplain:(backTo cpos (starEach [] X.env)).any (·.1)=false:=by rfl)
  (hsw:swapsWith (.Call (.Attribute (.Name x vp) "extend" apos) [e] [] cpos) none pos.line X.env=pure false:=by rfl) :
  DS Γ X (.Expr (.Call (.Attribute (.Name x vp) "extend" apos) [e] [] cpos) pos) (zld i f):=⟨(zhi (zn5 PySem.F.plainAttrs_list PySem.F.slot_list_extend PySem.F.type_list_extend zl7 (zds hN hv hd hcd) (zcA h.1 zdz hs) hbase hfew hline hs hplain) hsw).imp fun E σ H=>by
  rintro ⟨G₀,H₀,G,ρ,fl,ρ',A,h,k⟩
  unfold zld at h
  split at h
  ·rename_i ds hi
   obtain ⟨d,hd,h⟩:=oBd h
   split at h
   ·rename_i l
    split at h
    ·rename_i hz
     cases h
     obtain ⟨a,vs,h1,h2,h3,h4,h5⟩:=A.env.own i ds hi
     refine ⟨.ref a,h1,.inl ⟨rfl,vs,.inl (.inl h4)⟩,G₀,H₀,G,ρ,_,A,hd,fun v G1 H1 s1 r1=>?_⟩
     have A1:=A.step s1
     obtain ⟨b,us,rfl,hb,rb⟩:=r1.lst_inv
     refine ⟨a,b,vs,us,rfl,rfl,s1.hh _ _ h4,s1.gh _ _ hb,by rw [h5.length,rb.length];exact hz,?_⟩
     exact k σ G1 _ s1.gg (A1.chOwn hi h1 ((h5.mono s1.gg).append rb))
    ·cases h
   ·cases h
  ·cases h⟩
def zwq:List D->Option D
 | [.int i]=>some (.int i)
 | [.bl k]=>some (.int (if k then 1 else 0))
 | _=>none
def zlm:List D->Option D
 | [.lst l]=>some (.tup l)
 | [.tup l]=>some (.tup l)
 | _=>none
theorem znx:TyD Γ X "tuple" zlm:=⟨_,zhE,fun {G H vs ds z} gh r h Q k=>by
 unfold zlm at h
 split at h <;> cases h
 ·obtain ⟨v,rfl,r1⟩:=r.one
  obtain ⟨a,us,rfl,ha,ra⟩:=r1.lst_inv
  exact ⟨a,us,rfl,.inl ⟨.inl (.inl (gh _ _ ha)),zi2 gh ra k⟩⟩
 ·obtain ⟨v,rfl,r1⟩:=r.one
  obtain ⟨a,us,rfl,ha,ra⟩:=r1.tup_inv
  exact ⟨a,us,rfl,.inr ⟨.inl (.inl (gh _ _ ha)),k _ G H (.refl gh) (.tup ha ra)⟩⟩⟩
def zdY [DecidableEq κ] (kvs:List (κ×α)) (k:κ):Option α:=(kvs.find? fun kv=>decide (kv.1=k)).map (·.2)
noncomputable def zhg [DecidableEq κ] (kvs:List (κ×α)) (k:κ) (v:α):List (κ×α) :=
 if (kvs.any fun kv=>decide (kv.1=k))=true then kvs.map (fun kv=>if kv.1=k then (kv.1,v) else kv) else kvs++[(k,v)]
theorem zj5 {κ:Type} [DecidableEq κ] {K:PySem.W.Frag} {G:Hp} {k:κ}:∀ {us:List (κ×V)} {kvs:List (κ×D)},us.map (·.1)=kvs.map (·.1)->Reps Γ K G (us.map (·.2)) (kvs.map (·.2)) ->
  (zdY kvs k=none/\ziI us k=none)\/∃ d v,zdY kvs k=some d/\ziI us k=some v/\Rep Γ K G v d
 | [],[],_,_=>.inl ⟨rfl,rfl⟩
 | [],_::_,e,_=>by cases e
 | _::_,[],e,_=>by cases e
 | (k1,v)::us,(k2,d)::kvs,e,r=>by
  have e1:k1=k2:=(List.cons.inj e).1
  have e2:us.map (·.1)=kvs.map (·.1):=(List.cons.inj e).2
  subst e1
  have r:Reps Γ K G (v::us.map (·.2)) (d::kvs.map (·.2)):=r
  cases r with
  | cons r1 r2 =>
   by_cases h:k1=k
   ·exact .inr ⟨d,v,by simp [zdY,List.find?_cons,h],zfA h,r1⟩
   ·have:=zj5 (k:=k) e2 r2
    rw [zfB (p:=(k1,v)) h]
    simpa [zdY,List.find?_cons,h] using this
theorem zpf {κ:Type} [DecidableEq κ] {k:κ} {α β:Type}:∀ {us:List (κ×α)} {kvs:List (κ×β)},us.map (·.1)=kvs.map (·.1)->(us.any fun kv=>decide (kv.1=k))=(kvs.any fun kv=>decide (kv.1=k))
 | [],[],_=>rfl
 | [],_::_,e=>by cases e
 | _::_,[],e=>by cases e
 | (k1,v)::us,(k2,d)::kvs,e=>by
  have e1:k1=k2:=(List.cons.inj e).1
  subst e1
  rw [List.any_cons,List.any_cons,zpf (us:=us) (kvs:=kvs) (List.cons.inj e).2]
theorem zpe {κ:Type} [DecidableEq κ] {K:PySem.W.Frag} {G:Hp} {k:κ} {v:V} {d:D} (rv:Rep Γ K G v d):∀ {us:List (κ×V)} {kvs:List (κ×D)},us.map (·.1)=kvs.map (·.1)->Reps Γ K G (us.map (·.2)) (kvs.map (·.2)) ->
  (us.map fun kv=>if kv.1=k then (kv.1,v) else kv).map (·.1)=(kvs.map fun kv=>if kv.1=k then (kv.1,d) else kv).map (·.1)/\Reps Γ K G ((us.map fun kv=>if kv.1=k then (kv.1,v) else kv).map (·.2)) ((kvs.map fun kv=>if kv.1=k then (kv.1,d) else kv).map (·.2))
 | [],[],_,_=>⟨rfl,.nil⟩
 | [],_::_,e,_=>by cases e
 | _::_,[],e,_=>by cases e
 | (k1,u)::us,(k2,x)::kvs,e,r=>by
  have e1:k1=k2:=(List.cons.inj e).1
  have e2:us.map (·.1)=kvs.map (·.1):=(List.cons.inj e).2
  subst e1
  have r:Reps Γ K G (u::us.map (·.2)) (x::kvs.map (·.2)):=r
  cases r with
  | cons r1 r2 =>
   obtain ⟨h1,h2⟩:=zpe (k:=k) rv e2 r2
   by_cases h:k1=k
   ·subst h
    simp only [ql,if_true]
    exact ⟨by rw [h1],.cons rv h2⟩
   ·simp only [ql,qW h]
    exact ⟨by rw [h1],.cons r1 h2⟩
theorem zj6 [DecidableEq κ] {k:κ} (rv:Rep Γ K G v d) {us:List (κ×V)} {kvs:List (κ×D)} (e:us.map (·.1)=kvs.map (·.1)) (r:Reps Γ K G (us.map (·.2)) (kvs.map (·.2))) :
  (zeO us k v).map (·.1)=(zhg kvs k d).map (·.1)/\Reps Γ K G ((zeO us k v).map (·.2)) ((zhg kvs k d).map (·.2)):=by
 unfold zeO zhg
 rw [zpf (k:=k) e]
 split
 ·exact zpe rv e r
 ·simp only [List.map_append,ql,qN]
  exact ⟨by rw [e],r.append (.cons rv .nil)⟩
noncomputable def zmM:D->Option Key
 | .int i=>some (.inl i)
 | .str x=>some (.inr x)
 | _=>none
def zeC:List D->Option (List Key)
 | []=>some []
 | d::r=>(zmM d).bind fun k=>(zeC r).map (k::·)
theorem zgl {k:Key} (r:Rep Γ K G v d) (h:zmM d=some k):v=kV k:=by
 unfold zmM at h
 split at h <;> cases h
 ·exact r.int_inv
 ·exact r.str_inv
theorem zdh {K:PySem.W.Frag} {G:Hp}:∀ {vs:List V} {ds:List D} {ks:List Key},Reps Γ K G vs ds->zeC ds=some ks->vs=ks.map kV
 | _,[],ks,r,h=>by cases r;cases h;rfl
 | _,d::ds,ks,.cons h1 h2,h=>by
  unfold zeC at h
  obtain ⟨k,hk,h⟩:=oBd h
  obtain ⟨zs,hz,rfl⟩:=oMd h
  rw [zgl h1 hk,zdh h2 hz];rfl
def zie (d k:D):Option (Option D):=match d,k with
 | .dk l,k=>(zmM k).map (zdY l)
 | .dt l,.tup t=>(zeC t).map (zdY l)
 | _,_=>none
theorem ztr {k:D} {r:Option D} (gh:zbh G H) (rv:Rep Γ K G v d) (h:zie d k=some r):∃ a,v=.ref a/\IsD H a:=by
 unfold zie at h
 split at h
 ·cases rv with
  | dk h _ _=>exact ⟨_,rfl,.inl ⟨_,.inl (gh _ _ h)⟩⟩
 ·cases rv with
  | dt h _ _=>exact ⟨_,rfl,.inr ⟨_,.inl (gh _ _ h)⟩⟩
 ·cases h
theorem zjg {y:V} {k:D} {r:Option D} (gh:zbh G H) (rv:Rep Γ K G v d) (ry:Rep Γ K G y k) (h:zie d k=some r) :
  ∃ a o,v=.ref a/\zlc H a y o/\((r=none/\o=none)\/∃ w z,r=some z/\o=some w/\Rep Γ K G w z):=by
 unfold zie at h
 split at h
 ·obtain ⟨kk,hk,rfl⟩:=oMd h
  cases rv with
  | dk h1 h2 h3 =>
   have ey:=zgl ry hk
   subst ey
   refine ⟨_,_,rfl,zlc.k (gh _ _ h1),?_⟩
   rcases zj5 (k:=kk) h2 h3 with ⟨q1,q2⟩ | ⟨z,w,q1,q2,q3⟩
   ·exact .inl ⟨q1,q2⟩
   ·exact .inr ⟨w,z,q1,q2,q3⟩
 ·obtain ⟨kk,hk,rfl⟩:=oMd h
  cases rv with
  | dt h1 h2 h3 =>
   obtain ⟨b,ys,rfl,hb,rb⟩:=ry.tup_inv
   have ey:=zdh rb hk
   subst ey
   refine ⟨_,_,rfl,zlc.t (gh _ _ h1) (gh _ _ hb),?_⟩
   rcases zj5 (k:=kk) h2 h3 with ⟨q1,q2⟩ | ⟨z,w,q1,q2,q3⟩
   ·exact .inl ⟨q1,q2⟩
   ·exact .inr ⟨w,z,q1,q2,q3⟩
 ·cases h
def zjh (d k:D):Option D:=(zie d k).bind id
theorem zjj (hu:X.A.units+66 < cLine) (ho:DE Γ X o fo) (hi:DE Γ X i fi') (hs:zvl i:=by intro _ _;rfl):DE Γ X (.Subscript o i pos) (b2 zjh fo fi'):=⟨(zqh (by omega) ho.1 hi.1 hs).imp fun σ H Q=>by
 rintro ⟨G₀,H₀,G,ρ,d,A,h,k⟩
 unfold b2 at h
 obtain ⟨x,hx,h⟩:=oBd h
 obtain ⟨y,hy,h⟩:=oBd h
 refine ⟨G₀,H₀,G,ρ,x,A,hx,fun v G1 H1 s1 r1=>⟨G₀,H₀,G1,ρ,y,A.step s1,hy,fun u G2 H2 s2 r2=>?_⟩⟩
 unfold zjh at h
 obtain ⟨r,hr,h⟩:=oBd h
 obtain ⟨a,ov,rfl,hg,hc⟩:=zjg s2.gh (r1.mono s2.gg) r2 hr
 rcases hc with ⟨rfl,_⟩ | ⟨w,z,rfl,rfl,rw'⟩
 ·cases h
 ·cases h
  exact ⟨a,w,rfl,hg,k w G2 H2 (s1.trans s2) rw'⟩⟩
def zmP (d k:D):Option D:=(zie d k).map fun r=>r.getD .non
theorem zoI (hu:X.A.units+66 < cLine) (ho:DE Γ X o fo) (he:DE Γ X e f) (m:M1 X o "get" apos e cpos:=by exact ⟨rfl,rfl,rfl,rfl⟩):DE Γ X (.Call (.Attribute o "get" apos) [e] [] cpos) (b2 zmP fo f):=⟨(zn3 (by omega) ho.1 he.1 m).imp fun σ H Q=>by
 rintro ⟨G₀,H₀,G,ρ,d,A,h,k⟩
 unfold b2 at h
 obtain ⟨x,hx,h⟩:=oBd h
 obtain ⟨y,hy,h⟩:=oBd h
 unfold zmP at h
 obtain ⟨r,hr,rfl⟩:=oMd h
 refine ⟨G₀,H₀,G,ρ,x,A,hx,fun v G1 H1 s1 r1=>?_⟩
 obtain ⟨a0,e0,d0⟩:=ztr s1.gh r1 hr
 refine ⟨a0,e0,d0,G₀,H₀,G1,ρ,y,A.step s1,hy,fun u G2 H2 s2 r2=>?_⟩
 obtain ⟨a,ov,e1,hg,hc⟩:=zjg s2.gh (r1.mono s2.gg) r2 hr
 subst e0
 cases e1
 rcases hc with ⟨rfl,rfl⟩ | ⟨w,z,rfl,rfl,rw'⟩
 ·exact ⟨none,hg,k _ G2 H2 (s1.trans s2) .non⟩
 ·exact ⟨some w,hg,k w G2 H2 (s1.trans s2) rw'⟩⟩
def b3 (g:D->D->D->Option D) (fa fb fc:FE):FE:=fun ρ=>(fa ρ).bind fun x=>(fb ρ).bind fun y=>(fc ρ).bind fun z=>g x y z
def ztI (k d:D):Option D:=(zie d k).map fun r=>.bl r.isSome
def zv3 (Γ:Cn) (K:PySem.W.Frag) (neg:Bool):R2:=fun y x H Q=>∃ G k d r,zbh G H/\Rep Γ K G y k/\Rep Γ K G x d/\zie d k=some r/\Q (.bl (if neg then !r.isSome else r.isSome)) H
theorem zsW (hu:X.A.units+66 < cLine):OpR X (compareOp .In) (zv3 Γ X.K false):=by
 intro pins s σ H x y v u Q I rx ry h
 obtain ⟨G,kd,d,r,gh,r1,r2,hr,q⟩:=h
 obtain ⟨a,ov,rfl,hg,hc⟩:=zjg gh r2 r1 hr
 cases ry
 have e:ov.isSome=r.isSome:=by rcases hc with ⟨rfl,rfl⟩ | ⟨w,z,rfl,rfl,_⟩ <;> rfl
 exact zwd (by omega) I hg rx fun s3 I3=>⟨.bl _,H,I3,rfl,by rw [e];exact q⟩
theorem ztW (hu:X.A.units+66 < cLine):CmpD Γ X .In ztI:=⟨_,zsW (Γ:=Γ) hu,fun {G H v u x y z} gh r1 r2 h Q k=>by
 unfold ztI at h
 obtain ⟨r,hr,rfl⟩:=oMd h
 exact ⟨G,x,y,r,gh,r1,r2,hr,k _ G H (.refl gh) (.bl _)⟩⟩
def sNo:FS:=fun _=>none
theorem zva :DS Γ X st sNo:=⟨fun pins s σ H E I q=>by
 obtain ⟨G₀,H₀,G,ρ,fl,ρ',A,h,k⟩:=q
 cases h⟩
end
section
variable {a i:Expr} {fr:FA}
theorem Reps.strs {K:PySem.W.Frag} {G:Hp}:∀ (ns:List Str),Reps Γ K G (ns.map V.str) (ns.map D.str)
 | []=>.nil
 | n::r=>.cons (.str n) (Reps.strs r)
end
section
variable {a i:Expr} {fr:FA}
end
theorem Inv.many (I:Inv X pins σ H s) (k:∀ b u,s.heap.get? b=some u->h'.get? b=some u) (hs:zbh H H') (new:∀ b o,H b=none->H' b=some o->(∀ u,s.heap.get? b=some u->False)/\zcm X.prog X.w H' h' b o) :
  Inv X pins σ H' { s with heap:=h',toks:=t' }:=by
 refine I.un ⟨fun b ob q _ _ _=>k b ob q,fun b ob q _ _ _=>⟨ob.slots,k b ob q⟩,fun b ob q n _=>?_,fun b ob q _=>⟨ob,k b ob q⟩,fun b xs q=>hs _ _ q,fun b o u q=>hs _ _ q,fun b ps q=>⟨#[],by rw [hs _ _ q];simp⟩⟩ fun b o q=>?_
 ·cases e:H' b with
  | none=>rfl
  | some o=>exact ((new b o n e).1 ob q).elim
 ·cases e:H b with
  | none=>exact (new b o e q).2
  | some o' =>
   have:=hs _ _ e
   rw [q] at this
   cases this
   exact (I.hok b o e).stay (fun c v _ r=>k c v r) (fun c r=>hs _ _ r) fun c xs r=>hs _ _ r
variable {p3 p4:Pos}
section
variable {a i:Expr} {fr:FA}
def leS (x y:Str):Bool:=!ltS y x
def zfV (l:List Str):List Str:=l.mergeSort leS
theorem zed :leS x y=true↔x.cps.toList<=y.cps.toList:=by
 unfold leS ltS
 rw [Bool.not_eq_true',decide_eq_false_iff_not,List.not_lt]
theorem zii (x y z:Str) (h1:leS x y=true) (h2:leS y z=true):leS x z=true:=zed.mpr (List.le_trans (zed.mp h1) (zed.mp h2))
theorem zmi (x y:Str):(leS x y || leS y x)=true:=by
 rw [Bool.or_eq_true]
 exact (List.le_total x.cps.toList y.cps.toList).imp zed.mpr zed.mpr
theorem zoh (h1:leS x y=true) (h2:leS y x=true):x=y:=by
 have e:=List.le_antisymm (zed.mp h1) (zed.mp h2)
 cases x;cases y
 simp only at e
 rw [Array.toList_inj.mp e]
theorem zf0:∀ (l:List Str) (p:Str),risingS p l=true->(∀ a∈l,leS p a=true)/\l.Pairwise fun a b=>leS a b=true
 | [],_,_=>⟨fun _ h=>(nomatch h),List.Pairwise.nil⟩
 | x::r,p,h=>by
  unfold risingS at h
  rw [Bool.and_eq_true,ltCps_eq] at h
  obtain ⟨h1,h2⟩:=zf0 r x h.2
  have hp:leS p x=true:=h.1
  refine ⟨fun a ha=>?_,.cons h1 h2⟩
  rcases List.mem_cons.mp ha with rfl | ha
  ·exact hp
  ·exact zii _ _ _ hp (h1 a ha)
theorem zlq {l:List Str} (h:sortedS l=true):l.Pairwise fun a b=>leS a b=true:=by
 cases l with
 | nil=>exact .nil
 | cons x r=>exact .cons (zf0 r x h).1 (zf0 r x h).2
theorem zkz {l l':List Str} (hp:l'.Perm l) (hs:sortedS l'=true):l'=zfV l :=
 List.Perm.eq_of_pairwise (le:=fun a b=>leS a b=true) (fun a b _ _ h1 h2=>zoh h1 h2) (zlq hs) (List.pairwise_mergeSort zii zmi l) (hp.trans (List.mergeSort_perm l leS).symm)
theorem zfb:∀ {vs:List Value} {ss:List Str},StrsAre vs ss->zbI (ss.map V.str) vs
 | _,_,.nil=>.nil
 | _,_,.cons x t r=>.cons ⟨t,rfl⟩ (zfb r)
end
section
variable {a i:Expr} {fr:FA}
def zu3:D->Option D
 | .int i=>some (.int (-i))
 | _=>none
def zuf:D->Option D
 | .lst l=>some (.lst l.reverse)
 | _=>none
theorem Reps.reverse {K:PySem.W.Frag} {G:Hp}:∀ {vs:List V} {ds:List D},Reps Γ K G vs ds->Reps Γ K G vs.reverse ds.reverse
 | _,_,.nil=>.nil
 | _,_,.cons h r=>by
  rw [List.reverse_cons,List.reverse_cons]
  exact r.reverse.append (.cons h .nil)
theorem ztL {j} (he:DE Γ X e f):DE Γ X (.Subscript e (.Slice none none (some (.UnaryOp .USub (.Constant (.int 1) j p3) p4)) p2) pos) (b1 zuf f):=⟨fun pins s σ H Q I=>by
 rintro ⟨G₀,H₀,G,ρ,d,A,h,k⟩
 unfold b1 at h
 obtain ⟨x,hx,h⟩:=oBd h
 unfold zuf at h
 split at h
 ·rename_i l
  cases h
  refine Subscript_ (thn (he.1 pins s σ H (fun v H'=>∃ G',Step G H G' H'/\Rep Γ X.K G' v (.lst l)) I ⟨G₀,H₀,G,ρ,_,A,hx,fun v G' H' st r=>⟨G',st,r⟩⟩) fun v s1 ⟨v',H1,I1,r1,G1,st,rp⟩=>?_)
  obtain ⟨a,vs,rfl,ha,rv⟩:=rp.lst_inv
  cases r1
  refine wpAny_Slice (qy (qy ?_))
  refine thn ((zuP zrZ zpa) pins s1 σ H1 (fun v H'=>v=.int (-1)/\H'=H1) I1 ⟨_,rfl,rfl,rfl⟩) fun vk s3 ⟨vv,H3,I3,r3,e1,e2⟩=>?_
  subst e1 e2
  obtain ⟨t,rfl⟩:=r3
  have I4:Inv X pins σ H3 { s3 with heap:=s3.heap.push { cls:=.type "slice",data:=.fields #[.none,.none,.int (-1) t] } }:=I3.kept (t':=s3.toks) fun b ob q=>qr _ q
  obtain ⟨its,rr,hti,hz⟩:=I4.list (.inl (.inl (st.gh _ _ ha)))
  show wpAny (model X.prog X.w) X.A (subscriptTail e (.Slice none none (some (.UnaryOp .USub (.Constant (.int 1) j p3) p4)) p2) (.ref a) (.ref s3.heap.objs.size)) (EP X pins σ Q) X.xe { s3 with heap:=s3.heap.push { cls:=.type "slice",data:=.fields #[.none,.none,.int (-1) t] } }
  refine tail_any (ops:=[.ref a,.ref s3.heap.objs.size]) hti.isList.typeIs slot_list_getitem.lookup ?_ (by with_unfolding_all rfl)
  refine wpAny_getItem_list_slice hti.isList (Heap.IsSliceOf.new ..) .none .none (.int _ _) (by decide) ?_ (by rw [qz];have:=rr.length;omega)
  rw [PySem.W.krv_pick]
  have hn:=I4.fresh
  exact ⟨.ref _,_,I4.lnew (ys:=vs.reverse) (its:=its.reverse) (t':=s3.toks) (zbI.reverse rr) (by rw [List.length_reverse];exact hz),rfl,zd9 st.gh rv.reverse (fun w G2 H2 s2 r2=>k w G2 H2 (st.trans s2) r2) _ hn⟩
 ·cases h⟩
end
structure CF (Γ:Cn) (K:PySem.W.Frag) (c:Str) (attrs:List Str):Prop where
 ex:∃ C,Γ.cls c=some C/\Cls K C/\∀ f∈attrs,zfm K C f
variable {attrs:List Str} {dp:Pos} {ke:Expr}
section
variable {a i:Expr} {fv:FE} {fr:FA} {cl fl n:Str}
theorem zbZ {K:PySem.W.Frag} {G:Hp} {k:Str}:∀ {us:List (Str×V)} {fs:List (Str×D)},us.map (·.1)=fs.map (·.1)->Reps Γ K G (us.map (·.2)) (fs.map (·.2)) ->
  (fs.lookup k=none/\us.lookup k=none)\/∃ d v,fs.lookup k=some d/\us.lookup k=some v/\Rep Γ K G v d
 | [],[],_,_=>.inl ⟨rfl,rfl⟩
 | [],_::_,e,_=>by cases e
 | _::_,[],e,_=>by cases e
 | (k1,v)::us,(k2,d)::fs,e,r=>by
  have e1:k1=k2:=(List.cons.inj e).1
  have e2:us.map (·.1)=fs.map (·.1):=(List.cons.inj e).2
  subst e1
  have r:Reps Γ K G (v::us.map (·.2)) (d::fs.map (·.2)):=r
  cases r with
  | cons r1 r2 =>
   by_cases h:k=k1
   ·subst h
    exact .inr ⟨d,v,by simp [List.lookup],by simp [List.lookup],r1⟩
   ·have hb:(k==k1)=false:=by simpa using h
    have:=zbZ (k:=k) e2 r2
    simpa [List.lookup,hb] using this
theorem zhh {f:Str} {v:V}:∀ {fs:List (Str×V)},fs.lookup f=none->zhQ f v fs=fs++[(f,v)]
 | [],_=>rfl
 | (g,x)::r,h=>by
  by_cases e:f=g
  ·subst e;simp [List.lookup] at h
  ·have hb:(f==g)=false:=by simpa using e
   rw [zhQ,qW (fun z=>e z.symm),zhh (by simpa [List.lookup,hb] using h)]
   rfl
def zvE (c f:Str):D->Option D
 | .ins c' fs=>if c'=c then fs.lookup f else none
 | _=>none
def zkT (c f:Str) (fo:FE):FE:=fun ρ=>(fo ρ).bind (zvE c f)
theorem zfi (hc:CF Γ X.K cl attrs) (hf:fl∈attrs) (ho:DE Γ X o fo) (hb:attributeBase o fl X.env (eval o X.env)=eval o X.env:=by rfl):DE Γ X (.Attribute o fl pos) (zkT cl fl fo):=⟨(zlQ ho.1 hb).imp fun σ H Q=>by
 rintro ⟨G₀,H₀,G,ρ,d,A,h,k⟩
 unfold zkT at h
 obtain ⟨x,hx,hq⟩:=oBd h
 clear h
 refine ⟨G₀,H₀,G,ρ,x,A,hx,fun v G1 H1 s1 r1=>?_⟩
 unfold zvE at hq
 split at hq
 ·split at hq
  ·rename_i ec
   subst ec
   obtain ⟨C,q1,q2,q3⟩:=hc.ex
   cases r1 with
   | ins h1 h2 h3 h4 =>
    rw [q1] at h2
    cases h2
    rcases zbZ (k:=fl) h3 h4 with ⟨z1,_⟩ | ⟨d',v',z1,z2,z3⟩
    ·rw [z1] at hq;cases hq
    ·rw [z1] at hq
     cases hq
     exact ⟨_,C,_,_,v',rfl,s1.gh _ _ h1,q2,q3 fl hf,z2,k v' G1 H1 s1 z3⟩
  ·cases hq
 ·cases hq⟩
def zlu (f:Str):Slot->Option D
 | .obj _ fs=>fs.lookup f
 | .objd _ fs n _=>if f=n then none else fs.lookup f
 | _=>none
def zpQ:Slot->Option Str
 | .obj c _=>some c
 | .objd c _ _ _=>some c
 | _=>none
def zgy (c f:Str) (i:Nat):FE:=fun ρ=>match ρ[i]? with
 | some (some s)=>if zpQ s=some c then zlu f s else none
 | _=>none
theorem zod {vs:List (Str×V)} {f:Str} {w:V} (h:vs.lookup f=some v):(vs++[(n,w)]).lookup f=some v:=by
 induction vs with
 | nil=>cases h
 | cons p r ih =>
  obtain ⟨g,x⟩:=p
  by_cases e:f=g
  ·subst e;simpa [List.lookup] using h
  ·have hb:(f==g)=false:=by simpa using e
   simp only [qo,List.lookup,hb] at h ⊢
   exact ih h
theorem zhy (i:Nat) (hc:CF Γ X.K cl attrs) (hf:fl∈attrs) (hN:X.N[i]?=some x:=by rfl) (hv:Vis X.env.scope x:=by first | exact Or.inl rfl | exact Or.inr (Or.inl rfl) | exact Or.inr (Or.inr rfl)) (hd:(x==("__debug__":Str))=false:=by decide)
  (hcd:(x==("__classdict__":Str))=false:=by decide) (hb:attributeBase (.Name x vp) fl X.env (eval (.Name x vp) X.env)=eval (.Name x vp) X.env:=by rfl):DE Γ X (.Attribute (.Name x vp) fl pos) (zgy cl fl i):=⟨(zlQ (zds hN hv hd hcd) hb).imp fun σ H Q=>by
 rintro ⟨G₀,H₀,G,ρ,d,A,h,k⟩
 unfold zgy at h
 split at h
 ·rename_i s hi
  split at h
  ·rename_i hcl
   obtain ⟨C,q1,q2,q3⟩:=hc.ex
   obtain ⟨v,fp,h1,h2⟩:=A.get hi
   cases h2 with
   | sh _=>cases h
   | own _ _ _ _=>cases h
   | odk _ _ _ _ _=>cases h
   | odt _ _ _ _ _=>cases h
   | tlo _ _ _ _ _ _=>cases h
   | oll _ _ _ _ _=>cases h
   | pin _=>cases h
   | obj g1 g2 g3 g4 g5 g6 g7 =>
    cases hcl
    rw [q1] at g1
    cases g1
    have h:List.lookup fl _=some d:=h
    rcases zbZ (k:=fl) g5 g6 with ⟨z1,_⟩ | ⟨d',v',z1,z2,z3⟩
    ·rw [z1] at h;cases h
    ·rw [z1] at h
     cases h
     exact ⟨_,h1,_,C,_,_,v',rfl,g4,q2,q3 fl hf,z2,k v' G H (.refl A.gh) z3⟩
   | objd g1 g2 g3 g4 g5 g6 _ _ _ _ _ g7 =>
    cases hcl
    rw [q1] at g1
    cases g1
    unfold zlu at h
    simp only at h
    split at h
    ·cases h
    ·rcases zbZ (k:=fl) g5 g6 with ⟨z1,_⟩ | ⟨d',v',z1,z2,z3⟩
     ·rw [z1] at h;cases h
     ·rw [z1] at h
      cases h
      exact ⟨_,h1,_,C,_,_,v',rfl,g4,q2,q3 fl hf,zod z2,k v' G H (.refl A.gh) z3⟩
  ·cases h
 ·cases h⟩
def zeu (c f:Str) (i:Nat) (fv:FE):FS:=fun ρ=>(fv ρ).bind fun d=>match ρ[i]? with
 | some (some (.obj c' fs))=>if c'=c/\fs.lookup f=none/\fs.length < 100 then some (.nx,ρ.set i (some (.obj c (fs++[(f,d)])))) else none
 | _=>none
theorem zc4 (i:Nat) (hc:CF Γ X.K cl attrs) (hf:fl∈attrs) (hv':DE Γ X value fv) (hN:X.N[i]?=some x:=by rfl) (hv:Vis X.env.scope x:=by first | exact Or.inl rfl | exact Or.inr (Or.inl rfl) | exact Or.inr (Or.inr rfl)) (hd:(x==("__debug__":Str))=false:=by decide)
  (hcd:(x==("__classdict__":Str))=false:=by decide) (hs:swapsWith value (some (.Attribute (.Name x vp) fl pos')) pos.line X.env=pure false:=by rfl):DS Γ X (.Assign [.Attribute (.Name x vp) fl pos'] value pos) (zeu cl fl i fv):=⟨(zo8 (zds hN hv hd hcd) hv'.1 hs).imp fun E σ H=>by
 rintro ⟨G₀,H₀,G,ρ,flw,ρ',A,h,k⟩
 unfold zeu at h
 obtain ⟨d,hd,h⟩:=oBd h
 split at h
 ·rename_i c' fs hi
  split at h
  ·rename_i hz
   obtain ⟨rfl,hz2,hz3⟩:=hz
   cases h
   obtain ⟨C,q1,q2,q3⟩:=hc.ex
   refine ⟨G₀,H₀,G,ρ,d,A,hd,fun v G1 H1 s1 r1=>?_⟩
   have A1:=A.step s1
   obtain ⟨w,fp,h1,h2⟩:=A1.get hi
   cases h2 with
   | obj g1 g2 g3 g4 g5 g6 g7 =>
    rename_i a C' dx vs
    have g1':=g1
    rw [q1] at g1
    cases g1
    have hl:vs.lookup fl=none:=by
     rcases zbZ (k:=fl) g5 g6 with ⟨_,z2⟩ | ⟨d',v',z1,_,_⟩
     ·exact z2
     ·rw [z1] at hz2;cases hz2
    have hlen:vs.length=fs.length:=by simpa using congrArg List.length g5
    refine ⟨_,h1,a,C,dx,vs,rfl,g4,q2,q3 fl hf,by omega,?_⟩
    rw [zhh hl]
    refine k σ G1 _ s1.gg (A1.ch hi h1 (.obj g1' g2 g3 g4 g5 g6 g7) (fun b o e hb=>?_) (.obj (vs:=vs++[(fl,v)]) g1' g2 g3 zak (by simp [g5]) (by simpa using g6.append (.cons r1 .nil)) g7) (fun b hb=>.inl hb) (.refl _) (fun b o e=>?_) (fun _ _ _ _=>rfl))
    ·rw [zaj (fun z=>hb (List.mem_singleton.mpr z))];exact e
    ·rw [zaj (zal e g3)];exact A1.gh b o e
  ·cases h
 ·cases h⟩
def zrF (c f:Str) (i:Nat):FS:=fun ρ=>match ρ[i]? with
 | some (some (.obj c' fs))=>if c'=c/\fs.lookup f=none/\fs.length < 100 then some (.nx,ρ.set i (some (.objd c fs f []))) else none
 | _=>none
theorem ztE (i:Nat) (hc:CF Γ X.K cl attrs) (hf:fl∈attrs) (hN:X.N[i]?=some x:=by rfl) (hv:Vis X.env.scope x:=by first | exact Or.inl rfl | exact Or.inr (Or.inl rfl) | exact Or.inr (Or.inr rfl)) (hd:(x==("__debug__":Str))=false:=by decide)
  (hcd:(x==("__classdict__":Str))=false:=by decide) (hs:swapsWith (.Dict [] [] dp) (some (.Attribute (.Name x vp) fl pos')) pos.line X.env=pure false:=by rfl):DS Γ X (.Assign [.Attribute (.Name x vp) fl pos'] (.Dict [] [] dp) pos) (zrF cl fl i):=⟨(zo8 (zds hN hv hd hcd) zn2 hs).imp fun E σ H=>by
 rintro ⟨G₀,H₀,G,ρ,flw,ρ',A,h,k⟩ p hp
 unfold zrF at h
 split at h
 ·rename_i c' fs hi
  split at h
  ·rename_i hz
   obtain ⟨rfl,hz2,hz3⟩:=hz
   cases h
   obtain ⟨C,q1,q2,q3⟩:=hc.ex
   obtain ⟨w,fp,h1,h2⟩:=A.get hi
   cases h2 with
   | obj g1 g2 g3 g4 g5 g6 g7 =>
    rename_i a C' dx vs
    have g1':=g1
    rw [q1] at g1
    cases g1
    have hl:vs.lookup fl=none:=by
     rcases zbZ (k:=fl) g5 g6 with ⟨_,z2⟩ | ⟨d',v',z1,_,_⟩
     ·exact z2
     ·rw [z1] at hz2;cases hz2
    have hlen:vs.length=fs.length:=by simpa using congrArg List.length g5
    have npa:a≠p:=zal g4 hp
    refine ⟨_,h1,a,C,dx,vs,rfl,by rw [zaj npa];exact g4,q2,q3 fl hf,by omega,?_⟩
    rw [zhh hl]
    have hp0:H₀ p=none:=A.st.hh.free hp
    have hpg:G p=none:=A.gh.free hp
    refine k σ G _ (.refl _) (A.ch hi h1 (.obj g1' g2 g3 g4 g5 g6 g7) (fun b o e hb=>?_) (.objd (vs:=vs) (p:=p) (us:=[]) (kvs:=[]) g1' g2 g3 zak g5 g6 hp0 hpg (by rw [zaj npa.symm,zak]) rfl .nil g7) (fun b hb=>?_) (.refl _) (fun b o e=>?_) (fun _ _ _ _=>rfl))
    ·rw [zaj (fun z=>hb (List.mem_singleton.mpr z)),zaj (zal e hp)];exact e
    ·rcases List.mem_cons.mp hb with rfl | hb
     ·exact .inl (List.mem_singleton.mpr rfl)
     ·rw [List.mem_singleton.mp hb];exact .inr hp
    ·rw [zaj (zal e g3),zaj (zal e hpg)];exact A.gh b o e
  ·cases h
 ·cases h⟩
def zc1 (c f:Str) (i:Nat) (fk fv:FE):FS:=fun ρ=>(fv ρ).bind fun d=>(fk ρ).bind fun kd=>(zmM kd).bind fun k=>match ρ[i]? with
 | some (some (.objd c' fs n kvs))=>if c'=c/\n=f/\fs.lookup f=none/\kvs.length < 100000 then some (.nx,ρ.set i (some (.objd c fs n (zhg kvs k d)))) else none
 | _=>none
theorem zmf {vs:List (Str×V)} {f:Str} {w:V} (h:vs.lookup f=none):(vs++[(f,w)]).lookup f=some w:=by
 induction vs with
 | nil=>simp [List.lookup]
 | cons p r ih =>
  obtain ⟨g,x⟩:=p
  by_cases e:f=g
  ·subst e;simp [List.lookup] at h
  ·have hb:(f==g)=false:=by simpa using e
   simp only [qo,List.lookup,hb] at h ⊢
   exact ih h
theorem zmJ (i:Nat) (hu:X.A.units+66 < cLine) (hc:CF Γ X.K cl attrs) (hf:fl∈attrs) {ap:Pos} (hk:DE Γ X ke fk) (hv':DE Γ X value fv) (hN:X.N[i]?=some x:=by rfl) (hv:Vis X.env.scope x:=by first | exact Or.inl rfl | exact Or.inr (Or.inl rfl) | exact Or.inr (Or.inr rfl)) (hd:(x==("__debug__":Str))=false:=by decide)
  (hcd:(x==("__classdict__":Str))=false:=by decide) (hb:attributeBase (.Name x vp) fl X.env (eval (.Name x vp) X.env)=eval (.Name x vp) X.env:=by rfl) (hs:swapsWith value (some (.Subscript (.Attribute (.Name x vp) fl ap) ke pos')) pos.line X.env=pure false:=by rfl) :
  DS Γ X (.Assign [.Subscript (.Attribute (.Name x vp) fl ap) ke pos'] value pos) (zc1 cl fl i fk fv):=⟨(zlI (by omega) (zlQ (zds hN hv hd hcd) hb) hk.1 hv'.1 hs).imp fun E σ H=>by
 rintro ⟨G₀,H₀,G,ρ,flw,ρ',A,h,k⟩
 unfold zc1 at h
 obtain ⟨d,hd,ha⟩:=oBd h
 clear h
 obtain ⟨kd,hkd,hb1⟩:=oBd ha
 clear ha
 obtain ⟨kk,hkk,hq⟩:=oBd hb1
 clear hb1
 split at hq
 ·rename_i c' fs n kvs hi
  split at hq
  ·rename_i hz
   obtain ⟨rfl,rfl,hz2,hz3⟩:=hz
   cases hq
   obtain ⟨C,q1,q2,q3⟩:=hc.ex
   refine ⟨G₀,H₀,G,ρ,d,A,hd,fun v G1 H1 s1 r1=>?_⟩
   have A1:=A.step s1
   obtain ⟨w,fp,h1,h2⟩:=A1.get hi
   cases h2 with
   | objd g1 g2 g3 g4 g5 g6 y1 y2 y3 y4 y5 g7 =>
    rename_i a C' dx p vs us
    have g1':=g1
    rw [q1] at g1
    cases g1
    have hl:vs.lookup n=none:=by
     rcases zbZ (k:=n) g5 g6 with ⟨_,z2⟩ | ⟨d',v',z1,_,_⟩
     ·exact z2
     ·rw [z1] at hz2;cases hz2
    refine ⟨_,h1,a,C,dx,_,.ref p,rfl,g4,q2,q3 n hf,zmf hl,G₀,H₀,G1,ρ,kd,A1,hkd,fun u G2 H2 s2 r2=>?_⟩
    have A2:=A1.step s2
    have eu:=zgl r2 hkk
    subst eu
    have hp2:H2 p=some (.dK us):=s2.hh _ _ y3
    have ha2:H2 a=some (.ins C dx (vs++[(n,.ref p)])):=s2.hh _ _ g4
    have ga2:G2 a=none:=(s2.out _ _ g4).trans g3
    have gp2:G2 p=none:=(s2.out _ _ y3).trans y2
    have npa:a≠p:=zl3 ha2 hp2 (by intro z;cases z)
    have hlen:us.length=kvs.length:=by simpa using congrArg List.length y4
    obtain ⟨w1,w2⟩:=zj6 (k:=kk) (r1.mono s2.gg) y4 (y5.mono s2.gg)
    refine ⟨p,_,rfl,zoZ.k hp2 (by have:=sizeLine_eq;omega),?_⟩
    refine k σ G2 _ (s1.gg.trans s2.gg) (A2.ch hi h1 (.objd g1' g2 ga2 ha2 g5 (g6.mono s2.gg) y1 gp2 hp2 y4 (y5.mono s2.gg) g7) (fun b o e hb=>?_) (.objd (p:=p) g1' g2 ga2 (by rw [zaj npa];exact ha2) g5 (g6.mono s2.gg) y1 gp2 zak w1 w2 g7) (fun b hb=>.inl hb) (.refl _) (fun b o e=>?_) (fun _ _ _ _=>rfl))
    ·rw [zaj (fun z=>hb (by rw [z];exact qg _ qf))];exact e
    ·rw [zaj (zal e gp2)];exact A2.gh b o e
  ·cases hq
 ·cases hq⟩
def zlt:Slot->Option D
 | .obj c fs=>some (.ins c fs)
 | .objd c fs n kvs=>some (.ins c (fs++[(n,.dk kvs)]))
 | _=>none
theorem At.done (A:At Γ K G₀ H₀ G H ρ σ) {i:Nat} {s:Slot} (hi:ρ[i]?=some (some s)) (hd:zlt s=some d):∃ a G',Γ.self=some a/\Step G₀ H₀ G' H/\Rep Γ K G' (.ref a) d:=by
 obtain ⟨v,fp,h1,h2⟩:=A.get hi
 cases h2 with
 | sh _=>cases hd
 | own _ _ _ _=>cases hd
 | odk _ _ _ _ _=>cases hd
 | odt _ _ _ _ _=>cases hd
 | tlo _ _ _ _ _ _=>cases hd
 | oll _ _ _ _ _=>cases hd
 | pin _=>cases hd
 | obj g1 g2 g3 g4 g5 g6 g7 =>
  cases hd
  rename_i a C dx vs fs
  have sm:zbh G (upd G a (.ins C dx vs)):=fun b o e=>by rw [zaj (zal e g3)];exact e
  refine ⟨a,upd G a (.ins C dx vs),g7,⟨A.st.hh,A.st.gg.trans sm,fun b o e=>?_,fun b o e=>?_⟩,.ins zak g1 g5 (g6.mono sm)⟩
  ·by_cases hb:b=a
   ·subst hb;rw [zak] at e;cases e;exact g4
   ·rw [zaj hb] at e;exact A.gh b o e
  ·rw [zaj (zal e g2)];exact A.st.out b o e
 | objd g1 g2 g3 g4 g5 g6 y1 y2 y3 y4 y5 g7 =>
  cases hd
  rename_i n a C dx p vs fs us kvs
  have npa:a≠p:=zl3 g4 y3 (by intro z;cases z)
  have sm:zbh G (upd (upd G p (.dK us)) a (.ins C dx (vs++[(n,.ref p)]))):=fun b o e=>by rw [zaj (zal e g3),zaj (zal e y2)];exact e
  refine ⟨a,_,g7,⟨A.st.hh,A.st.gg.trans sm,fun b o e=>?_,fun b o e=>?_⟩,.ins (us:=vs++[(n,.ref p)]) (fs:=fs++[(n,.dk kvs)]) zak g1 (by simp [g5]) ?_⟩
  ·by_cases hb:b=a
   ·subst hb;rw [zak] at e;cases e;exact g4
   ·rw [zaj hb] at e
    by_cases hb':b=p
    ·subst hb';rw [zak] at e;cases e;exact y3
    ·rw [zaj hb'] at e;exact A.gh b o e
  ·rw [zaj (zal e g2),zaj (zal e y1)];exact A.st.out b o e
  ·have r2:Rep Γ K (upd (upd G p (.dK us)) a (.ins C dx (vs++[(n,.ref p)]))) (.ref p) (.dk kvs):=.dk (us:=us) (by rw [zaj npa.symm,zak]) y4 (y5.mono sm)
   simpa using (g6.mono sm).append (.cons r2 .nil)
end
def Cn.mk1 (Γ:Cn) (x:Addr):Cn:=⟨Γ.cls,some x⟩
section
variable {c:Str} {x:Addr}
theorem Rep.to1 (x:Addr) (r:Rep Γ K G v d):Rep (Γ.mk1 x) K G v d:=Rep.re (Γ:=Γ) (Γ':=Γ.mk1 x) rfl r
theorem Rep.of1 (r:Rep (Γ.mk1 x) K G v d):Rep Γ K G v d:=Rep.re (Γ:=Γ.mk1 x) (Γ':=Γ) rfl r
theorem Reps.of1 {v:List V} {d:List D} (r:Reps (Γ.mk1 x) K G v d):Reps Γ K G v d:=Reps.re (Γ:=Γ.mk1 x) (Γ':=Γ) rfl r
theorem CF.re (h:CF Γ K c attrs) (x:Addr):CF (Γ.mk1 x) K c attrs:=⟨h.ex⟩
theorem zr9 {Q:VK} {E:XK} (x:Addr) (h:spF (Γ.mk1 x) K n F vs H Q E):spF Γ K n F vs H Q E:=by
 obtain ⟨G,ds,d,h1,h2,h3,h4,k⟩:=h
 exact ⟨G,ds,d,h1,h2.of1,h3,h4,fun v G' H' s r=>k v G' H' s (r.to1 x)⟩
theorem Cal.re {k:Nat} (C:Cal Γ P w K mg base y n k F) (x:Addr):Cal (Γ.mk1 x) P w K mg base y n k F:=by
 obtain ⟨f,fd,ps,h1,h2,h3,h4⟩:=C.ex
 exact ⟨f,fd,ps,h1.imp fun vs H Q E q=>zr9 x q,h2,h3,h4⟩
structure CalM (Γ:Cn) (P:Program) (w:World) (K:PySem.W.Frag) (mg:Str->Option Value) (base:Heap) (c m:Str) (n k:Nat) (F:List D->Option D):Prop where
 ex:∃ C f fd ps,Γ.cls c=some C/\Cls K C/\Meth K C m f/\FnOk P w K mg base CX0 k f fd ps (spF Γ K n F)/\zej K fd ps []
def spI (Γ:Cn) (K:PySem.W.Frag) (C:Addr) (n:Nat) (F:List D->Option D):Sp:=fun vs H Q _=>∃ x dx H1 G ds d us,vs=.ref x::us/\H=upd (upd H1 dx (.own x)) x (.ins C dx [])/\H1 x=none/\H1 dx=none/\dx≠x/\zbh G H1/\Reps Γ K G us ds/\ds.length=n/\F ds=some d /\
 ∀ G' H',Step G H1 G' H'->Rep Γ K G' (.ref x) d->Q .non H'
structure CalI (Γ:Cn) (P:Program) (w:World) (K:PySem.W.Frag) (mg:Str->Option Value) (base:Heap) (c:Str) (n k:Nat) (F:List D->Option D):Prop where
 ex:∃ C f fd ps,Γ.cls c=some C/\Mk K C f/\mg c=some (.ref C)/\FnOk P w K mg base CX0 k f fd ps (spI Γ K C n F)/\zej K fd ps []
end
section
variable {fr:FA} {c:Str}
def zdW (c m:Str) (F:List D->Option D) (fo:FE) (fr:FA):FE:=fun ρ=>(fo ρ).bind fun d=>match d with
 | .ins c' fs=>if c'=c/\fs.lookup m=none then (fr ρ).bind fun ds=>F (d::ds) else none
 | _=>none
theorem zmT {k:Nat} (C:CalM Γ X.prog X.w X.K X.mg X.base c m (n+1) k F) (hr:Room j X.A) (hk:k<=j) (ho:DE Γ X o fo) (ha:DA Γ X (e::es) fr) (hn:∀ ρ ds,fr ρ=some ds->ds.length=n)
  (hst:starEach (e::es) X.env=(false,eval e X.env)::starEach es X.env:=by rfl) (hpl:(backTo pos (starEach es X.env)).any (·.1)=false:=by rfl)
  (ht:eval (.Call (.Attribute o m apos) (e::es) [] pos) X.env=(do
   let ov ← eval o X.env
   standAt apos.atName
   let (f,first) ← holding [ov] (getMethod ov m pl)
   callWith pos f first (backTo pos (starEach (e::es) X.env)) (backToKw pos (keywordEach [] X.env))):=by rfl) :
  DE Γ X (.Call (.Attribute o m apos) (e::es) [] pos) (zdW c m F fo fr):=⟨by
 obtain ⟨Ca,f,fd,ps,h0,h1,h2,h3,h4⟩:=C.ex
 refine (zqd ho.1 h1 h2 h3 (hr.mono hk) h4 .nil zkJ ha.1 hst hpl ht).imp fun σ H Q=>?_
 rintro ⟨G₀,H₀,G,ρ,d,A,h,k⟩
 unfold zdW at h
 obtain ⟨x,hx,hq⟩:=oBd h
 clear h
 refine ⟨G₀,H₀,G,ρ,x,A,hx,fun v G1 H1 s1 r1=>?_⟩
 split at hq
 ·rename_i c' fs
  split at hq
  ·rename_i hz
   obtain ⟨rfl,hz2⟩:=hz
   obtain ⟨ds,hds,hF⟩:=oBd hq
   have r1':=r1
   cases r1 with
   | ins g1 g2 g3 g4 =>
    rw [h0] at g2
    cases g2
    rename_i _ _ us0
    have hl:List.lookup m us0=none:=by
     rcases zbZ (k:=m) g3 g4 with ⟨_,z2⟩ | ⟨d',v',z1,_,_⟩
     ·exact z2
     ·rw [z1] at hz2;cases hz2
    refine ⟨_,_,_,rfl,s1.gh _ _ g1,hl,G₀,H₀,G1,ρ,ds,A.step s1,hds,fun vs G2 H2 s2 r2=>?_⟩
    show spF Γ X.K (n+1) F (_::(vs++[])) H2 Q E0
    rw [List.append_nil]
    exact ⟨G2,_,d,s2.gh,.cons (r1'.mono s2.gg) r2,by rw [qh,hn ρ ds hds],hF,fun v G' H' s r=>k v G' H' ((s1.trans s2).trans s) r⟩
  ·cases hq
 ·cases hq⟩
theorem zeE {k:Nat} (C:CalM Γ X.prog X.w X.K X.mg X.base c m 1 k F) (hr:Room j X.A) (hk:k<=j) (ho:DE Γ X o fo)
  (ht:eval (.Call (.Attribute o m apos) [] [] pos) X.env=(do
   let ov ← eval o X.env
   standAt apos.atName
   let (f,first) ← holding [ov] (getMethod ov m pl)
   callWith pos f first (backTo pos (starEach [] X.env)) (backToKw pos (keywordEach [] X.env))):=by rfl) :
  DE Γ X (.Call (.Attribute o m apos) [] [] pos) (zdW c m F fo zai):=⟨by
 obtain ⟨Ca,f,fd,ps,h0,h1,h2,h3,h4⟩:=C.ex
 refine (zjR ho.1 h1 h2 h3 (hr.mono hk) h4 .nil zkJ ht).imp fun σ H Q=>?_
 rintro ⟨G₀,H₀,G,ρ,d,A,h,k⟩
 unfold zdW at h
 obtain ⟨x,hx,hq⟩:=oBd h
 clear h
 refine ⟨G₀,H₀,G,ρ,x,A,hx,fun v G1 H1 s1 r1=>?_⟩
 split at hq
 ·rename_i c' fs
  split at hq
  ·rename_i hz
   obtain ⟨rfl,hz2⟩:=hz
   obtain ⟨ds,hds,hF⟩:=oBd hq
   cases hds
   have r1':=r1
   cases r1 with
   | ins g1 g2 g3 g4 =>
    rw [h0] at g2
    cases g2
    rename_i _ _ us0
    have hl:List.lookup m us0=none:=by
     rcases zbZ (k:=m) g3 g4 with ⟨_,z2⟩ | ⟨d',v',z1,_,_⟩
     ·exact z2
     ·rw [z1] at hz2;cases hz2
    refine ⟨_,_,_,rfl,s1.gh _ _ g1,hl,?_⟩
    exact ⟨G1,_,d,s1.gh,.cons r1' .nil,rfl,hF,fun v G' H' s r=>k v G' H' (s1.trans s) r⟩
  ·cases hq
 ·cases hq⟩
theorem zrh {k:Nat} (C:CalI Γ X.prog X.w X.K X.mg X.base c n k F) (hr:Room j X.A) (hk:k+1<=j) (hg:Gl X c) (ha:DA Γ X (e::es) fr) (hn:∀ ρ ds,fr ρ=some ds->ds.length=n)
  (hdb:(c==("__debug__":Str))=false:=by decide) (he:starEach (e::es) X.env=(false,eval e X.env)::starEach es X.env:=by rfl) (hpl:(backTo pos (starEach es X.env)).any (·.1)=false:=by rfl) :
  DE Γ X (.Call (.Name c p) (e::es) [] pos) (cF F fr):=⟨by
 obtain ⟨Ca,f,fd,ps,h0,h1,h2,h3,h4⟩:=C.ex
 refine (zqe h1 h3 (hr.mono hk) hg h2 h4 .nil zkJ ha.1 hdb he hpl).imp fun σ H Q=>?_
 rintro ⟨G₀,H₀,G,ρ,d,A,h,k⟩
 unfold cF at h
 obtain ⟨ds,hd,hq⟩:=oBd h
 refine ⟨G₀,H₀,G,ρ,ds,A,hd,fun vs G1 H1 s1 r1 x dx hx hdx hne=>?_⟩
 rw [List.append_nil]
 exact ⟨x,dx,H1,G1,ds,d,vs,rfl,rfl,hx,hdx,hne,s1.gh,r1,hn ρ ds hd,hq,fun G' H' s r=>⟨rfl,k _ G' H' (s1.trans s) r⟩⟩⟩
end
def zrG (n:Nat) (c:Str) (g:FS):List D->Option D:=fun ds=>(g (some (.obj c [])::ds.map (fun d=>some (Slot.sh d))++List.replicate n none)).bind fun r=>match r.1 with
 | .nx=>match r.2[0]? with
  | some (some s)=>zlt s
  | _=>none
 | _=>none
variable {s0:Str}
section
variable {c:Str}
theorem Fun.okI {f:Addr} {k:Nat} (F:Fun K x qual st f fd) (S:FnScope N (s0::ps) (zah st)) (hC:Γ.cls c=some C)
  (hbody:∀ (y:Addr) (cdv:Value) (A:Around) (outer:List Env) (s:Shared) (H:Hp) (E:XK),Room k (A.deeper (envOfC qual (zah st) s.heap.objs.size f cdv)) ->
   DSs (Γ.mk1 y) (ziM CX0 P w K mg base N qual (zah st) f cdv A outer s H E).nox (zaV st) g):FnOk P w K mg base CX0 (k+1) f fd (s0::ps) (spI Γ K C ps.length (zrG (N.length - (ps.length+1)) c g)):=by
 refine F.ok S (fun vs H Q E h=>?_) (fun cdv A outer s H vs Q E hr h=>?_)
 ·obtain ⟨y,dx,H1,G,ds,d,us,rfl,_,_,_,_,_,r,hl,_⟩:=h
  rw [qh,r.length,hl,qh]
 ·obtain ⟨y,dx,H1,G,ds,d,us,rfl,rfl,hx,hdx,hne,gh,r,hl,hd,k⟩:=h
  refine ⟨_,(hbody y cdv A outer s _ E hr).1,?_⟩
  unfold zrG at hd
  obtain ⟨⟨fl,ρ'⟩,hg,hd⟩:=oBd hd
  have s1:=Step.newOwn (o:=.own y) gh hdx
  have hx1:(upd H1 dx (.own y)) y=none:=by rw [zaj (Ne.symm hne)];exact hx
  have s2:=s1.trans (Step.newOwn (o:=.ins C dx []) s1.gh hx1)
  have hlen:us.length=ds.length:=r.length
  have A0:At (Γ.mk1 y) K G H1 G (upd (upd H1 dx (.own y)) y (.ins C dx [])) (some (.obj c [])::ds.map (fun d=>some (Slot.sh d))++List.replicate (N.length - (ps.length+1)) none) (zen N (.ref y::us)):=by
   refine ⟨s2,by simp [zen,hlen,hl],fun i=>if i=0 then [y] else [],fun i t e=>?_,fun i j t u hij e1 e2 b hb=>?_⟩
   ·cases i with
    | zero =>
     cases e
     exact ⟨.ref y,rfl,.obj (vs:=[]) (fs:=[]) hC hx (gh.free hx) zak rfl .nil rfl⟩
    | succ i =>
     have e:(ds.map (fun d=>some (Slot.sh d))++List.replicate (N.length - (ps.length+1)) none)[i]?=some (some t):=e
     by_cases hi:i < ds.length
     ·rw [qx (by simpa using hi),qj] at e
      obtain ⟨d',hd',e⟩:=oMd e
      cases e
      obtain ⟨v,hv,rv⟩:=r.get hd'
      refine ⟨v,?_,.sh (rv.to1 y)⟩
      unfold zen
      show ((us.map some)++_)[i]?=some (some v)
      rw [qx (by rw [qe,hlen];exact hi),qj,hv]
      rfl
     ·rw [qJ (by simpa using hi),List.getElem?_replicate] at e
      split at e <;> cases e
   ·have hb:b∈(if i=0 then [y] else []):=hb
    show b∉(if j=0 then [y] else [])
    by_cases hi:i=0
    ·subst hi
     rw [qW (Ne.symm hij)]
     exact fun z=>by cases z
    ·rw [qW hi] at hb;cases hb
  refine ⟨G,H1,G,_,fl,ρ',A0,hg,fun σ' G' H' sm A'=>?_⟩
  cases fl with
  | nx =>
   simp only at hd
   split at hd
   ·rename_i sl hs
    obtain ⟨a,G2,e1,st2,rp⟩:=A'.done hs hd
    cases e1
    exact k G2 H' st2 rp.of1
   ·cases hd
  | rt d'=>cases hd
  | ow d'=>cases hd
  | nw d'=>cases hd
  | od d'=>cases hd
  | bk=>cases hd
  | ct=>cases hd
structure DfnM (K:PySem.W.Frag) (C:Addr) (c m qual:Str) (st:Stmt):Prop where
 ex:∃ f fd,Fun K m qual st f fd/\PySem.W.findIn K (.ref C) m=some (some (.ref f))/\PySem.W.isFn K (.ref f)=true
structure ClsOk (Γ:Cn) (K:PySem.W.Frag) (mg:Str->Option Value) (c:Str) (C:Addr):Prop where
 cn:Γ.cls c=some C
 cl:Cls K C
 mgC:mg c=some (.ref C)
 makes:PySem.W.makesIn K C=true
 kp:PySem.W.keepIn K (.ref C)=true
theorem DfnM.cal {k:Nat} (O:ClsOk Γ K mg c C) (F:DfnM K C c m qual st) (S:FnScope N ps (zah st))
  (hb:∀ (kV doc pm:Value) (an:Option Addr) (cdv ct:Value) (us:List Value),us.length=ps.length->bindArgs (PySem.W.fnOf m qual (zbW st) (zaV st) (zah st) .none kV doc pm an cdv ct) ⟨us,[]⟩=pure (ps.zip us))
  (hbody:∀ (f:Addr) (cdv:Value) (A:Around) (outer:List Env) (s:Shared) (H:Hp) (E:XK),Room k (A.deeper (envOfC qual (zah st) s.heap.objs.size f cdv)) ->
   DSs Γ (ziM CX0 P w K mg base N qual (zah st) f cdv A outer s H E).nox (zaV st) g):CalM Γ P w K mg base c m ps.length (k+1) (zby (N.length - ps.length) g):=by
 obtain ⟨f,fd,h1,h2,h3⟩:=F.ex
 exact ⟨C,f,fd,ps,O.cn,O.cl,⟨h2,h3,h1.kp⟩,h1.okD S (hbody f),h1.binds hb⟩
theorem DfnM.calI {k:Nat} (O:ClsOk Γ K mg c C) (F:DfnM K C c "__init__" qual st) (S:FnScope N (s0::ps) (zah st))
  (hb:∀ (kV doc pm:Value) (an:Option Addr) (cdv ct:Value) (us:List Value),us.length=(s0::ps).length->bindArgs (PySem.W.fnOf "__init__" qual (zbW st) (zaV st) (zah st) .none kV doc pm an cdv ct) ⟨us,[]⟩=pure ((s0::ps).zip us))
  (hbody:∀ (f y:Addr) (cdv:Value) (A:Around) (outer:List Env) (s:Shared) (H:Hp) (E:XK),Room k (A.deeper (envOfC qual (zah st) s.heap.objs.size f cdv)) ->
   DSs (Γ.mk1 y) (ziM CX0 P w K mg base N qual (zah st) f cdv A outer s H E).nox (zaV st) g):CalI Γ P w K mg base c ps.length (k+1) (zrG (N.length - (ps.length+1)) c g):=by
 obtain ⟨f,fd,h1,h2,h3⟩:=F.ex
 exact ⟨C,f,fd,s0::ps,O.cn,⟨O.makes,h2,h3,O.kp⟩,O.mgC,h1.okI S O.cn (hbody f),h1.binds hb⟩
theorem ClsOk.cf (O:ClsOk Γ K mg c C) (h:∀ f∈attrs,zfm K C f):CF Γ K c attrs:=⟨C,O.cn,O.cl,h⟩
end
variable {M n0 ep:Nat} {h:Int} {owner:Array (Option Nat)} {hs:List Int} {I:Addr} {wr:List Addr} {hashAt:Nat->Int} {es':Array (Int×Value)}
namespace ST
structure Pr where
 j:Nat
 more:Nat
 i:Nat
 pt:Nat
noncomputable def adv (M:Nat) (p:Pr):Pr:=if p.more > 0 then { p with j:=p.j+1,more:=p.more - 1 } else
 { j:=(SetTable.leap M p.i p.pt).1,more:=SetTable.runEnd M (SetTable.leap M p.i p.pt).1 - (SetTable.leap M p.i p.pt).1,i:=(SetTable.leap M p.i p.pt).1,pt:=(SetTable.leap M p.i p.pt).2 }
def st0 (M:Nat) (h:Int):Pr:={ j:=SetTable.bits h % (M+1),more:=SetTable.runEnd M (SetTable.bits h % (M+1)) - SetTable.bits h % (M+1),i:=SetTable.bits h % (M+1),pt:=SetTable.bits h }
def it (M:Nat) (h:Int):Nat->Pr
 | 0=>st0 M h
 | n+1=>adv M (it M h n)
def J (M:Nat) (h:Int) (n:Nat):Nat:=(it M h n).j
def lp (M:Nat) (h:Int):Nat->Nat×Nat
 | 0=>(SetTable.bits h % (M+1),SetTable.bits h)
 | r+1=>SetTable.leap M (lp M h r).1 (lp M h r).2
def zjw (M:Nat) (x:Nat×Nat):Pr:={ j:=x.1,more:=SetTable.runEnd M x.1 - x.1,i:=x.1,pt:=x.2 }
theorem zj9 (M:Nat) (h:Int) (n:Nat):∀ k,it M h (n+k)=(Nat.repeat (adv M) k (it M h n))
 | 0=>rfl
 | k+1=>by rw [← Nat.add_assoc,it,zj9 M h n k];rfl
theorem zpV (M i:Nat):SetTable.runEnd M i - i<=9:=by
 unfold SetTable.runEnd
 split <;> omega
theorem znE (M:Nat):∀ (k:Nat) (p:Pr),k<=p.more->Nat.repeat (adv M) k p={ p with j:=p.j+k,more:=p.more - k }
 | 0,p,_=>rfl
 | k+1,p,h=>by
  rw [Nat.repeat,znE M k p (by omega)]
  unfold adv
  rw [qV (by show p.more - k > 0;omega)]
  simp only [Nat.sub_sub,Nat.add_assoc]
theorem zo3 (M:Nat) (h:Int):∀ r,∃ n,n<=10*r/\it M h n=zjw M (lp M h r)
 | 0=>⟨0,qu _,rfl⟩
 | r+1=>by
  obtain ⟨n,hn,e⟩:=zo3 M h r
  have hl:=zpV M (lp M h r).1
  refine ⟨n+(SetTable.runEnd M (lp M h r).1 - (lp M h r).1)+1,by omega,?_⟩
  have e2:=znE M (SetTable.runEnd M (lp M h r).1 - (lp M h r).1) (zjw M (lp M h r)) (qu _)
  rw [it,zj9,e,e2]
  unfold adv
  rw [qW (by show ¬ ((SetTable.runEnd M (lp M h r).1 - (lp M h r).1) - (SetTable.runEnd M (lp M h r).1 - (lp M h r).1) > 0);omega)]
  rfl
theorem zrt (h:Int):SetTable.bits h < 2 ^ 64:=by
 unfold SetTable.bits
 have h1:=Int.emod_nonneg h (show (2 ^ 64:Int)≠0 by decide)
 have h2:=Int.emod_lt_of_pos h (show (0:Int) < 2 ^ 64 by decide)
 omega
theorem zsu (M:Nat) (h:Int):∀ r,(lp M h r).2=SetTable.bits h / 32 ^ r
 | 0=>by simp [lp]
 | r+1=>by
  show (lp M h r).2 / 32=_
  rw [zsu M h r,Nat.div_div_eq_div_mul,Nat.pow_succ]
theorem zp5 (M:Nat) (h:Int) {r:Nat} (hr:13<=r):(lp M h r).2=0:=by
 rw [zsu]
 refine Nat.div_eq_of_lt (qD (zrt h) ?_)
 exact qL (show 2 ^ 64<=32 ^ 13 by decide) (Nat.pow_le_pow_right (by decide) hr)
def fl (M i:Nat):Nat:=(i*5+1) % (M+1)
def orb (M:Nat):Nat->Nat->Nat
 | 0,i=>i
 | m+1,i=>fl M (orb M m i)
theorem zme (M:Nat) (h:Int):∀ m,(lp M h (13+m)).1=orb M m (lp M h 13).1
 | 0=>rfl
 | m+1=>by
  show (SetTable.leap M (lp M h (13+m)).1 (lp M h (13+m)).2).1=_
  rw [zp5 M h (by omega),zme M h m]
  simp [SetTable.leap,orb,fl]
theorem zhk (M i:Nat) (a:Nat):∀ b,orb M (a+b) i=orb M b (orb M a i)
 | 0=>rfl
 | b+1=>by rw [← Nat.add_assoc,orb,zhk M i a b];rfl
def zuV (M:Nat):Nat->Nat->List Nat
 | 0,_=>[]
 | n+1,i=>i::zuV M n (fl M i)
theorem zjT (M:Nat):∀ m i,orb M (m+1) i=orb M m (fl M i)
 | 0,_=>rfl
 | m+1,i=>by rw [orb,zjT M m i];rfl
theorem zjU (M:Nat):∀ (n i j:Nat),j∈zuV M n i->∃ m,m < n/\orb M m i=j
 | 0,_,_,h=>nomatch h
 | n+1,i,j,h=>by
  rcases List.mem_cons.mp h with e | h
  ·exact ⟨0,Nat.succ_pos _,e.symm⟩
  ·obtain ⟨m,hm,e⟩:=zjU M n (fl M i) j h
   exact ⟨m+1,by omega,by rw [zjT];exact e⟩
structure Full (M:Nat):Prop where
 all:∀ j,j<=M->∃ m,m < M+1/\orb M m 0=j
 back:orb M (M+1) 0=0
def chk (M:Nat):Bool:=(List.range (M+1)).all (fun j=>(zuV M (M+1) 0).contains j) && orb M (M+1) 0==0
theorem zhs (h:chk M=true):Full M:=by
 unfold chk at h
 rw [Bool.and_eq_true,List.all_eq_true] at h
 refine ⟨fun j hj=>?_,by simpa using h.2⟩
 have:=h.1 j (List.mem_range.mpr (by omega))
 exact zjU M (M+1) 0 j (by simpa using this)
theorem ztz:Full 7:=zhs (by decide +kernel)
theorem ztA:Full 31:=zhs (by decide +kernel)
theorem zqX:Full 127:=zhs (by decide +kernel)
theorem zqW:Full 511:=zhs (by decide +kernel)
theorem Full.reach (F:Full M) (hi:i<=M) (hj:j<=M):∃ m,m<=M/\orb M m i=j:=by
 obtain ⟨a,ha,ea⟩:=F.all i hi
 obtain ⟨b,hb,eb⟩:=F.all j hj
 by_cases h:a<=b
 ·refine ⟨b - a,by omega,?_⟩
  rw [← ea,← zhk,show a+(b - a)=b by omega,eb]
 ·refine ⟨M+1 - a+b,by omega,?_⟩
  rw [← ea,← zhk,show a+(M+1 - a+b)=(M+1)+b by omega,zhk,F.back,eb]
theorem zqF (M:Nat) (h:Int):∀ r,(lp M h r).1<=M
 | 0=>Nat.lt_succ_iff.mp (Nat.mod_lt _ (Nat.succ_pos _))
 | r+1=>Nat.lt_succ_iff.mp (Nat.mod_lt _ (Nat.succ_pos _))
theorem Full.covers (F:Full M) (h:Int) (hj:j<=M):∃ n,n < 10*(M+15)/\J M h n=j:=by
 obtain ⟨m,hm,e⟩:=F.reach (zqF M h 13) hj
 obtain ⟨n,hn,en⟩:=zo3 M h (13+m)
 refine ⟨n,by omega,?_⟩
 unfold J
 rw [en]
 show (lp M h (13+m)).1=j
 rw [zme,e]
theorem ztq (M:Nat) (h:Int):∀ n,(it M h n).j+(it M h n).more<=M
 | 0=>by
  have:=zqF M h 0
  show (lp M h 0).1+(SetTable.runEnd M (lp M h 0).1 - (lp M h 0).1)<=M
  unfold SetTable.runEnd
  split <;> omega
 | n+1=>by
  have ih:=ztq M h n
  rw [it]
  unfold adv
  split
  ·show (it M h n).j+1+((it M h n).more - 1)<=M
   omega
  ·show (SetTable.leap M (it M h n).i (it M h n).pt).1+(SetTable.runEnd M (SetTable.leap M (it M h n).i (it M h n).pt).1 - (SetTable.leap M (it M h n).i (it M h n).pt).1)<=M
   have:(SetTable.leap M (it M h n).i (it M h n).pt).1<=M:=Nat.lt_succ_iff.mp (Nat.mod_lt _ (Nat.succ_pos _))
   unfold SetTable.runEnd
   split <;> omega
theorem zvm (M:Nat) (h:Int) (n:Nat):J M h n<=M:=qL (Nat.le_add_right _ _) (ztq M h n)
theorem Full.first (F:Full M) (h:Int) (occ:Nat->Bool) (hf:∃ j,j<=M/\occ j=false):∃ n,n < 10*(M+15)/\occ (J M h n)=false/\∀ m,m < n->occ (J M h m)=true:=by
 obtain ⟨j,hj,hof⟩:=hf
 obtain ⟨n,hn,e⟩:=F.covers h hj
 have key:∀ n,n < 10*(M+15)->occ (J M h n)=false->∃ n,n < 10*(M+15)/\occ (J M h n)=false/\∀ m,m < n->occ (J M h m)=true:=by
  intro n
  induction n using Nat.strongRecOn with
  | ind n ih =>
   intro hn ho
   by_cases hx:∃ m,m < n/\occ (J M h m)=false
   ·obtain ⟨m,hm,hm2⟩:=hx
    exact ih m hm (by omega) hm2
   ·refine ⟨n,hn,ho,fun m hm=>?_⟩
    cases q:occ (J M h m) with
    | true=>rfl
    | false=>exact absurd ⟨m,hm,q⟩ hx
 exact key n hn (by rw [e];exact hof)
theorem zhL (xs:Array Nat) (j:Nat) (hs:xs.toList.Pairwise (· < ·)):∀ (fuel lo hi:Nat),hi - lo<=fuel->lo<=hi->hi<=xs.size->(∀ i,i < lo->∀ v,xs[i]?=some v->v < j)->(∀ i,hi<=i->∀ v,xs[i]?=some v->j<=v) ->
  (SetTable.below.go xs j fuel lo hi<=xs.size)/\(∀ i,i < SetTable.below.go xs j fuel lo hi->∀ v,xs[i]?=some v->v < j)/\∀ i,SetTable.below.go xs j fuel lo hi<=i->∀ v,xs[i]?=some v->j<=v
 | 0,lo,hi,hf,hl,hh,h1,h2=>by
  have e:lo=hi:=by omega
  subst e
  exact ⟨hh,h1,h2⟩
 | fuel+1,lo,hi,hf,hl,hh,h1,h2=>by
  have mono:∀ a b va vb,a < b->xs[a]?=some va->xs[b]?=some vb->va < vb:=fun a b va vb hab ha hb=>by
   have:=List.pairwise_iff_getElem.mp hs a b
   obtain ⟨a1,a2⟩:=Array.getElem?_eq_some_iff.mp ha
   obtain ⟨b1,b2⟩:=Array.getElem?_eq_some_iff.mp hb
   have q:=this (by simpa using a1) (by simpa using b1) hab
   simpa [a2,b2] using q
  unfold SetTable.below.go
  by_cases hlt:lo < hi
  ·rw [qV hlt]
   have hm1:lo<=(lo+hi) / 2:=by omega
   have hm2:(lo+hi) / 2 < hi:=by omega
   have hget:∃ v,xs[(lo+hi) / 2]?=some v:=⟨xs[(lo+hi) / 2]'(by omega),by simp [show (lo+hi) / 2 < xs.size by omega]⟩
   obtain ⟨v,hv⟩:=hget
   have hd:xs.getD ((lo+hi) / 2) j=v:=by simp [Array.getD_eq_getD_getElem?,hv]
   dsimp only
   rw [hd]
   by_cases hvj:v < j
   ·rw [qV hvj]
    refine zhL xs j hs fuel _ _ (by omega) (by omega) hh (fun i hi' w hw=>?_) h2
    rcases Nat.lt_or_ge i ((lo+hi) / 2) with hi2 | hi2
    ·exact Nat.lt_trans (mono i _ w v hi2 hw hv) hvj
    ·have e:i=(lo+hi) / 2:=by omega
     subst e
     rw [hv] at hw;cases hw;exact hvj
   ·rw [qW hvj]
    refine zhL xs j hs fuel _ _ (by omega) (by omega) (by omega) h1 fun i hi' w hw=>?_
    rcases Nat.lt_or_ge ((lo+hi) / 2) i with hi2 | hi2
    ·exact qL (by omega) (Nat.le_of_lt (mono _ i v w hi2 hv hw))
    ·have e:i=(lo+hi) / 2:=by omega
     subst e
     rw [hv] at hw;cases hw;omega
  ·rw [qW hlt]
   have e:lo=hi:=by omega
   subst e
   exact ⟨hh,h1,h2⟩
theorem zhK (xs:Array Nat) (j:Nat) (hs:xs.toList.Pairwise (· < ·)):SetTable.below xs j<=xs.size/\(∀ i,i < SetTable.below xs j->∀ v,xs[i]?=some v->v < j)/\∀ i,SetTable.below xs j<=i->∀ v,xs[i]?=some v->j<=v :=
 zhL xs j hs xs.size 0 xs.size (qu _) (Nat.zero_le _) (qu _) (fun i h=>absurd h (Nat.not_lt_zero _)) fun i h v hv=>by
  have:=(Array.getElem?_eq_some_iff.mp hv).1
  omega
theorem zgq (xs:Array Nat) (j i:Nat) (hs:xs.toList.Pairwise (· < ·)) (h:xs[i]?=some j):SetTable.below xs j=i:=by
 obtain ⟨h0,h1,h2⟩:=zhK xs j hs
 rcases Nat.lt_trichotomy (SetTable.below xs j) i with hl | hl | hl
 ·have hi:=(Array.getElem?_eq_some_iff.mp h).1
  have hg:xs[SetTable.below xs j]?=some (xs[SetTable.below xs j]'(by omega)):=by simp [show SetTable.below xs j < xs.size by omega]
  have q1:=h2 _ (qu _) _ hg
  have:=List.pairwise_iff_getElem.mp hs (SetTable.below xs j) i (by simp;omega) (by simpa using hi) hl
  obtain ⟨_,e⟩:=Array.getElem?_eq_some_iff.mp h
  simp only [Array.getElem_toList] at this
  omega
 ·exact hl
 ·have:=h1 i hl j h
  omega
structure Tb (t:SetTable) (es:Array (Int×Value)):Prop where
 full:Full t.mask
 sz:t.place.size=es.size
 dm:t.dummies=#[]
 ri:t.place.toList.Pairwise (· < ·)
 le:∀ j∈t.place.toList,j<=t.mask
 few:es.size*5 < t.mask*3
 rc:∀ (i j:Nat) (h:Int) (x:Value),t.place[i]?=some j->es[i]?=some (h,x)->∃ n,J t.mask h n=j/\∀ m,m < n->J t.mask h m∈t.place.toList
section
variable {t:SetTable} {es:Array (Int×Value)}
theorem Tb.live (T:Tb t es) (h:t.place[i]?=some j):t.slot j=.live i:=by
 unfold SetTable.slot
 rw [zgq _ _ _ T.ri h]
 simp [h]
theorem Tb.empty (T:Tb t es) (h:j∉t.place.toList):t.slot j=.empty:=by
 unfold SetTable.slot
 have h1:t.place[SetTable.below t.place j]?≠some j:=fun e=>h (by
  rw [← qH] at e
  exact qO e)
 have h2:SetTable.has t.dummies j=false:=by rw [T.dm];rfl
 simp [h1,h2]
theorem Tb.occ (T:Tb t es) (h:j∈t.place.toList):∃ i:Nat,t.place[i]?=some j:=by
 obtain ⟨i,hi⟩:=List.mem_iff_getElem?.mp h
 exact ⟨i,by rw [← qH];exact hi⟩
theorem Tb.fits (T:Tb t es):t.fits es.size=true:=by
 have h1:=T.sz
 have h2:=T.few
 simp only [SetTable.fits,SetTable.fill,T.dm,Array.size_empty,Bool.and_eq_true,beq_iff_eq,decide_eq_true_eq]
 omega
theorem zfS:∀ (a b:List Nat),a.Nodup->(∀ x∈a,x∈b)->a.length<=b.length
 | [],_,_,_=>Nat.zero_le _
 | x::r,b,nd,h=>by
  have hx:=h x qf
  have nd':=List.nodup_cons.mp nd
  have:=zfS r (b.erase x) nd'.2 fun y hy=>(List.mem_erase_of_ne (show y≠x from fun e=>nd'.1 (by rw [← e];exact hy))).mpr (h y (qg _ hy))
  have hl:=List.length_erase_of_mem hx
  have hp:0 < b.length:=List.length_pos_of_mem hx
  rw [qh]
  omega
theorem Tb.free (T:Tb t es):∃ j,j<=t.mask/\decide (j∈t.place.toList)=false:=by
 by_cases hx:∃ j,j<=t.mask/\j∉t.place.toList
 ·obtain ⟨j,h1,h2⟩:=hx
  exact ⟨j,h1,qM h2⟩
 ·exfalso
  have all:∀ j,j<=t.mask->j∈t.place.toList:=fun j hj=>Classical.byContradiction fun hn=>hx ⟨j,hj,hn⟩
  have h1:=zfS (List.range (t.mask+1)) t.place.toList List.nodup_range fun j hj=>all j (by have:=List.mem_range.mp hj;omega)
  have h2:=T.sz
  have h3:=T.few
  simp only [qT,Array.length_toList] at h1
  omega
theorem Tb.first (T:Tb t es) (h:Int):∃ n,n < 10*(t.mask+15)/\J t.mask h n∉t.place.toList/\∀ m,m < n->J t.mask h m∈t.place.toList:=by
 obtain ⟨n,h1,h2,h3⟩:=T.full.first h (fun j=>decide (j∈t.place.toList)) T.free
 exact ⟨n,h1,of_decide_eq_false h2,fun m hm=>of_decide_eq_true (h3 m hm)⟩
def zcq (p:Pr):SetTable.Probe:={ j:=p.j,more:=p.more,i:=p.i,perturb:=p.pt,dummy:=none }
theorem zpB (t:SetTable) (p:Pr):t.advance (zcq p)=zcq (adv t.mask p):=by
 unfold SetTable.advance adv zcq
 by_cases h:p.more > 0
 ·simp only [h,if_true]
 ·simp only [h,if_false]
theorem Tb.probe_go (T:Tb t es) (hashAt:Nat->Int) (h:Int) {n0:Nat} (hf:J t.mask h n0∉t.place.toList) (ho:∀ m,m < n0->J t.mask h m∈t.place.toList):∀ (fuel n:Nat),n<=n0->n0 < n+fuel ->
  (∃ n' i,n<=n'/\n' < n0/\t.place[i]?=some (J t.mask h n')/\hashAt i=h/\(∀ m i,n<=m->m < n'->t.place[i]?=some (J t.mask h m)->hashAt i≠h)/\SetTable.probe.go t hashAt h fuel (zcq (it t.mask h n))=some (.candidate (J t.mask h n') i (zcq (it t.mask h (n'+1))))) \/
  ((∀ m i,n<=m->m < n0->t.place[i]?=some (J t.mask h m)->hashAt i≠h)/\SetTable.probe.go t hashAt h fuel (zcq (it t.mask h n))=some (.empty (J t.mask h n0) none))
 | 0,n,h1,h2=>by omega
 | fuel+1,n,h1,h2=>by
  unfold SetTable.probe.go
  by_cases hn:n=n0
  ·subst hn
   right
   refine ⟨fun m i a b=>by omega,?_⟩
   have hs:t.slot (zcq (it t.mask h n)).j=.empty:=T.empty hf
   rw [hs]
   rfl
  ·obtain ⟨i,hi⟩:=T.occ (ho n (by omega))
   have hs:t.slot (zcq (it t.mask h n)).j=.live i:=T.live hi
   rw [hs]
   dsimp only
   by_cases hh:hashAt i=h
   ·left
    refine ⟨n,i,qu _,by omega,hi,hh,fun m i a b=>by omega,?_⟩
    rw [qV (by simpa using hh),zpB]
    rfl
   ·rw [qW (by simpa using hh),zpB]
    have inj:∀ i',t.place[i']?=some (J t.mask h n)->i'=i:=fun i' h'=>by
     rw [← zgq _ _ _ T.ri h',← zgq _ _ _ T.ri hi]
    have ext:∀ {b:Nat},(∀ m i,n+1<=m->m < b->t.place[i]?=some (J t.mask h m)->hashAt i≠h)->∀ m i,n<=m->m < b->t.place[i]?=some (J t.mask h m)->hashAt i≠h:=fun {b} q m i' a c d=>by
     by_cases e:m=n
     ·subst e
      rw [inj i' d];exact hh
     ·exact q m i' (by omega) c d
    rcases T.probe_go hashAt h hf ho fuel (n+1) (by omega) (by omega) with ⟨n',i',a,b,c,d,e,f⟩ | ⟨e,f⟩
    ·exact .inl ⟨n',i',by omega,b,c,d,ext e,f⟩
    ·exact .inr ⟨ext e,f⟩
theorem zci (xs:Array α) (p:Nat) (x:α) (hp:p<=xs.size):(SetTable.insertAt xs p x).toList=xs.toList.take p++x::xs.toList.drop p:=by
 unfold SetTable.insertAt
 simp [Array.toList_extract,List.extract_eq_take_drop]
 exact List.take_of_length_le (by simp)
theorem zgT (l:List α) (p:Nat) (x:α) (hp:p<=l.length) (i:Nat):(l.take p++x::l.drop p)[i]?=if i < p then l[i]? else if i=p then some x else l[i - 1]?:=by
 by_cases h1:i < p
 ·rw [qV h1,qx (by rw [qC];omega),List.getElem?_take_of_lt h1]
 ·rw [qW h1,qJ (by rw [qC];omega),qC,Nat.min_eq_left hp]
  by_cases h2:i=p
  ·rw [qV h2,h2];simp
  ·rw [qW h2]
   obtain ⟨k,hk⟩:∃ k,i - p=k+1:=⟨i - p - 1,by omega⟩
   rw [hk,qc,List.getElem?_drop]
   congr 1
   omega
theorem ze0 (l:List α) (p:Nat) (x y:α):y∈l.take p++x::l.drop p↔y=x\/y∈l:=by
 rw [List.mem_append,qK]
 constructor
 ·rintro (h | h | h)
  ·exact .inr (List.mem_of_mem_take h)
  ·exact .inl h
  ·exact .inr (List.mem_of_mem_drop h)
 ·rintro (h | h)
  ·exact .inr (.inl h)
  ·have:y∈l.take p++l.drop p:=by rw [List.take_append_drop];exact h
   rcases List.mem_append.mp this with h | h
   ·exact .inl h
   ·exact .inr (.inr h)
theorem Tb.put (T:Tb t es) {x:Value} (hf:J t.mask h n0∉t.place.toList) (ho:∀ m,m < n0->J t.mask h m∈t.place.toList) (few:(es.size+1)*5 < t.mask*3) (pl:Bool) :
  Tb { (t.put (J t.mask h n0)).1 with plain:=pl } (SetTable.insertAt es (t.put (J t.mask h n0)).2 (h,x)):=by
 obtain ⟨b0,b1,b2⟩:=zhK t.place (J t.mask h n0) T.ri
 have bes:SetTable.below t.place (J t.mask h n0)<=es.size:=by rw [← T.sz];exact b0
 have pl1:(SetTable.insertAt t.place (SetTable.below t.place (J t.mask h n0)) (J t.mask h n0)).toList=t.place.toList.take (SetTable.below t.place (J t.mask h n0))++J t.mask h n0::t.place.toList.drop (SetTable.below t.place (J t.mask h n0)):=zci _ _ _ b0
 have el1:(SetTable.insertAt es (SetTable.below t.place (J t.mask h n0)) (h,x)).toList=es.toList.take (SetTable.below t.place (J t.mask h n0))++(h,x)::es.toList.drop (SetTable.below t.place (J t.mask h n0)):=zci _ _ _ bes
 have szp:(SetTable.insertAt t.place (SetTable.below t.place (J t.mask h n0)) (J t.mask h n0)).size=t.place.size+1:=by
  rw [← Array.length_toList,pl1];simp;omega
 have sze:(SetTable.insertAt es (SetTable.below t.place (J t.mask h n0)) (h,x)).size=es.size+1:=by
  rw [← Array.length_toList,el1];simp;omega
 refine ⟨T.full,?_,?_,?_,?_,?_,?_⟩
 ·show (SetTable.insertAt t.place _ _).size=_
  rw [szp]
  show _=(SetTable.insertAt es (SetTable.below t.place (J t.mask h n0)) (h,x)).size
  rw [sze,T.sz]
 ·show (if SetTable.has t.dummies (J t.mask h n0)=true then _ else t.dummies)=#[]
  rw [T.dm];rfl
 ·show (SetTable.insertAt t.place (SetTable.below t.place (J t.mask h n0)) (J t.mask h n0)).toList.Pairwise (· < ·)
  rw [pl1,List.pairwise_append,List.pairwise_cons]
  have tk:∀ a∈t.place.toList.take (SetTable.below t.place (J t.mask h n0)),a < J t.mask h n0:=fun a ha=>by
   obtain ⟨i,hi⟩:=List.mem_iff_getElem?.mp ha
   have hi':i < SetTable.below t.place (J t.mask h n0):=by
    have:=(List.getElem?_eq_some_iff.mp hi).1
    rw [qC] at this;omega
   rw [List.getElem?_take_of_lt hi',qH] at hi
   exact b1 i hi' a hi
  have dr:∀ a∈t.place.toList.drop (SetTable.below t.place (J t.mask h n0)),J t.mask h n0 < a:=fun a ha=>by
   obtain ⟨i,hi⟩:=List.mem_iff_getElem?.mp ha
   rw [List.getElem?_drop,qH] at hi
   have h1:=b2 _ (Nat.le_add_right _ i) a hi
   rcases Nat.lt_or_ge (J t.mask h n0) a with q | q
   ·exact q
   ·exact absurd (by rw [← qH] at hi;have e:a=J t.mask h n0:=(by omega);rw [e] at hi;exact qO hi) hf
  refine ⟨T.ri.sublist (List.take_sublist _ _),⟨dr,T.ri.sublist (List.drop_sublist _ _)⟩,fun a ha b hb=>?_⟩
  rcases List.mem_cons.mp hb with e | hb
  ·rw [e];exact tk a ha
  ·exact Nat.lt_trans (tk a ha) (dr b hb)
 ·intro j hj
  have hj':j∈(SetTable.insertAt t.place (SetTable.below t.place (J t.mask h n0)) (J t.mask h n0)).toList:=hj
  rw [pl1,ze0] at hj'
  rcases hj' with e | hj'
  ·rw [e];exact zvm _ _ _
  ·exact T.le j hj'
 ·show (SetTable.insertAt es (SetTable.below t.place (J t.mask h n0)) (h,x)).size*5 < t.mask*3
  rw [sze];exact few
 ·intro i j h' x' e1 e2
  have e1':(SetTable.insertAt t.place (SetTable.below t.place (J t.mask h n0)) (J t.mask h n0)).toList[i]?=some j:=by rw [qH];exact e1
  have e2':(SetTable.insertAt es (SetTable.below t.place (J t.mask h n0)) (h,x)).toList[i]?=some (h',x'):=by rw [qH];exact e2
  rw [pl1,zgT _ _ _ (by simpa using b0)] at e1'
  rw [el1,zgT _ _ _ (by simpa using bes)] at e2'
  have up:∀ {n:Nat},(∀ m,m < n->J t.mask h' m∈t.place.toList)->∀ m,m < n->J t.mask h' m∈(SetTable.insertAt t.place (SetTable.below t.place (J t.mask h n0)) (J t.mask h n0)).toList:=fun q m hm=>by
   rw [pl1,ze0];exact .inr (q m hm)
  by_cases c1:i < SetTable.below t.place (J t.mask h n0)
  ·rw [qV c1] at e1' e2'
   rw [qH] at e1' e2'
   obtain ⟨n,hn,q⟩:=T.rc i j h' x' e1' e2'
   exact ⟨n,hn,up q⟩
  ·rw [qW c1] at e1' e2'
   by_cases c2:i=SetTable.below t.place (J t.mask h n0)
   ·rw [qV c2] at e1' e2'
    cases e1'
    cases e2'
    exact ⟨n0,rfl,up ho⟩
   ·rw [qW c2] at e1' e2'
    rw [qH] at e1' e2'
    obtain ⟨n,hn,q⟩:=T.rc _ j h' x' e1' e2'
    exact ⟨n,hn,up q⟩
end
def zch (owner:Array (Option Nat)) (j:Nat):Bool:=(owner.getD j (some 0)).isNone
theorem zlC {r:Nat} (e:it M h n=zjw M (lp M h r)) {k:Nat} (hk:k < SetTable.runEnd M (lp M h r).1+1 - (lp M h r).1):J M h (n+k)=(lp M h r).1+k:=by
 unfold J
 rw [zj9,e,znE M k _ (by show k<=SetTable.runEnd M (lp M h r).1 - (lp M h r).1;omega)]
 rfl
theorem znN {r:Nat} (e:it M h n=zjw M (lp M h r)):it M h (n+(SetTable.runEnd M (lp M h r).1+1 - (lp M h r).1))=zjw M (lp M h (r+1)):=by
 have hge:(lp M h r).1<=SetTable.runEnd M (lp M h r).1:=by unfold SetTable.runEnd;split <;> omega
 have e2:=znE M (SetTable.runEnd M (lp M h r).1 - (lp M h r).1) (zjw M (lp M h r)) (qu _)
 rw [show n+(SetTable.runEnd M (lp M h r).1+1 - (lp M h r).1)=n+(SetTable.runEnd M (lp M h r).1 - (lp M h r).1)+1 by omega,it,zj9,e,e2]
 unfold adv
 rw [qW (by show ¬ ((SetTable.runEnd M (lp M h r).1 - (lp M h r).1) - (SetTable.runEnd M (lp M h r).1 - (lp M h r).1) > 0);omega)]
 rfl
theorem zmD {M:Nat} {h:Int} (owner:Array (Option Nat)) {rs:Nat} (hfr:zch owner (lp M h rs).1=true):∀ (fuel r n:Nat),it M h n=zjw M (lp M h r)->r<=rs->rs < r+fuel->(∀ m,m < n->zch owner (J M h m)=false) ->
  ∃ n',zch owner (J M h n')=true/\(∀ m,m < n'->zch owner (J M h m)=false)/\SetTable.layClean.free M owner fuel (lp M h r).1 (lp M h r).2=some (J M h n')
 | 0,r,n,_,h1,h2,_=>by omega
 | fuel+1,r,n,e,h1,h2,h3=>by
  unfold SetTable.layClean.free
  cases hf:(List.range (SetTable.runEnd M (lp M h r).1+1 - (lp M h r).1)).find? (fun k=>(owner.getD ((lp M h r).1+k) (some 0)).isNone) with
  | some k =>
   have hk:=List.mem_range.mp (List.mem_of_find?_eq_some hf)
   have hp:zch owner ((lp M h r).1+k)=true:=by
    have:=List.find?_some hf
    exact this
   refine ⟨n+k,by rw [zlC e hk];exact hp,fun m hm=>?_,?_⟩
   ·rcases Nat.lt_or_ge m n with c | c
    ·exact h3 m c
    ·obtain ⟨d,rfl⟩:∃ d,m=n+d:=⟨m - n,by omega⟩
     rw [zlC e (by omega)]
     obtain ⟨as,bs,hab,hno⟩:=(List.find?_eq_some_iff_append.mp hf).2
     have hd:d∈as:=by
      have hl:as=List.range k:=by
       have hlen:as.length=k:=by
        have:(List.range (SetTable.runEnd M (lp M h r).1+1 - (lp M h r).1))[as.length]?=some k:=by rw [hab];simp
        rw [List.getElem?_range] at this
        ·exact qG this
        ·have:=congrArg List.length hab
         simp at this
         omega
       have:=congrArg (List.take k) hab
       rw [List.take_range,Nat.min_eq_left (by omega),← hlen,List.take_left'] at this
       ·rw [hlen] at this;exact this.symm
       ·rfl
      rw [hl];exact List.mem_range.mpr (by omega)
     have:=hno d hd
     exact Bool.eq_false_iff.mpr (fun z=>by rw [show (owner.getD ((lp M h r).1+d) (some 0)).isNone=true from z] at this;cases this)
   ·rw [zlC e hk]
  | none =>
   have hn:∀ k,k < SetTable.runEnd M (lp M h r).1+1 - (lp M h r).1->zch owner (J M h (n+k))=false:=fun k hk=>by
    rw [zlC e hk]
    have:=List.find?_eq_none.mp hf k (List.mem_range.mpr hk)
    exact Bool.eq_false_iff.mpr this
   have hge:(lp M h r).1<=SetTable.runEnd M (lp M h r).1:=by unfold SetTable.runEnd;split <;> omega
   have hr:r≠rs:=fun z=>by
    subst z
    have:=hn 0 (by omega)
    rw [zlC e (by omega),Nat.add_zero,hfr] at this
    cases this
   exact zmD owner hfr fuel (r+1) _ (znN e) (by omega) (by omega) fun m hm=>by
    rcases Nat.lt_or_ge m n with c | c
    ·exact h3 m c
    ·obtain ⟨d,rfl⟩:∃ d,m=n+d:=⟨m - n,by omega⟩
     exact hn d (by omega)
theorem Full.free (F:Full M) (h:Int) (owner:Array (Option Nat)) (hf:∃ j,j<=M/\zch owner j=true) :
  ∃ n,zch owner (J M h n)=true/\(∀ m,m < n->zch owner (J M h m)=false)/\SetTable.layClean.free M owner (SetTable.turns M) (SetTable.bits h % (M+1)) (SetTable.bits h)=some (J M h n):=by
 obtain ⟨j,hj,hjf⟩:=hf
 obtain ⟨m,hm,e⟩:=F.reach (zqF M h 13) hj
 have hl:(lp M h (13+m)).1=j:=by rw [zme,e]
 exact zmD owner (rs:=13+m) (by rw [hl];exact hjf) (SetTable.turns M) 0 0 rfl (Nat.zero_le _) (by unfold SetTable.turns;omega) fun m hm=>absurd hm (Nat.not_lt_zero _)
structure Own (M:Nat) (hs:List Int) (owner:Array (Option Nat)):Prop where
 sz:owner.size=M+1
 lt:∀ (j k:Nat),owner[j]?=some (some k)->k < hs.length
 on:∀ k,k < hs.length->∃ j:Nat,owner[j]?=some (some k)
 inj:∀ (j j' k:Nat),owner[j]?=some (some k)->owner[j']?=some (some k)->j=j'
 rc:∀ (j k:Nat) h,owner[j]?=some (some k)->hs[k]?=some h->∃ n,J M h n=j/\∀ m,m < n->zch owner (J M h m)=false
theorem zdd :zch owner j=true↔owner[j]?=some none:=by
 unfold zch
 rw [Array.getD_eq_getD_getElem?]
 cases e:owner[j]? with
 | none=>simp
 | some o=>cases o <;> simp
theorem Own.empty (M:Nat):Own M [] (Array.replicate (M+1) none):=by
 have no:∀ (j k:Nat),(Array.replicate (M+1) (none:Option Nat))[j]?=some (some k)->False:=fun j k h=>by
  rw [Array.getElem?_replicate] at h
  split at h <;> cases h
 exact ⟨by simp,fun j k h=>(no j k h).elim,fun k h=>absurd h (Nat.not_lt_zero _),fun j _ k h _=>(no j k h).elim,fun j k _ h _=>(no j k h).elim⟩
theorem Own.room (O:Own M hs owner) (hr:hs.length<=M):∃ j,j<=M/\zch owner j=true:=by
 by_cases hx:∃ j,j<=M/\zch owner j=true
 ·exact hx
 ·exfalso
  have all:∀ j,j<=M->∃ k,owner[j]?=some (some k):=fun j hj=>by
   have h1:zch owner j≠true:=fun z=>hx ⟨j,hj,z⟩
   have h2:j < owner.size:=by rw [O.sz];omega
   cases q:owner[j] with
   | none=>exact absurd (zdd.mpr (by simp [h2,q])) h1
   | some k=>exact ⟨k,by simp [h2,q]⟩
  have pig:=zfS ((List.range (M+1)).map fun j=>((owner[j]?).join).getD 0) (List.range hs.length) ?_ ?_
  ·rw [qe,qT,qT] at pig
   omega
  ·refine List.nodup_iff_pairwise_ne.mpr (List.pairwise_map.mpr (List.Pairwise.imp_of_mem ?_ List.nodup_range))
   intro a b ha hb hab e
   obtain ⟨k,hk⟩:=all a (by have:=List.mem_range.mp ha;omega)
   obtain ⟨k',hk'⟩:=all b (by have:=List.mem_range.mp hb;omega)
   simp only [hk,hk',Option.join_some,Option.getD_some] at e
   subst e
   exact hab (O.inj a b k hk hk')
  ·intro x hx'
   obtain ⟨j,hj,rfl⟩:=List.mem_map.mp hx'
   obtain ⟨k,hk⟩:=all j (by have:=List.mem_range.mp hj;omega)
   simp only [hk,Option.join_some,Option.getD_some]
   exact List.mem_range.mpr (O.lt j k hk)
theorem Own.more (O:Own M hs owner) (hf:zch owner (J M h n)=true) (ho:∀ m,m < n->zch owner (J M h m)=false) :
  Own M (hs++[h]) (owner.setIfInBounds (J M h n) (some hs.length)):=by
 have hlt:J M h n < owner.size:=by rw [O.sz];have:=zvm M h n;omega
 have hold:=zdd.mp hf
 have get:∀ j:Nat,(owner.setIfInBounds (J M h n) (some hs.length))[j]?=if j=J M h n then some (some hs.length) else owner[j]?:=fun j=>by
  rw [Array.getElem?_setIfInBounds]
  by_cases e:J M h n=j
  ·subst e;simp [hlt]
  ·rw [qW e,qW (Ne.symm e)]
 have stay:∀ {j k:Nat},owner[j]?=some (some k)->(owner.setIfInBounds (J M h n) (some hs.length))[j]?=some (some k):=fun {j k} q=>by
  rw [get,qW]
  ·exact q
  ·intro e;rw [e,hold] at q;cases q
 have notfree:∀ {j:Nat},zch owner j=false->zch (owner.setIfInBounds (J M h n) (some hs.length)) j=false:=fun {j} q=>by
  refine Bool.eq_false_iff.mpr fun z=>?_
  have z':=zdd.mp z
  rw [get] at z'
  split at z'
  ·cases z'
  ·rw [zdd.mpr z'] at q;cases q
 refine ⟨by simp [O.sz],fun j k q=>?_,fun k hk=>?_,fun j j' k q q'=>?_,fun j k h' q q'=>?_⟩
 ·rw [get] at q
  rw [qi,List.length_singleton]
  split at q
  ·cases q;omega
  ·have:=O.lt j k q;omega
 ·rw [qi,List.length_singleton] at hk
  by_cases e:k=hs.length
  ·exact ⟨J M h n,by rw [get,qV rfl,e]⟩
  ·obtain ⟨j,hj⟩:=O.on k (by omega)
   exact ⟨j,stay hj⟩
 ·rw [get] at q q'
  split at q
  ·rename_i c
   cases q
   split at q'
   ·rename_i c';rw [c,c']
   ·have:=O.lt j' _ q';omega
  ·split at q'
   ·cases q'
    have:=O.lt j _ q;omega
   ·exact O.inj j j' k q q'
 ·rw [get] at q
  split at q
  ·rename_i c
   cases q
   rw [qJ (qu _)] at q'
   simp at q'
   subst q'
   exact ⟨n,c.symm,fun m hm=>notfree (ho m hm)⟩
  ·have hk:=O.lt j k q
   rw [qx hk] at q'
   obtain ⟨n',e,r⟩:=O.rc j k h' q q'
   exact ⟨n',e,fun m hm=>notfree (r m hm)⟩
theorem Full.lays (F:Full M) (hs:Array Int) (hr:hs.size<=M):∃ owner,SetTable.layClean M hs=some owner/\Own M hs.toList owner:=by
 have all:∀ (zcK done:List Int) (owner:Array (Option Nat)),Own M done owner->(done++zcK).length<=M->∃ owner',Own M (done++zcK) owner' /\
   zcK.foldl (fun (acc:Option (Array (Option Nat)×Nat)) h=>do
    let (owner,k) ← acc
    let j ← SetTable.layClean.free M owner (SetTable.turns M) (SetTable.bits h % (M+1)) (SetTable.bits h)
    pure (owner.setIfInBounds j (some k),k+1)) (some (owner,done.length))=some (owner',(done++zcK).length):=by
  intro zcK
  induction zcK with
  | nil=>intro done owner O _;exact ⟨owner,by rw [List.append_nil];exact O,by simp⟩
  | cons h r ih =>
   intro done owner O hl
   obtain ⟨n,h1,h2,h3⟩:=F.free h owner (O.room (by simp at hl;omega))
   have O':=O.more h1 h2
   obtain ⟨owner',O2,e⟩:=ih (done++[h]) _ O' (by simpa using hl)
   refine ⟨owner',by simpa using O2,?_⟩
   rw [List.foldl_cons]
   have e1:(do
    let (owner,k) ← some (owner,done.length)
    let j ← SetTable.layClean.free M owner (SetTable.turns M) (SetTable.bits h % (M+1)) (SetTable.bits h)
    pure (owner.setIfInBounds j (some k),k+1):Option (Array (Option Nat)×Nat))=some (owner.setIfInBounds (J M h n) (some done.length),done.length+1):=by
    show (SetTable.layClean.free M owner (SetTable.turns M) (SetTable.bits h % (M+1)) (SetTable.bits h) >>= fun j=>pure (owner.setIfInBounds j (some done.length),done.length+1))=_
    rw [h3];rfl
   rw [e1]
   rw [qi,List.length_singleton] at e
   rw [e]
   simp
 obtain ⟨owner',O,e⟩:=all hs.toList [] _ (Own.empty M) (by simpa using hr)
 refine ⟨owner',?_,by simpa using O⟩
 unfold SetTable.layClean
 rw [← Array.foldl_toList]
 have e':=congrArg (Option.map (·.1)) e
 exact e'
theorem zpq {α β:Type} (f:α->Option β):∀ (l:List α),(∀ k∈l,∃ y,f k=some y)->∀ i:Nat,(l.filterMap f)[i]?=(l[i]?).bind f
 | [],_,i=>by simp
 | k::r,h,i=>by
  obtain ⟨y,hy⟩:=h k qf
  rw [List.filterMap_cons_some hy]
  cases i with
  | zero=>simp [hy]
  | succ i=>simp only [qc];exact zpq f r (fun k hk=>h k (qg _ hk)) i
theorem zpp {α β:Type} (f:α->Option β):∀ (l:List α),(∀ k∈l,∃ y,f k=some y)->(l.filterMap f).length=l.length
 | [],_=>rfl
 | k::r,h=>by
  obtain ⟨y,hy⟩:=h k qf
  rw [List.filterMap_cons_some hy,qh,qh,zpp f r fun k hk=>h k (qg _ hk)]
def zdg (M:Nat) (owner:Array (Option Nat)):List (Nat×Nat):=(List.range (M+1)).filterMap fun j=>(owner.getD j none).map (j,·)
theorem zcE (hsz:owner.size=M+1) {k:Nat} :(j,k)∈zdg M owner↔owner[j]?=some (some k):=by
 unfold zdg
 rw [List.mem_filterMap]
 constructor
 ·rintro ⟨j',hj',e⟩
  rw [Array.getD_eq_getD_getElem?] at e
  cases q:owner[j']? with
  | none=>rw [q] at e;cases e
  | some o =>
   rw [q] at e
   cases o with
   | none=>cases e
   | some k'=>cases e;exact q
 ·intro q
  have hj:j < owner.size:=(Array.getElem?_eq_some_iff.mp q).1
  exact ⟨j,List.mem_range.mpr (by omega),by rw [Array.getD_eq_getD_getElem?,q];rfl⟩
theorem zf6 (M:Nat) (owner:Array (Option Nat)):((zdg M owner).map (·.1)).Pairwise (· < ·):=by
 unfold zdg
 rw [List.pairwise_map]
 refine List.Pairwise.filterMap _ ?_ (List.pairwise_lt_range (n:=M+1))
 intro a a' haa b hb b' hb'
 obtain ⟨k,_,rfl⟩:=oMd hb
 obtain ⟨k',_,rfl⟩:=oMd hb'
 exact haa
theorem zkO (O:Own M hs owner):((zdg M owner).map (·.2)).Nodup:=by
 have h1:=List.pairwise_map.mp (zf6 M owner)
 refine List.nodup_iff_pairwise_ne.mpr (List.pairwise_map.mpr (List.Pairwise.imp_of_mem ?_ h1))
 rintro ⟨j,k⟩ ⟨j',k'⟩ ha hb hlt e
 have e':k=k':=e
 subst e'
 have:=O.inj j j' k ((zcE O.sz).mp ha) ((zcE O.sz).mp hb)
 have hlt':j < j':=hlt
 omega
theorem zoe (O:Own M hs owner):(zdg M owner).length=hs.length:=by
 have h1:=zfS ((zdg M owner).map (·.2)) (List.range hs.length) (zkO O) fun k hk=>by
  obtain ⟨⟨j,k'⟩,hm,rfl⟩:=List.mem_map.mp hk
  exact List.mem_range.mpr (O.lt j k' ((zcE O.sz).mp hm))
 have h2:=zfS (List.range hs.length) ((zdg M owner).map (·.2)) List.nodup_range fun k hk=>by
  obtain ⟨j,hj⟩:=O.on k (List.mem_range.mp hk)
  exact List.mem_map.mpr ⟨(j,k),(zcE O.sz).mpr hj,rfl⟩
 rw [qe,qT] at h1 h2
 omega
theorem Full.relaid {t:SetTable} {es:Array (Int×Value)} {wanted:Nat} (F:Full (SetTable.sizeAbove wanted - 1)) (few:es.size*5 < (SetTable.sizeAbove wanted - 1)*3) :
  ∃ t' order,t.relaid (es.map (·.1)) wanted=some (t',order)/\(order.filterMap (es[·]?)).size=es.size/\Tb t' (order.filterMap (es[·]?))/\(∀ e,e∈(order.filterMap (es[·]?)).toList↔e∈es.toList)/\t'.mask=SetTable.sizeAbove wanted - 1/\t'.led=t.led:=by
 generalize hM:SetTable.sizeAbove wanted - 1=M at F few
 obtain ⟨owner,hl,O⟩:=F.lays (es.map (·.1)) (by simp;omega)
 have hlen:(es.map (·.1)).toList.length=es.size:=by simp
 have llen:(zdg M owner).length=es.size:=by rw [zoe O,hlen]
 refine ⟨{ mask:=M,place:=((zdg M owner).map (·.1)).toArray,dummies:=#[],finger:=t.finger,led:=t.led,moves:=t.movedTo M,plain:=t.plain },((zdg M owner).map (·.2)).toArray,?_,?_⟩
 ·unfold SetTable.relaid
  rw [hM]
  unfold SetTable.laid
  rw [hl]
  rfl
 ·have hall:∀ k∈(zdg M owner).map (·.2),∃ y,es[k]?=some y:=fun k hk=>by
   obtain ⟨⟨j,k'⟩,hm,rfl⟩:=List.mem_map.mp hk
   have:=O.lt j k' ((zcE O.sz).mp hm)
   rw [hlen] at this
   exact ⟨es[k'],by simp [this]⟩
  have etl:(Array.filterMap (fun x=>es[x]?) ((zdg M owner).map (·.2)).toArray).toList=((zdg M owner).map (·.2)).filterMap (fun x=>es[x]?):=by simp
  have esz:(Array.filterMap (fun x=>es[x]?) ((zdg M owner).map (·.2)).toArray).size=es.size:=by
   rw [← Array.length_toList,etl,zpp _ _ hall,qe,llen]
  refine ⟨esz,⟨F,?_,rfl,?_,?_,?_,?_⟩,fun e=>?_,rfl,rfl⟩
  ·rw [esz];simp [llen]
  ·show ((zdg M owner).map (·.1)).toArray.toList.Pairwise (· < ·)
   exact zf6 M owner
  ·intro j hj
   have hj':j∈(zdg M owner).map (·.1):=hj
   obtain ⟨⟨j',k⟩,hm,rfl⟩:=List.mem_map.mp hj'
   have:=(Array.getElem?_eq_some_iff.mp ((zcE O.sz).mp hm)).1
   rw [O.sz] at this
   show j'<=M
   omega
  ·rw [esz];exact few
  ·intro i j h x e1 e2
   have e1':((zdg M owner).map (·.1))[i]?=some j:=by simpa using e1
   rw [← qH,etl,zpq _ _ hall,qj] at e2
   rw [qj] at e1'
   obtain ⟨⟨j',k⟩,hm,rfl⟩:=oMd e1'
   rw [hm] at e2
   have e2':es[k]?=some (h,x):=e2
   have ho:=(zcE O.sz).mp (qO hm)
   obtain ⟨n,hn,q⟩:=O.rc j' k h ho (by simp [e2'])
   refine ⟨n,hn,fun m hm'=>?_⟩
   have hnf:=q m hm'
   have hle:=zvm M h m
   have hlt:J M h m < owner.size:=by rw [O.sz];omega
   cases c:owner[J M h m] with
   | none =>
    rw [zdd.mpr (by simp [hlt,c])] at hnf;cases hnf
   | some k' =>
    show J M h m∈(zdg M owner).map (·.1)
    exact List.mem_map.mpr ⟨(J M h m,k'),(zcE O.sz).mpr (by simp [hlt,c]),rfl⟩
  ·rw [etl,List.mem_filterMap]
   constructor
   ·rintro ⟨k,_,hk⟩
    rw [← qH] at hk
    exact qO hk
   ·intro he
    obtain ⟨k,hk⟩:=List.mem_iff_getElem?.mp he
    rw [qH] at hk
    have hlt:=(Array.getElem?_eq_some_iff.mp hk).1
    obtain ⟨j,hj⟩:=O.on k (by rw [hlen];exact hlt)
    exact ⟨k,List.mem_map.mpr ⟨(j,k),(zcE O.sz).mpr hj,rfl⟩,hk⟩
def Mk (M:Nat):Prop:=M=7\/M=31\/M=127\/M=511
theorem Mk.full (h:Mk M):Full M:=by
 rcases h with h | h | h | h <;> subst h
 ·exact ztz
 ·exact ztA
 ·exact zqX
 ·exact zqW
theorem Mk.grow (h:Mk M) (h1:n*5 < M*3) (h2:¬ (n+1)*5 < M*3) (hn:n<=300):Mk (SetTable.sizeAbove (SetTable.grown (n+1)) - 1)/\(n+1)*5 < (SetTable.sizeAbove (SetTable.grown (n+1)) - 1)*3/\SetTable.sizeAbove (SetTable.grown (n+1))<=512:=by
 rcases h with h | h | h | h <;> subst h
 ·have:n=4:=by omega
  subst this
  exact ⟨.inr (.inl (by decide)),by decide,by decide⟩
 ·have:n=18:=by omega
  subst this
  exact ⟨.inr (.inr (.inl (by decide))),by decide,by decide⟩
 ·have:n=76:=by omega
  subst this
  exact ⟨.inr (.inr (.inr (by decide))),by decide,by decide⟩
 ·omega
section
variable {R:Result->Shared->Prop} {G:Array GenState->Array GenState->Prop} {P:Nat->Value->Prop} {St:Nat->Shared->Prop}
def zvJ (prog:Program) (w:World) (A:Around) (S:Addr) (Ba:Heap->Prop) (P:Nat->Value->Prop) (n:Nat) (J:Nat->Obj->Prop):Prop :=
 ∀ (i:Nat) (v:Value) (s:Shared) (o:Obj) (Q:Bool->Shared->Prop) (E:Value->Shared->Prop),i < n->P i v->s.heap.get? S=some o->J i o->Ba s.heap ->
  (∀ b h' tk o',s.toks<=tk->Heap.SameBut S s.heap h'->h'.get? S=some o'->J (i+1) o'->Q b { s with heap:=h',toks:=tk })->wpAny (model prog w) A (setAdd S v) Q E s
theorem znI (W:WalksS prog w A.in1 I fp wr G n P St) (S:Addr) (hSf:S∉fp) (Ba:Heap->Prop) (hBa:∀ h h',Ba h->(∀ b o,b∉S::wr->h.get? b=some o->h'.get? b=some o)->Ba h') (J:Nat->Obj->Prop) (hadd:zvJ prog w A.in1 S Ba P n J) :
  ∀ (k i:Nat) (s:Shared) (o:Obj),n - i=k->i<=n->St i s->s.heap.get? S=some o->J i o->Ba s.heap ->
   (∀ s' o',Moved (S::wr) G s s'->s'.heap.get? S=some o'->J n o'->R (.ok (.ret .none)) s') ->
   codeAny (model prog w) A (.builtin "set.update.loop" ⟨[.ref S,.ref I],[]⟩) R s:=by
 have hSw:S∉wr:=fun h=>hSf (W.sub _ h)
 have hsub:∀ b∈wr,b∈S::wr:=fun b hb=>qg _ hb
 intro k
 induction k with
 | zero =>
  intro i s o hk hi hst hS hJ hB hR
  have hin:i=n:=by omega
  subst hin
  refine codeAny_builtin F.entry_set_update_loop ?_
  rw [Around.under_plainId F.plain_set_update_loop _]
  show wpAny _ A.in1 (pyNext (.ref I) >>= _) _ _ s
  refine qw (W.done s _ _ hst fun s' hm=>?_)
  show wpAny _ A.in1 (ret Value.none) _ _ s'
  exact qy (hR s' o (hm.mono hsub) (hm.heap S _ hSw hS) hJ)
 | succ k ih =>
  intro i s o hk hi hst hS hJ hB hR
  have hlt:i < n:=by omega
  refine codeAny_builtin F.entry_set_update_loop ?_
  rw [Around.under_plainId F.plain_set_update_loop _]
  show wpAny _ A.in1 (pyNext (.ref I) >>= _) _ _ s
  refine qw (W.item i s _ _ hlt hst fun v s' hP hst' hm=>?_)
  show wpAny _ A.in1 (holding [v] (setAdd S v) >>= _) _ _ s'
  refine qw (qS ?_)
  refine hadd i v s' o _ _ hlt hP (hm.heap S _ hSw hS) hJ (hBa _ _ hB fun b o hb e=>hm.heap b o (fun z=>hb (hsub b z)) e) fun b h' tk o' htk hsb hS' hJ'=>?_
  refine qy ⟨plainId_quiet F.plain_set_update_loop _,ih (i+1) _ o' (by omega) hlt (W.frame _ s' _ _ hst' htk fun b hb o e=>?_) hS' hJ' ?_ fun s'' o'' hm'' hS'' hJ''=>?_⟩
  ·rw [hsb.2 b (fun h:b=S=>hSf (by rw [← h];exact hb))];exact e
  ·refine hBa _ _ (hBa _ _ hB fun b o hb e=>hm.heap b o (fun z=>hb (hsub b z)) e) fun b o hb e=>?_
   show h'.get? b=some o
   rw [hsb.2 b (fun h:b=S=>hb (by rw [h];exact qf))];exact e
  ·refine hR s'' o'' (Moved.trans W.gtrans ((hm.mono hsub).then_heap htk fun b o hb e=>?_) hm'') hS'' hJ''
   rw [hsb.2 b (fun h:b=S=>hb (by rw [h];exact qf))];exact e
end
set_option maxRecDepth 100000 in
set_option maxHeartbeats 3200000 in
theorem zfk (hh:A.handled=none) (hl:s.heap.IsList l items) (J:Nat->Obj->Prop)
  (hJ0:∀ led:Bool,J 0 { cls:=.type "set",dict:=none,data:=.set #[] 0 (.fresh 0 0 led) })
  (hadd:∀ A':Around,A'.units<=A.units+16->zvJ prog w A' s.heap.objs.size (fun h=>∀ b o,b < s.heap.objs.size->s.heap.get? b=some o->h.get? b=some o) (fun i v=>items[i]?=some v) items.size J)
  (h:∀ (h':Heap) (tk:Nat) (o:Obj),h'.get? s.heap.objs.size=some o->J items.size o ->
   (∀ b o,b < s.heap.objs.size->s.heap.get? b=some o->h'.get? b=some o)->Q (.ref s.heap.objs.size) { s with heap:=h',toks:=tk }) :
  wpAny (model prog w) A (call (.type "set") [.ref l]) Q E s:=by
 obtain ⟨c,tl,hmro⟩:=F.called_set.mro
 have hmade:=F.called_set.made
 have hsub:=F.called_set.sub
 refine wpAny_call (codeAny_of_tree ?_)
 show wpAny _ _ (callAny (.type "set") _) _ _ _
 refine qy ⟨Code.quiet_builtin _ (by decide +kernel),codeAny_builtin F.entry_type_call ?_⟩
 rw [Around.under_plain (weight_type_call_type "set" [.ref l] []) rfl]
 have h1:=F.called_set.notType
 have h2:=F.called_set.canCreate
 have hct:=F.typeCall_set_1 (.ref l)
 repeat (any_goals (first | assumption | wp_step))
 refine codeAny_mono (code_set_new_1 (.ref l) (E:=E) (Q₁:=fun obj s₁=>∃ led:Bool,obj=.ref s.heap.objs.size/\s₁={ s with heap:=s.heap.push { cls:=.type "set",dict:=none,data:=.set #[] 0 (.fresh 0 0 led) } }) fun led=>⟨led,rfl,rfl⟩) fun r s₁ hr=>?_
 cases r with
 | error e=>exact hr
 | ok fl =>
  cases fl with
  | ret obj =>
   obtain ⟨led,rfl,rfl⟩:=hr
   have hS:(s.heap.push { cls:=.type "set",dict:=none,data:=.set #[] 0 (.fresh 0 0 led) }).get? s.heap.objs.size=some { cls:=.type "set",dict:=none,data:=.set #[] 0 (.fresh 0 0 led) }:=qF _ rfl
   have hT:Shared.TypeIs { s with heap:=s.heap.push { cls:=.type "set",dict:=none,data:=.set #[] 0 (.fresh 0 0 led) } } (.ref s.heap.objs.size) "set":=⟨_,hS,rfl⟩
   have hli:=F.called_set.init.lookup
   have hbi:=F.called_set.init.bind (.ref s.heap.objs.size)
   repeat (any_goals (first | assumption | wp_step))
   refine codeAny_mono (codeAny_call_builtin (R:=wants (fun r s₂=>r=.none/\∃ h' tk o,s₂={ s with heap:=h',toks:=tk }/\h'.get? s.heap.objs.size=some o/\J items.size o /\
     (∀ b o,b < s.heap.objs.size->s.heap.get? b=some o->h'.get? b=some o)) E) F.called_set.init.plain F.entry_set_init (check_set_init_1 hT ?_)) fun r₂ s₂ hr₂=>?_
   ·obtain ⟨ol,hol,hcl,nl,hdl⟩:=hl
    obtain ⟨ocls,odict,odata,oslots⟩:=ol
    simp only at hcl hdl
    subst hcl;subst hdl
    have hol':(s.heap.push { cls:=.type "set",dict:=none,data:=.set #[] 0 (.fresh 0 0 led) }).get? l=some { cls:=.type "list",dict:=odict,data:=.seq items nl,slots:=oslots }:=qr _ hol
    have hsls:=F.sub_list_set
    have hslf:=F.sub_list_frozenset
    have hne:(Value.type "list"==Value.type "dict")=false:=by decide
    have hl1:(s.heap.push { cls:=.type "set",dict:=none,data:=.set #[] 0 (.fresh 0 0 led) }).IsList l items:=⟨_,hol',rfl,nl,rfl⟩
    unfold Builtin.«set.__init__» noKeywords Builtin.Frozenset.updateFrom
    generalize hPI:pyIter=PI
    wp_walk
    subst hPI
    refine wpAny_pyIter_list hl1 ?_
    refine qw (wpAny_runValue ?_)
    have hlS:l < s.heap.objs.size:=qt hol
    have hh3:A.in1.in1.in1.handled=none:=by simp [hh]
    have hneI:l≠(s.heap.push { cls:=.type "set",dict:=none,data:=.set #[] 0 (.fresh 0 0 led) }).objs.size:=by
     rw [Heap.size_push];exact qA (Nat.lt_succ_of_lt hlS)
    have hSf:s.heap.objs.size∉[(s.heap.push { cls:=.type "set",dict:=none,data:=.set #[] 0 (.fresh 0 0 led) }).objs.size,l]:=by
     rw [Heap.size_push];simp only [qK,List.mem_singleton,qI,or_false,not_or]
     exact ⟨qA (Nat.lt_succ_self _),Nat.ne_of_gt hlS⟩
    have hget:((s.heap.push { cls:=.type "set",dict:=none,data:=.set #[] 0 (.fresh 0 0 led) }).push { cls:=.type "list_iterator",data:=.fields #[.ref l,.int 0 0] }).get? s.heap.objs.size
       = some { cls:=.type "set",dict:=none,data:=.set #[] 0 (.fresh 0 0 led) }:=qr _ hS
    refine znI ((Walks.list hh3 _ l hneI items).toS) s.heap.objs.size
     hSf (fun h=>∀ b o,b < s.heap.objs.size->s.heap.get? b=some o->h.get? b=some o) (fun h h' hB hk b o hb e=>hk b o ?_ (hB b o hb e)) J (hadd _ (by show A.units+3<=_;omega)) (items.size - 0) 0 _ _ (by omega) (Nat.zero_le _)
     ⟨⟨_,qF _ rfl,rfl,rfl⟩,(hl1.push _)⟩ hget (hJ0 led) (fun b o hb e=>qr _ (qr _ e)) ?hR
    ·have hb1:b≠s.heap.objs.size:=qA hb
     have hb2:b≠(s.heap.push { cls:=.type "set",dict:=none,data:=.set #[] 0 (.fresh 0 0 led) }).objs.size:=by
      rw [Heap.size_push];exact qA (Nat.lt_succ_of_lt hb)
     simp only [qK,List.mem_singleton,qI,or_false,not_or];exact ⟨hb1,hb2⟩
    case hR =>
     intro s' o' hm hS' hJ'
     obtain ⟨h',g',d',tk',os'⟩:=s'
     have eg:g'=s.gens:=hm.gens
     have ed:d'=s.drawn:=hm.drawn
     have eo:os'=s.os:=hm.os
     subst eg;subst ed;subst eo
     show wpAny _ _ _ _ _ _
     refine qy ?_
     show wpAny _ _ (ret Value.none) _ _ _
     refine qy ⟨rfl,h',tk',o',rfl,hS',hJ',fun b o hb e=>?_⟩
     have hb1:b≠s.heap.objs.size:=qA hb
     have hb2:b≠(s.heap.push { cls:=.type "set",dict:=none,data:=.set #[] 0 (.fresh 0 0 led) }).objs.size:=by
      rw [Heap.size_push];exact qA (Nat.lt_succ_of_lt hb)
     exact hm.heap b o (by simp only [qK,List.mem_singleton,qI,or_false,not_or];exact ⟨hb1,hb2⟩) (qr _ (qr _ e))
   ·cases r₂ with
    | error e=>exact hr₂
    | ok fl₂ =>
     cases fl₂ with
     | ret r =>
      obtain ⟨rfl,h',tk,o',rfl,hS',hJ',hk'⟩:=hr₂
      repeat (any_goals (first | assumption | wp_step))
      exact h _ _ _ hS' hJ' hk'
     | _=>exact hr₂.elim
  | _=>exact hr.elim
def dd [DecidableEq κ] (l:List κ):List κ:=l.foldl (fun a k=>if k∈a then a else a++[k]) []
theorem zjk [DecidableEq κ] (l:List κ) (k:κ):dd (l++[k])=if k∈dd l then dd l else dd l++[k]:=by
 unfold dd;rw [List.foldl_append];rfl
theorem ziu [DecidableEq κ] (l:List κ):(dd l).length<=l.length:=by
 have key:∀ (l a:List κ),(l.foldl (fun a k=>if k∈a then a else a++[k]) a).length<=a.length+l.length:=by
  intro l
  induction l with
  | nil=>intro a;exact qu _
  | cons k r ih =>
   intro a
   rw [List.foldl_cons]
   refine qL (ih _) ?_
   split
   ·simp only [qh];omega
   ·simp only [qi,qh,qk];omega
 have:=key l []
 simpa [dd] using this
section
variable [DecidableEq κ] {knd:KeyKind prog w κ}
theorem ze1 {ks:List κ} {Q:Bool->Shared->Prop} (hk:IsTupleKey knd s.heap ks a) (hsc:∀ v k,knd.is k v=true->v.scannable=true) (h:∀ b,Q b s):wpAny (model prog w) A (hashByValue 8 (.ref a)) Q E s:=by
 have hT:=hk.typeIs
 obtain ⟨o,items,n,ho,_,hd,hi⟩:=hk
 unfold hashByValue
 refine qw (wpAny_specialOf hT F.slot_tuple_hash.lookup ?_)
 refine qw (wpAny_seqItems ho hd ?_)
 refine qw ?_
 show wpAny _ _ (forIn items _ _) _ _ s
 rw [← Array.forIn_toList]
 have hall:∀ v∈items.toList,v.scannable=true:=by
  have:∀ {x:List κ} {vs:List Value},ItemsAre knd x vs->∀ v∈vs,v.scannable=true:=by
   intro x vs q
   induction q with
   | nil=>intro v hv;cases hv
   | cons h1 _ ih =>
    intro v hv
    rcases List.mem_cons.mp hv with rfl | hv
    ·exact hsc _ _ h1
    ·exact ih v hv
  exact this hi
 refine wpAny_forIn_list _ (fun zcK r s'=>s'=s/\∀ v∈zcK,v.scannable=true) _ ?_ ?_ _ _ ⟨rfl,hall⟩
 ·rintro v zcK r s' ⟨rfl,hv⟩
  rw [hashByValue_scannable _ (hv v qf)]
  refine qw (qy ?_)
  cases hp:plainKind v with
  | true =>
   simp only [Bool.not_true,qp,if_false]
   exact qy ⟨rfl,fun u hu'=>hv u (qg _ hu')⟩
  | false =>
   simp only [Bool.not_false,if_true]
   first | exact qy (qy (h _)) | exact qy (h _) | exact qw (qy (qy (qy (h _))))
 ·rintro ⟨r1,r2⟩ s' ⟨rfl,_⟩
  first | exact qy (h _) | (cases r1 <;> exact qy (h _))
theorem zex {ks:List κ} {Q:Bool->Shared->Prop} (hk:IsTupleKey knd s.heap ks a) (h:Q false s):wpAny (model prog w) A (ofAClassStatement 8 (.ref a)) Q E s:=by
 have hT:=hk.typeIs
 obtain ⟨o,items,n,ho,_,hd,hi⟩:=hk
 unfold ofAClassStatement
 refine qw (wpAny_typeOf hT ?_)
 dsimp only
 rw [qV (by decide)]
 refine qw (qy ?_)
 simp only [Bool.not_true,qp,if_false]
 refine qw (wpAny_seqItems ho hd ?_)
 refine qw ?_
 show wpAny _ _ (forIn items _ _) _ _ s
 rw [← Array.forIn_toList]
 refine wpAny_forIn_list _ (fun zcK r s'=>r.1=none/\s'=s/\∀ v∈zcK,carriedByValue v=true) _ ?_ ?_ _ _ ⟨rfl,rfl,hi.byValue⟩
 ·rintro v zcK r s' ⟨hr,rfl,hv⟩
  have e:ofAClassStatement 7 v=pure false:=by
   have:=hv v qf
   cases v with
   | ref b=>simp [carriedByValue] at this
   | _=>rfl
  rw [e]
  refine qw (qy ?_)
  simp only [qp,if_false]
  exact qy ⟨rfl,rfl,fun u hu'=>hv u (qg _ hu')⟩
 ·rintro ⟨r1,r2⟩ s' ⟨hr,rfl,_⟩
  simp only at hr
  subst hr
  exact qy h
theorem zrY {ks:List κ} {Q:Bool->Shared->Prop} (hk:IsTupleKey knd s.heap ks a) (st:List Value) (hst:∀ y∈st,∃ k b,y=.ref b/\IsTupleKey knd s.heap k b) (h:Q false s):wpAny (model prog w) A (searchCouldBeSeen (.ref a) st) Q E s:=by
 unfold searchCouldBeSeen
 refine qw ?_
 refine wpAny_forIn_list _ (fun zcK r s'=>r.1=none/\s'=s/\∀ y∈zcK,∃ k b,y=.ref b/\IsTupleKey knd s.heap k b) _ ?_ ?_ _ _ ⟨rfl,rfl,hst⟩
 ·rintro v zcK r s' ⟨hr,rfl,hv⟩
  obtain ⟨k,b,rfl,hb⟩:=hv v qf
  dsimp only
  split
  ·exact qy ⟨rfl,rfl,fun u hu'=>hv u (qg _ hu')⟩
  ·refine qw (wpAny_eqIsQuiet_tuple hk ?_)
   simp only [Bool.not_true,qp,if_false]
   refine qw (wpAny_eqIsQuiet_tuple hb ?_)
   simp only [Bool.not_true,qp,if_false]
   refine qw (zex hk ?_)
   simp only [qp,if_false]
   refine qw (zex hb ?_)
   simp only [qp,if_false]
   exact qy ⟨rfl,rfl,fun u hu'=>hv u (qg _ hu')⟩
 ·rintro ⟨r1,r2⟩ s' ⟨hr,rfl,_⟩
  simp only at hr
  subst hr
  exact qy h
end
theorem zf1 {t:SetTable} {es:Array (Int×Value)} (T:Tb t es) {p:SetTable.Probe} {r:Option SetTable.Met} (hp:t.probe hashAt h p=r) (hpp:p=zcq (it t.mask h n)) (hn:n<=n0) (hn0:n0 < 10*(t.mask+15))
  (hf:J t.mask h n0∉t.place.toList) (ho:∀ m,m < n0->J t.mask h m∈t.place.toList) :
  (∃ n' i,n<=n'/\n' < n0/\t.place[i]?=some (J t.mask h n')/\hashAt i=h/\(∀ m i,n<=m->m < n'->t.place[i]?=some (J t.mask h m)->hashAt i≠h)/\r=some (.candidate (J t.mask h n') i (zcq (it t.mask h (n'+1))))) \/
  ((∀ m i,n<=m->m < n0->t.place[i]?=some (J t.mask h m)->hashAt i≠h)/\r=some (.empty (J t.mask h n0) none)):=by
 subst hpp
 subst hp
 unfold SetTable.probe
 exact T.probe_go hashAt h hf ho (10*SetTable.turns t.mask) n hn (by unfold SetTable.turns;omega)
theorem ziZ {t:SetTable} {es:Array (Int×Value)} (T:Tb t es) {p:SetTable.Probe} (hp:∀ met,t.probe hashAt h p=some met->False) (hpp:p=zcq (it t.mask h n)) (hn:n<=n0) (hn0:n0 < 10*(t.mask+15))
  (hf:J t.mask h n0∉t.place.toList) (ho:∀ m,m < n0->J t.mask h m∈t.place.toList):False:=by
 rcases zf1 T (r:=t.probe hashAt h p) rfl hpp hn hn0 hf ho with ⟨n',i,_,_,_,_,_,g6⟩ | ⟨_,g2⟩
 ·exact hp _ g6
 ·exact hp _ g2
section
variable [DecidableEq κ] {knd:KeyKind prog w κ}
def zt4 (knd:KeyKind prog w κ) (h:Heap) (es:Array (Int×Value)):Prop:=∀ (i:Nat) e,es[i]?=some e->∃ k b,e=(tupleKeyHash knd k,.ref b)/\IsTupleKey knd h k b
theorem Mk.odd (h:Mk M):(M % 2==0)=false:=by
 rcases h with rfl | rfl | rfl | rfl <;> rfl
theorem zlx {S:Addr} {o:Obj} {es:Array (Int×Value)} {t:SetTable} {k:List κ} {Q:SetFound->Shared->Prop} (hu:A.units < cLine) (ho:s.heap.get? S=some o) (hd:o.data=.set es ep t) (T:Tb t es) (hM:Mk t.mask)
  (hk:IsTupleKey knd s.heap k a) (he:zt4 knd s.heap es) (hf:J t.mask (tupleKeyHash knd k) n0∉t.place.toList) (hocc:∀ m,m < n0->J t.mask (tupleKeyHash knd k) m∈t.place.toList) (hn0:n0 < 10*(t.mask+15))
  (hyes:∀ (i:Nat) (b:Addr),es[i]?=some (tupleKeyHash knd k,.ref b)->IsTupleKey knd s.heap k b->Q (.there none) s)
  (hno:(∀ (i:Nat) (b:Addr),es[i]?=some (tupleKeyHash knd k,.ref b)->¬ IsTupleKey knd s.heap k b)->Q (.free (J t.mask (tupleKeyHash knd k) n0) false) s) :
  ∀ (fuel n:Nat) (stand:Option SetTable.Probe),n0 - n < fuel->n<=n0->(stand.getD (t.probeStart (tupleKeyHash knd k))=zcq (it t.mask (tupleKeyHash knd k) n)) ->
   (∀ (m i:Nat) (b:Addr),m < n->t.place[i]?=some (J t.mask (tupleKeyHash knd k) m)->es[i]?=some (tupleKeyHash knd k,.ref b)->¬ IsTupleKey knd s.heap k b) ->
   wpAny (model prog w) A (setSearchFrom S (.ref a) (tupleKeyHash knd k) true fuel stand) Q E s:=by
 intro fuel
 induction fuel with
 | zero=>intro n stand h1;omega
 | succ fuel ih =>
  intro n stand h1 h2 hs hw
  unfold setSearchFrom
  refine qw (wpAny_setState_of ho hd T.fits ?_)
  dsimp only
  have hg:t.gaveWay=false:=hM.odd
  rw [hg]
  simp only [qp,if_false]
  split
  ·rename_i met hp
   rcases zf1 T hp hs h2 hn0 hf hocc with ⟨n',i,g1,g2,g3,g4,g5,g6⟩ | ⟨g1,g2⟩
   ·cases g6
    have hi:i < es.size:=by
     have:=(Array.getElem?_eq_some_iff.mp g3).1
     rw [T.sz] at this
     exact this
    have hei:es[i]?=some es[i]:=by simp [hi]
    obtain ⟨k',b,e1,hb⟩:=he i _ hei
    rw [e1] at hei
    have hh:tupleKeyHash knd k'=tupleKeyHash knd k:=by
     have g4':((es[i]?).map (·.1)).getD 0=tupleKeyHash knd k:=g4
     rw [hei] at g4'
     exact g4'
    rw [hh] at hei
    have zcK:wpAny (model prog w) A (do
      let some (_,y):=es[i]? | unsupported "internal:set-entry"
      let equal ← holding [y] (eqBool y (.ref a))
      let (es',_,t') ← setState S
      if true && equal then return .there none
      let some same:=t'.sameMemory t.moves t.mask | unsupported "set.changed-during-lookup:is-the-new-block-at-the-old-address"
      let still ← match (if same then t'.slot (J t.mask (tupleKeyHash knd k) n') else .empty) with
       | .live i'=>match es'[i']? with
        | some (_,y')=>do pure (if ← isSame y' y then some i' else none)
        | none=>pure none
       | _=>pure none
      match still with
      | none=>rule "set.search.anew";setSearchFrom S (.ref a) (tupleKeyHash knd k) true fuel none
      | some i'=>if equal then return .there (some i') else setSearchFrom S (.ref a) (tupleKeyHash knd k) true fuel (some (zcq (it t.mask (tupleKeyHash knd k) (n'+1))))) Q E s:=by
     rw [hei]
     dsimp only
     refine qw (qS (wpAny_eqBool_tuple hu hb hk ?_))
     refine qw (wpAny_setState_of ho hd T.fits ?_)
     dsimp only
     by_cases hkk:k'=k
     ·subst hkk
      rw [qR rfl]
      simp only [Bool.true_and,if_true]
      exact qy (hyes i b hei hb)
     ·rw [qM hkk]
      simp only [Bool.true_and,qp,if_false]
      have hsm:t.sameMemory t.moves t.mask=some true:=by unfold SetTable.sameMemory;simp
      rw [hsm]
      dsimp only
      simp only [if_true]
      rw [T.live g3]
      dsimp only
      rw [hei]
      dsimp only
      refine qw (wpAny_isSame_ref_self ?_)
      simp only [if_true]
      refine qw (qy ?_)
      dsimp only
      refine ih (n'+1) _ (by omega) (by omega) rfl ?_
      intro m i2 b2 hm hp2 he2
      by_cases h3:m < n
      ·exact hw m i2 b2 h3 hp2 he2
      ·by_cases h4:m=n'
       ·subst h4
        have ei:i2=i:=by
         have q1:=T.live hp2
         have q2:=T.live g3
         rw [q1] at q2
         injection q2
        subst ei
        rw [hei] at he2
        cases he2
        exact fun z=>hkk (hb.inj z)
       ·exfalso
        refine g5 m i2 (by omega) (by omega) hp2 ?_
        show ((es[i2]?).map (·.1)).getD 0=_
        rw [he2]
        rfl
    cases hled:t.led with
    | true =>
     simp only [Bool.not_true,qp,if_false]
     exact zcK
    | false =>
     simp only [Bool.not_false,if_true]
     refine qw (zrY hk _ (fun y hy=>?_) ?_)
     ·obtain ⟨e,he1,rfl⟩:=List.mem_map.mp hy
      have he2:e∈es.toList:=by
       have:=Array.mem_toList_iff.mp he1
       rw [Array.mem_filter] at this
       exact Array.mem_toList_iff.mpr this.1
      obtain ⟨j,hj,ej⟩:=List.mem_iff_getElem.mp he2
      obtain ⟨k2,b2,q1,q2⟩:=he j e (by rw [← qH,qB hj,ej])
      exact ⟨k2,b2,by rw [q1],q2⟩
     ·simp only [qp,if_false]
      exact zcK
   ·cases g2
    dsimp only
    refine qy (hno fun i b hei hb=>?_)
    have hi:i < es.size:=(Array.getElem?_eq_some_iff.mp hei).1
    have hpi:t.place[i]?=some t.place[i]! := by
     have:i < t.place.size:=by rw [T.sz];exact hi
     simp [this]
    obtain ⟨m,q1,q2⟩:=T.rc i _ _ _ hpi hei
    have hmem:J t.mask (tupleKeyHash knd k) m∈t.place.toList:=by
     rw [q1]
     rw [← qH] at hpi
     exact qO hpi
    have hm:m < n0:=by
     rcases Nat.lt_trichotomy m n0 with z | z | z
     ·exact z
     ·subst z;exact absurd hmem hf
     ·exact absurd (q2 n0 z) hf
    by_cases h3:m < n
    ·exact hw m i b h3 (by rw [q1];exact hpi) hei hb
    ·refine g1 m i (by omega) hm (by rw [q1];exact hpi) ?_
     show ((es[i]?).map (·.1)).getD 0=_
     rw [hei]
     rfl
  ·rename_i hp
   exact (ziZ T hp hs h2 hn0 hf hocc).elim
structure TS (knd:KeyKind prog w κ) (h:Heap) (ks:List (List κ)) (o:Obj):Prop where
 cls:o.ExactSet
 ex:∃ es ep t,o.data=.set es ep t/\Tb t es/\Mk t.mask/\zt4 knd h es/\es.size=(dd ks).length/\(∀ k∈dd ks,∃ (i:Nat) (b:Addr),es[i]?=some (tupleKeyHash knd k,.ref b)/\IsTupleKey knd h k b)/\∀ (i:Nat) (k:List κ) (b:Addr),es[i]?=some (tupleKeyHash knd k,.ref b)->IsTupleKey knd h k b->k∈dd ks
theorem IsTupleKey.mono {h:Heap} {k:List κ} (x:IsTupleKey knd h k a) (q:∀ o,h.get? a=some o->h'.get? a=some o):IsTupleKey knd h' k a:=by
 obtain ⟨o,items,n,h1,h2⟩:=x
 exact ⟨o,items,n,q o h1,h2⟩
theorem zeb {es:Array (Int×Value)} {e:Int×Value} :e∈es.toList↔∃ i:Nat,es[i]?=some e:=by
 constructor
 ·intro h
  obtain ⟨i,hi,q⟩:=List.mem_iff_getElem.mp h
  exact ⟨i,by rw [← qH,qB hi,q]⟩
 ·rintro ⟨i,h⟩
  rw [← qH] at h
  exact qO h
theorem zqD {h0:Heap} {ks:List (List κ)} {k:List κ} {es:Array (Int×Value)} (hk:IsTupleKey knd h0 k a) (hE:zt4 knd h0 es) (hsz:es.size=(dd ks).length) (hin:∀ k∈dd ks,∃ (i:Nat) (b:Addr),es[i]?=some (tupleKeyHash knd k,.ref b)/\IsTupleKey knd h0 k b)
  (hout:∀ (i:Nat) (k:List κ) (b:Addr),es[i]?=some (tupleKeyHash knd k,.ref b)->IsTupleKey knd h0 k b->k∈dd ks) (hnew:k∉dd ks) (mem:∀ e,e∈es'.toList↔e=(tupleKeyHash knd k,.ref a)\/e∈es.toList) (size:es'.size=es.size+1) :
  zt4 knd h0 es'/\es'.size=(dd (ks++[k])).length/\(∀ k'∈dd (ks++[k]),∃ (i:Nat) (b:Addr),es'[i]?=some (tupleKeyHash knd k',.ref b)/\IsTupleKey knd h0 k' b)/\∀ (i:Nat) (k':List κ) (b:Addr),es'[i]?=some (tupleKeyHash knd k',.ref b)->IsTupleKey knd h0 k' b->k'∈dd (ks++[k]):=by
 rw [zjk,qW hnew]
 refine ⟨fun i e he=>?_,by rw [size,hsz,qi,List.length_singleton],fun k' hk'=>?_,fun i k' b he hb=>?_⟩
 ·rcases (mem e).mp (zeb.mpr ⟨i,he⟩) with rfl | q
  ·exact ⟨k,a,rfl,hk⟩
  ·obtain ⟨j,q⟩:=zeb.mp q
   exact hE j e q
 ·rcases List.mem_append.mp hk' with q | q
  ·obtain ⟨i,b,q1,q2⟩:=hin k' q
   obtain ⟨j,q3⟩:=zeb.mp ((mem _).mpr (.inr (zeb.mpr ⟨i,q1⟩)))
   exact ⟨j,b,q3,q2⟩
  ·rw [List.mem_singleton.mp q]
   obtain ⟨j,q3⟩:=zeb.mp ((mem _).mpr (.inl rfl))
   exact ⟨j,a,q3,hk⟩
 ·rcases (mem _).mp (zeb.mpr ⟨i,he⟩) with q | q
  ·have e:b=a:=by have:=(Prod.mk.inj q).2;injection this
   subst e
   exact List.mem_append.mpr (.inr (List.mem_singleton.mpr (hb.inj hk)))
  ·obtain ⟨j,q⟩:=zeb.mp q
   exact List.mem_append.mpr (.inl (hout j k' b q hb))
theorem zgG {h:Heap} {S:Addr} {o:Obj} {es:Array (Int×Value)} {t t':SetTable} (ho:h.get? S=some o) (hd:o.data=.set es ep t):(h.update S (Obj.putSet es' t')).get? S=some { o with data:=.set es' (ep+1) t' }:=by
 have q:=Heap.get?_update_self (Obj.putSet es' t') ho (by rw [putSet_of es' t' hd];rfl)
 rwa [putSet_of es' t' hd] at q
set_option maxHeartbeats 1000000 in
theorem znn {S:Addr} {o:Obj} {h0:Heap} {ks:List (List κ)} {k:List κ} {Q:Bool->Shared->Prop} (hsc:∀ v k,knd.is k v=true->v.scannable=true) (hu:A.units < cLine) (ho:s.heap.get? S=some o) (T:TS knd h0 ks o) (hk:IsTupleKey knd h0 k a)
  (hB:∀ b o,h0.get? b=some o->s.heap.get? b=some o) (hlen:ks.length<=300)
  (h:∀ b h' tk o',s.toks<=tk->Heap.SameBut S s.heap h'->h'.get? S=some o'->TS knd h0 (ks++[k]) o'->Q b { s with heap:=h',toks:=tk }):wpAny (model prog w) A (setAdd S (.ref a)) Q E s:=by
 obtain ⟨hc,es,ep,t,hd,TB,hM,hE,hsz,hin,hout⟩:=T
 have up:∀ {k:List κ} {b:Addr},IsTupleKey knd h0 k b->IsTupleKey knd s.heap k b:=fun q=>IsTupleKey.mono q fun o e=>hB _ _ e
 have down:∀ {k k':List κ} {b:Addr},IsTupleKey knd h0 k' b->IsTupleKey knd s.heap k b->k=k':=fun q1 q2=>q2.inj (up q1)
 have hE':zt4 knd s.heap es:=fun i e he=>by
  obtain ⟨k,b,q1,q2⟩:=hE i e he
  exact ⟨k,b,q1,up q2⟩
 have hddl:=ziu ks
 obtain ⟨n0,f1,f2,f3⟩:=TB.first (tupleKeyHash knd k)
 unfold setAdd
 refine qS (qw (wpAny_pyHash_tuple hu (up hk) ?_))
 unfold setAddHashed setAddHashedIn
 refine qS (qw (wpAny_setState_of (s:={ s with toks:=s.toks+(k.length+1) }) ho hd TB.fits ?_))
 dsimp only
 rw [show byScan (.ref a) es=false from rfl]
 simp only [qp,if_false]
 unfold setSearch
 refine qw (zlx (s:={ s with toks:=s.toks+(k.length+1) }) hu ho hd TB hM (up hk) hE' f2 f3 f1 (fun i b hei hb=>?_) (fun hall=>?_) 100000 0 none ?_ (Nat.zero_le _) rfl (fun m i b hm=>by omega))
 ·
  dsimp only
  obtain ⟨k',b',q1,q2⟩:=hE i _ hei
  have:b'=b:=by
   have:=(Prod.mk.inj q1).2
   injection this with e
   exact e.symm
  subst this
  have ek:=down q2 hb
  subst ek
  have hmem:=hout i k _ hei q2
  refine qy (h false s.heap _ o (by show s.toks<=s.toks+(k.length+1);omega) (Heap.SameBut.refl S s.heap) ho ⟨hc,es,ep,t,hd,TB,hM,hE,?_⟩)
  rw [zjk,qV hmem]
  exact ⟨hsz,hin,hout⟩
 ·
  dsimp only
  have hnew:k∉dd ks:=fun hm=>by
   obtain ⟨i,b,q1,q2⟩:=hin k hm
   exact hall i b q1 (up q2)
  have hpl:SetTable.below t.place (J t.mask (tupleKeyHash knd k) n0)<=es.size:=by
   have:=(zhK t.place (J t.mask (tupleKeyHash knd k) n0) TB.ri).1
   rw [TB.sz] at this
   exact this
  have hmaskle:t.mask<=511:=by rcases hM with e | e | e | e <;> omega
  have hmem:∀ e,e∈(SetTable.insertAt es (SetTable.below t.place (J t.mask (tupleKeyHash knd k) n0)) (tupleKeyHash knd k,Value.ref a)).toList↔e=(tupleKeyHash knd k,Value.ref a)\/e∈es.toList:=fun e=>by
   rw [zci _ _ _ hpl]
   exact ze0 _ _ _ _
  have hsize:(SetTable.insertAt es (SetTable.below t.place (J t.mask (tupleKeyHash knd k) n0)) (tupleKeyHash knd k,Value.ref a)).size=es.size+1:=by
   have:=congrArg List.length (zci es _ (tupleKeyHash knd k,Value.ref a) hpl)
   simp only [Array.length_toList,qi,qh,qC,List.length_drop] at this
   omega
  have hpsz:(SetTable.insertAt t.place (SetTable.below t.place (J t.mask (tupleKeyHash knd k) n0)) (J t.mask (tupleKeyHash knd k) n0)).size=es.size+1:=by
   have:=congrArg List.length (zci t.place _ (J t.mask (tupleKeyHash knd k) n0) (by rw [TB.sz];exact hpl))
   have h3:=TB.sz
   simp only [Array.length_toList,qi,qh,qC,List.length_drop] at this
   omega
  refine qw (wpAny_setState_of (s:={ s with toks:=s.toks+(k.length+1) }) ho hd TB.fits ?_)
  dsimp only
  have fin:∀ (es':Array (Int×Value)) (t':SetTable) (h':Heap) (o':Obj),Tb t' es'->Mk t'.mask->(∀ e,e∈es'.toList↔e=(tupleKeyHash knd k,Value.ref a)\/e∈es.toList)->es'.size=es.size+1->Heap.SameBut S s.heap h'->h'.get? S=some o'->o'.ExactSet->(∃ ep',o'.data=.set es' ep' t')->Q true { s with heap:=h',toks:=s.toks+(k.length+1) }:=fun es' t' h' o' q1 q2 q3 q4 q5 q6 q7 q8=>by
   obtain ⟨ep',q8⟩:=q8
   obtain ⟨w1,w2,w3,w4⟩:=zqD hk hE hsz hin hout hnew q3 q4
   exact h true h' _ o' (by omega) q5 q6 ⟨q7,es',ep',t',q8,q1,q2,w1,w2,w3,w4⟩
  have zcK:∀ pl:Bool,wpAny (model prog w) A (do
    storeSet S (SetTable.insertAt es (t.put (J t.mask (tupleKeyHash knd k) n0)).2 (tupleKeyHash knd k,Value.ref a)) { (t.put (J t.mask (tupleKeyHash knd k) n0)).1 with plain:=pl }
    if (!false && SetTable.tooFull { (t.put (J t.mask (tupleKeyHash knd k) n0)).1 with plain:=pl })=true then do
     setRelay S (SetTable.grown (es.size+1))
     pure true
    else pure true) Q E { s with toks:=s.toks+(k.length+1) }:=fun pl=>by
   refine qw (wpAny_storeSet_of (s:={ s with toks:=s.toks+(k.length+1) }) ho hd ?_ (by show (SetTable.insertAt es (SetTable.below t.place (J t.mask (tupleKeyHash knd k) n0)) (tupleKeyHash knd k,Value.ref a)).size<=sizeLine;rw [hsize,sizeLine_eq];omega))
   have hg1:=zgG (es':=SetTable.insertAt es (t.put (J t.mask (tupleKeyHash knd k) n0)).2 (tupleKeyHash knd k,Value.ref a)) (t':={ (t.put (J t.mask (tupleKeyHash knd k) n0)).1 with plain:=pl }) ho hd
   have hsb1:=Heap.SameBut.update s.heap S (Obj.putSet (SetTable.insertAt es (t.put (J t.mask (tupleKeyHash knd k) n0)).2 (tupleKeyHash knd k,Value.ref a)) { (t.put (J t.mask (tupleKeyHash knd k) n0)).1 with plain:=pl })
   have hdum:(t.put (J t.mask (tupleKeyHash knd k) n0)).1.dummies=#[]:=by
    show (if SetTable.has t.dummies _ then _ else t.dummies)=#[]
    rw [TB.dm]
    rfl
   have hfill:SetTable.fill { (t.put (J t.mask (tupleKeyHash knd k) n0)).1 with plain:=pl }=es.size+1:=by
    show (SetTable.insertAt t.place _ _).size+(t.put (J t.mask (tupleKeyHash knd k) n0)).1.dummies.size=_
    rw [hdum]
    exact hpsz
   by_cases few:(es.size+1)*5 < t.mask*3
   ·have hfull:SetTable.tooFull { (t.put (J t.mask (tupleKeyHash knd k) n0)).1 with plain:=pl }=false:=by
     unfold SetTable.tooFull
     rw [hfill]
     exact qM (by show ¬ ((es.size+1)*5 ≥ t.mask*3);omega)
    rw [hfull]
    simp only [Bool.not_false,Bool.and_false,qp,if_false]
    refine qy (fin _ _ _ _ (TB.put (x:=.ref a) f2 f3 few pl) hM hmem hsize hsb1 hg1 hc ⟨_,rfl⟩)
   ·have hfull:SetTable.tooFull { (t.put (J t.mask (tupleKeyHash knd k) n0)).1 with plain:=pl }=true:=by
     unfold SetTable.tooFull
     rw [hfill]
     exact qR (by show ((es.size+1)*5 ≥ t.mask*3);omega)
    rw [hfull]
    simp only [Bool.not_false,Bool.and_true,if_true]
    obtain ⟨m1,m2,m3⟩:=hM.grow TB.few few (by omega)
    have hes1:(SetTable.insertAt es (t.put (J t.mask (tupleKeyHash knd k) n0)).2 (tupleKeyHash knd k,Value.ref a)).size=es.size+1:=hsize
    obtain ⟨t',order,r1,r2,r3,r4,r5,r6⟩:=Full.relaid (t:={ (t.put (J t.mask (tupleKeyHash knd k) n0)).1 with plain:=pl }) (es:=SetTable.insertAt es (t.put (J t.mask (tupleKeyHash knd k) n0)).2 (tupleKeyHash knd k,Value.ref a)) m1.full (by rw [hes1];exact m2)
    unfold setRelay
    have hfits:SetTable.fits { (t.put (J t.mask (tupleKeyHash knd k) n0)).1 with plain:=pl } (SetTable.insertAt es (t.put (J t.mask (tupleKeyHash knd k) n0)).2 (tupleKeyHash knd k,Value.ref a)).size=true:=by
     unfold SetTable.fits
     rw [hfill,hes1,Bool.and_eq_true]
     have:=TB.few
     exact ⟨by rw [beq_iff_eq];exact hpsz,qR (by show es.size+1<=t.mask;omega)⟩
    refine qw ?_
    refine qw (wpAny_setState_of (s:={ s with heap:=_,toks:=s.toks+(k.length+1) }) hg1 rfl hfits ?_)
    dsimp only
    rw [qW (by rw [sizeLine_eq];omega),r1]
    refine qw ?_
    show wpAny _ _ (if ((order.filterMap ((SetTable.insertAt es (t.put (J t.mask (tupleKeyHash knd k) n0)).2 (tupleKeyHash knd k,Value.ref a))[·]?)).size != (SetTable.insertAt es (t.put (J t.mask (tupleKeyHash knd k) n0)).2 (tupleKeyHash knd k,Value.ref a)).size)=true then _ else _) _ _ _
    rw [qW (by rw [r2];simp)]
    refine qy ?_
    dsimp only
    refine wpAny_storeSet_of (s:={ s with heap:=_,toks:=s.toks+(k.length+1) }) hg1 rfl ?_ (by rw [r2,hes1,sizeLine_eq];omega)
    refine qy (fin _ t' _ _ r3 (by rw [r5];exact m1) (fun e=>(r4 e).trans (hmem e)) (by rw [r2,hes1]) (hsb1.trans (Heap.SameBut.update _ S _)) (zgG hg1 rfl) hc ⟨_,rfl⟩)
  split
  ·refine qw (ze1 (s:={ s with toks:=s.toks+(k.length+1) }) (up hk) hsc fun bv=>?_)
   cases bv
   ·exact zcK false
   ·exact zcK _
  ·refine qw (qy ?_)
   exact zcK _
 ·show n0 - 0 < 100000
  have:t.mask<=511:=by rcases hM with e | e | e | e <;> omega
  omega
end
end ST
section
open ST
instance (priority:=high) keyBEq:BEq Key:=instBEqOfDecidableEq
instance (priority:=high) keyLaw:LawfulBEq Key:=inferInstanceAs (@LawfulBEq Key instBEqOfDecidableEq)
def zvI (n:Nat) (o:Obj):Prop:=o.ExactSet/\∃ es ep t,o.data=.set es ep t/\t.fits es.size=true/\es.size=n
def zpC (p:Addr) (n:Nat):HO:=.ext fun h=>∃ o,h.get? p=some o/\zvI n o
theorem zj1 (v:Value) (k:Key) (h:(zaM P w).is k v=true):v.scannable=true:=by
 rcases zbk h with ⟨i,t,rfl,rfl⟩ | ⟨x,t,rfl,rfl⟩ <;> rfl
def zv2:List V->Hp->VK->Prop:=fun xs H Q=>∃ a vs,xs=[.ref a]/\H a=some (.lst vs)/\vs.length<=300 /\
 ((∃ ks:List Key,vs=ks.map kV/\∀ p,H p=none->Q (.ref p) (upd H p (zpC p (dd ks).length))) \/
 (∃ ts:List (List Key),vs.length=ts.length/\(∀ (i:Nat) t,ts[i]?=some t->∃ b,vs[i]?=some (.ref b)/\H b=some (.tup (t.map kV)))/\∀ p,H p=none->Q (.ref p) (upd H p (zpC p (dd ts).length))))
theorem zoO (hc:X.calm=true) (hu:X.A.units+66 < cLine):ze9 X (.type "set") zv2:=by
 intro pins s σ H xs us Q I r h
 obtain ⟨a,vs,rfl,ha,hl,h⟩:=h
 obtain ⟨u,rfl,ru⟩:=zfN r
 cases ru
 obtain ⟨its,rv,pl,hz⟩:=I.list (.inl (.inl ha))
 have hlen:=rv.length
 have hsz:its.toArray.size=vs.length:=by rw [qz,hlen]
 have fin:∀ (n:Nat) (h':Heap) (tk:Nat) (o:Obj),h'.get? s.heap.objs.size=some o->zvI n o->(∀ b o,b < s.heap.objs.size->s.heap.get? b=some o->h'.get? b=some o) ->
   (∀ p,H p=none->Q (.ref p) (upd H p (zpC p n)))->EP X pins σ Q (.ref s.heap.objs.size) { s with heap:=h',toks:=tk }:=fun n h' tk o ho hn hk q=>by
  refine ⟨.ref s.heap.objs.size,_,I.laid (a:=s.heap.objs.size) (o:=zpC s.heap.objs.size n) (fun b u e=>hk b u (qt e) e) (qu _) ?_,rfl,q _ I.fresh⟩
  refine ⟨⟨o,ho,hn⟩,⟨o,ho⟩,fun h1 h2 hp hk2=>?_⟩
  obtain ⟨o1,q1,q2⟩:=hp
  exact ⟨o1,hk2 o1 q1,q2⟩
 rcases h with ⟨ks,rfl,q⟩ | ⟨ts,ht,hts,q⟩
 ·
  have hkl:ks.length=its.length:=by rw [← hlen,qe]
  refine zfk (I.ok.hd hc) pl.isList (fun i o=>o.SetObjOf (zaM X.prog X.w) (fun k=>decide (k∈dd (ks.take i))) (dd (ks.take i)).length) (fun led=>?_) (fun A' hA' i v sh o Q' E' hi hv ho hJ hB hQ=>?_) fun h' tk o ho hJ hk=>?_
  ·have:=setObjOf_fresh (knd:=zaM X.prog X.w) led
   simpa [dd] using this
  ·have hi':i < ks.length:=by rw [qz] at hi;omega
   obtain ⟨u2,hu2,ru2⟩:=rv.get (i:=i) (x:=kV ks[i]) (by simp [hi'])
   have ev:v=u2:=by
    have hv':its[i]?=some v:=by simpa using hv
    rw [hu2] at hv'
    exact (qG hv').symm
   subst ev
   have hkey:=zho (P:=X.prog) (w:=X.w) ru2
   have hle:(dd (ks.take i)).length<=300:=by
    have h1:=ziu (ks.take i)
    rw [qC] at h1
    rw [qe] at hl
    omega
   unfold setAdd
   refine qS (qw ((zaM X.prog X.w).pyHash hkey ?_))
   refine wpAny_setAddHashed_of (knd:=zaM X.prog X.w) (s:={ sh with toks:=sh.toks+1 }) hkey (zj1 _ _ hkey) (hJ.setOf ho (by unfold scanBound;omega)) (by unfold scanBound;omega) fun h' hsb hS2=>?_
   obtain ⟨o',ho',hso⟩:=hS2.objOf
   refine hQ _ h' _ o' (Nat.le_succ _) hsb ho' ?_
   have htk:ks.take (i+1)=ks.take i++[ks[i]]:=by rw [List.take_succ,qB hi'];rfl
   show Obj.SetObjOf (zaM X.prog X.w) o' (fun k=>decide (k∈dd (List.take (i+1) ks))) (dd (List.take (i+1) ks)).length
   rw [htk,zjk]
   by_cases hm:ks[i]∈dd (ks.take i)
   ·rw [qV hm]
    rw [qV (by simpa using hm)] at hso
    have e:(fun k'=>decide (k'∈dd (ks.take i)) || decide (k'=ks[i]))=fun k'=>decide (k'∈dd (ks.take i)):=by
     funext k'
     by_cases hk':k'=ks[i]
     ·subst hk';simp [hm]
     ·simp [hk']
    rw [e] at hso
    exact hso
   ·rw [qW hm]
    rw [qW (by simpa using hm)] at hso
    have e:(fun k'=>decide (k'∈dd (ks.take i)) || decide (k'=ks[i]))=fun k'=>decide (k'∈dd (ks.take i)++[ks[i]]):=by
     funext k'
     rw [Bool.eq_iff_iff]
     simp
    rw [e] at hso
    simpa using hso
  ·have e:ks.take its.toArray.size=ks:=by rw [qz,← hkl];exact List.take_length
   rw [e] at hJ
   have hS:=hJ.setOf ho (by have:=ziu ks;rw [qe] at hl;unfold scanBound;omega)
   obtain ⟨o1,es,ep,t,v0,v1,v2,_,_,_,v3,v4⟩:=hS
   rw [ho] at v0
   cases v0
   exact fin _ h' tk o ho ⟨v1,es,ep,t,v2,v3,v4⟩ hk q
 ·
  have hkl:ts.length=its.length:=by rw [← hlen,ht]
  refine zfk (I.ok.hd hc) pl.isList (fun i o=>ST.TS (zaM X.prog X.w) s.heap (ts.take i) o) (fun led=>?_) (fun A' hA' i v sh o Q' E' hi hv ho hJ hB hQ=>?_) fun h' tk o ho hJ hk=>?_
  ·refine ⟨⟨rfl,rfl,rfl⟩,#[],0,SetTable.fresh 0 0 led,rfl,?_,.inl rfl,fun i e he=>by simp at he,rfl,fun k hk=>by simp [dd] at hk,fun i k b he=>by simp at he⟩
   exact ⟨ztz,rfl,rfl,by simp [SetTable.fresh],by simp [SetTable.fresh],by simp [SetTable.fresh],fun i j h x hp=>by simp [SetTable.fresh] at hp⟩
  ·have hi':i < ts.length:=by rw [qz] at hi;omega
   obtain ⟨b,hb1,hb2⟩:=hts i ts[i] (by simp [hi'])
   obtain ⟨u2,hu2,ru2⟩:=rv.get hb1
   have ev:v=u2:=by
    have hv':its[i]?=some v:=by simpa using hv
    rw [hu2] at hv'
    exact (qG hv').symm
   subst ev
   cases ru2
   have hkey:=zgb I.hok hb2
   have htk:ts.take (i+1)=ts.take i++[ts[i]]:=by rw [List.take_succ,qB hi'];rfl
   refine znn (fun v k=>zj1 v k) (by omega) ho hJ hkey (fun b' o' e=>hB b' o' (qt e) e) (by rw [qC];have:=hl;omega) fun bb h' tk o' h1 h2 h3 h4=>hQ bb h' tk o' h1 h2 h3 (by show ST.TS _ _ (List.take (i+1) ts) o';rw [htk];exact h4)
  ·have e:ts.take its.toArray.size=ts:=by rw [qz,← hkl];exact List.take_length
   rw [e] at hJ
   obtain ⟨hc',es,ep,t,w1,w2,w3,w4,w5,w6,w7⟩:=hJ
   exact fin _ h' tk o ho ⟨hc',es,ep,t,w1,w2.fits,w5⟩ hk q
theorem zjm:ze9 X (.builtin "len") (fun xs H Q=>∃ p n,xs=[.ref p]/\H p=some (zpC p n)/\n<=300/\Q (.int n) H):=by
 intro pins s σ H xs us Q I r h
 obtain ⟨p,n,rfl,hp,hn,q⟩:=h
 obtain ⟨u,rfl,ru⟩:=zfN r
 cases ru
 obtain ⟨⟨o,ho,hex,es,ep,t,w1,w2,w3⟩,_,_⟩:=I.hok p _ hp
 exact call_len_set ho hex w1 w2 (by omega) ⟨.int n,H,I.tok _,⟨_,by rw [w3]⟩,q⟩
end
section
open ST
def zd6:List D->Option (List (List Key))
 | []=>some []
 | .tup t::r=>(zeC t).bind fun k=>(zd6 r).map (k::·)
 | _::_=>none
theorem zgF {Γ:Cn} {K:PySem.W.Frag} {G H:Hp} (gh:zbh G H):∀ {vs:List V} {ds:List D} {ts:List (List Key)},Reps Γ K G vs ds->zd6 ds=some ts->vs.length=ts.length/\∀ (i:Nat) t,ts[i]?=some t->∃ b,vs[i]?=some (.ref b)/\H b=some (.tup (t.map kV))
 | _,[],ts,r,h=>by cases r;cases h;exact ⟨rfl,fun i t e=>by simp at e⟩
 | _,d::ds,ts,.cons h1 h2,h=>by
  cases d with
  | tup t =>
   unfold zd6 at h
   obtain ⟨k,hk,h⟩:=oBd h
   obtain ⟨zs,hz,rfl⟩:=oMd h
   obtain ⟨a,us,rfl,ha,ra⟩:=h1.tup_inv
   have e:=zdh ra hk
   subst e
   obtain ⟨q1,q2⟩:=zgF gh h2 hz
   refine ⟨by rw [qh,qh,q1],fun i t' e=>?_⟩
   cases i with
   | zero=>cases e;exact ⟨a,rfl,gh _ _ ha⟩
   | succ i=>exact q2 i t' e
  | _=>cases h
def zeY:D->Option D
 | .lst l=>if l.length<=300 then match zeC l with
  | some ks=>some (.int (dd ks).length)
  | none=>(zd6 l).map fun ts=>.int (dd ts).length
  else none
 | _=>none
section
variable {pos2:Pos}
theorem zmU (hc:X.calm=true) (hu:X.A.units+66 < cLine) (hgl:Gl X "len") (hml:X.mg "len"=none) (hgs:Gl X "set") (hms:X.mg "set"=none) (h:DE Γ X e f)
  (h1:starEach ([.Call (.Name "set" p2) [e] [] pos2]:List Expr) X.env=(false,eval (.Call (.Name "set" p2) [e] [] pos2) X.env)::starEach [] X.env:=by rfl) (h2:(backTo pos (starEach [] X.env)).any (·.1)=false:=by rfl)
  (h3:starEach ([e]:List Expr) X.env=(false,eval e X.env)::starEach [] X.env:=by rfl) (h4:(backTo pos2 (starEach [] X.env)).any (·.1)=false:=by rfl) :
  DE Γ X (.Call (.Name "len" p) [.Call (.Name "set" p2) [e] [] pos2] [] pos) (b1 zeY f):=⟨by
 refine (zjS zjm hgl hml (by rfl) (zcA (zh9 (zoO hc hu) hgs hms (by rfl) (zcA h.1 zdz h3) (by decide) (by decide) h3 h4) zdz h1) (by decide) (by decide) h1 h2).imp fun σ H Q=>?_
 rintro ⟨G₀,H₀,G,ρ,d,A,hq,k⟩
 unfold b1 at hq
 obtain ⟨x,hx,hl⟩:=oBd hq
 clear hq
 refine ⟨G₀,H₀,G,ρ,x,A,hx,fun v G1 H1 s1 r1=>?_⟩
 unfold zeY at hl
 split at hl
 ·rename_i l
  split at hl
  ·rename_i hz
   obtain ⟨a,vs,rfl,ha,ra⟩:=r1.lst_inv
   have go:∀ (n:Nat),n<=300->d=.int n->∀ p,H1 p=none->∃ p' n',[V.ref p]=[V.ref p']/\(upd H1 p (zpC p n)) p'=some (zpC p' n')/\n'<=300/\Q (.int n') (upd H1 p (zpC p n)):=fun n hn ed p hp=>by
    subst ed
    refine ⟨p,n,rfl,zak,hn,k _ G1 _ (s1.trans (Step.newOwn s1.gh hp)) (.int _)⟩
   refine ⟨a,vs,rfl,s1.gh _ _ ha,by rw [ra.length];exact hz,?_⟩
   split at hl
   ·rename_i ks hk
    refine .inl ⟨ks,zdh ra hk,go _ ?_ (qG hl).symm⟩
    have h5:=ziu ks
    have h6:ks.length=l.length:=by
     have:=zdh ra hk
     rw [← ra.length,this,qe]
    omega
   ·obtain ⟨ts,ht,e1⟩:=oMd hl
    obtain ⟨q1,q2⟩:=zgF s1.gh ra ht
    refine .inr ⟨ts,q1,q2,go _ ?_ e1.symm⟩
    have h5:=ziu ts
    have h6:=ra.length
    omega
  ·cases hl
 ·cases hl⟩
end
end
namespace DT
theorem zqv:typeLookup (.type "list") "keys"=pure none:=by rw [typeLookup_type,builtinLookup_eq_fast];kernel_rfl
theorem zqw:typeLookup (.type "list") "__getattr__"=pure none:=by rw [typeLookup_type,builtinLookup_eq_fast];kernel_rfl
theorem zl8 {u:Tok} {R:Result->Shared->Prop} {xs:Array Value} (hx:s.heap.get? l=some { cls:=.type "list",data:=.seq xs n }) (hA:A.handled=none)
  (h:∀ h' tk e,Heap.NewAttrErr s.heap h' e (.ref l) "keys"->R (.error (.ref e)) { s with heap:=h',toks:=tk }) :
  codeAny (model prog w) A (.call (.builtin "list.__getattribute__") ⟨[.ref l,.str "keys" u],[]⟩) R s:=by
 obtain ⟨hp,g,d,tk,os⟩:=s
 have hT:(⟨hp,g,d,tk,os⟩:Shared).TypeIs (.ref l) "list":=⟨_,hx,rfl⟩
 have f1:=zqv
 refine codeAny_call_builtin F.slot_list_getattribute.plain F.entry_list_ga (F.slot_list_getattribute.check _ _ _ _ _ _ _ _ hT (F.args_list_getattribute_2 _ _) ?_)
 unfold Builtin.«object.__getattribute__»
 repeat (any_goals (first | assumption | wp_step))
 have hsz:(Str.ofString "keys").length+100<=sizeLine:=by rw [PySem.ofString_length];decide
 refine wpAny_raiseAttrError (A:=A.in1) hA h ?_
 exact attrMsg_fits (by decide +kernel) hsz
set_option maxHeartbeats 4000000 in
theorem zml {Q:Option Value->Shared->Prop} {xs:Array Value} (hx:s.heap.get? l=some { cls:=.type "list",data:=.seq xs n }) (hA:A.handled=none)
  (h:∀ h' tk,(∀ b ob,s.heap.get? b=some ob->h'.get? b=some ob)->Q none { s with heap:=h',toks:=tk }) :
  wpAny (model prog w) A (getAttr? (.ref l) "keys") Q E s:=by
 obtain ⟨hp,g,d,tk,os⟩:=s
 have hT:∀ tk',(⟨hp,g,d,tk',os⟩:Shared).TypeIs (.ref l) "list":=fun _=>⟨_,hx,rfl⟩
 have f1:=sub_AttributeError
 have f2:=F.slot_list_getattribute.lookup
 have f3:=F.slot_list_getattribute.bind (.ref l)
 have f5:=zqw
 unfold getAttr? getAttrBy?
 refine qw (wpAny_mkText ?_)
 refine qw (wpAny_attempt ?_)
 unfold getAttrBy
 refine qS (qw (wpAny_typeOf (hT _) (qw (wpAny_of_eq f2 ?_))))
 show wpAny _ _ (getAttrByItsOwn _ _ _ _ _ _) _ _ _
 unfold getAttrByItsOwn
 refine qw (m:=hookBefore (Value.type "list")) (qy ?_)
 refine qw (wpAny_attempt (qS ?_))
 show wpAny _ _ (boundAndCalled _ _ _) _ _ _
 unfold boundAndCalled
 refine qw (wpAny_of_eq f3 ?_)
 refine wpAny_call (zl8 (s:=⟨hp,g,d,tk+1,os⟩) hx hA fun h' tk' e hn=>?_)
 obtain ⟨t',u',he⟩:=hn.there
 have hE:Shared.TypeIs ⟨h',g,d,tk',os⟩ (.ref e) "AttributeError":=⟨_,he,rfl⟩
 show wpAny _ _ (getattributeRaised _ _ _ _ _ _ _) _ _ _
 unfold getattributeRaised
 refine qw (wpAny_isInstance hE f1 ?_)
 simp only [if_true]
 refine qw (m:=hookBehind (Value.type "list") none) (wpAny_of_eq f5 ?_)
 unfold hookOrError attributeErrorLeaves
 simp only [Bool.not_false,if_true]
 refine qw (wpAny_throw ?_)
 refine qw (wpAny_isInstance hE f1 ?_)
 simp only [if_true]
 exact qy (h h' tk' hn.keeps)
theorem zgW:entryFor table "dict.update.loop"=some Builtin.«dict.update.loop»:=entryFor_of_tree (by kernel_rfl)
theorem zdK:plainId "dict.update.loop"=true:=by decide +kernel
section
variable {R:Result->Shared->Prop} {G:Array GenState->Array GenState->Prop} {P:Nat->Value->Prop} {St:Nat->Shared->Prop}
def zt5 (prog:Program) (w:World) (A:Around) (S:Addr) (h0:Heap) (P:Nat->Value->Prop) (n:Nat) (J:Nat->Obj->Prop):Prop :=
 ∀ (i:Nat) (b:Addr) (kv vv:Value) (s:Shared) (o:Obj) (Q:Unit->Shared->Prop) (E:Value->Shared->Prop),i < n->P i (.ref b)->h0.IsTuple b #[kv,vv]->s.heap.get? S=some o->J i o->(∀ b o,b < h0.objs.size->h0.get? b=some o->s.heap.get? b=some o) ->
  (∀ h' tk o',s.toks<=tk->Heap.SameBut S s.heap h'->h'.get? S=some o'->J (i+1) o'->Q () { s with heap:=h',toks:=tk })->wpAny (model prog w) A (dictSet S kv vv) Q E s
theorem zmO (W:WalksS prog w A.in1 I fp wr G n P St) (S:Addr) (hSf:S∉fp) (h0:Heap) (hS0:h0.objs.size<=S) (hw0:∀ b∈wr,h0.objs.size<=b) (J:Nat->Obj->Prop) (hadd:zt5 prog w A.in1 S h0 P n J) (hP:∀ i v,P i v->∃ b kv vv,v=.ref b/\h0.IsTuple b #[kv,vv]) :
  ∀ (k i:Nat) (c:Int) (s:Shared) (o:Obj),n - i=k->i<=n->St i s->s.heap.get? S=some o->J i o->(∀ b o,b < h0.objs.size->h0.get? b=some o->s.heap.get? b=some o) ->
   (∀ s' o',Moved (S::wr) G s s'->s'.heap.get? S=some o'->J n o'->R (.ok (.ret .none)) s') ->
   codeAny (model prog w) A (.builtin "dict.update.loop" ⟨[.ref S,.ref I,rawInt c,.none],[]⟩) R s:=by
 have hSw:S∉wr:=fun h=>hSf (W.sub _ h)
 have hsub:∀ b∈wr,b∈S::wr:=fun b hb=>qg _ hb
 have keep:∀ {h h':Heap},(∀ b o,b < h0.objs.size->h0.get? b=some o->h.get? b=some o)->(∀ b o,b∉S::wr->h.get? b=some o->h'.get? b=some o)->∀ b o,b < h0.objs.size->h0.get? b=some o->h'.get? b=some o:=fun q1 q2 b o hb e=>q2 b o (fun z=>by
  rcases List.mem_cons.mp z with z | z
  ·rw [z] at hb;exact absurd hb (Nat.not_lt.mpr hS0)
  ·exact absurd hb (Nat.not_lt.mpr (hw0 b z))) (q1 b o hb e)
 intro k
 induction k with
 | zero =>
  intro i c s o hk hi hst hS hJ hB hR
  have hin:i=n:=by omega
  subst hin
  refine codeAny_builtin zgW ?_
  rw [Around.under_plainId zdK _]
  show wpAny _ A.in1 (pyNext (.ref I) >>= _) _ _ s
  refine qw (W.done s _ _ hst fun s' hm=>?_)
  show wpAny _ A.in1 (Builtin.Dict.addKeywords S [] >>= _) _ _ s'
  exact qw (qy (qy (hR s' o (hm.mono hsub) (hm.heap S _ hSw hS) hJ)))
 | succ k ih =>
  intro i c s o hk hi hst hS hJ hB hR
  have hlt:i < n:=by omega
  refine codeAny_builtin zgW ?_
  rw [Around.under_plainId zdK _]
  show wpAny _ A.in1 (pyNext (.ref I) >>= _) _ _ s
  refine qw (W.item i s _ _ hlt hst fun v s' hPv hst' hm=>?_)
  obtain ⟨b,kv,vv,rfl,hb⟩:=hP i v hPv
  have hB':=keep hB fun b o hb e=>hm.heap b o (fun z=>hb (hsub b z)) e
  obtain ⟨ob,hob,hoc,nn,hod⟩:=hb
  have hob':s'.heap.get? b=some ob:=hB' b ob (qt hob) hob
  have hTb:s'.TypeIs (.ref b) "tuple":=⟨_,hob',hoc⟩
  show wpAny _ A.in1 (holding [Value.ref b] _ >>= _) _ _ s'
  refine qw (qS ?_)
  refine qw ?_
  refine wpAny_tryCatch ?_
  unfold Builtin.Dict.pairItems
  refine qw (wpAny_typeOf hTb ?_)
  rw [qV (by decide)]
  refine qw (wpAny_seqItems hob' hod (qy ?_))
  show wpAny _ A.in1 (holding [kv,vv] (dictSet S kv vv)) _ _ s'
  refine qS (hadd i b kv vv s' o _ _ hlt hPv ⟨ob,hob,hoc,nn,hod⟩ (hm.heap S _ hSw hS) hJ hB' fun h' tk o' htk hsb hS' hJ'=>?_)
  refine qy ⟨plainId_quiet zdK _,ih (i+1) (c+1) _ o' (by omega) hlt (W.frame _ s' _ _ hst' htk fun b hb o e=>?_) hS' hJ' ?_ fun s'' o'' hm'' hS'' hJ''=>?_⟩
  ·rw [hsb.2 b (fun h:b=S=>hSf (by rw [← h];exact hb))];exact e
  ·refine keep hB' fun b o hb e=>?_
   show h'.get? b=some o
   rw [hsb.2 b (fun h:b=S=>hb (by rw [h];exact qf))];exact e
  ·refine hR s'' o'' (Moved.trans W.gtrans ((hm.mono hsub).then_heap htk fun b o hb e=>?_) hm'') hS'' hJ''
   rw [hsb.2 b (fun h:b=S=>hb (by rw [h];exact qf))];exact e
end
theorem call_dict_gen {c:Nat} (hh:A.handled=none) (hl:s.heap.get? l=some { cls:=.type "list",data:=.seq items c }) (J:Nat->Obj->Prop)
  (hJ0:J 0 { cls:=.type "dict",data:=.dict #[] })
  (hadd:∀ A':Around,A'.units<=A.units+16->zt5 prog w A' s.heap.objs.size s.heap (fun i v=>items[i]?=some v) items.size J)
  (hP:∀ (i:Nat) (v:Value),items[i]?=some v->∃ b kv vv,v=.ref b/\s.heap.IsTuple b #[kv,vv])
  (h:∀ (h':Heap) (tk:Nat) (o:Obj),h'.get? s.heap.objs.size=some o->J items.size o ->
   (∀ b o,b < s.heap.objs.size->s.heap.get? b=some o->h'.get? b=some o)->Q (.ref s.heap.objs.size) { s with heap:=h',toks:=tk }) :
  wpAny (model prog w) A (call (.type "dict") [.ref l]) Q E s:=by
 refine callType_codes (Q₁:=fun obj s₁=>obj=.ref s.heap.objs.size/\s₁={ s with heap:=s.heap.push { cls:=.type "dict",data:=.dict #[] } }) F.kt_called_dict (F.kt_typeCall_dict_1 _) F.entry_dict_init (kt_code_dict_new _ ⟨rfl,rfl⟩) ?_
 rintro obj s₁ ⟨rfl,rfl⟩
 have hnew:(s.heap.push { cls:=.type "dict",data:=.dict #[] }).get? s.heap.objs.size=some { cls:=.type "dict",data:=.dict #[] }:=qF _ rfl
 have hl1:(s.heap.push { cls:=.type "dict",data:=.dict #[] }).get? l=some { cls:=.type "list",data:=.seq items c }:=qr _ hl
 have hT:Shared.TypeIs { s with heap:=s.heap.push { cls:=.type "dict",data:=.dict #[] } } (.ref s.heap.objs.size) "dict":=⟨_,hnew,rfl⟩
 have hTl:Shared.TypeIs { s with heap:=s.heap.push { cls:=.type "dict",data:=.dict #[] } } (.ref l) "list":=⟨_,hl1,rfl⟩
 refine ⟨hT,F.args_dict_init_2 _ _,?_⟩
 unfold Builtin.«dict.__init__»
 refine qw ?_
 unfold Builtin.Dict.selfAndRest
 refine qw (wpAny_notOrdered_dict hT ?_)
 show wpAny _ _ (pure (s.heap.objs.size,[Value.ref l])) _ _ _
 refine qy ?_
 show wpAny _ _ (Builtin.Dict.updateFrom "dict.__init__" s.heap.objs.size (.ref l) [] .none) _ _ _
 unfold Builtin.Dict.updateFrom
 refine qw (wpAny_typeOf hTl ?_)
 rw [qV (by decide)]
 refine qw (zml (s:={ s with heap:=s.heap.push { cls:=.type "dict",data:=.dict #[] } }) (A:=A.in1.in1) hl1 hh fun h1 tk1 hk1=>?_)
 simp only [Option.isNone_none,if_true]
 refine qw (wpAny_rule ?_)
 have hl2:h1.IsList l items:=⟨_,hk1 _ _ hl1,rfl,_,rfl⟩
 refine qw (wpAny_pyIter_list (s:={ s with heap:=h1,toks:=tk1 }) hl2 ?_)
 refine qy ⟨plainId_quiet zdK _,?_⟩
 have hlS:l < s.heap.objs.size:=qt hl
 have hsz1:s.heap.objs.size < h1.objs.size:=qt (hk1 _ _ hnew)
 have hneI:l≠h1.objs.size:=qA (Nat.lt_trans hlS hsz1)
 have hSf:s.heap.objs.size∉[h1.objs.size,l]:=by
  simp only [qK,List.mem_singleton,qI,or_false,not_or]
  exact ⟨qA hsz1,Nat.ne_of_gt hlS⟩
 have old:∀ b o,b < s.heap.objs.size->s.heap.get? b=some o->h1.get? b=some o:=fun b o _ e=>hk1 _ _ (qr _ e)
 refine zmO ((Walks.list (A:=A.in1.in1) (by simpa using hh) _ l hneI items).toS) s.heap.objs.size hSf s.heap (qu _) (fun b hb=>?_) J (hadd _ (by show A.units+2<=_;omega)) hP (items.size - 0) 0 0 _ _ (by omega) (Nat.zero_le _)
  ⟨⟨_,qF _ rfl,rfl,rfl⟩,hl2.push _⟩ (qr _ (hk1 _ _ hnew)) hJ0 (fun b o hb e=>qr _ (old b o hb e)) fun s' o' hm hS' hJ'=>?_
 ·have:b=h1.objs.size:=by simpa using hb
  rw [this];exact Nat.le_of_lt hsz1
 ·obtain ⟨h',g',d',tk',os'⟩:=s'
  have eg:g'=s.gens:=hm.gens
  have ed:d'=s.drawn:=hm.drawn
  have eo:os'=s.os:=hm.os
  subst eg;subst ed;subst eo
  refine ⟨rfl,h h' tk' o' hS' hJ' fun b o hb e=>hm.heap b o ?_ (qr _ (old b o hb e))⟩
  simp only [qK,List.mem_singleton,qI,or_false,not_or]
  exact ⟨qA hb,qA (Nat.lt_trans hb hsz1)⟩
end DT
section
variable [DecidableEq κ]
def mrg (kvs ps:List (κ×V)):List (κ×V):=ps.foldl (fun acc kv=>zeO acc kv.1 kv.2) kvs
theorem zj0 (kvs ps:List (κ×V)) (p:κ×V):mrg kvs (ps++[p])=zeO (mrg kvs ps) p.1 p.2:=by unfold mrg;rw [List.foldl_append];rfl
theorem znQ (kvs:List (κ×V)) (k:κ) (v:V):(zeO kvs k v).length<=kvs.length+1:=by
 unfold zeO
 split
 ·rw [qe];omega
 ·rw [qi,List.length_singleton];omega
theorem zf4:∀ (ps kvs:List (κ×V)),(mrg kvs ps).length<=kvs.length+ps.length
 | [],kvs=>qu _
 | p::ps,kvs=>by
  have h1:=zf4 ps (zeO kvs p.1 p.2)
  have h2:=znQ kvs p.1 p.2
  show (mrg (zeO kvs p.1 p.2) ps).length<=_
  rw [qh]
  omega
end
def zso:List V->Hp->VK->Prop:=fun xs H Q=>∃ (a:Addr) (vs:List V) (ps:List (Key×V)),xs=[.ref a]/\H a=some (.lst vs)/\vs.length=ps.length/\ps.length<=1000/\(∀ (i:Nat) p,ps[i]?=some p->∃ b,vs[i]?=some (.ref b)/\H b=some (.tup [kV p.1,p.2])) /\
 ∀ q,H q=none->Q (.ref q) (upd H q (.dK (mrg [] ps)))
theorem zlW {b:Addr} {x y:V} (I:Inv X pins σ H s) (hb:H b=some (.tup [x,y])):∃ u v,zbX x u/\zbX y v/\s.heap.IsTuple b #[u,v]:=by
 obtain ⟨its,r,p,_⟩:=I.tuple (.inl (.inl hb))
 cases r with
 | cons r1 r2 =>
  cases r2 with
  | cons r2 r3 =>
   cases r3
   exact ⟨_,_,r1,r2,p⟩
theorem tuple_inj {h:Heap} {b:Addr} {x y:Array Value} (p:h.IsTuple b x) (q:h.IsTuple b y):x=y:=by
 obtain ⟨o,h1,_,n,h2⟩:=p
 obtain ⟨o',g1,_,m,g2⟩:=q
 rw [h1] at g1
 cases g1
 rw [h2] at g2
 cases g2
 rfl
theorem zkY (hc:X.calm=true) (hu:X.A.units+66 < cLine):ze9 X (.type "dict") zso:=by
 intro pins s σ H xs us Q I r h
 obtain ⟨a,vs,ps,rfl,ha,hl,hz,hp,q⟩:=h
 obtain ⟨u,rfl,ru⟩:=zfN r
 cases ru
 obtain ⟨z,its,n,rv,hlen,e⟩:=I.lstM ha
 have hsz:its.toArray.size=ps.length:=by rw [qz,← hlen,hl]
 have hit:∀ (i:Nat) (v:Value),its.toArray[i]?=some v->∃ p b u w,ps[i]?=some p/\v=.ref b/\zbX (kV p.1) u/\zbX p.2 w/\s.heap.IsTuple b #[u,w]:=fun i v hv=>by
  have hi:i < ps.length:=by rw [← hsz];exact (Array.getElem?_eq_some_iff.mp hv).1
  obtain ⟨b,hb1,hb2⟩:=hp i ps[i] (by simp [hi])
  obtain ⟨u2,hu2,ru2⟩:=rv.get hb1
  have hv':its[i]?=some v:=by simpa using hv
  rw [hu2] at hv'
  cases hv'
  cases ru2
  obtain ⟨u,w,r1,r2,r3⟩:=zlW I hb2
  exact ⟨ps[i],b,u,w,by simp [hi],rfl,r1,r2,r3⟩
 refine DT.call_dict_gen (I.ok.hd hc) e (fun i o=>∃ vs',KV (mrg [] (ps.take i)) vs'/\o.IsDictOf (zaM X.prog X.w) vs') ?_ (fun A' hA' i b kv vv sh o Q' E' hi hv hb ho hJ hB hQ=>?_) (fun i v hv=>?_) fun h' tk o ho hJ hk=>?_
 ·obtain ⟨o,ho,hd⟩:=Heap.dictOf_iff.mp (Heap.DictOf.new (knd:=zaM X.prog X.w) s.heap)
  have:o={ cls:=.type "dict",data:=.dict #[] }:=by
   have:=qF s.heap (o:={ cls:=.type "dict",data:=.dict #[] }) rfl
   rw [this] at ho
   exact (qG ho).symm
  subst this
  exact ⟨[],.nil,hd⟩
 ·obtain ⟨p,b',u,w,h1,h2,h3,h4,h5⟩:=hit i _ hv
  cases h2
  have e2:=tuple_inj hb h5
  have e3:kv=u/\vv=w:=by simpa using e2
  obtain ⟨rfl,rfl⟩:=e3
  obtain ⟨vs',k1,k2⟩:=hJ
  have hle:vs'.length<=1000:=by
   have q1:=k1.length
   have q2:=zf4 (ps.take i) ([]:List (Key×V))
   rw [qC,qk] at q2
   omega
  refine wpAny_dictSet_pairs (zho h3) (Heap.dictOf_iff.mpr ⟨o,ho,k2⟩) (fun h' hd' hsb=>?_) (by rw [sizeLine_eq];omega)
  obtain ⟨o',ho',hd''⟩:=Heap.dictOf_iff.mp hd'
  refine hQ h' _ o' (Nat.le_succ _) hsb ho' ⟨_,?_,hd''⟩
  have htk:ps.take (i+1)=ps.take i++[p]:=by rw [List.take_succ,h1];rfl
  rw [htk,zj0]
  exact k1.put p.1 h4
 ·obtain ⟨p,b,u,w,h1,h2,h3,h4,h5⟩:=hit i v hv
  exact ⟨b,u,w,h2,h5⟩
 ·obtain ⟨vs',k1,k2⟩:=hJ
  rw [hsz,List.take_length] at k1
  refine ⟨.ref s.heap.objs.size,_,I.laid (a:=s.heap.objs.size) (o:=.dK (mrg [] ps)) (fun b u e=>hk b u (qt e) e) (qu _) ⟨?_,?_,vs',k1,Heap.dictOf_iff.mpr ⟨o,ho,k2⟩⟩,rfl,q _ I.fresh⟩
  ·have:=zf4 ps ([]:List (Key×V))
   rw [qk] at this
   rw [sizeLine_eq]
   omega
  ·exact beq_eq_false_iff_ne.mpr (Ne.symm (qA I.big))
def zsn:List V->Hp->VK->Prop:=fun xs H Q=>∃ (a:Addr) (vs:List V) (ps:List (List Key×V)),xs=[.ref a]/\H a=some (.lst vs)/\vs.length=ps.length/\ps.length<=1000/\(∀ (i:Nat) p,ps[i]?=some p->∃ b kb,vs[i]?=some (.ref b)/\H b=some (.tup [.ref kb,p.2])/\H kb=some (.tup (p.1.map kV))) /\
 ∀ q,H q=none->Q (.ref q) (upd H q (.dT (mrg [] ps)))
theorem zs8 {P:List Key->Addr->Prop} (hP:∀ k b,H b=some (.tup (k.map kV))->P k b):∀ {kvs:List (List Key×V)} {xs:List (List Key×Addr×Value)},KT H kvs xs->∀ x∈xs,P x.1 x.2.1:=by
 intro kvs xs q
 induction q with
 | nil=>intro x hx;cases hx
 | @cons p y ps ys hq t ih =>
  intro x hx
  rcases List.mem_cons.mp hx with rfl | hx
  ·exact hP _ _ (by rw [← hq.1];exact hq.2.1)
  ·exact ih x hx
theorem zkX (hc:X.calm=true) (hu:X.A.units+66 < cLine):ze9 X (.type "dict") zsn:=by
 intro pins s σ H xs us Q I r h
 obtain ⟨a,vs,ps,rfl,ha,hl,hz,hp,q⟩:=h
 obtain ⟨u,rfl,ru⟩:=zfN r
 cases ru
 obtain ⟨z,its,n,rv,hlen,e⟩:=I.lstM ha
 have hsz:its.toArray.size=ps.length:=by rw [qz,← hlen,hl]
 have hit:∀ (i:Nat) (v:Value),its.toArray[i]?=some v->∃ p b kb w,ps[i]?=some p/\v=.ref b/\H kb=some (.tup (p.1.map kV))/\zbX p.2 w/\s.heap.IsTuple b #[.ref kb,w]:=fun i v hv=>by
  have hi:i < ps.length:=by rw [← hsz];exact (Array.getElem?_eq_some_iff.mp hv).1
  obtain ⟨b,kb,hb1,hb2,hb3⟩:=hp i ps[i] (by simp [hi])
  obtain ⟨u2,hu2,ru2⟩:=rv.get hb1
  have hv':its[i]?=some v:=by simpa using hv
  rw [hu2] at hv'
  cases hv'
  cases ru2
  obtain ⟨u,w,r1,r2,r3⟩:=zlW I hb2
  cases r1
  exact ⟨ps[i],b,kb,w,by simp [hi],rfl,hb3,r2,r3⟩
 have isk:∀ {h':Heap},(∀ b o,b < s.heap.objs.size->s.heap.get? b=some o->h'.get? b=some o)->∀ k b,H b=some (.tup (k.map kV))->(tupleKind (zaM X.prog X.w)).is h' k b:=fun hB k b hb=>ST.IsTupleKey.mono (zgb I.hok hb) fun o e=>hB _ _ (qt e) e
 refine DT.call_dict_gen (I.ok.hd hc) e (fun i o=>∃ xs',KT H (mrg [] (ps.take i)) xs'/\∃ es ep,o.ExactDict/\o.data=.dict es ep/\es.toList=xs'.map (entryOfKey (tupleKind (zaM X.prog X.w)))/\(xs'.map (·.1)).Nodup) ?_ (fun A' hA' i b kv vv sh o Q' E' hi hv hb ho hJ hB hQ=>?_) (fun i v hv=>?_) fun h' tk o ho hJ hk=>?_
 ·exact ⟨[],.nil,#[],0,⟨rfl,rfl,rfl⟩,rfl,rfl,List.nodup_nil⟩
 ·obtain ⟨p,b',kb,w,h1,h2,h3,h4,h5⟩:=hit i _ hv
  cases h2
  have e2:=tuple_inj hb h5
  have e3:kv=.ref kb/\vv=w:=by simpa using e2
  obtain ⟨rfl,rfl⟩:=e3
  obtain ⟨xs',k1,es,ep,k2,k3,k4,k5⟩:=hJ
  have hle:xs'.length<=1000:=by
   have q1:=Paired.length k1
   have q2:=zf4 (ps.take i) ([]:List (List Key×V))
   rw [qC,qk] at q2
   omega
  refine wpAny_dictSet_heap (knd:=tupleKind (zaM X.prog X.w)) (show A'.units < cLine by omega) (isk hB _ _ h3) ⟨o,es,ep,ho,k2,k3,k4,zs8 (isk hB) k1,k5⟩ (fun h' hd' hsb=>?_) (by rw [sizeLine_eq];omega)
  obtain ⟨o',es',ep',ho',w2,w3,w4,_,w5⟩:=hd'
  refine hQ h' _ o' (Nat.le_add_right _ _) hsb ho' ⟨_,?_,es',ep',w2,w3,w4,w5⟩
  have htk:ps.take (i+1)=ps.take i++[p]:=by rw [List.take_succ,h1];rfl
  rw [htk,zj0]
  exact k1.put p.1 h3 h4
 ·obtain ⟨p,b,kb,w,h1,h2,h3,h4,h5⟩:=hit i v hv
  exact ⟨b,_,w,h2,h5⟩
 ·obtain ⟨xs',k1,es,ep,k2,k3,k4,k5⟩:=hJ
  rw [hsz,List.take_length] at k1
  refine ⟨.ref s.heap.objs.size,_,I.laid (a:=s.heap.objs.size) (o:=.dT (mrg [] ps)) (fun b u e=>hk b u (qt e) e) (qu _) ⟨?_,?_,xs',k1.keeps fun b ys e=>?_,o,es,ep,ho,k2,k3,k4,k5⟩,rfl,q _ I.fresh⟩
  ·have:=zf4 ps ([]:List (List Key×V))
   rw [qk] at this
   rw [sizeLine_eq]
   omega
  ·exact beq_eq_false_iff_ne.mpr (Ne.symm (qA I.big))
  ·rw [zaj (zal e I.fresh)];exact e
def zgQ:List D->Option (List (Key×D))
 | []=>some []
 | .tup [k,v]::r=>(zmM k).bind fun kk=>(zgQ r).map ((kk,v)::·)
 | _::_=>none
def zf2:List D->Option (List (List Key×D))
 | []=>some []
 | .tup [.tup t,v]::r=>(zeC t).bind fun kk=>(zf2 r).map ((kk,v)::·)
 | _::_=>none
def zuk [DecidableEq κ] (ps:List (κ×D)):List (κ×D):=ps.foldl (fun acc kv=>zhg acc kv.1 kv.2) []
def zd0:List D->Option D
 | [.lst l]=>if l.length<=1000 then (zgQ l).map fun ps=>.dk (zuk ps) else none
 | _=>none
def zkn:List D->Option D
 | [.lst l]=>if l.length<=1000 then (zf2 l).map fun ps=>.dt (zuk ps) else none
 | _=>none
theorem zmk {κ:Type} [DecidableEq κ] {K:PySem.W.Frag} {G:Hp}:∀ {us:List (κ×V)} {kvs:List (κ×D)} {acc:List (κ×V)} {acd:List (κ×D)},us.map (·.1)=kvs.map (·.1)->Reps Γ K G (us.map (·.2)) (kvs.map (·.2))->acc.map (·.1)=acd.map (·.1)->Reps Γ K G (acc.map (·.2)) (acd.map (·.2)) ->
  (mrg acc us).map (·.1)=(kvs.foldl (fun acc kv=>zhg acc kv.1 kv.2) acd).map (·.1)/\Reps Γ K G ((mrg acc us).map (·.2)) ((kvs.foldl (fun acc kv=>zhg acc kv.1 kv.2) acd).map (·.2))
 | [],[],_,_,_,_,e,r=>⟨e,r⟩
 | [],_::_,_,_,e,_,_,_=>by cases e
 | _::_,[],_,_,e,_,_,_=>by cases e
 | (k1,v)::us,(k2,d)::kvs,acc,acd,e,r,e0,r0=>by
  have e1:k1=k2:=(List.cons.inj e).1
  subst e1
  have r:Reps Γ K G (v::us.map (·.2)) (d::kvs.map (·.2)):=r
  cases r with
  | cons r1 r2 =>
   obtain ⟨w1,w2⟩:=zj6 (k:=k1) r1 e0 r0
   exact zmk (us:=us) (kvs:=kvs) (List.cons.inj e).2 r2 w1 w2
theorem zic {K:PySem.W.Frag} {G H:Hp} (gh:zbh G H):∀ {vs:List V} {ds:List D} {ps:List (Key×D)},Reps Γ K G vs ds->zgQ ds=some ps ->
  ∃ us:List (Key×V),vs.length=us.length/\us.map (·.1)=ps.map (·.1)/\Reps Γ K G (us.map (·.2)) (ps.map (·.2))/\∀ (i:Nat) p,us[i]?=some p->∃ b,vs[i]?=some (.ref b)/\H b=some (.tup [kV p.1,p.2])
 | _,[],ps,r,h=>by cases r;cases h;exact ⟨[],rfl,rfl,.nil,fun i p e=>by simp at e⟩
 | _,d::ds,ps,.cons h1 h2,h=>by
  unfold zgQ at h
  split at h
  ·rename_i heq;cases heq
  ·rename_i heq
   cases heq
   obtain ⟨kk,hk,h⟩:=oBd h
   obtain ⟨zs,hz,rfl⟩:=oMd h
   obtain ⟨us,q1,q2,q3,q4⟩:=zic gh h2 hz
   obtain ⟨a,ws,rfl,ha,ra⟩:=h1.tup_inv
   obtain ⟨x,y,rfl,rx,ry⟩:=ra.two
   have ex:=zgl rx hk
   subst ex
   refine ⟨(kk,y)::us,by rw [qh,qh,q1],by simp [q2],.cons ry q3,fun i p e=>?_⟩
   cases i with
   | zero=>cases e;exact ⟨a,rfl,gh _ _ ha⟩
   | succ i=>exact q4 i p e
  ·cases h
theorem zib {K:PySem.W.Frag} {G H:Hp} (gh:zbh G H):∀ {vs:List V} {ds:List D} {ps:List (List Key×D)},Reps Γ K G vs ds->zf2 ds=some ps ->
  ∃ us:List (List Key×V),vs.length=us.length/\us.map (·.1)=ps.map (·.1)/\Reps Γ K G (us.map (·.2)) (ps.map (·.2))/\∀ (i:Nat) p,us[i]?=some p->∃ b kb,vs[i]?=some (.ref b)/\H b=some (.tup [.ref kb,p.2])/\H kb=some (.tup (p.1.map kV))
 | _,[],ps,r,h=>by cases r;cases h;exact ⟨[],rfl,rfl,.nil,fun i p e=>by simp at e⟩
 | _,d::ds,ps,.cons h1 h2,h=>by
  unfold zf2 at h
  split at h
  ·rename_i heq;cases heq
  ·rename_i heq
   cases heq
   obtain ⟨kk,hk,h⟩:=oBd h
   obtain ⟨zs,hz,rfl⟩:=oMd h
   obtain ⟨us,q1,q2,q3,q4⟩:=zib gh h2 hz
   obtain ⟨a,ws,rfl,ha,ra⟩:=h1.tup_inv
   obtain ⟨x,y,rfl,rx,ry⟩:=ra.two
   obtain ⟨kb,ks,rfl,hkb,rk⟩:=rx.tup_inv
   have ex:=zdh rk hk
   subst ex
   refine ⟨(kk,y)::us,by rw [qh,qh,q1],by simp [q2],.cons ry q3,fun i p e=>?_⟩
   cases i with
   | zero=>cases e;exact ⟨a,kb,rfl,gh _ _ ha,gh _ _ hkb⟩
   | succ i=>exact q4 i p e
  ·cases h
theorem zg6 (hc:X.calm=true) (hu:X.A.units+66 < cLine):TyD Γ X "dict" zd0:=⟨_,zkY hc hu,fun {G H vs ds z} gh r h Q k=>by
 unfold zd0 at h
 split at h
 ·split at h
  ·rename_i hz
   obtain ⟨ps,hp,rfl⟩:=oMd h
   obtain ⟨v,rfl,r1⟩:=r.one
   obtain ⟨a,ws,rfl,ha,ra⟩:=r1.lst_inv
   obtain ⟨us,q1,q2,q3,q4⟩:=zic gh ra hp
   refine ⟨a,ws,us,rfl,gh _ _ ha,q1,by rw [← q1,ra.length];exact hz,q4,fun p hp=>?_⟩
   have s:=Step.new (o:=.dK (mrg [] us)) gh hp
   obtain ⟨w1,w2⟩:=zmk (acc:=[]) (acd:=[]) q2 q3 rfl .nil
   exact k _ _ _ s (.dk zak w1 (w2.mono s.gg))
  ·cases h
 ·cases h⟩
theorem zny (hc:X.calm=true) (hu:X.A.units+66 < cLine):TyD Γ X "dict" zkn:=⟨_,zkX hc hu,fun {G H vs ds z} gh r h Q k=>by
 unfold zkn at h
 split at h
 ·split at h
  ·rename_i hz
   obtain ⟨ps,hp,rfl⟩:=oMd h
   obtain ⟨v,rfl,r1⟩:=r.one
   obtain ⟨a,ws,rfl,ha,ra⟩:=r1.lst_inv
   obtain ⟨us,q1,q2,q3,q4⟩:=zib gh ra hp
   refine ⟨a,ws,us,rfl,gh _ _ ha,q1,by rw [← q1,ra.length];exact hz,q4,fun p hp=>?_⟩
   have s:=Step.new (o:=.dT (mrg [] us)) gh hp
   obtain ⟨w1,w2⟩:=zmk (acc:=[]) (acd:=[]) q2 q3 rfl .nil
   exact k _ _ _ s (.dt zak w1 (w2.mono s.gg))
  ·cases h
 ·cases h⟩
section
variable {fr:FA}
def znK (i:Nat):FS:=fun ρ=>match ρ[i]? with
 | some (some (.own ds))=>some (.ow ds,ρ)
 | _=>none
theorem zq4 (i:Nat) (hN:X.N[i]?=some x:=by rfl) (hv:Vis X.env.scope x:=by first | exact Or.inl rfl | exact Or.inr (Or.inl rfl) | exact Or.inr (Or.inr rfl)) (hd:(x==("__debug__":Str))=false:=by decide)
  (hcd:(x==("__classdict__":Str))=false:=by decide):DS Γ X (.Return (some (.Name x vp)) pos) (znK i):=⟨(zlH (zds hN hv hd hcd)).imp fun E σ H=>by
 rintro ⟨G₀,H₀,G,ρ,fl,ρ',A,h,k⟩
 unfold znK at h
 split at h
 ·rename_i ds hi
  cases h
  obtain ⟨a,vs,h1,h2,h3,h4,h5⟩:=A.env.own i ds hi
  exact ⟨.ref a,h1,k σ G H (.refl _) A a vs h2 h3 h4 h5⟩
 ·cases h⟩
def znL (fr:FA):FS:=fun ρ=>(fr ρ).map fun ds=>(.ow ds,ρ)
theorem zq5 (h:DO Γ X e fr):DS Γ X (.Return (some e) pos) (znL fr):=⟨(zlH h.1).imp fun E σ H=>by
 rintro ⟨G₀,H₀,G,ρ,fl,ρ',A,h,k⟩
 unfold znL at h
 obtain ⟨ds,hd,h⟩:=oMd h
 cases h
 refine ⟨G₀,H₀,G,ρ,ds,A,hd,fun p vs G' H' s hp r=>?_⟩
 have hp0:H₀ p=none:=A.st.hh.free (s.hh.free hp)
 have hg:G' p=none:=s.gh.free hp
 have s2:=s.trans (Step.newOwn (o:=.lst vs) s.gh hp)
 exact k σ G' _ s.gg (A.step s2) p vs hp0 hg zak r⟩
def spO (Γ:Cn) (K:PySem.W.Frag) (n:Nat) (F:List D->Option (List D)):Sp:=fun vs H Q _=>∃ G ds rs,zbh G H/\Reps Γ K G vs ds/\ds.length=n/\F ds=some rs/\∀ p us G' H',Step G H G' H'->H' p=none->Reps Γ K G' us rs->Q (.ref p) (upd H' p (.lst us))
def zsi (n:Nat) (g:FS):List D->Option (List D):=fun ds=>(g (ds.map (fun d=>some (Slot.sh d))++List.replicate n none)).bind fun r=>match r.1 with
 | .ow ds=>some ds
 | _=>none
theorem Fun.okO {f:Addr} {k:Nat} (F:Fun K x qual st f fd) (S:FnScope N ps (zah st))
  (hbody:∀ (cdv:Value) (A:Around) (outer:List Env) (s:Shared) (H:Hp) (E:XK),Room k (A.deeper (envOfC qual (zah st) s.heap.objs.size f cdv)) ->
   DSs Γ (ziM CX0 P w K mg base N qual (zah st) f cdv A outer s H E).nox (zaV st) g):FnOk P w K mg base CX0 (k+1) f fd ps (spO Γ K ps.length (zsi (N.length - ps.length) g)):=by
 refine F.ok S (fun vs H Q E h=>?_) (fun cdv A outer s H vs Q E hr h=>?_)
 ·obtain ⟨G,ds,d,_,r,hl,_⟩:=h
  rw [r.length,hl]
 ·obtain ⟨G,ds,rs,gh,r,hl,hd,k⟩:=h
  refine ⟨_,(hbody cdv A outer s H E hr).1,?_⟩
  unfold zsi at hd
  obtain ⟨⟨fl,ρ'⟩,hg,hd⟩:=oBd hd
  refine ⟨G,H,G,_,fl,ρ',zfU gh r (by rw [r.length,hl]),hg,fun σ' G' H' sm A'=>?_⟩
  cases fl with
  | rt d'=>cases hd
  | nx=>cases hd
  | bk=>cases hd
  | ct=>cases hd
  | nw d'=>cases hd
  | od d'=>cases hd
  | ow d' =>
   cases hd
   intro p us hp0 hg hp rr
   have st:Step G H G' (fun b=>if b=p then none else H' b):=by
    refine ⟨fun b o e=>?_,A'.st.gg,fun b o e=>?_,A'.st.out⟩
    ·show (if b=p then none else H' b)=some o
     rw [qW (zal e hp0)];exact A'.st.hh b o e
    ·show (if b=p then none else H' b)=some o
     rw [qW (zal e hg)];exact A'.st.gh b o e
   have:=k p us G' _ st (qV rfl) rr
   have hf:upd (fun b=>if b=p then none else H' b) p (.lst us)=H':=by
    funext b
    by_cases hb:b=p
    ·subst hb;rw [zak,hp]
    ·rw [zaj hb];exact qW hb
   rwa [hf] at this
end
section
variable {fr:FA}
theorem Dfn.none {k:Nat} (F:Dfn K mg x st)
  (hb:∀ (kV doc pm:Value) (an:Option Addr) (cdv ct:Value) (us:List Value),us.length=ps.length->bindArgs (PySem.W.fnOf x x (zbW st) (zaV st) (zah st) .none kV doc pm an cdv ct) ⟨us,[]⟩=pure (ps.zip us))
 : Cal Γ P w K mg base x ps.length k (fun _=>Option.none):=by
 obtain ⟨f,fd,h1,h2⟩:=F.ex
 refine ⟨f,fd,ps,⟨fun vs H Q E h=>?_,fun A outer s H args us vs Q E hr I b v h=>?_⟩,h2,h1.kp,h1.binds hb⟩
 ·obtain ⟨_,_,_,_,_,_,z,_⟩:=h
  cases z
 ·obtain ⟨_,_,_,_,_,_,z,_⟩:=h
  cases z
end
def orG (g g':D->D->Option D) (x y:D):Option D:=match g x y with
 | some z=>some z
 | none=>g' x y
variable {z:D}
section
variable {a:Expr} {g g':D->D->Option D}
theorem zsM {x y:D} (h:orG g g' x y=some z):g x y=some z\/g' x y=some z:=by
 unfold orG at h
 split at h
 ·rename_i q;cases h;exact .inl q
 ·exact .inr h
theorem CmpD.or (h:CmpD Γ X op g) (h':CmpD Γ X op g'):CmpD Γ X op (orG g g'):=by
 obtain ⟨r,o,d⟩:=h.ex
 obtain ⟨r',o',d'⟩:=h'.ex
 refine ⟨_,o.or o',fun {G H v u x y z} gh r1 r2 q Q k=>?_⟩
 rcases zsM q with q | q
 ·exact .inl (d gh r1 r2 q Q k)
 ·exact .inr (d' gh r1 r2 q Q k)
def eqA:=orG eqD zq1
def neA:=orG neD zqy
theorem zm6 (hu:X.A.units+64 < cLine):CmpD Γ X .Eq eqA:=zfu.or (ztV hu)
theorem ziv (hu:X.A.units+64 < cLine):CmpD Γ X .NotEq neA:=zvd.or (ztU hu)
theorem DfnM.mk' {f:Addr} {c:Str} {kV:Value} (a:PySem.W.findIn K (.ref C) m=some (some (.ref f))) (i:PySem.W.isFn K (.ref f)=true)
  (l:K.lookup f=some ⟨oc,od,.func (PySem.W.fnOf m qual (zbW st) (zaV st) (zah st) .none kV doc pm an cdv ct),osl⟩) (cd:PySem.W.codeIn K cdv qual=true) (k:PySem.W.keepIn K (.ref f)=true):DfnM K C c m qual st:=⟨f,_,zpm l cd k,a,i⟩
end
section
variable {f1 f2 f3 f4 f5 f6 f7:FE}
theorem ln1:∀ ρ ds,zac f1 zai ρ=some ds->ds.length=1:=zcP fun _ _ h=>zoY h
theorem ln2:∀ ρ ds,zac f1 (zac f2 zai) ρ=some ds->ds.length=2:=zcP ln1
theorem ln3:∀ ρ ds,zac f1 (zac f2 (zac f3 zai)) ρ=some ds->ds.length=3:=zcP ln2
theorem ln4:∀ ρ ds,zac f1 (zac f2 (zac f3 (zac f4 zai))) ρ=some ds->ds.length=4:=zcP ln3
theorem ln5:∀ ρ ds,zac f1 (zac f2 (zac f3 (zac f4 (zac f5 zai)))) ρ=some ds->ds.length=5:=zcP ln4
theorem ln6:∀ ρ ds,zac f1 (zac f2 (zac f3 (zac f4 (zac f5 (zac f6 zai))))) ρ=some ds->ds.length=6:=zcP ln5
theorem ln7:∀ ρ ds,zac f1 (zac f2 (zac f3 (zac f4 (zac f5 (zac f6 (zac f7 zai)))))) ρ=some ds->ds.length=7:=zcP ln6
end
theorem At.setOdt (A:At Γ K G₀ H₀ G H ρ σ) (ha:H a=none):At Γ K G₀ H₀ G (upd H a (.dT [])) (ρ.set i (some (.odt []))) (σ.set i (some (.ref a))):=by
 have h0:H₀ a=none:=A.st.hh.free ha
 have hg:G a=none:=A.gh.free ha
 refine A.put (fp:=[]) (fp':=[a]) (.inl rfl) (fun b o e _=>by rw [zaj (zal e ha)];exact e) (.odt (us:=[]) (kvs:=[]) h0 hg zak rfl .nil) (fun b hb=>.inr (by rw [List.mem_singleton.mp hb];exact ha)) (.refl _) (fun b o e=>?_) (fun _ _ _ _=>rfl) (fun b hb=>by cases hb)
 rw [zaj (zal e hg)];exact A.gh b o e
theorem At.chOdt (A:At Γ K G₀ H₀ G H ρ σ) {kvs kvs':List (List Key×D)} {us':List (List Key×V)} (hi:ρ[i]?=some (some (.odt kvs))) (ha:σ[i]?=some (some (.ref a))) (e:us'.map (·.1)=kvs'.map (·.1)) (r:Reps Γ K G (us'.map (·.2)) (kvs'.map (·.2))):At Γ K G₀ H₀ G (upd H a (.dT us')) (ρ.set i (some (.odt kvs'))) σ:=by
 obtain ⟨v,fp,h1,h2⟩:=A.get hi
 rw [ha] at h1
 cases h1
 cases h2 with
 | odt q1 q2 q3 q4 q5 =>
  refine A.ch hi ha (.odt q1 q2 q3 q4 q5) (fun b o e hb=>?_) (.odt q1 q2 zak e r) (fun b hb=>.inl hb) (.refl _) (fun b o e=>?_) (fun _ _ _ _=>rfl)
  ·rw [zaj (fun z=>hb (List.mem_singleton.mpr z))];exact e
  ·rw [zaj (zal e q2)];exact A.gh b o e
theorem At.chOdk (A:At Γ K G₀ H₀ G H ρ σ) {kvs kvs':List (Key×D)} {us':List (Key×V)} (hi:ρ[i]?=some (some (.odk kvs))) (ha:σ[i]?=some (some (.ref a))) (e:us'.map (·.1)=kvs'.map (·.1)) (r:Reps Γ K G (us'.map (·.2)) (kvs'.map (·.2))):At Γ K G₀ H₀ G (upd H a (.dK us')) (ρ.set i (some (.odk kvs'))) σ:=by
 obtain ⟨v,fp,h1,h2⟩:=A.get hi
 rw [ha] at h1
 cases h1
 cases h2 with
 | odk q1 q2 q3 q4 q5 =>
  refine A.ch hi ha (.odk q1 q2 q3 q4 q5) (fun b o e hb=>?_) (.odk q1 q2 zak e r) (fun b hb=>.inl hb) (.refl _) (fun b o e=>?_) (fun _ _ _ _=>rfl)
  ·rw [zaj (fun z=>hb (List.mem_singleton.mpr z))];exact e
  ·rw [zaj (zal e q2)];exact A.gh b o e
def zsa:Slot->Option D
 | .odt kvs=>some (.dt kvs)
 | .odk kvs=>some (.dk kvs)
 | _=>none
theorem At.frzD (A:At Γ K G₀ H₀ G H ρ σ) {s:Slot} (hi:ρ[i]?=some (some s)) (hd:zsa s=some d):∃ G',zbh G G'/\At Γ K G₀ H₀ G' H (ρ.set i (some (.sh d))) σ:=by
 obtain ⟨v,fp,h1,h2⟩:=A.get hi
 cases h2 with
 | sh _=>cases hd
 | own _ _ _ _=>cases hd
 | obj _ _ _ _ _ _ _=>cases hd
 | tlo _ _ _ _ _ _=>cases hd
 | oll _ _ _ _ _=>cases hd
 | pin _=>cases hd
 | objd _ _ _ _ _ _ _ _ _ _ _ _=>cases hd
 | odk q1 q2 q3 q4 q5 =>
  cases hd
  rename_i a us kvs
  have sm:zbh G (upd G a (.dK us)):=fun b o e=>by rw [zaj (zal e q2)];exact e
  refine ⟨upd G a (.dK us),sm,A.ch hi h1 (.odk q1 q2 q3 q4 q5) (fun b o e hb=>e) (.sh (.dk zak q4 (q5.mono sm))) (fun b hb=>by cases hb) sm (fun b o e=>?_) (fun b o e hb=>?_)⟩
  ·by_cases hb:b=a
   ·subst hb;rw [zak] at e;cases e;exact q3
   ·rw [zaj hb] at e;exact A.gh b o e
  ·rw [zaj (fun z=>hb (List.mem_singleton.mpr z))]
 | odt q1 q2 q3 q4 q5 =>
  cases hd
  rename_i a us kvs
  have sm:zbh G (upd G a (.dT us)):=fun b o e=>by rw [zaj (zal e q2)];exact e
  refine ⟨upd G a (.dT us),sm,A.ch hi h1 (.odt q1 q2 q3 q4 q5) (fun b o e hb=>e) (.sh (.dt zak q4 (q5.mono sm))) (fun b hb=>by cases hb) sm (fun b o e=>?_) (fun b o e hb=>?_)⟩
  ·by_cases hb:b=a
   ·subst hb;rw [zak] at e;cases e;exact q3
   ·rw [zaj hb] at e;exact A.gh b o e
  ·rw [zaj (fun z=>hb (List.mem_singleton.mpr z))]
section
variable {a:Expr} {fv:FE} {fr:FA}
def zvs (i:Nat):FS:=fun ρ=>some (.nx,ρ.set i (some (.odt [])))
theorem ztF (i:Nat) (hN:X.N.Nodup) (hi:X.N[i]?=some x:=by rfl) (hx:Loc X.env.scope x:=by first | exact Or.inl rfl | exact Or.inr rfl) (hs:swapsWith (.Dict [] [] dp) (some (.Name x pos')) pos.line X.env=pure false:=by rfl) (hf:X.fn x=true\/X.env.scope.names.lookup x=some .local:=by first | exact .inl rfl | exact .inr rfl | assumption) :
  DS Γ X (.Assign [.Name x pos'] (.Dict [] [] dp) pos) (zvs i):=⟨(zgN hN hi hx zn1 hs hf).imp fun E σ H=>by
 rintro ⟨G₀,H₀,G,ρ,fl,ρ',A,h,k⟩ p hp
 cases h
 exact k _ G _ (.refl _) (A.setOdt hp)⟩
def zev (i:Nat) (fk fv:FE):FS:=fun ρ=>(fv ρ).bind fun d=>(fk ρ).bind fun kd=>match ρ[i]? with
 | some (some (.odt kvs))=>match kd with
  | .tup t=>(zeC t).bind fun ks=>if kvs.length < 100000 then some (.nx,ρ.set i (some (.odt (zhg kvs ks d)))) else none
  | _=>none
 | some (some (.odk kvs))=>(zmM kd).bind fun k=>if kvs.length < 100000 then some (.nx,ρ.set i (some (.odk (zhg kvs k d)))) else none
 | _=>none
theorem zkk (i:Nat) (hu:X.A.units+66 < cLine) (hk:DE Γ X ke fk) (hv':DE Γ X value fv) (hN:X.N[i]?=some x:=by rfl) (hv:Vis X.env.scope x:=by first | exact Or.inl rfl | exact Or.inr (Or.inl rfl) | exact Or.inr (Or.inr rfl)) (hd:(x==("__debug__":Str))=false:=by decide)
  (hcd:(x==("__classdict__":Str))=false:=by decide) (hs:swapsWith value (some (.Subscript (.Name x vp) ke pos')) pos.line X.env=pure false:=by rfl) :
  DS Γ X (.Assign [.Subscript (.Name x vp) ke pos'] value pos) (zev i fk fv):=⟨(zlI (by omega) (zds hN hv hd hcd) hk.1 hv'.1 hs).imp fun E σ H=>by
 rintro ⟨G₀,H₀,G,ρ,flw,ρ',A,h,k⟩
 unfold zev at h
 obtain ⟨d,hd,ha⟩:=oBd h
 clear h
 obtain ⟨kd,hkd,hq⟩:=oBd ha
 clear ha
 refine ⟨G₀,H₀,G,ρ,d,A,hd,fun v G1 H1 s1 r1=>?_⟩
 have A1:=A.step s1
 split at hq
 ·rename_i kvs hi
  split at hq
  ·rename_i t
   obtain ⟨ks,hks,hq⟩:=oBd hq
   split at hq
   ·rename_i hz
    cases hq
    obtain ⟨w,fp,h1,h2⟩:=A1.get hi
    cases h2 with
    | odt q1 q2 q3 q4 q5 =>
     rename_i a us
     refine ⟨_,h1,G₀,H₀,G1,ρ,_,A1,hkd,fun u G2 H2 s2 r2=>?_⟩
     have A2:=A1.step s2
     obtain ⟨bb,vs,rfl,hb,rb⟩:=r2.tup_inv
     have ev:=zdh rb hks
     subst ev
     have ha2:H2 a=some (.dT us):=s2.hh _ _ q3
     have hlen:us.length=kvs.length:=by simpa using congrArg List.length q4
     obtain ⟨w1,w2⟩:=zj6 (k:=ks) (r1.mono s2.gg) q4 (q5.mono s2.gg)
     exact ⟨a,_,rfl,zoZ.t ha2 (s2.gh _ _ hb) (by have:=sizeLine_eq;omega),k σ G2 _ (s1.gg.trans s2.gg) (A2.chOdt hi h1 w1 w2)⟩
   ·cases hq
  ·cases hq
 ·rename_i kvs hi
  obtain ⟨kk,hkk,hq⟩:=oBd hq
  split at hq
  ·rename_i hz
   cases hq
   obtain ⟨w,fp,h1,h2⟩:=A1.get hi
   cases h2 with
   | odk q1 q2 q3 q4 q5 =>
    rename_i a us
    refine ⟨_,h1,G₀,H₀,G1,ρ,_,A1,hkd,fun u G2 H2 s2 r2=>?_⟩
    have A2:=A1.step s2
    have eu:=zgl r2 hkk
    subst eu
    have ha2:H2 a=some (.dK us):=s2.hh _ _ q3
    have hlen:us.length=kvs.length:=by simpa using congrArg List.length q4
    obtain ⟨w1,w2⟩:=zj6 (k:=kk) (r1.mono s2.gg) q4 (q5.mono s2.gg)
    exact ⟨a,_,rfl,zoZ.k ha2 (by have:=sizeLine_eq;omega),k σ G2 _ (s1.gg.trans s2.gg) (A2.chOdk hi h1 w1 w2)⟩
  ·cases hq
 ·cases hq⟩
def znM (i:Nat) (g:FS):FS:=fun ρ=>match ρ[i]? with
 | some (some s)=>match zsa s with
  | some d=>g (ρ.set i (some (.sh d)))
  | none=>none
 | _=>none
theorem TDs.frzD (i:Nat):∀ E σ H,TDs Γ X.K (znM i g) E σ H->TDs Γ X.K g E σ H:=by
 rintro E σ H ⟨G₀,H₀,G,ρ,fl,ρ',A,h,k⟩
 unfold znM at h
 split at h
 ·rename_i s hi
  split at h
  ·rename_i d hd
   obtain ⟨G',sm,A'⟩:=A.frzD hi hd
   exact ⟨G₀,H₀,G',_,fl,ρ',A',h,fun σ1 G1 H1 sm1 A1=>k σ1 G1 H1 (sm.trans sm1) A1⟩
  ·cases h
 ·cases h
theorem zoA (i:Nat) (h:DSs Γ X sts g):DSs Γ X sts (znM i g):=⟨h.1.imp (TDs.frzD i)⟩
end
theorem zs7:∀ {us:List (Key×V)} {va:List (Key×Value)} {i:Nat} {k:Key} {v:Value},KV us va->va[i]?=some (k,v)->∃ kv,us[i]?=some kv/\zbX kv.2 v:=by
 intro us va i k v r
 induction r generalizing i with
 | nil=>intro e;simp at e
 | cons h t ih =>
  intro e
  cases i with
  | zero=>simp at e;subst e;exact ⟨_,rfl,h.2⟩
  | succ j =>
   obtain ⟨p,z1,z2⟩:=ih (i:=j) (by simpa using e)
   exact ⟨p,by simpa using z1,z2⟩
section
variable {fr:FA}
open Classical in
end
section
open PyProof
def zi9:List D->Option (List Int)
 | []=>some []
 | .int x::r=>(zi9 r).map (x::·)
 | _::_=>none
theorem zka {K:PySem.W.Frag} {G:Hp}:∀ {vs:List V} {ds:List D} {ys:List Int},Reps Γ K G vs ds->zi9 ds=some ys->vs=ys.map V.int
 | _,[],ys,r,h=>by cases r;cases h;rfl
 | _,d::ds,ys,.cons h1 h2,h=>by
  cases d with
  | int x =>
   obtain ⟨zs,hz,rfl⟩:=oMd (show (zi9 ds).map (x::·)=some ys from h)
   rw [h1.int_inv,zka h2 hz];rfl
  | _=>cases h
theorem zgE:∀ {ns:List Int} {us:List Value},zbI (ns.map V.int) us->us.length=ns.length/\∀ (i:Nat) v,us[i]?=some v->∃ t,v=.int (ns.getD i 0) t
 | [],_,r=>by rw [qN] at r;cases r;exact ⟨rfl,fun i v h=>by simp at h⟩
 | n::ns,_,r=>by
  rw [ql] at r
  cases r with
  | cons r1 r2 =>
   obtain ⟨h1,h2⟩:=zgE r2
   refine ⟨by simp [h1],fun i v h=>?_⟩
   cases i with
   | zero =>
    obtain ⟨t,rfl⟩:=r1
    cases h
    exact ⟨t,rfl⟩
   | succ i=>exact h2 i v h
theorem zhT:∀ {ns:List Str} {us:List Value},zbI (ns.map V.str) us->us.length=ns.length/\∀ (i:Nat) v,us[i]?=some v->∃ y t,ns[i]?=some y/\v=.str y t
 | [],_,r=>by rw [qN] at r;cases r;exact ⟨rfl,fun i v h=>by simp at h⟩
 | n::ns,_,r=>by
  rw [ql] at r
  cases r with
  | cons r1 r2 =>
   obtain ⟨h1,h2⟩:=zhT r2
   refine ⟨by simp [h1],fun i v h=>?_⟩
   cases i with
   | zero =>
    obtain ⟨t,rfl⟩:=r1
    cases h
    exact ⟨n,t,rfl,rfl⟩
   | succ i=>exact h2 i v h
end
structure CalMO (Γ:Cn) (P:Program) (w:World) (K:PySem.W.Frag) (mg:Str->Option Value) (base:Heap) (c m:Str) (n k:Nat) (F:List D->Option (List D)):Prop where
 ex:∃ C f fd ps,Γ.cls c=some C/\Cls K C/\Meth K C m f/\FnOk P w K mg base CX0 k f fd ps (spO Γ K n F)/\zej K fd ps []
theorem DfnM.calO {c:Str} {k:Nat} (O:ClsOk Γ K mg c C) (F:DfnM K C c m qual st) (S:FnScope N ps (zah st))
  (hb:∀ (kV doc pm:Value) (an:Option Addr) (cdv ct:Value) (us:List Value),us.length=ps.length->bindArgs (PySem.W.fnOf m qual (zbW st) (zaV st) (zah st) .none kV doc pm an cdv ct) ⟨us,[]⟩=pure (ps.zip us))
  (hbody:∀ (f:Addr) (cdv:Value) (A:Around) (outer:List Env) (s:Shared) (H:Hp) (E:XK),Room k (A.deeper (envOfC qual (zah st) s.heap.objs.size f cdv)) ->
   DSs Γ (ziM CX0 P w K mg base N qual (zah st) f cdv A outer s H E).nox (zaV st) g):CalMO Γ P w K mg base c m ps.length (k+1) (zsi (N.length - ps.length) g):=by
 obtain ⟨f,fd,h1,h2,h3⟩:=F.ex
 exact ⟨C,f,fd,ps,O.cn,O.cl,⟨h2,h3,h1.kp⟩,h1.okO S (hbody f),h1.binds hb⟩
section
variable {fr:FA} {c:Str}
def zmb (c m:Str) (F:List D->Option (List D)) (fo:FE) (fr:FA):FA:=fun ρ=>(fo ρ).bind fun d=>match d with
 | .ins c' fs=>if c'=c/\fs.lookup m=none then (fr ρ).bind fun ds=>F (d::ds) else none
 | _=>none
end
variable {s₀:Shared}
section
variable {f:Addr} {E:XK}
 {pins:List (Addr×Obj)} {σ:St} {H:Hp} {s:Shared} {h1:Heap} {e:Addr} {cls:Value} {vs:List Value}
end
section
variable {f:Addr} {E:XK}
 {R:Hp->Prop} {n:String} {x:Str} {np cpos pos:Pos} {e₀:Expr} {zcK:List Expr} {fr:FA} {Bn newId initId:String} {bmB:List Value}
end
section
open PySem.W Builtin Builtin.ObjectAttr Builtin.Getset_descriptor
end
section
variable {a i:Expr} {fr:FA}
end
section
variable {a:Expr}
theorem zrf (h:DE Γ X a fa):DE Γ X (.UnaryOp .USub a pos) (b1 zu3 fa):=⟨fun pins s σ H Q I=>by
 rintro ⟨G₀,H₀,G,ρ,d,A,hq,k⟩
 unfold b1 at hq
 obtain ⟨x,hx,hq⟩:=oBd hq
 refine UnaryOp_ (thn (h.1 pins s σ H (fun v H'=>∃ G',Step G H G' H'/\Rep Γ X.K G' v x) I ⟨G₀,H₀,G,ρ,x,A,hx,fun v G' H' st r=>⟨G',st,r⟩⟩) fun v s1 ⟨v',H1,I1,r1,G1,st,rp⟩=>?_)
 unfold zu3 at hq
 split at hq
 ·cases hq
  cases rp.int_inv
  obtain ⟨t,rfl⟩:=r1
  exact PyProof.Rows.neg_int ⟨.int _,H1,I1.tok _,⟨_,rfl⟩,k _ G1 H1 st (.int _)⟩
 ·cases hq⟩
end
def del (G:Hp) (a:Addr):Hp:=fun b=>if b=a then none else G b
section
variable {f:Addr} {E:XK}
 {pins:List (Addr×Obj)} {σ:St} {H:Hp} {s:Shared} {e C t dx:Addr}
end
section
variable {f CS fI:Addr} {E:XK}
 {R:Str->Hp->Prop} {x fl:Str} {np cpos pos:Pos} {e₀:Expr} {fr:FA} {k j:Nat}
end
def zul (m:Nat):D->Option (Nat×Int)
 | .int n=>(ixN m n).map fun j=>(j,n)
 | _=>none
section
open PyProof
noncomputable def btL (ns:List Int) (i j:Nat):Bool:=decide (ns.getD i 0 < ns.getD j 0)
def mnI (ns:List Int):Int:=ns.getD (argBest (btL ns) (ns.length - 1)) 0
def zs5:List D->Option D
 | [.lst l]=>(zi9 l).bind fun ns=>if ns=[] then none else some (.int (mnI ns))
 | _=>none
theorem zm7 (hc:X.calm=true):ze9 X (.builtin "min") (fun xs H Q=>∃ (a:Addr) (ns:List Int),xs=[.ref a]/\H a=some (.lst (ns.map V.int))/\ns≠[]/\Q (.int (mnI ns)) H):=by
 intro pins s σ H xs us Q I r h
 obtain ⟨a,ns,rfl,ha,e0,q2⟩:=h
 obtain ⟨u,rfl,ru⟩:=zfN r
 cases ru
 obtain ⟨its,rv,pl,_⟩:=I.list (.inl (.inl ha))
 obtain ⟨vl,vi⟩:=zgE rv
 refine call_min_walk (wpAny_pyIter_list pl.isList ?_)
 have ne:a≠s.heap.objs.size:=by obtain ⟨o,_,h1,_⟩:=pl;exact qA (qt h1)
 have hP:∀ (i:Nat) v,its.toArray[i]?=some v->∃ t,v=.int (ns.getD i 0) t:=fun i v hv=>vi i v (by simpa using hv)
 have la:a < s.heap.objs.size:=by obtain ⟨o,_,h1,_⟩:=pl;exact qt h1
 have sz:its.toArray.size=ns.length:=by simp [vl]
 refine ⟨s.heap.objs.size,_,_,_,_,_,btL ns,rfl,Walks.list (A:=X.A.in1) (show X.A.in1.handled=none from I.ok.hd hc) s.heap.objs.size a ne its.toArray,⟨⟨_,qF _ rfl,rfl,rfl⟩,pl.isList.at fun o q=>qr _ q⟩,fun b hb=>?_,?_,CmpOf.ints_lt (fun i=>ns.getD i 0) hP,fun v h' tk pv hk=>?_⟩
 ·rw [Heap.size_push]
  simp only [qK,qI,or_false] at hb
  rcases hb with z | z
  ·rw [z];exact Nat.lt_succ_self _
  ·rw [z];exact Nat.lt_succ_of_lt la
 ·rw [sz];exact List.length_pos_iff.mpr e0
 ·obtain ⟨t,rfl⟩:=hP _ _ pv
  refine ⟨.int (mnI ns),H,I.kept fun b o z=>hk b o ?_ (qr _ z),?_,q2⟩
  ·intro z'
   have:b=s.heap.objs.size:=by simpa using z'
   exact absurd (qt z) (by rw [this];exact Nat.lt_irrefl _)
  ·unfold mnI
   rw [sz]
   exact ⟨t,rfl⟩
theorem zni (hc:X.calm=true):BltD Γ X "min" zs5:=⟨_,zm7 hc,fun {G H vs ds z} gh r h Q k=>by
 unfold zs5 at h
 split at h
 ·obtain ⟨ns,hn,h⟩:=oBd h
  split at h
  ·cases h
  ·rename_i hne
   cases h
   obtain ⟨v,rfl,r1⟩:=r.one
   obtain ⟨a,us,rfl,ha,ra⟩:=r1.lst_inv
   exact ⟨a,ns,rfl,by rw [← zka ra hn];exact gh _ _ ha,hne,k _ G H (.refl gh) (.int _)⟩
 ·cases h⟩
end
theorem zck.len {H:Hp}:∀ {ps:List Addr} {vss:List (List V)},zck H ps vss->ps.length=vss.length
 | [],[],_=>rfl
 | [],_::_,h=>h.elim
 | _::_,[],h=>h.elim
 | _::_,_::_,h=>by rw [qh,qh,h.2.len]
theorem zck.at' {H:Hp}:∀ {ps:List Addr} {vss:List (List V)} {j:Nat} {vs:List V},zck H ps vss->vss[j]?=some vs->∃ p,ps[j]?=some p/\H p=some (.lst vs)
 | [],[],_,_,_,e=>by simp at e
 | [],_::_,_,_,h,_=>h.elim
 | _::_,[],_,_,h,_=>h.elim
 | p::ps,vs::vss,0,_,h,e=>by
  cases e
  exact ⟨p,rfl,h.1⟩
 | p::ps,vs::vss,j+1,_,h,e=>h.2.at' (j:=j) e
theorem zck.put {H:Hp}:∀ {ps:List Addr} {vss:List (List V)} {j:Nat} {p:Addr} {vs:List V},zck H ps vss->ps.Nodup->ps[j]?=some p->zck (upd H p (.lst vs)) ps (vss.set j vs)
 | [],[],_,_,_,_,_,e=>by simp at e
 | [],_::_,_,_,_,h,_,_=>h.elim
 | _::_,[],_,_,_,h,_,_=>h.elim
 | q::ps,us::vss,0,p,vs,h,nd,e=>by
  cases e
  refine ⟨zak,h.2.stay fun b hb=>zaj fun z=>?_⟩
  subst z
  exact (List.nodup_cons.mp nd).1 hb
 | q::ps,us::vss,j+1,p,vs,h,nd,e=>by
  have e':ps[j]?=some p:=e
  refine ⟨?_,h.2.put (List.nodup_cons.mp nd).2 e'⟩
  rw [zaj (fun z=>(List.nodup_cons.mp nd).1 (by rw [z];exact qO e'))]
  exact h.1
theorem zdj.len:∀ {vss:List (List V)} {dss:List (List D)},zdj Γ K G vss dss->vss.length=dss.length
 | [],[],_=>rfl
 | [],_::_,h=>h.elim
 | _::_,[],h=>h.elim
 | _::_,_::_,h=>by rw [qh,qh,h.2.len]
theorem zdj.at':∀ {vss:List (List V)} {dss:List (List D)} {j:Nat} {ds:List D},zdj Γ K G vss dss->dss[j]?=some ds->∃ vs,vss[j]?=some vs/\Reps Γ K G vs ds
 | [],[],_,_,_,e=>by simp at e
 | [],_::_,_,_,h,_=>h.elim
 | _::_,[],_,_,h,_=>h.elim
 | vs::_,ds::_,0,_,h,e=>by
  cases e
  exact ⟨vs,rfl,h.1⟩
 | _::vss,_::dss,j+1,_,h,e=>h.2.at' (j:=j) e
theorem zdj.put:∀ {vss:List (List V)} {dss:List (List D)} {j:Nat} {vs:List V} {ds:List D},zdj Γ K G vss dss->Reps Γ K G vs ds->zdj Γ K G (vss.set j vs) (dss.set j ds)
 | [],[],_,_,_,_,_=>trivial
 | [],_::_,_,_,_,h,_=>h.elim
 | _::_,[],_,_,_,h,_=>h.elim
 | _::_,_::_,0,_,_,h,r=>⟨r,h.2⟩
 | _::_,_::_,j+1,_,_,h,r=>⟨h.1,h.2.put r⟩
theorem zdj.reps {H:Hp} (hG:zbh G H):∀ {ps:List Addr} {vss:List (List V)} {dss:List (List D)},zck H ps vss->zdj Γ K G vss dss->Reps Γ K H (ps.map V.ref) (dss.map D.lst)
 | [],[],[],_,_=>.nil
 | [],_::_,_,h,_=>h.elim
 | _::_,[],_,h,_=>h.elim
 | [],[],_::_,_,h=>h.elim
 | _::_,_::_,[],_,h=>h.elim
 | _::_,_::_,_::_,h,r=>.cons (.lst h.1 (r.1.mono hG)) (r.2.reps hG h.2)
theorem zmv {m:Nat} {k:D} {j:Nat×Int} (h:zul m k=some j):∃ n,k=.int n/\ixN m n=some j.1:=by
 unfold zul at h
 split at h
 ·obtain ⟨j',h1,rfl⟩:=oMd h
  exact ⟨_,rfl,h1⟩
 ·cases h
def zgK (i:Nat) (fk f:FE):FS:=fun ρ=>match ρ[i]? with
 | some (some (.oll dss))=>(fk ρ).bind fun k=>(f ρ).bind fun d=>(zul dss.length k).bind fun j=>match dss[j.1]? with
  | some ds=>if ds.length < sizeLine then some (.nx,ρ.set i (some (.oll (dss.set j.1 (ds++[d]))))) else none
  | none=>none
 | _=>none
def zjK (i:Nat) (g:FS):FS:=fun ρ=>match ρ[i]? with
 | some (some (.oll dss))=>g (ρ.set i (some (.sh (.lst (dss.map D.lst)))))
 | _=>none
theorem At.frzLL (A:At Γ K G₀ H₀ G H ρ σ) {dss:List (List D)} (hi:ρ[i]?=some (some (.oll dss))):∃ G',zbh G G'/\At Γ K G₀ H₀ G' H (ρ.set i (some (.sh (.lst (dss.map D.lst))))) σ:=by
 obtain ⟨v,fp,h1,h2⟩:=A.get hi
 cases h2 with
 | oll q1 q2 q3 q4 q5 =>
  rename_i a ps vss
  have sm:zbh G (fun b=>if b∈a::ps then H b else G b):=fun b o e=>by
   have:b∉a::ps:=fun z=>by rw [(q1 b z).2] at e;cases e
   show (if b∈a::ps then H b else G b)=_
   rw [qW this];exact e
  have hG':∀ b∈a::ps,(fun b=>if b∈a::ps then H b else G b) b=H b:=fun b hb=>qV hb
  refine ⟨_,sm,A.ch hi h1 (.oll q1 q2 q3 q4 q5) (fun b o e _=>e) (.sh (.lst ((hG' a qf).trans q3) (zdj.reps sm (q4.stay fun b hb=>hG' b (qg _ hb)) q5))) (fun b hb=>by cases hb) sm (fun b o e=>?_) (fun b o e hb=>qW hb)⟩
  by_cases hb:b∈a::ps
  ·replace e:(if b∈a::ps then H b else G b)=some o:=e
   rw [qV hb] at e;exact e
  ·replace e:(if b∈a::ps then H b else G b)=some o:=e
   rw [qW hb] at e;exact A.gh b o e
theorem TDs.frzLL (i:Nat):∀ E σ H,TDs Γ X.K (zjK i g) E σ H->TDs Γ X.K g E σ H:=by
 rintro E σ H ⟨G₀,H₀,G,ρ,fl,ρ',A,h,k⟩
 unfold zjK at h
 split at h
 ·rename_i ds hi
  obtain ⟨G',sm,A'⟩:=A.frzLL hi
  exact ⟨G₀,H₀,G',_,fl,ρ',A',h,fun σ1 G1 H1 sm1 A1=>k σ1 G1 H1 (sm.trans sm1) A1⟩
 ·cases h
theorem zmH (i:Nat) (h:DSs Γ X sts g):DSs Γ X sts (zjK i g):=⟨h.1.imp (TDs.frzLL i)⟩
theorem zoB (i:Nat) {ek:Expr} {sp:Pos} (hk:DE Γ X ek fk) (h:DE Γ X e f) (hN:X.N[i]?=some x:=by rfl) (hv:Vis X.env.scope x:=by first | exact Or.inl rfl | exact Or.inr (Or.inl rfl) | exact Or.inr (Or.inr rfl)) (hd:(x==("__debug__":Str))=false:=by decide)
  (hcd:(x==("__classdict__":Str))=false:=by decide) (hpi:zjA ek:=by intro _ _;rfl)
  (hbase:attributeBase (.Subscript (.Name x vp) ek sp) "append" X.env (eval (.Subscript (.Name x vp) ek sp) X.env)=eval (.Subscript (.Name x vp) ek sp) X.env:=by rfl)
  (hfew:((backTo cpos (starEach [e] X.env)).all (fun x=>!x.1) && (backToKw cpos (keywordEach [] X.env)).all (fun x=>x.1.isSome)
   && decide ([e].length+([]:List Keyword).length+(if ([]:List Keyword).isEmpty then 0 else 1) < 30))=true:=by rfl)
  (hline:(apos.endLine==cpos.line)=true:=by rfl) (hs:starEach [e] X.env=(false,eval e X.env)::starEach [] X.env:=by rfl) (hplain:(backTo cpos (starEach [] X.env)).any (·.1)=false:=by rfl)
  (hsw:swapsWith (.Call (.Attribute (.Subscript (.Name x vp) ek sp) "append" apos) [e] [] cpos) none pos.line X.env=pure false:=by rfl) :
  DS Γ X (.Expr (.Call (.Attribute (.Subscript (.Name x vp) ek sp) "append" apos) [e] [] cpos) pos) (zgK i fk f):=⟨(zhi (zn5 PySem.F.plainAttrs_list PySem.F.slot_list_append PySem.F.type_list_append zf3 (zsJ zpi (zds hN hv hd hcd) hk.1 hpi) (zcA h.1 zdz hs) hbase hfew hline hs hplain) hsw).imp fun E σ H=>by
  rintro ⟨G₀,H₀,G,ρ,fl,ρ',A,h,k⟩
  unfold zgK at h
  split at h
  ·rename_i dss hi
   obtain ⟨kd,hkd,h⟩:=oBd h
   obtain ⟨d,hd',h⟩:=oBd h
   obtain ⟨j,hj,h⟩:=oBd h
   split at h
   ·rename_i ds hds
    split at h
    ·rename_i hz
     cases h
     ·obtain ⟨n,rfl,hj'⟩:=zmv hj
      obtain ⟨v,fp,h1,h2⟩:=A.get hi
      cases h2 with
      | oll q1 q2 q3 q4 q5 =>
       rename_i a ps vss
       refine ⟨.ref a,h1,G₀,H₀,G,ρ,.int n,A,hkd,fun v1 G1 H1 s1 r1=>?_⟩
       cases r1.int_inv
       obtain ⟨vs,hvs,rvs⟩:=q5.at' hds
       obtain ⟨p,hp,hHp⟩:=q4.at' hvs
       have at1:atI (ps.map V.ref) n=some (V.ref p):=by
        unfold atI
        rw [qe,q4.len,q5.len,hj',qa,qj,hp]
        rfl
       refine .inl ⟨a,ps.map V.ref,n,.ref p,rfl,rfl,.inl (.inl (s1.hh _ _ q3)),at1,.inl ⟨rfl,vs,.inl (.inl (s1.hh _ _ hHp))⟩,G₀,H₀,G1,ρ,d,A.step s1,hd',fun u G2 H2 s2 r2=>?_⟩
       have S2:=(SR.oll (Γ:=Γ) (K:=X.K) q1 q2 q3 q4 q5).stepS (s1.trans s2)
       have A2:=(A.step s1).step s2
       refine ⟨p,vs,u,rfl,rfl,s2.hh _ _ (s1.hh _ _ hHp),by rw [rvs.length];exact hz,?_⟩
       have hpm:p∈a::ps:=qg _ (qO hp)
       refine k σ G2 _ (s1.gg.trans s2.gg) (A2.ch hi h1 S2 (fun b o e hb=>?_) (.oll (fun b hb=>⟨(q1 b hb).1,(S2.fpt b hb).2.1⟩) q2 ?_ ((q4.stay fun b hb=>?_).put (List.nodup_cons.mp q2).2 hp) ((q5.map fun r=>r.mono (s1.gg.trans s2.gg)).put ((rvs.mono (s1.gg.trans s2.gg)).append (.cons r2 .nil)))) (fun b hb=>.inl hb) (.refl _) (fun b o e=>?_) (fun _ _ _ _=>rfl))
       ·rw [zaj (fun z=>hb (by rw [z];exact hpm))];exact e
       ·rw [zaj (fun z=>(List.nodup_cons.mp q2).1 (by rw [z];exact qO hp))]
        exact s2.hh _ _ (s1.hh _ _ q3)
       ·obtain ⟨o,ho⟩:=q4.mem b hb
        rw [ho]
        exact s2.hh _ _ (s1.hh _ _ ho)
       ·rw [zaj (zal e (S2.fpt p hpm).2.1)];exact A2.gh b o e
    ·cases h
   ·cases h
  ·cases h⟩
def zub:TE:=fun σ H Q=>∀ p,H p=none->Q (.ref p) (upd H p (.lst []))
def zvH (Γ:Cn) (K:PySem.W.Frag) (fn:zaI->Option Nat):TE:=fun σ H Q=>∃ G₀ H₀ G ρ n,At Γ K G₀ H₀ G H ρ σ/\fn ρ=some n/\∀ a ps G' H',Step G H G' H'->(∀ b∈a::ps,H b=none/\G' b=none)->(a::ps).Nodup->H' a=some (.lst (ps.map V.ref))->ps.length=n->(∀ p∈ps,H' p=some (.lst []))->Q (.ref a) H'
theorem zck.emp {H:Hp}:∀ {ps:List Addr},(∀ p∈ps,H p=some (.lst []))->zck H ps (List.replicate ps.length [])
 | [],_=>trivial
 | p::ps,h=>⟨h p qf,zck.emp fun q hq=>h q (qg _ hq)⟩
theorem zdj.emp {Γ:Cn} {K:PySem.W.Frag} {G:Hp}:∀ n:Nat,zdj Γ K G (List.replicate n []) (List.replicate n [])
 | 0=>trivial
 | n+1=>⟨.nil,zdj.emp n⟩
def zud (i:Nat) (fn:zaI->Option Nat):FS:=fun ρ=>(fn ρ).map fun n=>(.nx,ρ.set i (some (.oll (List.replicate n []))))
section
variable {fr:FA} {fn:zaI->Option Nat}
theorem zlR:PE X (.List [] pos) zub:=(zlP zdz).imp fun σ H Q h=>⟨Nat.zero_le _,h⟩
theorem zsZ :∀ E σ H,TDs Γ X.K (zud i fn) E σ H->zrD (zvH Γ X.K fn) (zkS i) E σ H:=by
 rintro E σ H ⟨G₀,H₀,G,ρ,fl,ρ',A,h,k⟩
 unfold zud at h
 obtain ⟨n,hn,h⟩:=oMd h
 cases h
 refine ⟨G₀,H₀,G,ρ,n,A,hn,fun a ps G' H' s hf nd ha hl he=>k _ G' _ s.gg ?_⟩
 refine A.put (fp:=[]) (fp':=a::ps) (.inl rfl) (fun b o e _=>s.hh b o e) (SR.oll (vss:=List.replicate ps.length []) (fun b hb=>⟨?_,(hf b hb).2⟩) nd ha (zck.emp he) (by rw [hl];exact zdj.emp n)) (fun b hb=>.inr (hf b hb).1) s.gg s.gh (fun b o e _=>s.out b o e) (fun b hb=>by cases hb)
 cases hb0:H₀ b with
 | none=>rfl
 | some o =>
  have z:=(hf b hb).1
  rw [A.st.hh b o hb0] at z
  cases z
variable {g:FG}
end
section
open PyProof
theorem zkl {it t:Addr} {items:Array Value} (hne:t≠it):∀ (n i:Nat) (s:Shared) (Q:List Value->Shared->Prop),s.heap.IsListIter it t i->s.heap.IsList t items->i+n<=items.size ->
  (∀ h':Heap,h'.IsListIter it t (i+n)->Heap.SameBut it s.heap h'->Q ((items.toList.drop i).take n) { s with heap:=h' })->wpAny (model prog w) A (draw (.ref it) n) Q E s
 | 0,i,s,Q,hit,_,_,hQ=>by
  show wpAny _ _ (pure []) Q E s
  exact qy (by simpa using hQ s.heap hit (Heap.SameBut.refl ..))
 | n+1,i,s,Q,hit,ht,hle,hQ=>by
  have hlt:i < items.size:=by omega
  show wpAny _ _ (pyNext (.ref it) >>= _) Q E s
  refine qw (wpAny_pyNext_list_item hit ht (x:=items[i]) (by simp [hlt]) fun h₁ hit₁ hs₁=>?_)
  refine qw (qS (zkl hne n (i+1) _ _ hit₁ (ht.extBut hs₁.extBut hne) (by omega) fun h₂ hit₂ hs₂=>qy ?_))
  have hd:items.toList.drop i=items[i]::items.toList.drop (i+1):=by simp [List.drop_eq_getElem_cons,hlt]
  have:=hQ h₂ (by rw [show i+(n+1)=i+1+n by omega];exact hit₂) (hs₁.trans hs₂)
  rw [hd,List.take_succ_cons] at this
  exact this
theorem zfO {t:Addr} {Q:List Value->Shared->Prop} (hh:A.handled=none) (ht:s.heap.IsList t items)
  (hQ:∀ h',Heap.ExtBut s.heap.objs.size s.heap h'->Q items.toList { s with heap:=h' }):wpAny (model prog w) A (unpackItems (.ref t) items.size none) Q E s:=by
 have hlt:t≠s.heap.objs.size:=by obtain ⟨o,ho,_⟩:=ht;exact qA (qt ho)
 unfold unpackItems
 refine qw ?_
 ·unfold notIterableAtAll
  refine qw (wpAny_specialOf ht.typeIs slot_list_iter.lookup ?_)
  refine qy ?_
  simp only [qp,if_false]
  refine qw (qS (wpAny_pyIter_list ht ?_))
  refine qw (qS (zkl hlt items.size 0 _ _ ⟨_,qF _ rfl,rfl,rfl⟩ (ht.at fun o q=>qr _ q) (by omega) fun h₁ hit₁ hs₁=>?_))
  have hall:List.take items.size (List.drop 0 items.toList)=items.toList:=by
   rw [List.drop_zero];exact List.take_of_length_le (by simp)
  rw [hall]
  rw [qW (by simp)]
  have ht₁:h₁.IsList t items:=(ht.at fun o q=>qr _ q).extBut hs₁.extBut hlt
  refine qw (qS (wpAny_pyNext_list_end hh hit₁ ht₁ (by simp) fun h₂ he₂=>?_))
  simp only [Option.isSome_none,qp,if_false]
  refine qy (hQ h₂ fun b o hb e=>he₂ b o hb (hs₁.extBut b o hb (qr _ e)))
theorem zfy {x1} {t:Addr} {Q:Unit->Shared->Prop} (hh:A.handled=none) (ht:s.heap.IsList t items)
  (hn:(assignEach elts env).length=items.size) (hstar:(assignEach elts env).findIdx? (·.1)=none)
  (h:∀ h',Heap.ExtBut s.heap.objs.size s.heap h'->wpAny (model prog w) A (assignInOrder ((assignEach elts env).map (·.2)) items.toList) Q E { s with heap:=h' }) :
  wpAny (model prog w) A (assign (.Tuple elts x1 pos) env (.ref t)) Q E s:=by
 rw [assign_Tuple]
 refine qw (wpAny_standAt ?_)
 unfold unpack
 rw [hn,hstar]
 exact qw (qS (zfO hh ht h))
def zwc (K:PySem.W.Frag) (n:Nat) (t:TGs):TG:=fun v σ H Q=>∃ a xs,v=.ref a/\SqL K H a xs/\xs.length=n/\t xs σ H Q
theorem zsE {k:Nat} {t:TGs} (hc:X.calm=true) (h:PGs X es t)
  (hn:(assignEach es X.env).length=n:=by rfl) (hst:(assignEach es X.env).findIdx? (·.1)=none:=by rfl):PG X (.Tuple es k pos) (zwc X.K n t):=by
 intro pins s σ H v u Q I r hw
 obtain ⟨a,xs,e1,hq,hl,hw⟩:=hw
 subst e1
 cases r
 obtain ⟨its,rv,ht,hz⟩:=I.list hq
 refine zfy (I.ok.hd hc) ht.isList (by simp [hn,← hl,rv.length]) hst fun h' hx=>?_
 have I1:Inv X pins σ H { s with heap:=h' }:=I.kept (t':=s.toks) fun b o e=>hx b o (qA (qt e)) e
 exact h pins _ σ H xs _ Q I1 (by simpa using rv) hw
end
section
variable {a:Expr}
def zov (n:Nat) (gs:FGs):FG:=fun d ρ=>match d with
 | .lst ds=>if ds.length=n then gs ds ρ else none
 | _=>none
theorem ztK {k:Nat} {gs:FGs} (hc:X.calm=true) (h:DGs Γ X ts gs) (hn:(assignEach ts X.env).length=n:=by rfl) (hst:(assignEach ts X.env).findIdx? (·.1)=none:=by rfl):DG Γ X (.Tuple ts k pos) (zov n gs):=by
 refine ⟨fun pins s σ H v u Q I r hw=>zsE hc h.pg hn hst pins s σ H v u Q I r ?_,fun ds ρ ρ' e q=>?_⟩
 ·obtain ⟨G₀,H₀,G,ρ,d,ρ',A,r,h,k⟩:=hw
  unfold zov at h
  split at h
  ·split at h
   ·rename_i hl
    obtain ⟨a,vs,rfl,ha,rv⟩:=r.lst_inv
    exact ⟨a,vs,rfl,.inl (.inl (A.gh _ _ ha)),by rw [rv.length];exact hl,G₀,H₀,G,ρ,_,ρ',A,rv,h,k⟩
   ·cases h
  ·cases h
 ·unfold zov at e
  split at e
  ·split at e
   ·exact h.no _ _ _ e q
   ·cases e
  ·cases e
end
def bt (p:Addr) (H:Hp):Hp:=fun a=>if a=p then none else H a
theorem zrq {p:Addr} :bt p H p=none:=qV rfl
theorem zoT {p:Addr} (h:a≠p):bt p H a=H a:=qW h
theorem zrp {p:Addr} {o:HO} (h:bt p H a=some o):a≠p/\H a=some o:=by
 unfold bt at h
 split at h
 ·cases h
 ·exact ⟨by assumption,h⟩
variable {H₁:Hp}
theorem SR.h0 {s:Slot} (r:SR Γ K H₀ G H s v fp) (h:∀ b∈fp,H₁ b=none):SR Γ K H₁ G H s v fp:=by
 cases r with
 | sh r=>exact .sh r
 | own h1 h2 h3 h4=>exact .own (h _ qf) h2 h3 h4
 | obj c h1 h2 h3 h4 h5 hs=>exact .obj c (h _ qf) h2 h3 h4 h5 hs
 | objd c h1 h2 h3 h4 h5 q1 q2 q3 q4 q5 hs=>exact .objd c (h _ qf) h2 h3 h4 h5 (h _ (qg _ qf)) q2 q3 q4 q5 hs
 | odk h1 h2 h3 h4 h5=>exact .odk (h _ qf) h2 h3 h4 h5
 | odt h1 h2 h3 h4 h5=>exact .odt (h _ qf) h2 h3 h4 h5
 | pin a=>exact .pin a
 | oll h1 h2 h3 h4 h5=>exact .oll (fun b hb=>⟨h b hb,(h1 b hb).2⟩) h2 h3 h4 h5
 | tlo h1 h2 h3 h4 h5 h6=>exact .tlo (h _ qf) h2 h3 h4 h5 h6
abbrev FR:=zaI->Int->Option (D×Int)
abbrev FRt:=zaI->Int->Option (Bool×Int)
abbrev FRa:=zaI->Int->Option (List D×Int)
abbrev FRs:=zaI->Int->Option (Fl×zaI×Int)
def rb (f:zaI->Int->Option (α×Int)) (g:zaI->α->Int->Option (β×Int)):zaI->Int->Option (β×Int):=fun ρ r=>(f ρ r).bind fun x=>g ρ x.1 x.2
def rM (f:zaI->Int->Option (α×Int)) (g:α->Option β):zaI->Int->Option (β×Int):=fun ρ r=>(f ρ r).bind fun x=>(g x.1).map fun d=>(d,x.2)
section
variable {a:Expr} {zcK:List Expr} {fa fb f:FR} {fr fi:FRa} {ft gt:FRt} {F:FE}
def r2 (g:D->D->Option D) (fa fb:FR):FR:=rb fa fun ρ x r=>rM fb (fun y=>g x y) ρ r
end
section
variable {a:Expr} {zcK:List Expr} {fa fb f:FR} {fr fi:FRa} {ft gt:FRt} {g g':FRs}
end
section
variable {a:Expr} {fa fb f:FR} {fr:FRa}
open Classical in
end
section
variable {a:Expr}
def zrB (i j:Int):Prop:=i.natAbs.log2 < 4000/\j.natAbs.log2 < 4000
theorem zrB.ok {i j:Int} (h:zrB i j):IntMulOk i j:=by
 have e:∀ k:Int,k.natAbs.log2 < 4000->Builtin.Int.intBits k<=4000:=fun k hk=>by
  unfold Builtin.Int.intBits
  split <;> omega
 have h1:=e i h.1
 have h2:=e j h.2
 have hb:¬ ((Builtin.Int.intBits i:Int)+(Builtin.Int.intBits j:Int) > bitsLine):=by
  have:(8000:Int)<=bitsLine:=by decide
  omega
 unfold IntMulOk Builtin.Int.intTooBig
 rw [qM hb]
 simp
def zs2:D->D->Option D
 | .int i,.int j=>if i.natAbs.log2 < 4000/\j.natAbs.log2 < 4000 then some (.int (i*j)) else none
 | _,_=>none
theorem zqo:OpR X (binaryOp .Mult) (rI zrB fun i j=>.int (i*j)):=opI fun _ _ _ _ _ _ _ hc q=>mul_int q hc.ok
theorem zrg (ha:DE Γ X a fa) (hb:DE Γ X b fb):DE Γ X (.BinOp a .Mult b pos) (b2 zs2 fa fb):=zji zqo (zeB fun x y z h=>by
 unfold zs2 at h;split at h
 ·split at h <;> cases h;exact ⟨_,_,rfl,rfl,by assumption,rfl⟩
 ·cases h) ha hb
end
section
variable {a:Expr} {pc:Pos}
def whL (ft:FT) (g:FS):Nat->FS
 | 0,_=>none
 | n+1,ρ=>(ft ρ).bind fun b=>if b=true then (g ρ).bind fun r=>match r.1 with
   | .nx=>whL ft g n r.2
   | .rt d=>some (.rt d,r.2)
   | _=>none
  else some (.nx,ρ)
end
noncomputable def bl (T H:Hp):Hp:=fun a=>if (T a).isSome=true then none else H a
def jn (T H:Hp):Hp:=fun a=>if (T a).isSome=true then T a else H a
variable {T':Hp}
section
variable {T T1 T2:Hp} {o:HO}
theorem zgD (h:T a=none):bl T H a=H a:=qW (by rw [h];exact qq)
theorem ztY (h:T a=some o):bl T H a=none:=qV (by rw [h];rfl)
theorem zef (h:bl T H a=some o):T a=none/\H a=some o:=by
 unfold bl at h
 split at h
 ·cases h
 ·rename_i hn
  exact ⟨by simpa using hn,h⟩
theorem zhp (h:T a=none):jn T H a=H a:=qW (by rw [h];exact qq)
theorem zoo (h:T a=some o):jn T H a=some o:=(qV (by rw [h];rfl)).trans h
theorem zpz {p:Addr} (h:T p=none):bl T (upd H p o)=upd (bl T H) p o:=by
 funext b
 by_cases hb:b=p
 ·subst hb;rw [zgD h,zak,zak]
 ·rw [zaj hb]
  unfold bl
  rw [zaj hb]
structure JStep (T T' G H G' H':Hp):Prop where
 st:Step G (bl T H) G' (bl T' H')
 here:zbh T' H'
theorem JStep.trans (a:JStep T T1 G H G1 H1) (b:JStep T1 T2 G1 H1 G2 H2):JStep T T2 G H G2 H2:=⟨a.st.trans b.st,b.here⟩
theorem JStep.of (h:zbh T H) (gt:∀ b o,T b=some o->G b=none) (s:Step G H G' H'):JStep T T G H G' H':=by
 refine ⟨⟨fun b o e=>?_,s.gg,fun b o e=>?_,fun b o e=>s.out b o (zef e).2⟩,fun b o e=>s.hh b o (h b o e)⟩
 ·rw [zgD (zef e).1];exact s.hh b o (zef e).2
 ·have:T b=none:=by
   cases q:T b with
   | none=>rfl
   | some u=>rw [s.out b u (h b u q),gt b u q] at e;cases e
  rw [zgD this];exact s.gh b o e
end
structure JA (Γ:Cn) (K:PySem.W.Frag) (G₀ H₀ G H:Hp) (ρ:zaI) (σ:St) (T:Hp):Prop where
 at':At Γ K G₀ H₀ G (bl T H) ρ σ
 here:zbh T H
variable {ρ':zaI}
section
variable {T:Hp}
theorem JA.gt (A:JA Γ K G₀ H₀ G H ρ σ T):∀ b o,T b=some o->G b=none:=fun b o e=>A.at'.gh.free (ztY e)
theorem JA.ht (A:JA Γ K G₀ H₀ G H ρ σ T):∀ b o,T b=some o->H₀ b=none:=fun b o e=>A.at'.st.hh.free (ztY e)
theorem JA.gh (A:JA Γ K G₀ H₀ G H ρ σ T):zbh G H:=fun b o e=>(zef (A.at'.gh b o e)).2
theorem JA.shut (A:JA Γ K G₀ H₀ G H ρ σ T):At Γ K G₀ (jn T H₀) G H ρ σ:=by
 have st:=A.at'.st
 refine ⟨⟨fun b o e=>?_,st.gg,A.gh,fun b o e=>?_⟩,?_⟩
 ·cases q:T b with
  | some u=>rw [zoo q] at e;cases e;exact A.here b _ q
  | none=>rw [zhp q] at e;exact (zef (st.hh b o e)).2
 ·cases q:T b with
  | some u=>rw [A.gt b u q,st.gg.free (A.gt b u q)]
  | none=>rw [zhp q] at e;exact st.out b o e
 ·obtain ⟨fps,h,ap⟩:=A.at'.env.sl
  refine ⟨A.at'.env.len,fps,fun j s e=>?_,ap⟩
  obtain ⟨v,h1,h2⟩:=h j s e
  have hf:=h2.fpt
  have ne:∀ b∈fps j,T b=none:=fun b hb=>by
   obtain ⟨_,_,o,e⟩:=hf b hb
   exact (zef e).1
  have h3:=h2.stay (H':=H) (.refl G) (fun b hb=>(hf b hb).2.1) (fun b hb=>(zgD (ne b hb)).symm)
  exact ⟨v,h1,h3.h0 fun b hb=>by rw [zhp (ne b hb)];exact (hf b hb).1⟩
theorem JA.open' (A:JA Γ K G₀ H₀ G H ρ σ T) (B:At Γ K G₀ (jn T H₀) G' H' ρ' σ'):JA Γ K G₀ H₀ G' H' ρ' σ' T:=by
 have st:=B.st
 have hp:zbh T H':=fun b o e=>st.hh b o (zoo e)
 have gp:∀ b o,T b=some o->G' b=none:=fun b o e=>(st.out b o (zoo e)).trans (A.at'.st.gg.free (A.gt b o e))
 have ne0:∀ b o,H₀ b=some o->T b=none:=fun b o e=>by
  cases q:T b with
  | none=>rfl
  | some u=>rw [A.ht b u q] at e;cases e
 have neg:∀ b o,G' b=some o->T b=none:=fun b o e=>by
  cases q:T b with
  | none=>rfl
  | some u=>rw [gp b u q] at e;cases e
 refine ⟨⟨⟨fun b o e=>?_,st.gg,fun b o e=>?_,fun b o e=>st.out b o (by rw [zhp (ne0 b o e)];exact e)⟩,?_⟩,hp⟩
 ·rw [zgD (ne0 b o e)];exact st.hh b o (by rw [zhp (ne0 b o e)];exact e)
 ·rw [zgD (neg b o e)];exact st.gh b o e
 ·obtain ⟨fps,h,ap⟩:=B.env.sl
  refine ⟨B.env.len,fps,fun j s e=>?_,ap⟩
  obtain ⟨v,h1,h2⟩:=h j s e
  have hf:=h2.fpt
  have ne:∀ b∈fps j,T b=none:=fun b hb=>by
   cases q:T b with
   | none=>rfl
   | some u =>
    have:=(hf b hb).1
    rw [zoo q] at this
    cases this
  have h3:=h2.stay (H':=bl T H') (.refl G') (fun b hb=>(hf b hb).2.1) (fun b hb=>zgD (ne b hb))
  exact ⟨v,h1,h3.h0 fun b hb=>by have:=(hf b hb).1;rwa [zhp (ne b hb)] at this⟩
theorem JA.full (A:JA Γ K G₀ H₀ G H ρ σ T):At Γ K G₀ H₀ G H ρ σ:=by
 have B:=A.shut
 have ne0:∀ b o,H₀ b=some o->T b=none:=fun b o e=>by
  cases q:T b with
  | none=>rfl
  | some u=>rw [A.ht b u q] at e;cases e
 refine ⟨⟨fun b o e=>B.st.hh b o (by rw [zhp (ne0 b o e)];exact e),B.st.gg,B.st.gh,A.at'.st.out⟩,?_⟩
 obtain ⟨fps,h,ap⟩:=B.env.sl
 refine ⟨B.env.len,fps,fun j s e=>?_,ap⟩
 obtain ⟨v,h1,h2⟩:=h j s e
 exact ⟨v,h1,h2.h0 fun b hb=>by
  have:=(h2.fpt b hb).1
  cases q:T b with
  | some u=>exact A.ht b u q
  | none=>rwa [zhp q] at this⟩
theorem JA.pure (A:JA Γ K G₀ H₀ G H ρ σ T) (s:Step G H G' H'):JStep T T G H G' H':=.of A.here A.gt s
theorem JA.step (A:JA Γ K G₀ H₀ G H ρ σ T) (s:JStep T T' G H G' H'):JA Γ K G₀ H₀ G' H' ρ σ T':=⟨A.at'.step s.st,s.here⟩
end
def zwj (Γ:Cn) (K:PySem.W.Frag) (J:Hp->Prop) (f:FE):TE:=fun σ H Q=>∃ G₀ H₀ G ρ T d,JA Γ K G₀ H₀ G H ρ σ T/\J T/\f ρ=some d/\∀ v G' H' T',J T'->JStep T T' G H G' H'->Rep Γ K G' v d->Q v H'
def zwh (Γ:Cn) (K:PySem.W.Frag) (J:Hp->Prop) (f:FT):TT:=fun σ H Q=>∃ G₀ H₀ G ρ T d,JA Γ K G₀ H₀ G H ρ σ T/\J T/\f ρ=some d/\∀ G' H' T',J T'->JStep T T' G H G' H'->Q d H'
def Ovr (Γ:Cn) (K:PySem.W.Frag) (G' H':Hp) (Q:VK):D->Prop
 | .lst rs=>∀ p us,H' p=none->Reps Γ K G' us rs->Q (.ref p) (upd H' p (.lst us))
 | .non=>Q .non H'
 | .bl b=>Q (.bl b) H'
 | _=>False
def zwi (Γ:Cn) (K:PySem.W.Frag) (J:Hp->Prop) (f:FE):TE:=fun σ H Q=>∃ G₀ H₀ G ρ T d,JA Γ K G₀ H₀ G H ρ σ T/\J T/\f ρ=some d/\∀ G' H' T',J T'->JStep T T' G H G' H'->Ovr Γ K G' H' Q d
def zrz (Γ:Cn) (K:PySem.W.Frag) (J:Hp->Prop) (g:FS):TS:=fun E σ H=>∃ G₀ H₀ G ρ T fl ρ',JA Γ K G₀ H₀ G H ρ σ T/\J T/\g ρ=some (fl,ρ')/\∀ σ' G' H' T',zbh G G'->J T'->JA Γ K G₀ H₀ G' H' ρ' σ' T'->zt6 Γ K E H₀ G' H' σ' fl
structure JE (Γ:Cn) (X:Cx) (J:Hp->Prop) (e:Expr) (f:FE):Prop where
 out:PE X e (zwj Γ X.K J f)
structure JT (Γ:Cn) (X:Cx) (J:Hp->Prop) (e:Expr) (f:FT):Prop where
 out:PT X e (zwh Γ X.K J f)
structure JO (Γ:Cn) (X:Cx) (J:Hp->Prop) (e:Expr) (f:FE):Prop where
 out:PE X e (zwi Γ X.K J f)
structure JS (Γ:Cn) (X:Cx) (J:Hp->Prop) (st:Stmt) (g:FS):Prop where
 out:PS X st (zrz Γ X.K J g)
structure JSs (Γ:Cn) (X:Cx) (J:Hp->Prop) (st:List Stmt) (g:FS):Prop where
 out:PSs X st (zrz Γ X.K J g)
section
variable {J:Hp->Prop} {a:Expr} {fr:FA}
theorem ztd (h:DT Γ X e ft):JT Γ X J e ft:=⟨h.1.imp fun σ H Q=>by
 rintro ⟨G₀,H₀,G,ρ,T,d,A,j,h,k⟩
 exact ⟨G₀,H₀,G,ρ,d,A.full,h,fun G' H' s=>k G' H' T j (A.pure s)⟩⟩
theorem zt6.h0 {E:Ends} {fl:Fl} (hh:zbh H₀ H₁) (h:zt6 Γ K E H₀ G' H' σ' fl):zt6 Γ K E H₁ G' H' σ' fl:=by
 cases fl with
 | ow ds=>exact fun p vs h0 h1 h2 h3=>h p vs (hh.free h0) h1 h2 h3
 | od ds=>exact fun p vs h0 h1 h2 h3 h4=>h p vs (hh.free h0) h1 h2 h3 h4
 | nw d=>exact fun v r n=>h v r (n.mono (.refl _) hh)
 | _=>exact h
theorem zr2:∀ E σ H,zrz Γ X.K J g E σ H->TDs Γ X.K g E σ H:=by
 rintro E σ H ⟨G₀,H₀,G,ρ,T,fl,ρ',A,j,h,k⟩
 refine ⟨G₀,jn T H₀,G,ρ,fl,ρ',A.shut,h,fun σ' G' H' sm A'=>(k σ' G' H' T sm j (A.open' A')).h0 fun b o e=>?_⟩
 cases q:T b with
 | none=>rw [zhp q];exact e
 | some u=>rw [A.ht b u q] at e;cases e
theorem zft (h:DS Γ X st g):JS Γ X J st g:=⟨h.1.imp zr2⟩
theorem zgS (h:DSs Γ X sts g):JSs Γ X J sts g:=⟨h.1.imp zr2⟩
theorem zrz.frz (j:Nat):∀ E σ H,zrz Γ X.K J (zeN j g) E σ H->zrz Γ X.K J g E σ H:=by
 rintro E σ H ⟨G₀,H₀,G,ρ,T,fl,ρ',A,jt,h,k⟩
 unfold zeN at h
 split at h
 ·rename_i ds hi
  obtain ⟨G',sm,A'⟩:=A.at'.freeze hi
  exact ⟨G₀,H₀,G',_,T,fl,ρ',⟨A',A.here⟩,jt,h,fun σ1 G1 H1 T1 sm1 j1 A1=>k σ1 G1 H1 T1 (sm.trans sm1) j1 A1⟩
 ·cases h
theorem zmp (j:Nat) (h:JSs Γ X J sts g):JSs Γ X J sts (zeN j g):=⟨h.1.imp (zrz.frz j)⟩
theorem zmo (h:JS Γ X J st g):JSs Γ X J [st] g:=⟨zlG h.1⟩
theorem zbn (h1:JS Γ X J st g) (h2:JSs Γ X J sts g'):JSs Γ X J (st::sts) (zar g g'):=⟨(zjQ h1.1 h2.1).imp fun E σ H=>by
 rintro ⟨G₀,H₀,G,ρ,T,fl,ρ',A,j,h,k⟩
 unfold zar at h
 obtain ⟨⟨fl1,ρ1⟩,h1,h⟩:=oBd h
 refine ⟨G₀,H₀,G,ρ,T,fl1,ρ1,A,j,h1,fun σ1 G1 H1 T1 sm j1 A1=>?_⟩
 cases fl1 with
 | nx=>exact ⟨G₀,H₀,G1,ρ1,T1,fl,ρ',A1,j1,h,fun σ' G' H' T' sm' j' A'=>k σ' G' H' T' (sm.trans sm') j' A'⟩
 | _=>cases h;exact k σ1 G1 H1 T1 sm j1 A1⟩
theorem zth (hc:JT Γ X J c ft) (ha:JSs Γ X J sa g) (hb:JSs Γ X J sb g'):JS Γ X J (.If c sa sb pos) (sIf ft g g'):=⟨(zsw hc.1 ha.1 hb.1).imp fun E σ H=>by
 rintro ⟨G₀,H₀,G,ρ,T,fl,ρ',A,j,h,k⟩
 obtain ⟨x,hx,h⟩:=oBd h
 refine ⟨G₀,H₀,G,ρ,T,x,A,j,hx,fun G1 H1 T1 j1 s1=>?_⟩
 cases x with
 | true=>exact zop ⟨G₀,H₀,G1,ρ,T1,fl,ρ',A.step s1,j1,by simpa using h,fun σ2 G2 H2 T2 sm2 j2 A2=>k σ2 G2 H2 T2 (s1.st.gg.trans sm2) j2 A2⟩
 | false=>exact zoq ⟨G₀,H₀,G1,ρ,T1,fl,ρ',A.step s1,j1,by simpa using h,fun σ2 G2 H2 T2 sm2 j2 A2=>k σ2 G2 H2 T2 (s1.st.gg.trans sm2) j2 A2⟩⟩
theorem zon (n:Nat) (hp:PassesOwn (model X.prog X.w) X.A X.env X.xe) (hc:JT Γ X J c ft) (hb:JSs Γ X J body g):JS Γ X J (.While c body [] pos) (whL ft g n):=⟨(znS hp hc.1 hb.1).imp fun E σ H=>by
 rintro ⟨G₀,H₀,G,ρ,T,fl,ρ',A,j,h,k⟩
 refine ⟨fun m σ' H'=>∃ G' ρ1 T1,zbh G G'/\J T1/\JA Γ X.K G₀ H₀ G' H' ρ1 σ' T1/\whL ft g m ρ1=some (fl,ρ'),⟨n,G,ρ,T,.refl _,j,A,h⟩,?_⟩
 rintro m σ' H' ⟨G',ρ1,T1,sm,j1,A',hr⟩
 cases m with
 | zero=>cases hr
 | succ m =>
  unfold whL at hr
  obtain ⟨b,hb,hr⟩:=oBd hr
  refine ⟨G₀,H₀,G',ρ1,T1,b,A',j1,hb,fun G1 H1 T2 j2 s1=>?_⟩
  cases b with
  | false =>
   rw [qW qq] at hr
   cases hr
   exact zoq (k σ' G1 H1 T2 (sm.trans s1.st.gg) j2 (A'.step s1))
  | true =>
   rw [qV rfl] at hr
   obtain ⟨⟨fl2,ρ2⟩,h2,hr⟩:=oBd hr
   refine zop ⟨fun σ3 H3=>fl2=.nx/\∃ G3 T3,zbh G G3/\J T3/\JA Γ X.K G₀ H₀ G3 H3 ρ2 σ3 T3,fun σ3 H3 ⟨hfl,G3,T3,sm3,j3,A3⟩=>?_,G₀,H₀,G1,ρ1,T2,fl2,ρ2,A'.step s1,j2,h2,fun σ3 G3 H3 T3 sm3 j3 A3=>?_⟩
   ·subst hfl
    exact ⟨m,Nat.lt_succ_self _,G3,ρ2,T3,sm3,j3,A3,hr⟩
   ·have smm:=(sm.trans s1.st.gg).trans sm3
    cases fl2 with
    | nx=>exact ⟨rfl,G3,T3,smm,j3,A3⟩
    | rt d=>cases hr;exact k σ3 G3 H3 T3 smm j3 A3
    | _=>cases hr⟩
theorem JA.tgt {T:Hp} {Q:St->Hp->Prop} (A:JA Γ K G₀ H₀ G H ρ σ T) (rv:Rep Γ K G v d) (h:gg d ρ=some ρ') (k:∀ σ',JA Γ K G₀ H₀ G H ρ' σ' T->Q σ' H):TDg Γ K gg v σ H Q :=
 ⟨_,_,G,ρ,d,ρ',A.shut,rv,h,fun σ' B=>k σ' (A.open' B)⟩
theorem zti (hp:PassesOwn (model X.prog X.w) X.A X.env X.xe) (hc:X.calm=true) (hi:DI Γ X tg iter fi) (hg:DG Γ X tg gg) (hb:JSs Γ X J body g) (hs:∀ x,foldedSetIterable iter X.env x=pure x:=by intro _;rfl) :
  JS Γ X J (.For tg iter body [] pos) (zcS fi gg g):=⟨(zo7 hp hc hi.1 hg.pg hb.1 hs).imp fun E σ H=>by
 rintro ⟨G₀,H₀,G,ρ,T,fl,ρ',A,j,h,k⟩
 obtain ⟨xs,hx,h⟩:=oBd h
 refine ⟨G₀,H₀,G,ρ,xs,A.full,hx,fun J' G1 H1 s1 Y=>?_⟩
 have t1:=A.pure s1
 refine ⟨fun n m σ' H'=>m=xs.length - n/\n<=xs.length/\∃ G' ρ1 T1,zbh G1 G'/\J T1/\JA Γ X.K G₀ H₀ G' H' ρ1 σ' T1/\zfI gg g (xs.drop n) ρ1=some (fl,ρ'),⟨xs.length,rfl,Nat.zero_le _,G1,ρ,T,.refl _,j,A.step t1,by rw [List.drop_zero];exact h⟩,?_⟩
 rintro n m σ' H' ⟨rfl,hi,G',ρ1,T1,sm,j1,A',hr⟩
 by_cases hlt:n < xs.length
 ·right
  have hxi:xs[n]?=some xs[n]:=by simp [hlt]
  obtain ⟨go,yl⟩:=Y.go n _ G' H' hxi sm A'.gh
  have hdr:xs.drop n=xs[n]::xs.drop (n+1):=List.drop_eq_getElem_cons hlt
  rw [hdr] at hr
  unfold zfI at hr
  obtain ⟨ρ2,h2,hr⟩:=oBd hr
  obtain ⟨⟨fl3,ρ3⟩,h3,hr⟩:=oBd hr
  refine ⟨go,fun σ3 H3=>(fl3=.nx\/fl3=.ct)/\∃ G3 T3,zbh G1 G3/\J T3/\JA Γ X.K G₀ H₀ G3 H3 ρ3 σ3 T3,fun σ3 H3 ⟨hfl,G3,T3,sm3,j3,A3⟩=>?_,fun x H2 hy=>?_⟩
  ·rcases hfl with hfl | hfl <;> subst hfl
   ·exact ⟨xs.length - (n+1),by omega,rfl,hlt,G3,ρ3,T3,sm3,j3,A3,hr⟩
   ·exact ⟨xs.length - (n+1),by omega,rfl,hlt,G3,ρ3,T3,sm3,j3,A3,by first | exact hr | cases hr⟩
  ·obtain ⟨G2,s2,v2⟩:=yl x H2 hy
   refine (A'.step (A'.pure s2)).tgt v2 h2 fun σ2 A2=>⟨G₀,H₀,G2,ρ2,T1,fl3,ρ3,A2,j1,h3,fun σ3 G3 H3 T3 sm3 j3 A3=>?_⟩
   have smm:zbh G1 G3:=(sm.trans s2.gg).trans sm3
   cases fl3 with
   | nx=>exact ⟨.inl rfl,G3,T3,smm,j3,A3⟩
   | ct=>exact ⟨.inr rfl,G3,T3,smm,j3,A3⟩
   | _=>cases hr;exact k σ3 G3 H3 T3 (s1.gg.trans smm) j3 A3
 ·left
  have e:n=xs.length:=by omega
  subst e
  rw [List.drop_length] at hr
  cases hr
  exact ⟨Y.stop G' H' sm A'.gh,k σ' G' H' T1 (s1.gg.trans sm) j1 A'⟩⟩
end
variable {c':Addr} {clos:List (Str×Addr)} {ctv:Value} {p1 bp:Pos}
theorem zok {q c d:Addr} {k:Str} {t tn:Tok} {n:Int} {vs:List (Key×Value)} 
  (hroom:A.depth < recursionLimit) (lim:s.heap.NoLimit) (hq:s.heap.get? q=some (PySem.W.kla_obj name qual params (.Subscript (.Name y p1) (.Name x p2) bp) scope clos pm c' ctv)) (hcd:s.heap.CodeRec (.ref c') qual)
  (hb:∀ v,bindArgs (PySem.W.kla_fn name qual params (.Subscript (.Name y p1) (.Name x p2) bp) scope clos pm (.ref c') ctv) ⟨[v],[]⟩=pure [(x,v)])
  (hx:scope.names.lookup x=some .local) (hy:scope.names.lookup y=some .free) (hk:scope.kind=.function) (hco:scope.isCoroutine=false) (hgen:scope.isGenerator=false) (hnc:∀ z∈scope.names,z.2≠.cell)
  (hxd:(x==("__debug__":Str))=false) (hyd:(y==("__debug__":Str))=false) (hyc:(y==("__classdict__":Str))=false)
  (hcl:clos.lookup y=some c) (hcell:s.heap.IsCell c (some (.ref d))) (dd:s.heap.DictOf (zaM prog w) d vs) (hv:valueAt vs (Sum.inr k)=some (.int n tn)) :
  wpAny (model prog w) A (call (.ref q) [.str k t]) (fun v s'=>∃ h' tk,s'={ s with heap:=h',toks:=tk }/\(∃ t',v=.int n t')/\∀ b o,s.heap.get? b=some o->h'.get? b=some o) (fun _ _=>False) s:=by
 refine wpAny_call (PySem.W.kla_callFunE hroom hq rfl hco hgen rfl hcd ?_)
 rw [hb]
 refine qy (wpAny_newFunctionEnv hnc (fun z hz=>?_) (fun h1 hns hsb=>?_) hk)
 ·rw [List.mem_singleton.mp hz];exact hx
 ·have kp:∀ b o,s.heap.get? b=some o->h1.get? b=some o:=fun b o e=>(hsb.2 b (qA (qt e))).trans (qr _ e)
  have dd1:h1.DictOf (zaM prog w) d vs:=by
   obtain ⟨ob,es,ep,e,r⟩:=dd
   exact ⟨ob,es,ep,kp _ _ e,r⟩
  refine ⟨lim.keeps kp,PySem.W.kla_codeExpr ?_⟩
  refine zlo PySem.F.slot_dict_getitem.lookup (fun _ _=>rfl) ?_
  refine wpAny_Name (wpAny_loadName_free hk hy hcl (let ⟨o,e,r⟩:=hcell;⟨o,kp _ _ e,r⟩) ?_ hyc) hyd
  refine wpAny_Name (wpAny_loadName_local (v:=.str k t) hk hx hns (by simp) ?_) hxd
  exact ⟨dd1.typeIs,wpAny_getItem_of (zho (k:=Sum.inr k) ⟨_,rfl⟩) dd1.mapOf hv ⟨_,_,rfl,⟨_,rfl⟩,kp⟩⟩
theorem zqu {h:Heap} {m m':Str->Option Value} (x:h.Ns a m) (y:h.Ns a m'):m'=m:=by
 obtain ⟨o,es,ep,e,d,_,f⟩:=x
 obtain ⟨o',es',ep',e',d',_,f'⟩:=y
 rw [e] at e';cases e'
 rw [d] at d';cases d'
 funext z
 rw [← f z,← f' z]
theorem Inv.but {m:Str->Option Value} (I:Inv X pins σ H s) (hn:s.heap.Ns X.env.locals m) (hn':h'.Ns X.env.locals m) (k:∀ b o,b≠X.env.locals->s.heap.get? b=some o->h'.get? b=some o):Inv X pins σ H { s with heap:=h',toks:=t' }:=by
 have nl:∀ b u,H b=some u->b≠X.env.locals:=fun b u e z=>by rw [z,I.free] at e;cases e
 refine I.step (g':=s.gens) (d':=s.drawn) (ch:=[]) (fun _ z=>nomatch z) (fun b o hb _ _ e _=>k b o hb e) (fun b o hb _ _ e _=>⟨o.slots,k b o hb e⟩) (fun _ _ _ _ n=>n)
  (fun b o _ e=>?_) (fun _ _ e=>e) (fun _ _ _ e=>e) (fun b ps e=>⟨#[],by rw [e];simp⟩) (fun m' hm=>by rw [zqu hn hm];exact hn') (fun b u e=>?_) I.bare
 ·by_cases hb:b=X.env.locals
  ·subst hb
   obtain ⟨o',_,_,e',_⟩:=hn'
   exact ⟨o',e'⟩
  ·exact ⟨o,k b o hb e⟩
 ·refine (I.hok b u e).stay (fun c v hc q=>k c v ?_ q) (fun _ q=>q) fun _ _ q=>q
  rcases hc with rfl | hc
  ·exact nl _ u e
  ·exact nl _ _ hc
theorem zqK {q c d:Addr} {us:List (Key×V)} {ks:List Str} {kf:Nat->Int} 
  (hc:X.calm=true) (hroom:X.A.depth < recursionLimit) (I:Inv X pins σ H s) (hq:s.heap.get? q=some (PySem.W.kla_obj name qual params (.Subscript (.Name y p1) (.Name x p2) bp) scope clos pm c' ctv)) (hcd:s.heap.CodeRec (.ref c') qual)
  (hb:∀ v,bindArgs (PySem.W.kla_fn name qual params (.Subscript (.Name y p1) (.Name x p2) bp) scope clos pm (.ref c') ctv) ⟨[v],[]⟩=pure [(x,v)])
  (hx:scope.names.lookup x=some .local) (hy:scope.names.lookup y=some .free) (hk:scope.kind=.function) (hco:scope.isCoroutine=false) (hgen:scope.isGenerator=false) (hnc:∀ z∈scope.names,z.2≠.cell)
  (hxd:(x==("__debug__":Str))=false) (hyd:(y==("__debug__":Str))=false) (hyc:(y==("__classdict__":Str))=false)
  (hcl:clos.lookup y=some c) (hcell:s.heap.IsCell c (some (.ref d))) (hd:H d=some (.dK us)) (hl:H l=some (.lst (ks.map V.str))) (hne:ks≠[]) (hv:∀ (i:Nat) k,ks[i]?=some k->ziI us (Sum.inr k)=some (.int (kf i)))
  (fin:∀ (i:Nat) k t h' tk,ks[i]?=some k->(∀ j,j < ks.length->kf i<=kf j/\(j < i->kf i < kf j))->Inv X pins σ H { s with heap:=h',toks:=tk }->Q (.str k t) { s with heap:=h',toks:=tk }) :
  wpAny (model X.prog X.w) X.A (call (.builtin "min") [.ref l] [(Str.ofString "key",.ref q)]) Q E s:=by
 obtain ⟨m,F⟩:=I.fr
 obtain ⟨its,rv,pl,_⟩:=I.list (.inl (.inl hl))
 obtain ⟨vl,vi⟩:=zhT rv
 obtain ⟨_,_,vs,rel,dd⟩:=zje I.hok (.inl hd)
 have nsd:∀ {o:Obj},s.heap.get? X.env.locals=some o->∃ es ep,o.data=.dict es ep:=fun {o} e=>by
  obtain ⟨o',es,ep,e',d',_⟩:=F.ns
  rw [e] at e';cases e'
  exact ⟨es,ep,d'⟩
 have all:∀ {h:Heap},Fr X.base X.env.locals h m->News X.base X.env.locals h (zgr X.base s.heap X.env.locals)->∀ b o,b≠X.env.locals->s.heap.get? b=some o->h.get? b=some o:=fun {h} F' N' b o hb e=>by
  cases z:X.base.get? b with
  | none=>exact (N' (b,o) (zi5 hb z e)).1
  | some o'=>rw [I.bk b o' z] at e;cases e;exact F'.keep b _ z
 have lq:q≠X.env.locals:=fun z=>by
  obtain ⟨es,ep,e⟩:=nsd (z▸hq)
  cases e
 have lcell:c≠X.env.locals:=fun z=>by
  obtain ⟨o,e,r⟩:=hcell
  obtain ⟨es,ep,e2⟩:=nsd (z▸e)
  rw [e2] at r
  cases r
 have ld:d≠X.env.locals:=fun z=>by rw [z,I.free] at hd;cases hd
 have ll:l≠X.env.locals:=fun z=>by rw [z,I.free] at hl;cases hl
 refine kmk_min kf (I.ok.hd hc) F zoa (vs:=its) (fun h F' N'=>?_) (by rw [vl];exact List.length_pos_iff.mpr hne) (fun i v hi h tk own F' N'=>?_) fun i v h' tk' hi hb F' N'=>?_
 ·obtain ⟨o,n,e,r⟩:=pl
  exact (show PlainL h l its.toArray from ⟨o,n,all F' N' l o ll e,r⟩).isList
 ·have al:=all F' fun p hp=>N' p (List.mem_append_left _ hp)
  obtain ⟨k,t,hk',rfl⟩:=vi i v hi
  obtain ⟨tn,hvv⟩:∃ tn,valueAt vs (Sum.inr k)=some (.int (kf i) tn):=by
   obtain ⟨w',hw,rw'⟩:=zhO.some_of (v:=.int (kf i)) (o:=valueAt vs (Sum.inr k)) (by rw [← hv i k hk'];exact rel.val _)
   obtain ⟨tn,rfl⟩:=rw'
   exact ⟨tn,hw⟩
  refine wpAny_mono (zok (s:={ s with heap:=h,toks:=tk }) hroom ?_ (al q _ lq hq) ?_ hb hx hy hk hco hgen hnc hxd hyd hyc hcl (let ⟨o,e,r⟩:=hcell;⟨o,al _ _ lcell e,r⟩) (d:=d) (vs:=vs) ?_ hvv) (fun v s' hs=>?_) fun _ _ z=>z
  ·exact I.ok.mod.nolimit.keeps fun b o e=>F'.keep b o e
  ·obtain ⟨c2,o,ws,t2,e1,e2,e3,e4⟩:=hcd
   refine ⟨c2,o,ws,t2,e1,al _ _ (fun z=>?_) e2,e3,e4⟩
   obtain ⟨es,ep,e5⟩:=nsd (z▸e2)
   rw [e5] at e3;cases e3
  ·obtain ⟨ob,es,ep,e,r⟩:=dd
   exact ⟨ob,es,ep,al _ _ ld e,r⟩
  ·obtain ⟨h2,tk2,rfl,⟨t',rfl⟩,kp⟩:=hs
   exact ⟨h2,tk2,t',rfl,rfl,⟨let ⟨o,es,ep,e,r⟩:=F'.ns;⟨o,es,ep,kp _ _ e,r⟩,fun b o e=>kp b o (F'.keep b o e),F'.above⟩,fun p hp=>⟨kp _ _ (N' p hp).1,(N' p hp).2⟩⟩
 ·obtain ⟨k,t,hk',rfl⟩:=vi i v hi
  exact fin i k t h' tk' hk' (fun j hj=>hb j (by rw [vl];exact hj)) (I.but F.ns F'.ns (all F' N'))
def zro (c':Addr) (qual:Str):Heap->Prop:=fun h=>h.CodeRec (.ref c') qual
def zfn (pos:Pos) (c':Addr):Array Value:=#[rawInt pos.line,rawInt pos.col,.ref c']
def T0 (P:Addr):Hp:=upd (fun _=>none) P (.tbl #[])
def T1 (P:Addr) (qual:Str) (pos:Pos) (c':Addr):Hp:=upd (upd (fun _=>none) P (.tbl (zfn pos c'))) c' (.ext (zro c' qual))
def JP (P:Addr) (qual:Str) (pos:Pos) (T:Hp):Prop:=T=T0 P\/∃ c',c'≠P/\T=T1 P qual pos c'
theorem zrn (x:zro c' qual h1) (k:∀ o,h1.get? c'=some o->h2.get? c'=some o):zro c' qual h2:=by
 obtain ⟨c2,o,vs,t,e1,e2,r⟩:=x
 cases e1
 exact ⟨c',o,vs,t,rfl,k o e2,r⟩
theorem zol {P c:Addr} {T:Hp} {body:Expr} (hdef:defaultsOf params X.env=([],[])) (hqual:X.env.qual++"<lambda>"=qual) (I:Inv X pins σ H s) (S:CompScope X scope)
  (hcode:X.env.code=.ref c) (C:PySem.W.CodeHd X.base c P) (hbt:X.base.BuiltinsAt X.mg P) (hT:JP P qual pos T) (th:zbh T H)
  (fin:∀ f c' ctv h' tk T' H',JP P qual pos T'->zbh T' H'->bl T' H'=bl T H->Inv X pins σ H' { s with heap:=h',toks:=tk }->h'.get? f=some (PySem.W.kla_obj "<lambda>" qual params body scope (zc7 X.env scope.names []) ((X.mg "__name__").getD .none) c' ctv) ->
   h'.CodeRec (.ref c') qual->Q (.ref f) { s with heap:=h',toks:=tk }):wpAny (model X.prog X.w) X.A (eval (.Lambda params body scope pos) X.env) Q E s:=by
 subst hqual
 refine PySem.W.kla_eval hdef ?_
 have bt0:∀ {h:Heap},(∀ b o,X.base.get? b=some o->h.get? b=some o)->h.BuiltinsAt X.mg P:=fun {h} k=>by
  obtain ⟨bm,o,a1,a2,a3,a4,a5,r⟩:=hbt
  exact ⟨bm,o,a1,a2,a3,a4,k _ _ a5,r⟩
 rcases hT with rfl | ⟨c',hcp,rfl⟩
 ·have hHP:H P=some (.tbl #[]):=th P _ zak
  have hP:s.heap.get? P=some (PySem.W.tabObj #[]):=I.hok P _ hHP
  have gP:mainGlobals≠P:=fun z=>by
   obtain ⟨o,_,_,e,_⟩:=I.mod.glob
   have:=(I.bs _ o e).2
   rw [z,hHP] at this
   cases this
  refine PySem.W.kla_makeFunction (zcX I S) I.ok.glob (I.mod.glob.keeps I.bk) hcode (C.keeps I.bk) hP trivial rfl gP (bt0 I.bk) fun c' ctv h' tk hx hge hlt hrec htb=>?_
  have hc0:H c'=none:=I.hok.fresh hge
  have ncp:c'≠P:=fun z=>by rw [z,hHP] at hc0;cases hc0
  have htb':h'.get? P=some (PySem.W.tabObj (zfn pos c')):=by simpa [zfn] using htb
  have up:∀ (o:Obj) b u,b≠P->s.heap.get? b=some u->(h'.push o).get? b=some u:=fun o b u hb e=>qr _ (hx b u hb e)
  have nP:∀ {b:Addr} {u:HO},H b=some u->(∀ ps,u≠.tbl ps)->b≠P:=fun {b u} e hu z=>by rw [z,hHP] at e;cases e;exact hu _ rfl
  have nP0:∀ {b:Addr},H b=none->b≠P:=fun {b} e z=>by rw [z,hHP] at e;cases e
  have hH':∀ {b:Addr} {u:HO},H b=some u->b≠P->upd (upd H P (.tbl (zfn pos c'))) c' (.ext (zro c' (X.env.qual++"<lambda>"))) b=some u:=fun {b u} e hb=>by
   rw [zaj (fun z=>by rw [z,hc0] at e;cases e),zaj hb];exact e
  have hHP':upd (upd H P (.tbl (zfn pos c'))) c' (.ext (zro c' (X.env.qual++"<lambda>"))) P=some (.tbl (zfn pos c')):=by rw [zaj (Ne.symm ncp),zak]
  refine fin _ c' ctv _ tk (T1 P _ pos c') (upd (upd H P (.tbl (zfn pos c'))) c' (.ext (zro c' (X.env.qual++"<lambda>")))) (.inr ⟨c',ncp,rfl⟩) (fun b o e=>?_) ?_ (I.un ⟨?_,?_,?_,?_,?_,?_,?_⟩ ?_) (qF _ rfl) (hrec.push _)
  ·unfold T1 at e
   by_cases h1:b=c'
   ·subst h1;rw [zak] at e ⊢;exact e
   ·rw [zaj h1] at e ⊢
    by_cases h2:b=P
    ·subst h2;rw [zak] at e ⊢;exact e
    ·rw [zaj h2] at e;cases e
  ·funext b
   unfold bl T1 T0
   by_cases h1:b=c'
   ·subst h1;rw [zak,zaj ncp,hc0];rfl
   ·rw [zaj h1,zaj h1]
    by_cases h2:b=P
    ·subst h2;rw [zak,zak,zak];rfl
    ·rw [zaj h2,zaj h2,zaj h2]
  ·exact fun b o e n _ _=>up _ b o (nP0 n) e
  ·exact fun b o e n _ _=>⟨o.slots,up _ b o (nP0 n) e⟩
  ·exact fun b o e n _=>by rw [zaj (qA (qD (qt e) hge)),zaj (nP0 n)];exact n
  ·intro b o e _
   by_cases hb:b=P
   ·subst hb;exact ⟨_,qr _ htb'⟩
   ·exact ⟨o,up _ b o hb e⟩
  ·exact fun b xs e=>hH' e (nP e fun _ z=>by cases z)
  ·exact fun b o u e=>hH' e (nP e fun _ z=>by cases z)
  ·intro b ps e
   by_cases hb:b=P
   ·subst hb
    rw [hHP] at e;cases e
    exact ⟨zfn pos c',by rw [hHP'];simp⟩
   ·exact ⟨#[],by rw [hH' e hb];simp⟩
  ·intro b u e
   by_cases h1:b=c'
   ·subst h1
    rw [zak] at e;cases e
    obtain ⟨c2,o,_,_,e1,e2,_⟩:=id hrec
    cases e1
    exact ⟨hrec.push _,⟨o,qr _ e2⟩,fun h1 h2 x k=>zrn x k⟩
   ·by_cases h2:b=P
    ·subst h2
     rw [hHP'] at e;cases e
     exact qr _ htb'
    ·rw [zaj h1,zaj h2] at e
     refine (I.hok b u e).stay (fun c v hc q=>up _ c v ?_ q) (fun d q=>hH' q (nP q fun _ z=>by cases z)) fun d xs q=>hH' q (nP q fun _ z=>by cases z)
     rcases hc with rfl | hc
     ·exact h2
     ·exact nP hc fun _ z=>by cases z
 ·have hHP:H P=some (.tbl (zfn pos c')):=th P _ (by unfold T1;rw [zaj (Ne.symm hcp),zak])
  have hHc:H c'=some (.ext (zro c' (X.env.qual++"<lambda>"))):=th c' _ zak
  have hP:s.heap.get? P=some (PySem.W.tabObj (zfn pos c')):=I.hok P _ hHP
  have hrec:s.heap.CodeRec (.ref c') (X.env.qual++"<lambda>"):=(I.hok c' _ hHc).1
  refine PySem.W.kla_makeFunctionHit (cv:=.ref c') (zcX I S) I.ok.glob (I.mod.glob.keeps I.bk) hcode (C.keeps I.bk) hP ?_ (by simp [zfn,rawInt,codeAmong]) (bt0 I.bk) fun ctv h' tk hk hsz=>?_
  ·simp [zfn,rawInt,TriplesOk]
  ·have up:∀ b o,s.heap.get? b=some o->(h'.push (PySem.W.kla_obj "<lambda>" (X.env.qual++"<lambda>") params body scope (zc7 X.env scope.names []) ((X.mg "__name__").getD .none) c' ctv)).get? b=some o:=fun b o e=>qr _ (hk b o e)
   exact fin _ c' ctv _ tk _ H (.inr ⟨c',hcp,rfl⟩) th rfl (I.kept up) (qF _ rfl) (hrec.keeps up)
section
open PyProof
theorem zg0 (ns:List Int):∀ k,argBest (btL ns) k<=k/\∀ j,j<=k->ns.getD (argBest (btL ns) k) 0<=ns.getD j 0/\(j < argBest (btL ns) k->ns.getD (argBest (btL ns) k) 0 < ns.getD j 0)
 | 0=>⟨qu _,fun j hj=>by
   obtain rfl:j=0:=by omega
   exact ⟨Int.le_refl _,fun h=>absurd h (Nat.lt_irrefl _)⟩⟩
 | k+1=>by
  obtain ⟨h1,h2⟩:=zg0 ns k
  by_cases hb:ns.getD (k+1) 0 < ns.getD (argBest (btL ns) k) 0
  ·have e:argBest (btL ns) (k+1)=k+1:=by unfold argBest;rw [qV];unfold btL;exact qR hb
   rw [e]
   refine ⟨qu _,fun j hj=>?_⟩
   by_cases hj':j=k+1
   ·subst hj';exact ⟨Int.le_refl _,fun h=>absurd h (Nat.lt_irrefl _)⟩
   ·have:=(h2 j (by omega)).1
    exact ⟨by omega,fun _=>by omega⟩
  ·have e:argBest (btL ns) (k+1)=argBest (btL ns) k:=by
    have hb':btL ns (k+1) (argBest (btL ns) k)=false:=qM hb
    simp only [argBest,hb',qp,if_false]
   rw [e]
   refine ⟨by omega,fun j hj=>?_⟩
   by_cases hj':j=k+1
   ·subst hj';exact ⟨by omega,fun h=>by omega⟩
   ·exact h2 j (by omega)
def rkL (kvs:List (Key×D)):List Str->Option (List Int)
 | []=>some []
 | k::r=>match zdY kvs (Sum.inr k) with
  | some (.int n)=>(rkL kvs r).map (n::·)
  | _=>none
theorem zo6 {Γ:Cn} {K:PySem.W.Frag} {G:Hp} {us:List (Key×V)} {kvs:List (Key×D)} (e:us.map (·.1)=kvs.map (·.1)) (r:Reps Γ K G (us.map (·.2)) (kvs.map (·.2))):∀ {ks:List Str} {ns:List Int},rkL kvs ks=some ns->ns.length=ks.length/\∀ (i:Nat) k,ks[i]?=some k->ziI us (Sum.inr k)=some (.int (ns.getD i 0))
 | [],ns,h=>by cases h;exact ⟨rfl,fun i k h=>by simp at h⟩
 | x::ks,ns,h=>by
  unfold rkL at h
  split at h
  ·rename_i n hn
   obtain ⟨ms,hm,rfl⟩:=oMd h
   obtain ⟨h1,h2⟩:=zo6 e r hm
   refine ⟨by simp [h1],fun i k hk=>?_⟩
   cases i with
   | zero =>
    cases hk
    rcases zj5 (k:=(Sum.inr x:Key)) e r with ⟨q,_⟩ | ⟨d,v,q1,q2,q3⟩
    ·rw [hn] at q;cases q
    ·rw [hn] at q1;cases q1
     rw [q2,q3.int_inv];rfl
   | succ i=>exact h2 i k hk
  ·cases h
def zl9 (d:D) (l:D):Option D:=match d,l with
 | .dk kvs,.lst xs=>(zfT xs).bind fun ks=>(rkL kvs ks).bind fun ns=>if ks=[] then none else some (.str (ks.getD (argBest (btL ns) (ns.length - 1)) ""))
 | _,_=>none
section
variable {lp kp:Pos} {P c:Addr}
theorem zqM (j:Nat) (hc:X.calm=true) (hr:Room n X.A) (hcode:X.env.code=.ref c) (C:PySem.W.CodeHd X.base c P) (hbt:X.base.BuiltinsAt X.mg P) (S:CompScope X scope) (hg:Gl X "min") (hm:X.mg "min"=none) (ha:DE Γ X e fa)
  (hb:∀ (name qual:Str) (clos:List (Str×Addr)) (pm ctv v:Value) (c':Addr),bindArgs (PySem.W.kla_fn name qual params (.Subscript (.Name y p1) (.Name x p2) bp) scope clos pm (.ref c') ctv) ⟨[v],[]⟩=pure [(x,v)])
  (hdef:defaultsOf params X.env=([],[]):=by rfl) (hqual:X.env.qual++"<lambda>"=qual:=by rfl) (hN:X.N[j]?=some y:=by rfl) (hyk:X.env.scope.names.lookup y=some .cell:=by rfl)
  (hx:scope.names.lookup x=some .local:=by rfl) (hy:scope.names.lookup y=some .free:=by rfl) (hco:scope.isCoroutine=false:=by rfl) (hgen:scope.isGenerator=false:=by rfl)
  (hxd:(x==("__debug__":Str))=false:=by decide) (hyd:(y==("__debug__":Str))=false:=by decide) (hyc:(y==("__classdict__":Str))=false:=by decide)
  (he:starEach [e] X.env=(false,eval e X.env)::starEach [] X.env:=by rfl) (hb2:backTo pos (starEach [e] X.env)=(false,eval e X.env)::backTo pos (starEach [] X.env):=by rfl)
  (hpl:(backTo pos (starEach [e] X.env)).any (·.1)=false:=by rfl) :
  JE Γ X (JP P qual lp) (.Call (.Name "min" p) [e] [⟨some "key",.Lambda params (.Subscript (.Name y p1) (.Name x p2) bp) scope lp,kp⟩] pos) (b2 zl9 (vSh j) fa):=⟨by
 intro pins s σ H Q I h
 obtain ⟨G₀,H₀,G,ρ,T,z,A,jt,hd,k⟩:=h
 unfold b2 at hd
 obtain ⟨dd,hdd,hd⟩:=oBd hd
 obtain ⟨l,hl,hd⟩:=oBd hd
 refine wpAny_Call_Name_kw (zf9 I hg hm (u:=.builtin "min") (by rfl) ?_)
 refine callWith_kw (thn (zcA ha.1 zdz he pos pins s σ H (fun vs H1=>∃ v G1,vs=[v]/\Step G H G1 H1/\Rep Γ X.K G1 v l) I ⟨G₀,H₀,G,ρ,l,A.full,hl,fun v G1 H1 s1 r1=>⟨v,G1,rfl,s1,r1⟩⟩) fun us s1 ⟨vs,H1,I1,r1,q1⟩=>?_) hb2 hpl
 obtain ⟨v,G1,rfl,t1,rl⟩:=q1
 have js1:=A.pure t1
 have A1:=A.step js1
 have hvd:∃ v,σ[j]?=some (some v)/\Rep Γ X.K G1 v dd:=by
  unfold vSh at hdd
  split at hdd
  ·rename_i d0 hi
   cases hdd
   exact A1.at'.env.sh j _ hi
  ·cases hdd
 obtain ⟨vd,hσ,rd⟩:=hvd
 unfold zl9 at hd
 split at hd
 ·rename_i kvs xs
  obtain ⟨ks,hks,hd⟩:=oBd hd
  obtain ⟨ns,hns,hd⟩:=oBd hd
  split at hd
  ·cases hd
  ·rename_i hne
   cases hd
   obtain ⟨la,vls,rfl,hla,rla⟩:=rl.lst_inv
   have evs:=zfD rla hks
   subst evs
   obtain ⟨u,rfl,ru⟩:=zfN r1
   cases ru
   cases rd with
   | dk hda hdb hdc =>
    obtain ⟨hlen,hval⟩:=zo6 hdb hdc hns
    refine kws_cons (zol hdef hqual I1 S hcode C hbt jt js1.here fun f c' ctv h' tk T' H' jt' th' eb I2 hf hrec=>kws_nil ?_)
    show wpAny _ _ (call (.builtin "min") [.ref la] [(Str.ofString "key",.ref f)]) _ _ _
    have gh1:=A1.at'.gh
    have tr:∀ b o,G1 b=some o->H' b=some o:=fun b o q=>(zef (by rw [eb];exact gh1 b o q:bl T' H' b=some o)).2
    obtain ⟨m,hn,hloc⟩:=I2.loc
    obtain ⟨uu,ruu,lk⟩:=hloc j y _ hN hσ (.inr (.inl hyk))
    cases ruu
    obtain ⟨cc,hcc,hcell⟩:∃ cc,X.env.cells.lookup y=some cc/\h'.IsCell cc (some (.ref _)):=by
     rcases lk with ⟨z,_⟩ | ⟨_,cc,h1,h2⟩
     ·rw [show X.env.kindOf y=some .cell from hyk] at z;cases z
     ·exact ⟨cc,h1,h2⟩
    have hcl:(zc7 X.env scope.names []).lookup y=some cc:=by
     obtain ⟨c2,h2⟩:=Option.isSome_iff_exists.mp (zeH (env:=X.env) scope.names [] y cc (PySem.mem_of_lookup hy) hcc)
     have h3:=zeG (env:=X.env) scope.names [] (fun x c h=>by simp at h) y c2 h2
     rw [hcc] at h3;cases h3
     exact h2
    refine zqK hc hr.depth I2 hf hrec (fun v=>hb _ _ _ _ _ v _) hx hy S.kind hco hgen S.nocell hxd hyd hyc hcl hcell (tr _ _ hda) (tr _ _ hla) hne (kf:=fun i=>ns.getD i 0) hval fun i kk t h2 tk2 hi hmin I3=>?_
    obtain ⟨b1,b2⟩:=zg0 ns (ns.length - 1)
    have li:i < ks.length:=(List.getElem?_eq_some_iff.mp hi).1
    have ei:i=argBest (btL ns) (ns.length - 1):=by
     have m1:=hmin (argBest (btL ns) (ns.length - 1)) (by omega)
     have m2:=b2 i (by omega)
     rcases Nat.lt_trichotomy i (argBest (btL ns) (ns.length - 1)) with q | q | q
     ·have:=m2.2 q;have:=m1.1;omega
     ·exact q
     ·have:=m1.2 q;have:=m2.1;omega
    have ek:ks.getD (argBest (btL ns) (ns.length - 1)) ""=kk:=by rw [← ei,List.getD_eq_getElem?_getD,hi];rfl
    refine ⟨.str kk,H',I3,⟨t,rfl⟩,?_⟩
    rw [ek] at k
    exact k _ G1 H' T' jt' ⟨by rw [eb];exact js1.st,th'⟩ (.str _)
 ·cases hd⟩
end
end
section
variable {J:Hp->Prop} {a:Expr} {fr:FA}
theorem ztf (j:Nat) (hN:X.N.Nodup) (h:JE Γ X J e f) (hi:X.N[j]?=some x:=by rfl) (hx:Loc X.env.scope x:=by first | exact Or.inl rfl | exact Or.inr rfl) (hs:swapsWith e (some (.Name x pos')) pos.line X.env=pure false:=by rfl) (hf:X.fn x=true\/X.env.scope.names.lookup x=some .local:=by first | exact .inl rfl | exact .inr rfl | assumption) :
  JS Γ X J (.Assign [.Name x pos'] e pos) (zbq j f):=⟨(zgN hN hi hx h.1 hs hf).imp fun E σ H=>by
 rintro ⟨G₀,H₀,G,ρ,T,fl,ρ',A,jt,h,k⟩
 obtain ⟨d,hd,h⟩:=oMd h
 cases h
 exact ⟨G₀,H₀,G,ρ,T,d,A,jt,hd,fun v G' H' T' j' s v1=>k _ G' H' T' s.st.gg j' ⟨(A.step s).at'.setSh v1,s.here⟩⟩⟩
def zrE (j:Nat) (f:FE):FS:=fun ρ=>(f ρ).bind fun d=>match d with
 | .lst ds=>some (.nx,ρ.set j (some (.own ds)))
 | .non=>some (.nx,ρ.set j (some (.sh .non)))
 | _=>none
theorem ztg (j:Nat) (hN:X.N.Nodup) (h:JO Γ X J e f) (hi:X.N[j]?=some x:=by rfl) (hx:Loc X.env.scope x:=by first | exact Or.inl rfl | exact Or.inr rfl) (hs:swapsWith e (some (.Name x pos')) pos.line X.env=pure false:=by rfl) (hf:X.fn x=true\/X.env.scope.names.lookup x=some .local:=by first | exact .inl rfl | exact .inr rfl | assumption) :
  JS Γ X J (.Assign [.Name x pos'] e pos) (zrE j f):=⟨(zgN hN hi hx h.1 hs hf).imp fun E σ H=>by
 rintro ⟨G₀,H₀,G,ρ,T,fl,ρ',A,jt,h,k⟩
 obtain ⟨d,hd,h⟩:=oBd h
 refine ⟨G₀,H₀,G,ρ,T,d,A,jt,hd,fun G' H' T' j' s=>?_⟩
 split at h <;> cases h
 ·intro q us hq r
  have tq:T' q=none:=by
   cases z:T' q with
   | none=>rfl
   | some u=>rw [s.here q u z] at hq;cases hq
  refine k _ G' _ T' s.st.gg j' ⟨?_,fun b o z=>?_⟩
  ·rw [zpz tq]
   exact (A.step s).at'.setOwn (by rw [zgD tq];exact hq) r
  ·rw [zaj (fun w=>by rw [w,tq] at z;cases z)];exact s.here b o z
 ·exact k _ G' H' T' s.st.gg j' ⟨(A.step s).at'.setSh .non,s.here⟩⟩
def ovE (f:FE):FE:=fun ρ=>(f ρ).bind fun d=>match d with
 | .lst l=>some (.lst l)
 | .non=>some .non
 | _=>none
theorem JO.je (h:JO Γ X J e f):JE Γ X J e (ovE f):=⟨h.1.imp fun σ H Q=>by
 rintro ⟨G₀,H₀,G,ρ,T,d,A,jt,h,k⟩
 unfold ovE at h
 obtain ⟨d0,hd,h⟩:=oBd h
 refine ⟨G₀,H₀,G,ρ,T,d0,A,jt,hd,fun G' H' T' j' s=>?_⟩
 split at h <;> cases h
 ·intro q us hq r
  have tq:T' q=none:=by
   cases z:T' q with
   | none=>rfl
   | some u=>rw [s.here q u z] at hq;cases hq
  have st2:=Step.new (o:=.lst us) s.st.gh (by rw [zgD tq];exact hq)
  refine k _ (upd G' q (.lst us)) _ T' j' ⟨?_,fun b o z=>?_⟩ (.lst zak (r.mono st2.gg))
  ·rw [zpz tq];exact s.st.trans st2
  ·rw [zaj (fun w=>by rw [w,tq] at z;cases z)];exact s.here b o z
 ·exact k _ G' H' T' j' s .non⟩
theorem zte {g:D->D->Option D} (h:CmpD Γ X op g) (ha:JE Γ X J a fa) (hb:DE Γ X b fb) (hm:behindInMarks op b=false):JT Γ X J (.Compare a [op] [b] pos) (toB (b2 g fa fb)):=⟨by
 obtain ⟨r,ho,hr⟩:=h.ex
 refine (zlF ho ha.1 hb.1 hm).imp fun σ H Q=>?_
 rintro ⟨G₀,H₀,G,ρ,T,bb,A,jt,h,k⟩
 unfold toB b2 at h
 obtain ⟨d,hd,h⟩:=oBd h
 obtain ⟨x,hx,hd⟩:=oBd hd
 obtain ⟨y,hy,hd⟩:=oBd hd
 split at h <;> cases h
 refine ⟨G₀,H₀,G,ρ,T,x,A,jt,hx,fun v G1 H1 T1 j1 s1 r1=>?_⟩
 have A1:=A.step s1
 refine ⟨G₀,H₀,G1,ρ,y,A1.full,hy,fun u G2 H2 s2 r2=>?_⟩
 have t2:=A1.pure s2
 have A2:=A1.step t2
 exact hr s2.gh (r1.mono s2.gg) r2 hd _ fun w G3 H3 s3 r3=>⟨bb,r3.bl_inv,k G3 H3 T1 j1 ((s1.trans t2).trans (A2.pure s3))⟩⟩
def spJ (Γ:Cn) (K:PySem.W.Frag) (J:Hp->Prop) (n:Nat) (F:List D->Option D):Sp:=fun vs H Q _=>∃ G T ds d,J T/\zbh G (bl T H)/\zbh T H/\Reps Γ K G vs ds/\ds.length=n/\F ds=some d/\∀ G' H' T',J T'->JStep T T' G H G' H'->Ovr Γ K G' H' Q d
def zue (n:Nat) (g:FS):List D->Option D:=fun ds=>(g (ds.map (fun d=>some (Slot.sh d))++List.replicate n none)).bind fun r=>match r.1 with
 | .ow ds=>some (.lst ds)
 | .rt .non=>some .non
 | .rt (.bl b)=>some (.bl b)
 | _=>none
theorem okJ {f:Addr} {k:Nat} {kV:Value} 
  (lk:K.lookup f=some ⟨oc,od,.func (PySem.W.fnOf x qual (zbW st) (zaV st) (zah st) .none kV doc pm an cdv ct),osl⟩) (hcd:PySem.W.codeIn K cdv qual=true) (S:FnScope N ps (zah st)) (nj:∀ T a xs,J T->T a≠some (.lst xs))
  (hbody:∀ (A:Around) (outer:List Env) (s:Shared) (H:Hp) (E:XK),Room k (A.deeper (envOfC qual (zah st) s.heap.objs.size f cdv)) ->
   JSs Γ (ziM CX0 P w K mg base N qual (zah st) f cdv A outer s H E).nox J (zaV st) g):FnOk P w K mg base CX0 (k+1) f (PySem.W.fnOf x qual (zbW st) (zaV st) (zah st) .none kV doc pm an cdv ct) ps (spJ Γ K J ps.length (zue (N.length - ps.length) g)):=by
 refine ztB lk hcd S (fun vs H Q E h=>?_) fun A outer s H vs Q E hr h=>?_
 ·obtain ⟨G,T,ds,d,_,_,_,r,hl,_⟩:=h
  rw [r.length,hl]
 ·obtain ⟨G,T,ds,d,jt,gh,th,r,hl,hd,k⟩:=h
  refine ⟨_,(hbody A outer s H E hr).1.nox,?_⟩
  unfold zue at hd
  obtain ⟨⟨fl,ρ'⟩,hg,hd⟩:=oBd hd
  refine ⟨G,bl T H,G,_,T,fl,ρ',⟨zfU gh r (by rw [r.length,hl]),th⟩,jt,hg,fun σ' G' H' T' sm j' A'=>?_⟩
  have st:=A'.at'.st
  split at hd
  ·rename_i rs e
   cases hd
   cases e
   intro q us hq0 hg hq rr
   have tq:T' q=none:=by
    cases z:T' q with
    | none=>rfl
    | some u=>rw [A'.here q u z] at hq;cases hq;exact absurd z (nj T' q us j')
   let H2:Hp:=fun b=>if b=q then none else H' b
   have hf:upd H2 q (.lst us)=H':=by
    funext b
    by_cases hb:b=q
    ·subst hb;rw [zak,hq]
    ·rw [zaj hb];exact qW hb
   have h2:∀ b,b≠q->H2 b=H' b:=fun b hb=>qW hb
   have t2:∀ b,b≠q->bl T' H2 b=bl T' H' b:=fun b hb=>by unfold bl;rw [h2 b hb]
   have:=k G' H2 T' j' ⟨⟨fun b o e=>?_,st.gg,fun b o e=>?_,st.out⟩,fun b o e=>?_⟩ q us (qV rfl) rr
   ·rwa [hf] at this
   ·rw [t2 b (zal e hq0)];exact st.hh b o e
   ·rw [t2 b (zal e hg)];exact st.gh b o e
   ·rw [h2 b (fun w=>by rw [w,tq] at e;cases e)];exact A'.here b o e
  ·rename_i e
   cases hd
   cases e
   intro v rv
   rw [rv.non_inv]
   exact k G' H' T' j' ⟨st,A'.here⟩
  ·rename_i e
   cases hd
   cases e
   intro v rv
   rw [rv.bl_inv]
   exact k G' H' T' j' ⟨st,A'.here⟩
  ·cases hd
theorem ztj {P:Addr} {lp:Pos} (T:Hp) (a:Addr) (xs:List V) (h:JP P qual lp T):T a≠some (.lst xs):=fun z=>by
 rcases h with rfl | ⟨c',_,rfl⟩
 ·unfold T0 at z
  by_cases h1:a=P
  ·subst h1;rw [zak] at z;cases z
  ·rw [zaj h1] at z;cases z
 ·unfold T1 at z
  by_cases h1:a=c'
  ·subst h1;rw [zak] at z;cases z
  ·rw [zaj h1] at z
   by_cases h2:a=P
   ·subst h2;rw [zak] at z;cases z
   ·rw [zaj h2] at z;cases z
structure CalJ (Γ:Cn) (P:Program) (w:World) (K:PySem.W.Frag) (mg:Str->Option Value) (base:Heap) (J:Hp->Prop) (x:Str) (n k:Nat) (F:List D->Option D):Prop where
 ex:∃ f fd ps,FnOk P w K mg base CX0 k f fd ps (spJ Γ K J n F)/\mg x=some (.ref f)/\PySem.W.keepIn K (.ref f)=true/\zej K fd ps []
theorem zpg {k:Nat} (C:CalJ Γ X.prog X.w X.K X.mg X.base J x n k F) (hr:Room j X.A) (hk:k<=j) (hg:Gl X x) (ha:DA Γ X (e::es) fr) (hn:∀ ρ ds,fr ρ=some ds->ds.length=n)
  (hdb:(x==("__debug__":Str))=false:=by decide) (he:starEach (e::es) X.env=(false,eval e X.env)::starEach es X.env:=by rfl) (hpl:(backTo pos (starEach es X.env)).any (·.1)=false:=by rfl) :
  JO Γ X J (.Call (.Name x p) (e::es) [] pos) (cF F fr):=by
 obtain ⟨f,fd,ps,h1,h2,h3,h4⟩:=C.ex
 refine ⟨(zlS h1 (hr.mono hk) hg h2 h3 h4 .nil zkJ ha.1 hdb he hpl).imp fun σ H Q=>?_⟩
 rintro ⟨G₀,H₀,G,ρ,T,d,A,jt,h,k⟩
 unfold cF at h
 obtain ⟨ds,hd,h⟩:=oBd h
 refine ⟨G₀,H₀,G,ρ,ds,A.full,hd,fun vs G1 H1 s1 v1=>?_⟩
 have t1:=A.pure s1
 show spJ Γ X.K J n F (vs++[]) H1 Q E0
 rw [List.append_nil]
 exact ⟨G1,T,ds,d,jt,(A.step t1).at'.gh,t1.here,v1,hn ρ ds hd,h,fun G' H' T' j' s=>k G' H' T' j' (t1.trans s)⟩
end
theorem zmj {k:Nat} {fa Q c:Addr} {vs:List Value} 
  (KX:K.In s₁.heap) (hns:s₁.heap.Ns mainGlobals mg) (hb:s₁.heap.Ns builtinsNs mb) (hbb:∀ x:Str,x≠"__name__"->mb x=bootBuiltins x) (hlim:s₁.heap.NoLimit) (hg:s₁.gens=#[])
  (hQ:s₁.heap.get? Q=some (PySem.W.tabObj #[])) (C:PySem.W.CodeHd s₁.heap c Q) (hQK:K.lookup Q=none) (hbm:∃ bm ob,mg "__builtins__"=some (.ref bm)/\bm≠builtinsNs/\s₁.heap.get? bm=some ob/\ob.cls=.type "module"/\ob.dict=some builtinsNs/\ob.data=.plain)
  (ha:s₁.heap.get? a=some { cls:=.type "list",data:=.seq vs.toArray }) (hi:IntsAre vs ns) (hl:ns.length<=sizeLine) (hr:Room k callerA)
  (F:∀ base:Heap,K.In base->base.Ns mainGlobals mg->base.BuiltinsAt mg Q->FnOk P w K mg base CX0 k fa fd [x] sp) (hbind:∀ (s:Shared) (u:Value),BindsTo s fd ⟨[u],[]⟩ [(x,u)])
  (hsp:∀ H:Hp,H Q=none->SqL K H a (ns.map V.int)->sp [.ref a] (upd H Q (.tbl #[])) (fun v _=>v=.bl true) fun _ _ _=>False) :
  codeAny (model P w) callerA (.call (.ref fa) ⟨[.ref a],[]⟩) (fun r s'=>r=.ok (.ret (.bool true))/\OldK s₁.heap s'.heap/\s'.os=s₁.os/\AllBare s'.gens) s₁:=by
 have rv:=zfM hi
 have lenV:=hi.length
 have aQ:a≠Q:=fun z=>by rw [z,hQ] at ha;cases ha
 have core:∀ H:Hp,(∀ b,H b=none\/∃ o xs,H b=some (.frz o (.lst xs)))->SqL K H a (ns.map V.int)->HOk P w H s₁.heap->(∀ b,H b≠none->b=a)->(H a≠none->K.lookup a=none) ->
   codeAny (model P w) callerA (.call (.ref fa) ⟨[.ref a],[]⟩) (fun r s'=>r=.ok (.ret (.bool true))/\OldK s₁.heap s'.heap/\s'.os=s₁.os/\AllBare s'.gens) s₁:=by
  intro H hO hS hok hA hK
  have hHQ:H Q=none:=by
   cases q:H Q with
   | none=>rfl
   | some u=>exact absurd (hA Q (by rw [q];simp)).symm aQ
  have hok1:HOk P w (upd H Q (.tbl #[])) s₁.heap:=fun b u e=>by
   by_cases hb:b=Q
   ·subst hb;rw [zak] at e;cases e;exact hQ
   ·rw [zaj hb] at e
    have nQ:∀ {d:Addr} {v:HO},H d=some v->d≠Q:=fun {d v} q z=>by rw [z,hHQ] at q;cases q
    exact (hok b u e).stay (fun _ _ _ q=>q) (fun d q=>by rw [zaj (nQ q)];exact q) fun d xs q=>by rw [zaj (nQ q)];exact q
  have hA1:∀ b,upd H Q (.tbl #[]) b≠none->b=a\/b=Q:=fun b z=>by
   by_cases hb:b=Q
   ·exact .inr hb
   ·rw [zaj hb] at z;exact .inl (hA b z)
  have base_of:∀ {b:Addr} {o:Obj},s₁.heap.get? b=some o->upd H Q (.tbl #[]) b=none->(zjc s₁.heap (upd H Q (.tbl #[]))).get? b=some o:=fun e n=>zkc e n
  have noA:∀ {b:Addr} {o:Obj},s₁.heap.get? b=some o->(∀ vs n,o.data≠.seq vs n)->(∀ vs,o.data≠.fields vs)->upd H Q (.tbl #[]) b=none:=fun {b o} e d d2=>by
   cases q:upd H Q (.tbl #[]) b with
   | none=>rfl
   | some u =>
    rcases hA1 b (by rw [q];simp) with e' | e'
    ·subst e';rw [ha] at e;cases e;exact absurd rfl (d _ _)
    ·subst e';rw [hQ] at e;cases e;exact absurd rfl (d2 _)
  have nsK:∀ {b:Addr} {m:Str->Option Value},s₁.heap.Ns b m->(zjc s₁.heap (upd H Q (.tbl #[]))).Ns b m:=fun {b m} ⟨o,es,ep,e,d,r⟩=>⟨o,es,ep,base_of e (noA e (fun _ _ z=>by rw [d] at z;cases z) fun _ z=>by rw [d] at z;cases z),d,r⟩
  have hKb:K.In (zjc s₁.heap (upd H Q (.tbl #[]))):=fun b o e=>base_of (KX b o e) (by
   cases q:upd H Q (.tbl #[]) b with
   | none=>rfl
   | some u =>
    rcases hA1 b (by rw [q];simp) with e' | e'
    ·subst e';rw [hK (by rw [zaj aQ] at q;rw [q];simp)] at e;cases e
    ·subst e';rw [hQK] at e;cases e)
  have hM:Mod K mg (zjc s₁.heap (upd H Q (.tbl #[]))):=⟨hKb,nsK hns,⟨mb,nsK hb,hbb⟩,let ⟨mc,h1,h2⟩:=hlim;⟨mc,nsK h1,h2⟩⟩
  have e0:Env0 P w K mg (zjc s₁.heap (upd H Q (.tbl #[]))) callerA [] s₁ (upd H Q (.tbl #[])):=⟨rfl,hM,fun b o e=>zl1 e,Nat.le_of_eq (zim _ _),trivial,fun b hb=>absurd (show b∈([]:List Addr) from hb) (by simp),hok1,.of_eq hg⟩
  have hB:(zjc s₁.heap (upd H Q (.tbl #[]))).BuiltinsAt mg Q:=by
   obtain ⟨bm,ob,b1,b2,b3,b4,b5,b6⟩:=hbm
   have nb:upd H Q (.tbl #[]) bm=none:=noA b3 (fun _ _ z=>by rw [b6] at z;cases z) fun _ z=>by rw [b6] at z;cases z
   refine ⟨bm,ob,b1,b2,fun z=>?_,fun z=>?_,base_of b3 nb,b4,b5,b6⟩
   ·obtain ⟨o,es,ep,e,d,_⟩:=hns
    rw [z,e] at b3;cases b3;rw [d] at b6;cases b6
   ·rw [z,hQ] at b3;cases b3;cases b6
  refine codeAny_mono ((F _ hKb (nsK hns) hB).run callerA [] s₁ _ ⟨[.ref a],[]⟩ [.ref a] [.ref a] _ _ hr e0 (hbind s₁ (.ref a)) (.cons rfl .nil) (hsp H hHQ hS)) fun r s' h=>?_
  cases r with
  | error e=>exact False.elim h
  | ok fl =>
   cases fl with
   | next=>exact False.elim h
   | brk=>exact False.elim h
   | cont=>exact False.elim h
   | ret u =>
    obtain ⟨v,H',os,bare,un,hok',r',q⟩:=h
    have q':v=.bl true:=q
    subst q'
    obtain rfl:u=Value.bool true:=r'
    refine ⟨rfl,⟨fun b o e=>?_,fun b o e=>un.there b o e (by simp)⟩,os,bare⟩
    by_cases hb:b=Q
    ·subst hb
     obtain ⟨more,e2⟩:=un.tbls b #[] zak
     have e3:s'.heap.get? b=some { cls:=.none,data:=.fields (#[]++more) }:=hok' b _ e2
     rw [hQ] at e;cases e
     exact .inr (.inl ⟨(C.tab hQ).isCodeTable,rfl,#[],more,rfl,e3⟩)
    ·left
     cases q:upd H Q (.tbl #[]) b with
     | none=>exact un.keep b o e q (by intro z;exact absurd (show b∈([]:List Addr) from z) (by simp)) (by simp)
     | some u =>
      rw [zaj hb] at q
      rcases hO b with z | ⟨ob,xs,z⟩
      ·rw [q] at z;cases z
      ·have z2:=un.frzs b ob _ (by rw [zaj hb];exact z)
       obtain ⟨e1,_⟩:=hok b _ z
       obtain ⟨e2,_⟩:=hok' b _ z2
       rw [e] at e1;cases e1
       exact e2
 cases hk:K.lookup a with
 | some o =>
  have e:=KX a o hk
  rw [ha] at e
  cases e
  refine core (fun _=>none) (fun _=>.inl rfl) (.inr ⟨_,vs.toArray,_,hk,rfl,rfl,rfl,by rw [qz,lenV];exact hl,by simpa using rv⟩) (fun b u z=>by have z':(none:Option HO)=some u:=z;cases z') (fun b z=>absurd rfl z) fun z=>absurd rfl z
 | none =>
  refine core (fun b=>if b=a then some (.frz { cls:=.type "list",data:=.seq vs.toArray } (.lst (ns.map V.int))) else none) (fun b=>?_) (.inl (.inr ⟨{ cls:=.type "list",data:=.seq vs.toArray },qV rfl⟩)) (fun b u z=>?_) (fun b z=>?_) fun _=>hk
  ·by_cases hb:b=a
   ·exact .inr ⟨_,_,qV hb⟩
   ·exact .inl (qW hb)
  ·by_cases hb:b=a
   ·have z':=(qV hb).symm.trans z
    cases z'
    subst hb
    exact ⟨ha,by rw [qe];exact hl,vs,_,rv,ha⟩
   ·have z':=(qW hb).symm.trans z
    cases z'
  ·by_cases hb:b=a
   ·exact hb
   ·exact absurd (qW hb) z
theorem walk_ofJ {l:PySem.W.OpenLaw} {k:Nat} {d:DefRec} {K:Params->PySem.W.Frag} {sp:World->Sp} {Q:Addr} 
  (hn:l.most=some n) (hn2:n<=sizeLine) (hdf:d.params.defaults=[]) (hr:Room k callerA)
  (hY:∀ (w:World) (h:Heap),YP w h->(K w.params).In h/\h.get? Q=some (PySem.W.tabObj #[]))
  (F:∀ (w:World) (mg:Str->Option Value) (fa:Addr) (h:Heap),(K w.params).In h->h.Ns mainGlobals mg->mg d.name=some (.ref fa) ->
   ∃ (fd:FuncData) (c:Addr),PySem.W.codeHdIn (K w.params) c Q=true/\(K w.params).lookup Q=none/\(∀ (s:Shared) (u:Value),BindsTo s fd ⟨[u],[]⟩ [(x,u)]) /\
    ∀ base:Heap,(K w.params).In base->base.Ns mainGlobals mg->base.BuiltinsAt mg Q->FnOk l.prog w (K w.params) mg base CX0 k fa fd [x] (sp w))
  (hsp:∀ (w:World) (H:Hp) (a:Addr) (ns:List Int),ns.length<=n->H Q=none->SqL (K w.params) H a (ns.map V.int)->sp w [.ref a] (upd H Q (.tbl #[])) (fun v _=>v=.bl true) fun _ _ _=>False) :
  PySem.W.WalkO q loose XP YP l.row.toRowW d [] (fun f vs=>PySem.call f vs):=by
 refine Att.attach_call hn hdf fun w s₀ s₁ mg mb fa o pm cd doc a vs ns G Y ho hd hcd hmg hobj hints hlen hg=>?_
 obtain ⟨KX,hq⟩:=hY w _ Y
 obtain ⟨fd,c,hC,hQ,hb,hF⟩:=F w mg fa _ KX G.T.g hmg
 exact zmj KX G.T.g G.T.b G.T.builtins G.T.nolimit hg hq (PySem.W.codeHd_of_K KX hC) hQ G.T.bmain hobj hints (qL hlen hn2) hr hF hb (fun H h0 hS=>hsp w H a ns hlen h0 hS)
theorem zuB {Q:Addr} (h:H Q=none):zbh H (bl (T0 Q) (upd H Q (.tbl #[]))):=fun b o e=>by
 have hb:b≠Q:=fun z=>by rw [z,h] at e;cases e
 rw [zgD (by unfold T0;rw [zaj hb]),zaj hb];exact e
theorem zpM {Q:Addr} :zbh (T0 Q) (upd H Q (.tbl #[])):=fun b o e=>by
 unfold T0 at e
 by_cases hb:b=Q
 ·subst hb;rw [zak] at e ⊢;exact e
 ·rw [zaj hb] at e;cases e
section
variable {J:Hp->Prop} {fr:FA}
theorem zq3:∀ σ H Q,zvH Γ X.K (fun _=>some 3) σ H Q->zvr (znA zub (znA zub (znA zub zut))) σ H Q:=by
 rintro σ H Q ⟨G₀,H₀,G,ρ,n,A,h,k⟩
 cases h
 intro p hp q hq r hr
 refine ⟨by simp [sizeLine],fun a ha=>?_⟩
 have s1:=Step.newOwn (o:=.lst []) A.gh hp
 have s2:=Step.newOwn (o:=.lst []) s1.gh hq
 have s3:=Step.newOwn (o:=.lst []) s2.gh hr
 have s4:=Step.newOwn (o:=.lst [V.ref p,V.ref q,V.ref r]) s3.gh ha
 have hp3:upd (upd (upd H p (.lst [])) q (.lst [])) r (.lst []) p=some (.lst []):=s3.hh _ _ (s2.hh _ _ zak)
 have hq3:upd (upd (upd H p (.lst [])) q (.lst [])) r (.lst []) q=some (.lst []):=s3.hh _ _ zak
 have hr3:upd (upd (upd H p (.lst [])) q (.lst [])) r (.lst []) r=some (.lst []):=zak
 have hqp:q≠p:=fun z=>by rw [z,zak] at hq;cases hq
 have hrp:r≠p:=fun z=>by rw [z,s2.hh _ _ zak] at hr;cases hr
 have hrq:r≠q:=fun z=>by rw [z,zak] at hr;cases hr
 have hap:a≠p:=fun z=>by rw [z,hp3] at ha;cases ha
 have haq:a≠q:=fun z=>by rw [z,hq3] at ha;cases ha
 have har:a≠r:=fun z=>by rw [z,hr3] at ha;cases ha
 have hq0:H q=none:=by rw [zaj hqp] at hq;exact hq
 have hr0:H r=none:=by rw [zaj hrq,zaj hrp] at hr;exact hr
 have ha0:H a=none:=by rw [zaj har,zaj haq,zaj hap] at ha;exact ha
 refine k a [p,q,r] G _ (((s1.trans s2).trans s3).trans s4) (fun b hb=>?_) ?_ zak rfl (fun b hb=>?_)
 ·have hb':b=a\/b=p\/b=q\/b=r:=by simpa using hb
  rcases hb' with rfl | rfl | rfl | rfl
  ·exact ⟨ha0,A.gh.free ha0⟩
  ·exact ⟨hp,A.gh.free hp⟩
  ·exact ⟨hq0,A.gh.free hq0⟩
  ·exact ⟨hr0,A.gh.free hr0⟩
 ·simp [hap,haq,har,Ne.symm hqp,Ne.symm hrp,Ne.symm hrq]
 ·have hb':b=p\/b=q\/b=r:=by simpa using hb
  rcases hb' with rfl | rfl | rfl
  ·rw [zaj (Ne.symm hap)];exact hp3
  ·rw [zaj (Ne.symm haq)];exact hq3
  ·rw [zaj (Ne.symm har)];exact hr3
theorem zq6 (i:Nat) {lp:Pos} (hN:X.N.Nodup) (hi:X.N[i]?=some x:=by rfl) (hx:Loc X.env.scope x:=by first | exact Or.inl rfl | exact Or.inr rfl) (hs:swapsWith (.List [.List [] p1,.List [] p2,.List [] p3] lp) (some (.Name x pos')) pos.line X.env=pure false:=by rfl) (hf:X.fn x=true\/X.env.scope.names.lookup x=some .local:=by first | exact .inl rfl | exact .inr rfl | assumption) :
  DS Γ X (.Assign [.Name x pos'] (.List [.List [] p1,.List [] p2,.List [] p3] lp) pos) (zud i fun _=>some 3):=⟨(zgN hN hi hx ((zlP (zcA zlR (zcA zlR (zcA zlR zdz)))).imp zq3) hs hf).imp zsZ⟩
def zfW:List D->Option D
 | [.lst l]=>(zfT l).bind fun ss=>if ss.length < 64 then some (.lst ((zfV ss).map D.str)) else none
 | _=>none
theorem zkW:ze9 X (.builtin "sorted") (fun xs H Q=>∃ (a:Addr) (ss:List Str),xs=[.ref a]/\H a=some (.lst (ss.map V.str))/\ss.length < 64/\∀ p,H p=none->Q (.ref p) (upd H p (.lst ((zfV ss).map V.str)))):=by
 intro pins s σ H xs us Q I r h
 obtain ⟨a,ss,rfl,ha,h64,q⟩:=h
 obtain ⟨u,rfl,ru⟩:=zfN r
 cases ru
 obtain ⟨its,rv,pl,_⟩:=I.list (.inl (.inl ha))
 have hS:=zeQ rv
 have hl:its.length=ss.length:=by have:=rv.length;simpa using this.symm
 refine sorted_strs pl.isList hS (by rw [hl];exact h64) fun out ss' a1 a2 a3=>?_
 have es:=zkz a2 a3
 subst es
 obtain ⟨ee,he⟩:=sortedAll_at s.heap its out
 have hn:H (s.heap.objs.size+1)=none:=I.hok.fresh (Nat.le_succ _)
 have hls:(zfV ss).length=ss.length:=(List.mergeSort_perm ss leS).length_eq
 have hsl:=sizeLine_eq
 refine ⟨.ref (s.heap.objs.size+1),upd H (s.heap.objs.size+1) (.lst ((zfV ss).map V.str)),I.many (t':=s.toks) (fun b o e=>sortedAll_old e) (fun b o e=>by rw [zaj (zal e hn)];exact e) (fun b o e1 e2=>?_),rfl,q _ hn⟩
 by_cases hb:b=s.heap.objs.size+1
 ·subst hb
  rw [zak] at e2
  cases e2
  exact ⟨fun u e=>absurd (qt e) (Nat.not_lt.mpr (Nat.le_succ _)),by rw [qe,hls];omega,_,ee,zfb a1,by rw [Array.toArray_toList];exact he⟩
 ·rw [zaj hb,e1] at e2
  cases e2
theorem zoX:BltD Γ X "sorted" zfW:=⟨_,zkW,fun {G H vs ds z} gh r h Q k=>by
 unfold zfW at h
 split at h
 ·obtain ⟨ss,hs,h⟩:=oBd h
  split at h
  ·rename_i h64
   cases h
   obtain ⟨v,rfl,r1⟩:=r.one
   obtain ⟨a,us,rfl,ha,ra⟩:=r1.lst_inv
   exact ⟨a,ss,rfl,by rw [← zfD ra hs];exact gh _ _ ha,h64,zd9 gh (Reps.strs _) k⟩
  ·cases h
 ·cases h⟩
def zpZ:V->List V->Hp->VK->Prop:=fun x vs H Q=>∃ (l:Addr) (ys:List Str) (y:Str),x=.ref l/\vs=[.str y]/\H l=some (.lst (ys.map V.str))/\y∈ys/\Q .non (upd H l (.lst ((ys.erase y).map V.str)))
theorem zkf (y:Str):∀ {ys:List Str} {us:List Value},StrsAre us ys->y∈ys->∃ j,j < us.length/\ys.erase y=ys.eraseIdx j/\(∀ (i:Nat) v,us[i]?=some v->i=j->isStrOf y v=true)/\∀ (i:Nat) v,us[i]?=some v->i < j->isStrOf y v=false
 | [],_,.nil,h=>by cases h
 | z::ys,_,.cons _ t r,h=>by
  by_cases hz:z=y
  ·subst hz
   exact ⟨0,by simp,by simp,fun i v hi e=>by subst e;cases hi;simp [isStrOf],fun i v _ hi=>absurd hi (Nat.not_lt_zero _)⟩
  ·obtain ⟨j,h1,h2,h3,h4⟩:=zkf y r ((List.mem_cons.mp h).resolve_left (Ne.symm hz))
   refine ⟨j+1,by simpa using h1,by rw [List.erase_cons_tail (by simpa using hz),h2];rfl,fun i v hi e=>?_,fun i v hi hlt=>?_⟩
   ·subst e;exact h3 j v hi rfl
   ·cases i with
    | zero=>cases hi;simp [isStrOf,hz]
    | succ i=>exact h4 i v hi (by omega)
theorem zem:∀ {vs:List V} {us:List Value} (j:Nat),zbI vs us->zbI (vs.eraseIdx j) (us.eraseIdx j)
 | _,_,_,.nil=>.nil
 | _,_,0,.cons _ t=>t
 | _,_,j+1,.cons r t=>.cons r (zem j t)
theorem zff {α β:Type} (f:α->β):∀ (l:List α) (j:Nat),(l.eraseIdx j).map f=(l.map f).eraseIdx j
 | [],_=>rfl
 | _::_,0=>rfl
 | x::l,j+1=>by simp [zff f l j]
theorem zl6:MtM X "list.remove" zpZ:=by
 intro pins s σ H x vs v us Q I rx rv h
 obtain ⟨l,ys,y,rfl,rfl,hH,hm,q⟩:=h
 cases rx
 obtain ⟨u,rfl,ru⟩:=rv.one
 obtain ⟨t,rfl⟩:=ru
 obtain ⟨z,its,n,r,hl,e⟩:=I.lstM hH
 have hS:=zeQ r
 obtain ⟨j,h1,h2,h3,h4⟩:=zkf y hS hm
 have hsz:its.toArray.size<=sizeLine:=by rw [qz];omega
 refine call_meets F.slot_list_remove ⟨_,e,rfl⟩ F.entry_list_remove (F.args_list_remove_2 _ _) (MeetsSeq.list_remove l its.toArray n (.str y t) (isStrOf y) (fun v hv=>eq_isStrOf y t hS v (by simpa using hv)) j (by simpa using h1) (h3 j _ (by simp) rfl) (fun m hm hlt=>h4 m _ (by simp) hlt) hsz) ⟨e,?_⟩
 refine ⟨.non,_,I.lset (its':=its.eraseIdx j) hH e (by simp [List.eraseIdxIfInBounds_toArray]) (ys:=(ys.erase y).map V.str) ?_ ?_,rfl,q⟩
 ·rw [h2,zff];exact zem j r
 ·rw [qe]
  have:=List.length_erase_le (a:=y) (l:=ys)
  rw [qe] at z
  omega
def zsg (i:Nat) (f:FE):FS:=fun ρ=>match ρ[i]? with
 | some (some (.own ds))=>(f ρ).bind fun d=>match d with
  | .str y=>(zfT ds).bind fun ys=>if y∈ys then some (.nx,ρ.set i (some (.own ((ys.erase y).map D.str)))) else none
  | _=>none
 | _=>none
theorem zmI (i:Nat) (h:DE Γ X e f) (hN:X.N[i]?=some x:=by rfl) (hv:Vis X.env.scope x:=by first | exact Or.inl rfl | exact Or.inr (Or.inl rfl) | exact Or.inr (Or.inr rfl)) (hd:(x==("__debug__":Str))=false:=by decide)
  (hcd:(x==("__classdict__":Str))=false:=by decide)
  (hbase:attributeBase (.Name x vp) "remove" X.env (eval (.Name x vp) X.env)=eval (.Name x vp) X.env:=by rfl)
  (hfew:((backTo cpos (starEach [e] X.env)).all (fun x=>!x.1) && (backToKw cpos (keywordEach [] X.env)).all (fun x=>x.1.isSome)
   && decide ([e].length+([]:List Keyword).length+(if ([]:List Keyword).isEmpty then 0 else 1) < 30))=true:=by rfl)
  (hline:(apos.endLine==cpos.line)=true:=by rfl) (hs:starEach [e] X.env=(false,eval e X.env)::starEach [] X.env:=by rfl) (hplain:(backTo cpos (starEach [] X.env)).any (·.1)=false:=by rfl)
  (hsw:swapsWith (.Call (.Attribute (.Name x vp) "remove" apos) [e] [] cpos) none pos.line X.env=pure false:=by rfl) :
  DS Γ X (.Expr (.Call (.Attribute (.Name x vp) "remove" apos) [e] [] cpos) pos) (zsg i f):=⟨(zhi (zn5 PySem.F.plainAttrs_list PySem.F.slot_list_remove PySem.F.type_list_remove zl6 (zds hN hv hd hcd) (zcA h.1 zdz hs) hbase hfew hline hs hplain) hsw).imp fun E σ H=>by
  rintro ⟨G₀,H₀,G,ρ,fl,ρ',A,h,k⟩
  unfold zsg at h
  split at h
  ·rename_i ds hi
   obtain ⟨d,hd,h⟩:=oBd h
   split at h
   ·obtain ⟨ys,hy,h⟩:=oBd h
    split at h
    ·rename_i hm
     cases h
     obtain ⟨a,vs,h1,h2,h3,h4,h5⟩:=A.env.own i ds hi
     refine ⟨.ref a,h1,.inl ⟨rfl,vs,.inl (.inl h4)⟩,G₀,H₀,G,ρ,_,A,hd,fun v G1 H1 s1 r1=>?_⟩
     have A1:=A.step s1
     have ev:=zfD h5 hy
     subst ev
     refine ⟨a,ys,_,rfl,by rw [r1.str_inv],s1.hh _ _ h4,hm,?_⟩
     exact k σ G1 _ s1.gg (A1.chOwn hi h1 (Reps.strs _))
    ·cases h
   ·cases h
  ·cases h⟩
end
section
variable {fr:FA} {ks:List Str}
structure DPs (Γ:Cn) (X:Cx) (pos:Pos) (keys:List (Option Expr)) (values:List Expr) (ks:List Str) (fr:FA):Prop where
 ex:∃ trs,PPs X pos keys values trs/\∀ σ H Q,(∃ G₀ H₀ G ρ ds,At Γ X.K G₀ H₀ G H ρ σ/\fr ρ=some ds/\∀ vs G' H',Step G H G' H'->Reps Γ X.K G' vs ds->Q ((ks.map V.str).zip vs) H')->zjG trs σ H Q
 len:∀ ρ ds,fr ρ=some ds->ds.length=ks.length
theorem zq8:DPs Γ X pos [] [] [] zai:=⟨⟨[],zp7,fun σ H Q ⟨G₀,H₀,G,ρ,ds,A,h,k⟩=>by cases h;exact k [] G H (.refl A.gh) .nil⟩,fun ρ ds h=>by cases h;rfl⟩
theorem zfJ {j kp} (h:DE Γ X e f) (r:DPs Γ X pos keys values ks fr):DPs Γ X pos (some (.Constant (.str x) j kp)::keys) (e::values) (x::ks) (zac f fr):=by
 obtain ⟨trs,h1,h2⟩:=r.ex
 refine ⟨⟨_,znT zo9 h.1 h1,fun σ H Q ⟨G₀,H₀,G,ρ,ds,A,h,k⟩=>?_⟩,fun ρ ds h=>?_⟩
 ·unfold zac at h
  obtain ⟨d,hd,h⟩:=oBd h
  obtain ⟨r,hr,rfl⟩:=oMd h
  exact ⟨G₀,H₀,G,ρ,d,A,hd,fun v G1 H1 s1 r1=>h2 _ _ _ ⟨G₀,H₀,G1,ρ,r,A.step s1,hr,fun vs G' H' s2 r2=>k (v::vs) G' H' (s1.trans s2) (.cons (r1.mono s2.gg) r2)⟩⟩
 ·unfold zac at h
  obtain ⟨d,hd,h⟩:=oBd h
  obtain ⟨l,hr,rfl⟩:=oMd h
  simp [r.len ρ l hr]
def zpK (ks:List Str) (ds:List α):List (Key×α):=(ks.map Sum.inr).zip ds
theorem zid:∀ (more acc:List (Key×V)),(more.map (·.1)).Nodup->(∀ k∈more.map (·.1),k∉acc.map (·.1))->zey acc more=acc++more
 | [],acc,_,_=>by simp [zey]
 | (k,v)::r,acc,nd,ap=>by
  have h0:zeO acc k v=acc++[(k,v)]:=by
   unfold zeO
   rw [qW]
   intro h
   obtain ⟨kv,h1,h2⟩:=List.any_eq_true.mp h
   exact ap k (by simp) (List.mem_map.mpr ⟨kv,h1,of_decide_eq_true h2⟩)
  have ih:=zid r (acc++[(k,v)]) (List.nodup_cons.mp nd).2 (fun k' hk' hm=>?_)
  ·show zey (zeO acc k v) r=_
   rw [h0,ih,qv];rfl
  ·rw [List.map_append] at hm
   rcases List.mem_append.mp hm with hm | hm
   ·exact ap k' (by simp [hk']) hm
   ·have:k'=k:=by simpa using hm
    exact (List.nodup_cons.mp nd).1 (this▸hk')
def zvc (ks:List Str) (fr:FA):FE:=fun ρ=>(fr ρ).map fun ds=>.dk (zpK ks ds)
theorem zg2 {α β:Type}:∀ {l:List α} {m:List β},l.length=m.length->(l.zip m).map (·.1)=l
 | [],[],_=>rfl
 | [],_::_,h=>by simp at h
 | _::_,[],h=>by simp at h
 | x::l,y::m,h=>by simp [zg2 (l:=l) (m:=m) (by simpa using h)]
theorem ziO {α β:Type}:∀ {l:List α} {m:List β},l.length=m.length->(l.zip m).map (·.2)=m
 | [],[],_=>rfl
 | [],_::_,h=>by simp at h
 | _::_,[],h=>by simp at h
 | x::l,y::m,h=>by simp [ziO (l:=l) (m:=m) (by simpa using h)]
theorem zo0:∀ (ks:List Str) (vs:List V),(ks.map V.str).zip vs=(zpK ks vs).map fun kv=>(kV kv.1,kv.2)
 | [],_=>rfl
 | _::_,[]=>rfl
 | k::ks,v::vs=>by
  exact congrArg (fun z=>(V.str k,v)::z) (zo0 ks vs)
theorem zri (h:DPs Γ X pos keys values ks fr) (nd:ks.Nodup) (h0:ks≠[]) (h15:ks.length<=15) (hall:keys.all (·.isSome)=true:=by rfl) (hl:keys.length=values.length:=by rfl) (hk:keys.length=ks.length:=by rfl):DE Γ X (.Dict keys values pos) (zvc ks fr):=by
 obtain ⟨trs,h1,h2⟩:=h.ex
 refine ⟨(zqg h1 hall hl (fun z=>by rw [z] at hk;exact h0 (List.length_eq_zero_iff.mp hk.symm)) (by rw [hk];exact h15)).imp fun σ H Q=>?_⟩
 rintro ⟨G₀,H₀,G,ρ,d,A,hd,k⟩ p hp
 obtain ⟨ds,hds,rfl⟩:=oMd hd
 have s0:=Step.newOwn (o:=.dK []) A.gh hp
 refine h2 _ _ _ ⟨G₀,H₀,G,ρ,ds,A.step s0,hds,fun vs G2 H2 s1 r1=>?_⟩
 have hp2:H2 p=some (.dK []):=s1.hh _ _ zak
 have gp2:G2 p=none:=(s1.out _ _ zak).trans (A.gh.free hp)
 have s12:=s0.trans s1
 have back:Step G H G2 (fun b=>if b=p then none else H2 b):=by
  refine ⟨fun b o e=>?_,s12.gg,fun b o e=>?_,s12.out⟩
  ·show (if b=p then none else H2 b)=some o
   rw [qW (zal e hp)];exact s12.hh b o e
  ·show (if b=p then none else H2 b)=some o
   rw [qW (zal e gp2)];exact s12.gh b o e
 have hlen:(ks.map (Sum.inr:Str->Key)).length=vs.length:=by rw [qe,r1.length,h.len ρ ds hds]
 have hlen2:(ks.map (Sum.inr:Str->Key)).length=ds.length:=by rw [qe,h.len ρ ds hds]
 refine ⟨hp2,zpK ks vs,zo0 ks vs,?_,?_⟩
 ·unfold zpK;rw [List.length_zip];rw [qe];omega
 ·have e1:zey [] (zpK ks vs)=zpK ks vs:=by
   have:=zid (zpK ks vs) [] (by unfold zpK;rw [zg2 hlen];exact List.Pairwise.map _ (fun a b h z=>h (Sum.inr.inj z)) nd) (fun _ _ h=>by cases h)
   simpa using this
  rw [e1]
  have s3:=Step.new (p:=p) (o:=.dK (zpK ks vs)) back.gh (qV rfl)
  have hf:upd (fun b=>if b=p then none else H2 b) p (.dK (zpK ks vs))=upd H2 p (.dK (zpK ks vs)):=by
   funext b
   by_cases hb:b=p
   ·subst hb;rw [zak,zak]
   ·rw [zaj hb,zaj hb];exact qW hb
  rw [← hf]
  refine k _ _ _ (back.trans s3) (.dk (us:=zpK ks vs) zak ?_ ?_)
  ·unfold zpK;rw [zg2 hlen,zg2 hlen2]
  ·unfold zpK;rw [ziO hlen,ziO hlen2];exact r1.mono s3.gg
end
section
variable {fr:FA}
def fl2:D->Bool
 | .tup l=>l.all zio
 | .dk l=>(l.map (·.2)).all zio
 | d=>zio d
theorem Reps.flat {K:PySem.W.Frag} {G G':Hp}:∀ {vs:List V} {ds:List D},Reps Γ K G vs ds->ds.all zio=true->Reps Γ K G' vs ds
 | _,_,.nil,_=>.nil
 | _,_,.cons r t,h=>by
  rw [List.all_cons,Bool.and_eq_true] at h
  exact .cons (r.flat h.1) (t.flat h.2)
theorem Rep.but {xs:List V} (gh:zbh G H) (ha:H a=some (.lst xs)) (r:Rep Γ K G v d) (h:fl2 d=true):Rep Γ K (bt a G) v d:=by
 cases r with
 | tup h1 h2=>exact .tup (by rw [zoT (zl3 (gh _ _ h1) ha (by intro z;cases z))];exact h1) (h2.flat h)
 | dk h1 h2 h3=>exact .dk (by rw [zoT (zl3 (gh _ _ h1) ha (by intro z;cases z))];exact h1) h2 (h3.flat h)
 | non=>exact .non
 | bl b=>exact .bl b
 | int i=>exact .int i
 | str x=>exact .str x
 | ty x=>exact .ty x
 | lst h1 h2=>cases h
 | scr h1=>cases h
 | dt h1 h2 h3=>cases h
 | ins h1 h2 h3 h4=>cases h
theorem Reps.but {K:PySem.W.Frag} {G H:Hp} {a:Addr} {xs:List V} (gh:zbh G H) (ha:H a=some (.lst xs)):∀ {vs:List V} {ds:List D},Reps Γ K G vs ds->ds.all fl2=true->Reps Γ K (bt a G) vs ds
 | _,_,.nil,_=>.nil
 | _,_,.cons r t,h=>by
  rw [List.all_cons,Bool.and_eq_true] at h
  exact .cons (r.but gh ha h.1) (t.but gh ha h.2)
theorem At.freeze2 (A:At Γ K G₀ H₀ G H ρ σ) (hi:ρ[i]?=some (some (.own ds))):∃ a xs G1,H a=some (.lst xs)/\At Γ K G₀ H₀ G1 H (ρ.set i (some (.sh (.lst ds)))) σ/\∀ G' H',Step G1 H G' H'->Step G H (bt a G') H':=by
 obtain ⟨v,fp,h1,h2⟩:=A.get hi
 cases h2 with
 | own q1 q2 q3 q4 =>
  rename_i a vs
  have sm:zbh G (upd G a (.lst vs)):=fun b o e=>by rw [zaj (zal e q2)];exact e
  refine ⟨a,vs,upd G a (.lst vs),q3,A.ch hi h1 (.own q1 q2 q3 q4) (fun b o e hb=>e) (.sh (.lst zak (q4.mono sm))) (fun b hb=>by cases hb) sm (fun b o e=>?_) (fun b o e hb=>?_),fun G' H' s=>⟨s.hh,fun b o e=>?_,fun b o e=>s.gh b o (zrp e).2,fun b o e=>?_⟩⟩
  ·by_cases hb:b=a
   ·subst hb;rw [zak] at e;cases e;exact q3
   ·rw [zaj hb] at e;exact A.gh b o e
  ·rw [zaj (fun z=>hb (List.mem_singleton.mpr z))]
  ·rw [zoT (zal e q2)];exact s.gg b o (sm b o e)
  ·by_cases hb:b=a
   ·subst hb;rw [zrq,q2]
   ·rw [zoT hb,s.out b o e,zaj hb]
def bw2 (j:Nat) (f:FE):FE:=fun ρ=>match ρ[j]? with
 | some (some (.own ds))=>(f (ρ.set j (some (.sh (.lst ds))))).bind fun d=>if fl2 d=true then some d else none
 | _=>none
theorem zpv (j:Nat) (h:DE Γ X e f):DE Γ X e (bw2 j f):=⟨h.1.imp fun σ H Q=>by
 rintro ⟨G₀,H₀,G,ρ,d,A,h,k⟩
 unfold bw2 at h
 split at h
 ·rename_i ds hi
  obtain ⟨l,hl,h⟩:=oBd h
  split at h
  ·rename_i hf
   cases h
   obtain ⟨a,xs,G1,ha,A1,bk⟩:=A.freeze2 hi
   exact ⟨G₀,H₀,G1,_,d,A1,hl,fun v G' H' s r=>k v (bt a G') H' (bk G' H' s) (r.but s.gh (s.hh _ _ ha) hf)⟩
  ·cases h
 ·cases h⟩
def bwA (j:Nat) (fr:FA):FA:=fun ρ=>match ρ[j]? with
 | some (some (.own ds))=>(fr (ρ.set j (some (.sh (.lst ds))))).bind fun l=>if l.all fl2=true then some l else none
 | _=>none
theorem zpy (j:Nat):∀ σ H Q,TDo Γ X.K (bwA j fr) σ H Q->TDo Γ X.K fr σ H Q:=by
 rintro σ H Q ⟨G₀,H₀,G,ρ,d,A,h,k⟩
 unfold bwA at h
 split at h
 ·rename_i ds hi
  obtain ⟨l,hl,h⟩:=oBd h
  split at h
  ·rename_i hf
   cases h
   obtain ⟨a,xs,G1,ha,A1,bk⟩:=A.freeze2 hi
   exact ⟨G₀,H₀,G1,_,d,A1,hl,fun p vs G' H' s hp r=>k p vs (bt a G') H' (bk G' H' s) hp (r.but s.gh (s.hh _ _ ha) hf)⟩
  ·cases h
 ·cases h
theorem zvb (j:Nat) (h:DO Γ X e fr):DO Γ X e (bwA j fr):=⟨h.1.imp (zpy j)⟩
theorem zir (i j:Nat) (hN:X.N.Nodup) (hc:X.calm=true) (S:CompScope X scope) (F:FvOk X N' scope fv) (hi:DI Γ X tg iter fi) (hb:DB Γ X N' scope tg ifs elt gg ft fe)
  (hy:X.N[i]?=some y:=by rfl) (hyl:X.env.scope.names.lookup y=some .local:=by rfl) (hsw:swapsWith (.ListComp elt [⟨tg,iter,ifs,0⟩] scope pos) (some (.Name y py)) spos.line X.env=pure true:=by rfl) (hs:∀ x,foldedSetIterable iter X.env x=pure x:=by intro _;rfl) :
  DS Γ X (.Assign [.Name y py] (.ListComp elt [⟨tg,iter,ifs,0⟩] scope pos) spos) (zdV i (bwA j (zaw fi gg ft fe fv))):=⟨(zsv hN hy hyl hc S F hi.1 hb.pb hsw hs).imp fun E σ H q=>zhA (hb.1 [] 0 X.s₀ X.H₀ []).1.no σ H _ (zpy j σ H _ (zpc E σ H q))⟩
end
section
variable {c:Str}
theorem zoF {k:Nat} {F:List D->Option (List D)} (C:CalMO Γ X.prog X.w X.K X.mg X.base c m 1 k F) (hr:Room j X.A) (hk:k<=j) (ho:DE Γ X o fo)
  (ht:eval (.Call (.Attribute o m apos) [] [] pos) X.env=(do
   let ov ← eval o X.env
   standAt apos.atName
   let (f,first) ← holding [ov] (getMethod ov m pl)
   callWith pos f first (backTo pos (starEach [] X.env)) (backToKw pos (keywordEach [] X.env))):=by rfl) :
  DO Γ X (.Call (.Attribute o m apos) [] [] pos) (zmb c m F fo zai):=⟨by
 obtain ⟨Ca,f,fd,ps,h0,h1,h2,h3,h4⟩:=C.ex
 refine (zjR ho.1 h1 h2 h3 (hr.mono hk) h4 .nil zkJ ht).imp fun σ H Q=>?_
 rintro ⟨G₀,H₀,G,ρ,rs,A,h,k⟩
 unfold zmb at h
 obtain ⟨x,hx,hq⟩:=oBd h
 clear h
 refine ⟨G₀,H₀,G,ρ,x,A,hx,fun v G1 H1 s1 r1=>?_⟩
 split at hq
 ·rename_i c' fs
  split at hq
  ·rename_i hz
   obtain ⟨rfl,hz2⟩:=hz
   obtain ⟨ds,hds,hF⟩:=oBd hq
   have r1':=r1
   cases r1 with
   | ins g1 g2 g3 g4 =>
    rw [h0] at g2
    cases g2
    rename_i _ _ us0
    have hl:List.lookup m us0=none:=by
     rcases zbZ (k:=m) g3 g4 with ⟨_,z2⟩ | ⟨d',v',z1,_,_⟩
     ·exact z2
     ·rw [z1] at hz2;cases hz2
    cases hds
    refine ⟨_,_,_,rfl,s1.gh _ _ g1,hl,?_⟩
    exact ⟨G1,_,rs,s1.gh,.cons r1' .nil,rfl,hF,fun p us G' H' s hp r=>k p us G' H' (s1.trans s) hp r⟩
  ·cases hq
 ·cases hq⟩
end
theorem zrX (us:List Value):us=(List.range us.length).map fun i=>us.getD i .none:=by
 apply List.ext_getElem
 ·simp
 ·intro i h1 h2
  simp [List.getD_eq_getElem?_getD,qB h1]
theorem bn {F:Value->Value->Value->Option Addr->Value->Value->FuncData} (h:∀ a b c d e f (v:Nat->Value),bindArgs (F a b c d e f) ⟨(List.range ps.length).map v,[]⟩=pure (ps.zip ((List.range ps.length).map v))) (a b c:Value) (d:Option Addr) (e f:Value) (us:List Value) (hl:us.length=ps.length) :
  bindArgs (F a b c d e f) ⟨us,[]⟩=pure (ps.zip us):=by
 have:=h a b c d e f fun i=>us.getD i .none
 rw [← hl,← zrX us] at this
 exact this
namespace Law
abbrev oS (d:D):Option Slot:=some (.sh d)
end Law
abbrev FQ:=List D->Option D
namespace Law
theorem dC {fr:FA} {k:Nat} {F:FQ} (C:Cal Γ X.prog X.w X.K X.mg X.base x n k F) (hr:Room j X.A) (ha:DA Γ X (e::es) fr) (hn:∀ ρ ds,fr ρ=some ds->ds.length=n) (hk:k<=j:=by decide) (hg:Gl X x:=by exact rfl) (hdb:(x==("__debug__":Str))=false:=by decide) (he:starEach (e::es) X.env=(false,eval e X.env)::starEach es X.env:=by rfl) (hpl:(backTo pos (starEach es X.env)).any (·.1)=false:=by rfl):DE Γ X (.Call (.Name x p) (e::es) [] pos) (cF F fr):=zd2 C hr hk hg ha hn hdb he hpl
theorem zaT {P:List Str} (a:sc.kind=.function:=by rfl) (b:sc.isCoroutine=false:=by rfl) (c:sc.isGenerator=false:=by rfl) (d:N.Nodup:=by decide +kernel) (e:N.take P.length=P:=by rfl) (f:∀ x∈P,sc.names.lookup x=some .local∨sc.names.lookup x=some .cell:=by decide +kernel) (g:∀ y∈sc.names,y.2≠.free:=by decide +kernel):FnScope N P sc:=⟨a,b,c,d,e,f,g⟩
def top (i:Nat):Stmt:=PySem.Challenge.pw_shopbound_k68_rows_by_rules.main.body.getD i (.Pass ⟨0,0,0,0⟩)
def znj:List Str:=["benches","steps","jobs","setups","links","stocks","horizon","bench_by_name","step_by_name","setup_by_names","job_by_step"]
def Gam (C_Shop:Addr):Cn:=⟨fun c=>if c="Shop" then some C_Shop else none,none⟩
def zdq:FQ:=zby 1
  (zar (sIf (toB (b2 ltD (vSh 1) (cF zcT (zac (vSh 0) zai)))) (zaJ (b2 ixD (vSh 0) (vSh 1))) zbd) (zar (zbq 2 (b2 zbY (b2 zbY (b2 zfG (b2 zfG (vSh 1) (vSh 1)) (vC (.int 48271))) (b2 zfG (vC (.int 7919)) (vSh 1))) (vC (.int 11)))) (zar (sIf (toB (b2 gtD (cF zcT (zac (vSh 0) zai)) (vC (.int 0)))) (zbq 2 (b2 zbY (vSh 2) (b2 zfG (b2 zbQ (b2 ixD (vSh 0) (b2 zbQ (b2 zfG (vSh 1) (vC (.int 7))) (cF zcT (zac (vSh 0) zai)))) (vC (.int 2147483647))) (b2 zbY (b2 zfG (vSh 1) (vSh 1)) (vC (.int 69621)))))) zbd) (zaJ (b2 zbY (b2 zfG (b2 zbQ (b2 zfG (vSh 2) (vSh 2)) (vC (.int 2147483629))) (vC (.int 982451653))) (vSh 2))))))
def zbl:FQ:=zby 2
  (zar (zbq 2 (cF zdq (zac (vSh 0) (zac (vSh 1) zai)))) (zar (sIf (zhR (toB (b2 ltD (vSh 1) (cF zcT (zac (vSh 0) zai)))) (toB (b2 geD (vSh 2) (b2 znU (vC (.int 10)) (vC (.int 18)))))) (zaJ (b2 zbQ (vSh 2) (b2 zs2 (b2 znU (vC (.int 10)) (vC (.int 60))) (b2 znU (vC (.int 10)) (vC (.int 60)))))) zbd) (zar (zbq 3 (b2 zbY (b2 zbY (b2 zbQ (vSh 2) (vC (.int 2147483629))) (vC (.int 48271))) (b2 zfG (vSh 1) (vSh 1)))) (zaJ (b2 za4 (b2 znU (b2 zbY (b2 zfG (vSh 3) (vC (.int 982451653))) (vC (.int 7))) (vC (.int 7))) (vC (.int 1000003)))))))
def zcI:FQ:=zby 5
  (zar (zdV 2 (szF zai)) (zar (zbq 3 (b2 zbQ (vSh 0) (vC (.int 9)))) (zar (zcS (itR ziK (zac (b2 zbQ (b2 za4 (vSh 0) (vC (.int 9))) (vC (.int 3))) zai)) (zau 4) (zar (zbq 5 (b2 zbY (vSh 3) (b2 zbQ (b2 za4 (vSh 0) (b2 zbY (vC (.int 27)) (b2 zfG (vC (.int 20)) (vSh 4)))) (vC (.int 7))))) (zar (zbq 6 (b2 zbY (b2 zbY (vSh 5) (vC (.int 1))) (b2 zbQ (b2 za4 (vSh 0) (b2 zbY (vC (.int 300)) (b2 zfG (vC (.int 70)) (vSh 4)))) (vC (.int 5))))) (zar (sIf (toB (b2 leD (vSh 6) (vSh 1))) (zek 2 (zbJ (szF (zac (vSh 5) (zac (vSh 6) zai))))) zbd) (zbq 3 (b2 zbY (vSh 6) (vC (.int 1)))))))) (zeN 2 (zaJ (vSh 2))))))
def zdm:FQ:=zby 5
  (zar (zbq 3 (b2 zbQ (vSh 0) (cF zcT (zac (vSh 1) zai)))) (zar (zdV 4 (szF (zac (zbJ (szF (zac (b2 ixD (b2 ixD (vSh 1) (vSh 3)) (vC (.int 0))) (zac (b2 zbY (vC (.int 1)) (b2 zbQ (b2 za4 (vSh 0) (vC (.int 3))) (cF zma (zac (vC (.int 6)) (zac (vSh 2) zai))))) zai)))) zai))) (zar (zbq 5 (b2 ixD (zbb (szF (zac (vC (.int 0)) (zac (vC (.int 1)) (zac (vC (.int 1)) (zac (vC (.int 2)) (zac (vC (.int 3)) zai))))))) (b2 zbQ (b2 za4 (vSh 0) (vC (.int 18))) (vC (.int 5))))) (zar (zcS (itR znP (zac (vC (.int 1)) (zac (cF zma (zac (cF zcT (zac (vSh 1) zai)) (zac (b2 zbY (vSh 5) (vC (.int 1))) zai))) zai))) (zau 6) (zar (zbq 7 (b2 ixD (b2 ixD (vSh 1) (b2 zbQ (b2 zbY (vSh 3) (vSh 6)) (cF zcT (zac (vSh 1) zai)))) (vC (.int 0)))) (zek 4 (zbJ (szF (zac (vSh 7) (zac (b2 zbY (vC (.int 1)) (b2 zbQ (b2 za4 (vSh 0) (b2 ixD (zbb (szF (zac (vC (.int 1)) (zac (vC (.int 90)) (zac (vC (.int 540)) (zac (vC (.int 3240)) zai)))))) (vSh 6))) (cF zma (zac (vC (.int 6)) (zac (vSh 2) zai))))) zai))))))) (zeN 4 (zaJ (vSh 4)))))))
def zdp:FQ:=zby 7
  (zar (zud 3 fun _=>some 3) (zar (zcS (itR ziK (zac (cF zcT (zac (vSh 1) zai)) zai)) (zau 4) (zgK 3 (b2 zbQ (b2 za4 (vSh 0) (b2 ixD (zbb (szF (zac (vC (.int 1)) (zac (vC (.int 3)) (zac (vC (.int 9)) (zac (vC (.int 27)) (zac (vC (.int 81)) (zac (vC (.int 243)) (zac (vC (.int 729)) (zac (vC (.int 2187)) zai)))))))))) (b2 zbQ (vSh 4) (vC (.int 8))))) (vC (.int 3))) (b2 ixD (b2 ixD (vSh 1) (vSh 4)) (vC (.int 0))))) (zar (zbq 0 (b2 za4 (vSh 0) (vC (.int 6561)))) (zar (zdV 5 (szF zai)) (zjK 3 (zar (zcS (itR ziK (zac (vC (.int 2)) zai)) (zau 4) (zar (zbq 6 (b2 ixD (vSh 3) (b2 zbY (vSh 4) (vC (.int 1))))) (zar (sIf (toB (b2 eqD (b2 zbQ (b2 za4 (vSh 0) (b2 zbY (vC (.int 2)) (vSh 4))) (vC (.int 3))) (vC (.int 0)))) (zbq 6 (b1 zuf (vSh 6))) zbd) (zar (zbq 7 (b2 ixD (zbb (szF (zac (vC (.int 0)) (zac (b2 zbQ (b2 za4 (vSh 0) (b2 zbY (vC (.int 30)) (b2 zfG (vC (.int 7)) (vSh 4)))) (cF zma (zac (vC (.int 6)) (zac (vSh 2) zai)))) zai)))) (b2 zbQ (b2 za4 (vSh 0) (b2 zbY (vC (.int 9)) (vSh 4))) (vC (.int 2))))) (zar (zbq 8 (b2 zbQ (b2 za4 (vSh 0) (b2 zbY (vC (.int 200)) (b2 zfG (vC (.int 11)) (vSh 4)))) (cF zma (zac (vC (.int 9)) (zac (vSh 2) zai))))) (zar (zbq 9 (b2 ziQ (vSh 2) (b2 ixD (zbb (szF (zac (vC (.int 0)) (zac (vC (.int 0)) (zac (vSh 8) zai))))) (b2 zbQ (b2 za4 (vSh 0) (b2 zbY (vC (.int 17)) (vSh 4))) (vC (.int 3)))))) (sIf (toB (b2 neA (vSh 6) (zbb (szF zai)))) (zek 5 (zbJ (szF (zac (b2 ixD (zbb (szF (zac (vC (.str "first")) (zac (vC (.str "second")) zai)))) (vSh 4)) (zac (vSh 7) (zac (vSh 9) (zac (b2 eqD (b2 zbQ (b2 za4 (vSh 0) (b2 zbY (vC (.int 5)) (vSh 4))) (vC (.int 2))) (vC (.int 0))) (zac (vSh 6) zai)))))))) zbd))))))) (zeN 5 (zaJ (vSh 5)))))))))
def zcH:FQ:=zby 5
  (zar (zdV 2 (szF zai)) (zar (zcS (itR ziK (zac (cF zcT (zac (vSh 1) zai)) zai)) (zau 3) (zcS (itF (zbb (szF (zac (vC (.str "red")) (zac (vC (.str "blue")) zai))))) (zau 4) (zcS (itF (zbb (szF (zac (vC (.str "red")) (zac (vC (.str "blue")) zai))))) (zau 5) (zar (zbq 6 (b2 ziQ (b2 zbQ (vSh 0) (vC (.int 7))) (vC (.int 3)))) (zar (zbq 0 (b2 za4 (vSh 0) (vC (.int 7)))) (sIf (toB (b2 gtD (vSh 6) (vC (.int 0)))) (zek 2 (zbJ (szF (zac (b2 ixD (b2 ixD (vSh 1) (vSh 3)) (vC (.int 0))) (zac (vSh 4) (zac (vSh 5) (zac (vSh 6) zai))))))) zbd)))))) (zeN 2 (zaJ (vSh 2)))))
def zcZ:FQ:=zby 5
  (zar (zdV 2 (szF zai)) (zar (zcS (itR ziK (zac (b2 zbQ (vSh 0) (vC (.int 4))) zai)) (zau 3) (zar (zbq 0 (b2 zbY (b2 za4 (vSh 0) (vC (.int 5))) (vC (.int 3)))) (zar (zbq 4 (b2 ixD (b2 ixD (vSh 1) (b2 zbQ (vSh 0) (cF zcT (zac (vSh 1) zai)))) (vC (.int 0)))) (zar (zbq 5 (b2 ixD (b2 ixD (vSh 1) (b2 zbQ (b2 za4 (vSh 0) (vC (.int 8))) (cF zcT (zac (vSh 1) zai)))) (vC (.int 0)))) (zar (sIf (toB (b2 gtD (b2 zbQ (b2 za4 (vSh 0) (vC (.int 64))) (vC (.int 4))) (vC (.int 0)))) (zuM (zov 2 (zaq (zau 4) (zaq (zau 5) zbN))) (cF zfW (zac (zbb (szF (zac (vSh 4) (zac (vSh 5) zai)))) zai))) zbd) (zar (zdV 6 (bwA 2 (zaw (itF (vSh 2)) (zau 0) tT (slF (vSh 0) pN (pS (vC (.int 2)))) [none]))) (sIf (bwT 6 (zhR (toB (b2 neA (vSh 4) (vSh 5))) (toB (b2 zcf (zbJ (szF (zac (vSh 4) (zac (vSh 5) zai)))) (vSh 6))))) (zek 2 (zbJ (szF (zac (vSh 4) (zac (vSh 5) (zac (b2 zbQ (b2 za4 (vSh 0) (vC (.int 256))) (vC (.int 5))) zai)))))) zbd))))))) (zeN 2 (zaJ (vSh 2)))))
def zcG:FQ:=zby 4
  (zar (sIf (toB (b2 gtD (b2 zbQ (vSh 0) (vC (.int 3))) (vC (.int 0)))) (zaJ (zbb (szF zai))) zbd) (zar (zdV 2 (szF zai)) (zar (zdV 3 (szF zai)) (zar (zcS (itR ziK (zac (cF zcT (zac (vSh 1) zai)) zai)) (zau 4) (zar (zbq 0 (b2 zbY (b2 za4 (vSh 0) (vC (.int 4))) (vC (.int 7)))) (zar (sIf (toB (b2 eqD (b2 zbQ (vSh 0) (vC (.int 4))) (vC (.int 1)))) (zek 2 (zbJ (szF (zac (b2 ixD (b2 ixD (vSh 1) (vSh 4)) (vC (.int 0))) (zac (b2 zbY (vC (.int 1)) (b2 zbQ (b2 za4 (vSh 0) (vC (.int 4))) (vC (.int 3)))) zai))))) zbd) (sIf (orT (toB (b2 eqD (b2 zbQ (vSh 0) (vC (.int 4))) (vC (.int 2)))) (toB (b2 eqD (b2 zbQ (vSh 0) (vC (.int 16))) (vC (.int 5))))) (zek 3 (zbJ (szF (zac (b2 ixD (b2 ixD (vSh 1) (vSh 4)) (vC (.int 0))) (zac (b2 zbY (vC (.int 1)) (b2 zbQ (b2 za4 (vSh 0) (vC (.int 16))) (vC (.int 3)))) zai))))) zbd)))) (zar (zbq 5 (b2 zbQ (b2 za4 (vSh 0) (vC (.int 64))) (vC (.int 6)))) (zeN 2 (zeN 3 (zaJ (zbb (szF (zac (zbJ (szF (zac (vC (.str "pile")) (zac (vSh 5) (zac (b2 zbY (vSh 5) (b2 zbQ (b2 za4 (vSh 0) (vC (.int 512))) (vC (.int 5)))) (zac (vSh 2) (zac (vSh 3) zai))))))) zai)))))))))))
def zcy:FQ:=zby 10
  (zar (zbq 2 (b2 za4 (cF zbl (zac (vSh 0) (zac (vC (.int 0)) zai))) (vC (.int 2)))) (zar (zbq 3 (b2 zbY (vC (.int 9)) (b2 zbQ (vSh 2) (vC (.int 32))))) (zar (zdV 4 (szF zai)) (zar (zcS (itR ziK (zac (b2 zbY (vC (.int 1)) (b2 zbQ (b2 za4 (vSh 2) (vC (.int 32))) (vC (.int 4)))) zai)) (zau 5) (zek 4 (zbJ (szF (zac (b2 zbY (b2 ixD (vC (.str "xyzw")) (vSh 5)) (slF (vC (.str "bench")) pN (pS (b2 zbQ (b2 za4 (vSh 2) (vC (.int 96))) (vC (.int 6)))))) (zac (cF zcI (zac (cF zbl (zac (vSh 0) (zac (b2 zbY (vC (.int 10)) (vSh 5)) zai))) (zac (vSh 3) zai))) zai)))))) (zar (zdV 6 (szF zai)) (zeN 4 (zar (zcS (itR ziK (zac (b2 zbY (vC (.int 1)) (b2 zbQ (b2 za4 (vSh 2) (vC (.int 576))) (vSh 1))) zai)) (zau 5) (zar (zbq 7 (cF zbl (zac (vSh 0) (zac (b2 zbY (vC (.int 20)) (vSh 5)) zai)))) (zar (zbq 8 (cF zdm (zac (b2 za4 (vSh 7) (vC (.int 2))) (zac (vSh 4) (zac (vSh 3) zai))))) (zek 6 (zbJ (szF (zac (b2 zbY (b2 ixD (vC (.str "dhbfacge")) (vSh 5)) (slF (vC (.str "step")) pN (pS (b2 zbQ (b2 za4 (vSh 2) (vC (.int 5000))) (vC (.int 5)))))) (zac (b2 ixD (zbb (szF (zac (vC (.str "red")) (zac (vC (.str "blue")) zai)))) (b2 zbQ (vSh 7) (vC (.int 2)))) (zac (vSh 8) zai))))))))) (zeN 6 (zar (zbq 9 (cF zdp (zac (cF zbl (zac (vSh 0) (zac (vC (.int 3)) zai))) (zac (vSh 6) (zac (vSh 3) zai))))) (zar (zbq 10 (cF zcH (zac (cF zbl (zac (vSh 0) (zac (vC (.int 4)) zai))) (zac (vSh 4) zai)))) (zar (zbq 11 (cF zcZ (zac (cF zbl (zac (vSh 0) (zac (vC (.int 5)) zai))) (zac (vSh 6) zai)))) (zaJ (zbJ (szF (zac (vSh 4) (zac (vSh 6) (zac (vSh 9) (zac (vSh 10) (zac (vSh 11) (zac (cF zcG (zac (cF zbl (zac (vSh 0) (zac (vC (.int 6)) zai))) (zac (vSh 6) zai))) (zac (vSh 3) zai)))))))))))))))))))))
def zdO:FQ:=zby 0
  (zaJ (zd4 (cF zeZ (zac (vSh 0) (zac (vC (.ty "int")) zai))) (zuj (cF zeZ (zac (vSh 0) (zac (vC (.ty "bool")) zai))))))
def zaR:FQ:=zby 0
  (zaJ (zd4 (cF zdO (zac (vSh 0) zai)) (chD leD leD (vSh 1) (vSh 0) (vSh 2))))
def zaS:FQ:=zby 0
  (zaJ (zd4 (cF zeZ (zac (vSh 0) (zac (vC (.ty "tuple")) zai))) (b2 eqD (cF zcT (zac (vSh 0) zai)) (vSh 1))))
def zdR:FQ:=zby 0
  (zar (sIf (orT (zbR (toB (cF zaS (zac (vSh 0) (zac (vC (.int 2)) zai))))) (orT (zbR (toB (cF zaR (zac (b2 ixD (vSh 0) (vC (.int 0))) (zac (vC (.int 0)) (zac (vSh 1) zai)))))) (zbR (toB (cF zaR (zac (b2 ixD (vSh 0) (vC (.int 1))) (zac (vC (.int 0)) (zac (vSh 1) zai)))))))) (zaJ (vC (.bl false))) zbd) (zaJ (b2 ltD (b2 ixD (vSh 0) (vC (.int 0))) (b2 ixD (vSh 0) (vC (.int 1))))))
def zbt:FQ:=zby 0
  (zaJ (zd4 (cF zeZ (zac (vSh 0) (zac (vC (.ty "list")) zai))) (chD leD leD (vSh 1) (cF zcT (zac (vSh 0) zai)) (vSh 2))))
def zdJ:FQ:=zby 0
  (zar (sIf (orT (zbR (toB (cF zbt (zac (vSh 0) (zac (vC (.int 0)) (zac (vC (.int 10)) zai)))))) (zbR (toB (cF ziH (zac (zbb (zaw (itF (vSh 0)) (zau 0) tT (cF zdR (zac (vSh 0) (zac (vSh 1) zai))) [none,some 1])) zai))))) (zaJ (vC (.bl false))) zbd) (zaJ (cF ziH (zac (zbb (zaw (itR znP (zac (vC (.int 1)) (zac (cF zcT (zac (vSh 0) zai)) zai))) (zau 0) tT (b2 ltD (b2 ixD (b2 ixD (vSh 1) (b2 ziQ (vSh 0) (vC (.int 1)))) (vC (.int 1))) (b2 ixD (b2 ixD (vSh 1) (vSh 0)) (vC (.int 0)))) [none,some 0])) zai))))
def zb3:FQ:=zby 0
  (zar (sIf (orT (zbR (toB (cF zeZ (zac (vSh 0) (zac (vC (.ty "str")) zai))))) (zbR (toB (chD leD leD (vC (.int 1)) (cF zcT (zac (vSh 0) zai)) (vC (.int 8)))))) (zaJ (vC (.bl false))) zbd) (zaJ (cF ziH (zac (zbb (zaw (itS (vSh 0)) (zau 0) tT (chD leD leD (vC (.str "a")) (vSh 0) (vC (.str "z"))) [none])) zai))))
def zdS:FQ:=zby 0
  (zaJ (zd4 (cF zaS (zac (vSh 0) (zac (vC (.int 2)) zai))) (zd4 (cF zb3 (zac (b2 ixD (vSh 0) (vC (.int 0))) zai)) (cF zdJ (zac (b2 ixD (vSh 0) (vC (.int 1))) (zac (vSh 1) zai))))))
def zaz:FQ:=zby 0
  (zaJ (b2 eqD (b1 zeY (vSh 0)) (cF zcT (zac (vSh 0) zai))))
def zdl:FQ:=zby 0
  (zar (sIf (orT (zbR (toB (cF zbt (zac (vSh 0) (zac (vC (.int 1)) (zac (vC (.int 8)) zai)))))) (zbR (toB (cF ziH (zac (zbb (zaw (itF (vSh 0)) (zau 0) tT (cF zdS (zac (vSh 0) (zac (vSh 1) zai))) [none,some 1])) zai))))) (zaJ (vC (.bl false))) zbd) (zaJ (cF zaz (zac (zbb (zaw (itF (vSh 0)) (zau 0) tT (b2 ixD (vSh 0) (vC (.int 0))) [none])) zai))))
def zbv:FQ:=zby 0
  (zaJ (zd4 (cF zb3 (zac (vSh 0) zai)) (b2 zjb (vSh 0) (vSh 1))))
def zfK:FQ:=zby 0
  (zaJ (zd4 (cF zaS (zac (vSh 0) (zac (vC (.int 2)) zai))) (zd4 (cF zbv (zac (b2 ixD (vSh 0) (vC (.int 0))) (zac (vSh 1) zai))) (cF zaR (zac (b2 ixD (vSh 0) (vC (.int 1))) (zac (vC (.int 1)) (zac (vSh 2) zai)))))))
def ze7:FQ:=zby 0
  (zar (sIf (orT (zbR (toB (cF zbt (zac (vSh 0) (zac (vC (.int 1)) (zac (vC (.int 4)) zai)))))) (zbR (toB (cF ziH (zac (zbb (zaw (itF (vSh 0)) (zau 0) tT (cF zfK (zac (vSh 0) (zac (vSh 1) (zac (vSh 2) zai)))) [none,some 1,some 2])) zai))))) (zaJ (vC (.bl false))) zbd) (zaJ (cF zaz (zac (zbb (zaw (itF (vSh 0)) (zau 0) tT (b2 ixD (vSh 0) (vC (.int 0))) [none])) zai))))
def zeL:FQ:=zby 0
  (zar (sIf (orT (zbR (toB (cF zaS (zac (vSh 0) (zac (vC (.int 3)) zai))))) (orT (zbR (toB (cF zb3 (zac (b2 ixD (vSh 0) (vC (.int 0))) zai)))) (zbR (toB (cF zb3 (zac (b2 ixD (vSh 0) (vC (.int 1))) zai)))))) (zaJ (vC (.bl false))) zbd) (zaJ (cF ze7 (zac (b2 ixD (vSh 0) (vC (.int 2))) (zac (vSh 1) (zac (vSh 2) zai))))))
def zeh:FQ:=zby 0
  (zar (sIf (orT (zbR (toB (cF zbt (zac (vSh 0) (zac (vC (.int 1)) (zac (vC (.int 40)) zai)))))) (zbR (toB (cF ziH (zac (zbb (zaw (itF (vSh 0)) (zau 0) tT (cF zeL (zac (vSh 0) (zac (vSh 1) (zac (vSh 2) zai)))) [none,some 1,some 2])) zai))))) (zaJ (vC (.bl false))) zbd) (zaJ (cF zaz (zac (zbb (zaw (itF (vSh 0)) (zau 0) tT (b2 ixD (vSh 0) (vC (.int 0))) [none])) zai))))
def zhP:FQ:=zby 0
  (zar (sIf (orT (zbR (toB (cF zaS (zac (vSh 0) (zac (vC (.int 5)) zai))))) (orT (zbR (toB (cF zb3 (zac (b2 ixD (vSh 0) (vC (.int 0))) zai)))) (zbR (toB (cF zeZ (zac (b2 ixD (vSh 0) (vC (.int 3))) (zac (vC (.ty "bool")) zai))))))) (zaJ (vC (.bl false))) zbd) (zar (sIf (orT (zbR (toB (cF zaR (zac (b2 ixD (vSh 0) (vC (.int 1))) (zac (vC (.int 0)) (zac (vSh 2) zai)))))) (zbR (toB (cF zaR (zac (b2 ixD (vSh 0) (vC (.int 2))) (zac (vC (.int 0)) (zac (vSh 2) zai))))))) (zaJ (vC (.bl false))) zbd) (zaJ (zd4 (cF zbt (zac (b2 ixD (vSh 0) (vC (.int 4))) (zac (vC (.int 1)) (zac (cF zcT (zac (vSh 1) zai)) zai)))) (cF ziH (zac (zbb (zaw (itF (b2 ixD (vSh 0) (vC (.int 4)))) (zau 0) tT (cF zbv (zac (vSh 0) (zac (vSh 1) zai))) [none,some 1])) zai))))))
def ze8:FQ:=zby 2
  (zar (sIf (orT (zbR (toB (cF zbt (zac (vSh 0) (zac (vC (.int 0)) (zac (vC (.int 40)) zai)))))) (zbR (toB (cF ziH (zac (zbb (zaw (itF (vSh 0)) (zau 0) tT (cF zhP (zac (vSh 0) (zac (vSh 1) (zac (vSh 2) zai)))) [none,some 1,some 2])) zai))))) (zaJ (vC (.bl false))) zbd) (zar (zdV 3 (szF zai)) (zar (zcS (itF (vSh 0)) (zau 4) (zld 3 (b2 ixD (vSh 4) (vC (.int 4))))) (zeN 3 (zaJ (zd4 (cF zaz (zac (zbb (zaw (itF (vSh 0)) (zau 0) tT (b2 ixD (vSh 0) (vC (.int 0))) [none])) zai)) (cF zaz (zac (vSh 3) zai))))))))
def zdQ:FQ:=zby 0
  (zar (sIf (orT (zbR (toB (cF zaS (zac (vSh 0) (zac (vC (.int 4)) zai))))) (zbR (toB (cF zbv (zac (b2 ixD (vSh 0) (vC (.int 0))) (zac (vSh 1) zai)))))) (zaJ (vC (.bl false))) zbd) (zaJ (zd4 (cF zb3 (zac (b2 ixD (vSh 0) (vC (.int 1))) zai)) (zd4 (cF zb3 (zac (b2 ixD (vSh 0) (vC (.int 2))) zai)) (cF zaR (zac (b2 ixD (vSh 0) (vC (.int 3))) (zac (vC (.int 1)) (zac (vSh 2) zai))))))))
def zdI:FQ:=zby 0
  (zar (sIf (orT (zbR (toB (cF zbt (zac (vSh 0) (zac (vC (.int 0)) (zac (vC (.int 100)) zai)))))) (zbR (toB (cF ziH (zac (zbb (zaw (itF (vSh 0)) (zau 0) tT (cF zdQ (zac (vSh 0) (zac (vSh 1) (zac (vSh 2) zai)))) [none,some 1,some 2])) zai))))) (zaJ (vC (.bl false))) zbd) (zaJ (cF zaz (zac (zbb (zaw (itF (vSh 0)) (zau 0) tT (slF (vSh 0) pN (pS (vC (.int 3)))) [none])) zai))))
def zeM:FQ:=zby 0
  (zar (sIf (orT (zbR (toB (cF zaS (zac (vSh 0) (zac (vC (.int 3)) zai))))) (orT (zbR (toB (cF zbv (zac (b2 ixD (vSh 0) (vC (.int 0))) (zac (vSh 1) zai))))) (zbR (toB (cF zbv (zac (b2 ixD (vSh 0) (vC (.int 1))) (zac (vSh 1) zai))))))) (zaJ (vC (.bl false))) zbd) (zaJ (zd4 (b2 neA (b2 ixD (vSh 0) (vC (.int 0))) (b2 ixD (vSh 0) (vC (.int 1)))) (cF zaR (zac (b2 ixD (vSh 0) (vC (.int 2))) (zac (vC (.int 0)) (zac (vSh 2) zai)))))))
def zei:FQ:=zby 0
  (zar (sIf (orT (zbR (toB (cF zbt (zac (vSh 0) (zac (vC (.int 0)) (zac (vC (.int 100)) zai)))))) (zbR (toB (cF ziH (zac (zbb (zaw (itF (vSh 0)) (zau 0) tT (cF zeM (zac (vSh 0) (zac (vSh 1) (zac (vSh 2) zai)))) [none,some 1,some 2])) zai))))) (zaJ (vC (.bl false))) zbd) (zaJ (cF zaz (zac (zbb (zaw (itF (vSh 0)) (zau 0) tT (slF (vSh 0) pN (pS (vC (.int 2)))) [none])) zai))))
def zdk:FQ:=zby 0
  (zaJ (zd4 (cF zaS (zac (vSh 0) (zac (vC (.int 2)) zai))) (zd4 (cF zbv (zac (b2 ixD (vSh 0) (vC (.int 0))) (zac (vSh 1) zai))) (cF zaR (zac (b2 ixD (vSh 0) (vC (.int 1))) (zac (vC (.int 1)) (zac (vC (.int 1000000)) zai)))))))
def zcF:FQ:=zby 0
  (zar (sIf (orT (zbR (toB (cF zbt (zac (vSh 0) (zac (vC (.int 0)) (zac (cF zcT (zac (vSh 1) zai)) zai)))))) (zbR (toB (cF ziH (zac (zbb (zaw (itF (vSh 0)) (zau 0) tT (cF zdk (zac (vSh 0) (zac (vSh 1) zai))) [none,some 1])) zai))))) (zaJ (vC (.bl false))) zbd) (zaJ (cF zaz (zac (zbb (zaw (itF (vSh 0)) (zau 0) tT (b2 ixD (vSh 0) (vC (.int 0))) [none])) zai))))
def zdP:FQ:=zby 0
  (zar (sIf (orT (zbR (toB (cF zaS (zac (vSh 0) (zac (vC (.int 5)) zai))))) (zbR (toB (cF zb3 (zac (b2 ixD (vSh 0) (vC (.int 0))) zai))))) (zaJ (vC (.bl false))) zbd) (zar (sIf (orT (zbR (toB (cF zaR (zac (b2 ixD (vSh 0) (vC (.int 2))) (zac (vC (.int 0)) (zac (vC (.int 1000000)) zai)))))) (zbR (toB (cF zaR (zac (b2 ixD (vSh 0) (vC (.int 1))) (zac (vC (.int 0)) (zac (b2 ixD (vSh 0) (vC (.int 2))) zai))))))) (zaJ (vC (.bl false))) zbd) (zaJ (zd4 (cF zcF (zac (b2 ixD (vSh 0) (vC (.int 3))) (zac (vSh 1) zai))) (cF zcF (zac (b2 ixD (vSh 0) (vC (.int 4))) (zac (vSh 1) zai)))))))
def zdH:FQ:=zby 0
  (zar (sIf (orT (zbR (toB (cF zbt (zac (vSh 0) (zac (vC (.int 0)) (zac (vC (.int 6)) zai)))))) (zbR (toB (cF ziH (zac (zbb (zaw (itF (vSh 0)) (zau 0) tT (cF zdP (zac (vSh 0) (zac (vSh 1) zai))) [none,some 1])) zai))))) (zaJ (vC (.bl false))) zbd) (zaJ (cF zaz (zac (zbb (zaw (itF (vSh 0)) (zau 0) tT (b2 ixD (vSh 0) (vC (.int 0))) [none])) zai))))
def zcC:FQ:=zby 2
  (zar (sIf (zbR (toB (cF zaR (zac (vSh 6) (zac (vC (.int 1)) (zac (vC (.int 1000000)) zai)))))) (zaJ (vC (.str "horizon"))) zbd) (zar (sIf (zbR (toB (cF zdl (zac (vSh 0) (zac (vSh 6) zai))))) (zaJ (vC (.str "benches"))) zbd) (zar (zbq 7 (zbb (zaw (itF (vSh 0)) (zau 0) tT (b2 ixD (vSh 0) (vC (.int 0))) [none]))) (zar (sIf (zbR (toB (cF zeh (zac (vSh 1) (zac (vSh 7) (zac (vSh 6) zai)))))) (zaJ (vC (.str "steps"))) zbd) (zar (zbq 8 (zbb (zaw (itF (vSh 1)) (zau 0) tT (b2 ixD (vSh 0) (vC (.int 0))) [none]))) (zar (sIf (zbR (toB (cF ze8 (zac (vSh 2) (zac (vSh 8) (zac (vSh 6) zai)))))) (zaJ (vC (.str "jobs"))) zbd) (zar (sIf (zbR (toB (cF zdI (zac (vSh 3) (zac (vSh 7) (zac (vSh 6) zai)))))) (zaJ (vC (.str "setups"))) zbd) (zar (sIf (zbR (toB (cF zei (zac (vSh 4) (zac (vSh 8) (zac (vSh 6) zai)))))) (zaJ (vC (.str "links"))) zbd) (zar (sIf (zbR (toB (cF zdH (zac (vSh 5) (zac (vSh 8) zai))))) (zaJ (vC (.str "stocks"))) zbd) (zaJ (vC .non)))))))))))
def zda (zbw:FQ):FQ:=zby 0
  (zar (sIf (toB (cF zeZ (zac (vSh 0) (zac (vC (.ty "list")) zai)))) (zaJ (zbb (zaw (itF (vSh 0)) (zau 0) tT (cF zbw (zac (vSh 0) zai)) [none]))) zbd) (zar (sIf (toB (cF zeZ (zac (vSh 0) (zac (vC (.ty "tuple")) zai)))) (zaJ (cF zlm (zac (zbb (zaw (itF (vSh 0)) (zau 0) tT (cF zbw (zac (vSh 0) zai)) [none])) zai))) zbd) (zaJ (vSh 0))))
def zc9:Nat->FQ
 | 0=>fun _=>none
 | n+1=>zda (zc9 n)
def zbw:FQ:=zc9 8
def zcR:FQ:=zrG 3 "Shop"
  (zar (zbq 8 (cF zcC (zac (vSh 1) (zac (vSh 2) (zac (vSh 3) (zac (vSh 4) (zac (vSh 5) (zac (vSh 6) (zac (vSh 7) zai))))))))) (zar (sIf (toB (b2 zgc (vSh 8) (vC .non))) sNo zbd) (zar (zeu "Shop" "benches" 0 (cF zbw (zac (vSh 1) zai))) (zar (zeu "Shop" "steps" 0 (cF zbw (zac (vSh 2) zai))) (zar (zeu "Shop" "jobs" 0 (cF zbw (zac (vSh 3) zai))) (zar (zeu "Shop" "setups" 0 (cF zbw (zac (vSh 4) zai))) (zar (zeu "Shop" "links" 0 (cF zbw (zac (vSh 5) zai))) (zar (zeu "Shop" "stocks" 0 (cF zbw (zac (vSh 6) zai))) (zar (zeu "Shop" "horizon" 0 (vSh 7)) (zar (zeu "Shop" "bench_by_name" 0 (cF zd0 (zac (zbb (zaw (itF (zgy "Shop" "benches" 0)) (zau 0) tT (zbJ (szF (zac (b2 ixD (vSh 0) (vC (.int 0))) (zac (vSh 0) zai)))) [none])) zai))) (zar (zeu "Shop" "step_by_name" 0 (cF zd0 (zac (zbb (zaw (itF (zgy "Shop" "steps" 0)) (zau 0) tT (zbJ (szF (zac (b2 ixD (vSh 0) (vC (.int 0))) (zac (vSh 0) zai)))) [none])) zai))) (zar (zeu "Shop" "setup_by_names" 0 (cF zkn (zac (zbb (zaw (itF (zgy "Shop" "setups" 0)) (zau 0) tT (zbJ (szF (zac (slF (vSh 0) pN (pS (vC (.int 3)))) (zac (b2 ixD (vSh 0) (vC (.int 3))) zai)))) [none])) zai))) (zar (zrF "Shop" "job_by_step" 0) (zcS (itF (zgy "Shop" "jobs" 0)) (zau 9) (zcS (itF (b2 ixD (vSh 9) (vC (.int 4)))) (zau 10) (zc1 "Shop" "job_by_step" 0 (vSh 10) (vSh 9)))))))))))))))))
def zdn:FQ:=zby 0
  (zaJ (cF zcR (zac (b2 ixD (vSh 0) (vC (.int 0))) (zac (b2 ixD (vSh 0) (vC (.int 1))) (zac (b2 ixD (vSh 0) (vC (.int 2))) (zac (b2 ixD (vSh 0) (vC (.int 3))) (zac (b2 ixD (vSh 0) (vC (.int 4))) (zac (b2 ixD (vSh 0) (vC (.int 5))) (zac (b2 ixD (vSh 0) (vC (.int 6))) zai)))))))))
def zc0:FQ:=zby 7
  (zar (zbq 1 (zbb (zaw (itF (b2 ixD (vSh 0) (vC (.int 4)))) (zbS 3 (zaq (zau 0) (zaq (zau 1) (zaq (zau 2) zbN)))) tT (zbJ (szF (zac (vSh 0) (zac (vSh 1) zai)))) [none,none,none]))) (zar (zcS (itF (b2 ixD (vSh 0) (vC (.int 2)))) (zbS 5 (zaq (zau 2) (zaq (zau 3) (zaq (zau 4) (zaq (zau 5) (zaq (zau 6) zbN)))))) (sIf (toB (vSh 5)) (zcS (itR ziK (zac (cF zcT (zac (vSh 6) zai)) zai)) (zau 7) (zbq 1 (b2 zbY (vSh 1) (zbb (zaw (itF (slF (vSh 6) pN (pS (vSh 7)))) (zau 0) tT (zbJ (szF (zac (vSh 0) (zac (b2 ixD (vSh 1) (vSh 2)) zai)))) [none,some 6,some 7]))))) zbd)) (zaJ (vSh 1))))
def zdo:FQ:=zby 7
  (zar (zbq 3 (b2 ixD (vSh 0) (vC (.int 6)))) (zar (zcS (itF (b2 ixD (vSh 0) (vC (.int 2)))) (zbS 5 (zaq (zau 4) (zaq (zau 5) (zaq (zau 6) (zaq (zau 7) (zaq (zau 8) zbN)))))) (sIf (toB (b2 zjb (b2 ixD (vSh 2) (vC (.int 0))) (vSh 8))) (zbq 3 (vSh 6)) zbd)) (zar (zbq 9 (cF zs5 (zac (zbb (zaw (itF (b2 ixD (vSh 2) (vC (.int 2)))) (zbS 2 (zaq (zau 0) (zaq (zau 1) zbN))) tT (vSh 1) [none,none])) zai))) (zaJ (b2 zjh (zvc ["told","long","due","slack"] (zac (vC (.int 0)) (zac (b2 ziQ (vC (.int 0)) (vSh 9)) (zac (vSh 3) (zac (b2 ziQ (vSh 3) (vSh 9)) zai))))) (vSh 1))))))
def zbx:FQ:=zby 4
  (zar (zbq 4 (vC .non)) (zar (zcS (itF (b2 ixD (vSh 0) (vC (.int 1)))) (zau 5) (sIf (toB (b2 zcf (b2 ixD (vSh 5) (vC (.int 0))) (vSh 3))) (zar (zbq 6 (zbb (zaw (itF (vSh 1)) (zbS 2 (zaq (zau 0) (zaq (zau 1) zbN))) (zhR (toB (b2 eqA (vSh 1) (b2 ixD (vSh 3) (vC (.int 0))))) (toB (b2 zcf (vSh 0) (vSh 2)))) (vSh 0) [none,none,some 3,some 5]))) (zar (zbq 7 (cF zdo (zac (vSh 0) (zac (vSh 2) (zac (vSh 5) zai))))) (sIf (zhR (toB (b2 eqA (vSh 6) (zbb (szF zai)))) (orT (toB (b2 isD (vSh 4) (vC .non))) (toB (b2 ltD (vSh 7) (b2 ixD (vSh 4) (vC (.int 0))))))) (zbq 4 (zbJ (szF (zac (vSh 7) (zac (b2 ixD (vSh 5) (vC (.int 0))) zai))))) zbd))) zbd)) (zaJ (vSh 4))))
def zcN:FQ:=zby 4
  (zar (zbq 2 (cF zc0 (zac (vSh 0) zai))) (zar (zdV 3 (szF zai)) (zar (zcS (itR ziK (zac (cF zcT (zac (b2 ixD (vSh 0) (vC (.int 1))) zai)) zai)) (zau 4) (zar (zbq 5 (bw2 3 (cF zbx (zac (vSh 0) (zac (vSh 2) (zac (vSh 1) (zac (vSh 3) zai))))))) (zar (sIf (toB (b2 isD (vSh 5) (vC .non))) (zaJ (vC .non)) zbd) (zek 3 (b2 ixD (vSh 5) (vC (.int 1))))))) (zeN 3 (zaJ (vSh 3))))))
def zcr:FQ:=zby 0
  (zaJ (zbb (zaw (itF (zkT "Shop" "steps" (vSh 0))) (zau 0) tT (b2 ixD (vSh 0) (vC (.int 0))) [none])))
def zcl:FQ:=zby 0
  (zaJ (cF zbw (zac (zkT "Shop" "jobs" (vSh 0)) zai)))
def zcM:FQ:=zby 3
  (zar (zdV 1 (szF zai)) (zar (zcS (itE (vSh 0)) (zbS 2 (zaq (zau 2) (zaq (zau 3) zbN))) (zld 1 (zbb (zaw (itF (slF (vSh 0) (pS (b2 zbY (vSh 2) (vC (.int 1)))) pN)) (zau 0) tT (zbJ (szF (zac (vSh 1) (zac (vSh 0) zai)))) [none,some 3])))) (zeN 1 (zaJ (vSh 1)))))
def zb8:FQ:=zby 0
  (zaJ (cF zbw (zac (zkT "Shop" "links" (vSh 0)) zai)))
def zcQ:FQ:=zby 6
  (zar (zvs 1) (zar (zcS (itF (zdW "Shop" "job_rows" zcl (vSh 0) zai)) (zau 2) (sIf (toB (b2 ixD (vSh 2) (vC (.int 3)))) (zcS (itF (cF zcM (zac (b2 ixD (vSh 2) (vC (.int 4))) zai))) (zau 3) (zev 1 (vSh 3) (vC (.int 0)))) zbd)) (zar (zcS (itF (zdW "Shop" "link_rows" zb8 (vSh 0) zai)) (zbS 3 (zaq (zau 4) (zaq (zau 5) (zaq (zau 6) zbN)))) (zev 1 (zbJ (szF (zac (vSh 4) (zac (vSh 5) zai)))) (vSh 6))) (znM 1 (zaJ (vSh 1))))))
def zcu:FQ:=zby 4
  (zar (zbq 1 (zdW "Shop" "step_names" zcr (vSh 0) zai)) (zar (zbq 2 (cF zcQ (zac (vSh 0) zai))) (zar (zdV 3 (szF zai)) (zar (zcS (itF (vSh 1)) (zau 4) (zld 3 (zbb (zaw (itF (vSh 1)) (zau 0) (toB (b2 ztI (zbJ (szF (zac (vSh 1) (zac (vSh 0) zai)))) (vSh 2))) (zbJ (szF (zac (vSh 1) (zac (vSh 0) (zac (b2 zjh (vSh 2) (zbJ (szF (zac (vSh 1) (zac (vSh 0) zai))))) zai))))) [none,some 4,some 2])))) (zeN 3 (zaJ (vSh 3)))))))
def zaO:List D->Option (List D):=zsi 0
  (znL (zaw (itF (zkT "Shop" "steps" (vSh 0))) (zau 0) tT (b2 ixD (vSh 0) (vC (.int 0))) [none]))
def zdb:FQ:=zby 0
  (zaJ (cF zbw (zac (b2 ixD (b2 zjh (zkT "Shop" "step_by_name" (vSh 0)) (vSh 1)) (vC (.int 2))) zai)))
def zct:FQ:=zby 0
  (zaJ (cF zs5 (zac (zbb (zaw (itF (zdW "Shop" "ways_of" zdb (vSh 0) (zac (vSh 1) zai))) (zbS 2 (zaq (zau 0) (zaq (zau 1) zbN))) tT (vSh 1) [none,none])) zai)))
def zcJ:FQ:=zby 0
  (zaJ (cF zbw (zac (b2 zmP (zkT "Shop" "job_by_step" (vSh 0)) (vSh 1)) zai)))
def zbH:FQ:=zby 0
  (zaJ (zkT "Shop" "horizon" (vSh 0)))
def zcY:FQ:=zby 1
  (zar (zbq 2 (zdW "Shop" "job_of" zcJ (vSh 0) (zac (vSh 1) zai))) (zaJ (ifD (toB (b2 isD (vSh 2) (vC .non))) (zdW "Shop" "last_moment" zbH (vSh 0) zai) (b2 ixD (vSh 2) (vC (.int 2))))))
def zbs:FQ:=zby 0
  (zar (sIf (toB (b2 eqD (vSh 1) (vC (.str "long")))) (zaJ (b1 zu3 (cF zct (zac (vSh 0) (zac (vSh 2) zai))))) zbd) (zar (sIf (toB (b2 eqD (vSh 1) (vC (.str "due")))) (zaJ (cF zcY (zac (vSh 0) (zac (vSh 2) zai)))) zbd) (zar (sIf (toB (b2 eqD (vSh 1) (vC (.str "slack")))) (zaJ (b2 ziQ (cF zcY (zac (vSh 0) (zac (vSh 2) zai))) (cF zct (zac (vSh 0) (zac (vSh 2) zai))))) zbd) (zaJ (vC (.int 0))))))
abbrev zku:FS :=
  (zar (zbq 2 (cF zcu (zac (vSh 0) zai))) (zar (zdV 3 (zmb "Shop" "step_names" zaO (vSh 0) zai)) (zar (zbq 4 (bw2 3 (cF zd0 (zac (zbb (zaw (itF (vSh 3)) (zau 0) tT (zbJ (szF (zac (vSh 0) (zac (cF zbs (zac (vSh 1) (zac (vSh 2) (zac (vSh 0) zai)))) zai)))) [none,some 0,some 1])) zai)))) (zar (zdV 5 (szF zai)) (zar (whL (bwT 3 (toB (b2 gtD (cF zcT (zac (vSh 3) zai)) (vC (.int 0))))) (zar (zdV 6 (bwA 3 (zaw (itF (vSh 2)) (zbS 3 (zaq (zau 0) (zaq (zau 1) (zaq (zau 2) zbN)))) (toB (b2 zjb (vSh 0) (vSh 3))) (vSh 1) [none,none,none,some 3]))) (zeN 6 (zar (zdV 7 (bwA 3 (zaw (itF (vSh 3)) (zau 0) (toB (b2 zcf (vSh 0) (vSh 1))) (vSh 0) [none,some 6]))) (zar (sIf (bwT 7 (toB (b2 eqD (cF zcT (zac (vSh 7) zai)) (vC (.int 0))))) (zaJ (vC .non)) zbd) (zeN 7 (zar (zbq 8 (b2 zl9 (vSh 4) (vSh 7))) (zar (zek 5 (vSh 8)) (zsg 3 (vSh 8))))))))) 50) (znK 5))))))
def zba:FQ:=zue 7 zku
def zb7:FQ:=zby 0
  (zaJ (cF zbw (zac (zkT "Shop" "steps" (vSh 0)) zai)))
abbrev zt2:FS :=
  (zar (zbq 1 (cF zcy (zac (vSh 0) (zac (vC (.int 8)) zai)))) (zar (zbq 2 (cF zdn (zac (vSh 1) zai))) (zar (zcS (itF (zbb (szF (zac (vC (.str "told")) (zac (vC (.str "long")) (zac (vC (.str "due")) (zac (vC (.str "slack")) zai))))))) (zau 3) (zar (zbq 4 (cF zcN (zac (vSh 1) (zac (vSh 3) zai)))) (zar (zrE 5 (cF zba (zac (vSh 2) (zac (vSh 3) zai)))) (sIf (toB (b2 isD (vSh 4) (vC .non))) (sIf (toB (b2 zgc (vSh 5) (vC .non))) (zaJ (vC (.bl false))) zbd) (zar (sIf (bwT 5 (orT (zbR (toB (cF zeZ (zac (vSh 5) (zac (vC (.ty "list")) zai))))) (toB (b2 neA (vSh 5) (vSh 4))))) (zaJ (vC (.bl false))) zbd) (zar (zek 5 (vC (.str "more"))) (sIf (toB (b2 neA (ovE (cF zba (zac (vSh 2) (zac (vSh 3) zai)))) (vSh 4))) (zaJ (vC (.bl false))) zbd))))))) (zaJ (b2 eqA (zdW "Shop" "step_rows" zb7 (vSh 2) zai) (b2 ixD (vSh 1) (vC (.int 1))))))))
def zt3:FQ:=zue 5 zt2
end Law
set_option maxHeartbeats 4000000
variable {C_Shop:Addr} {B:FE} {sn R:List Str} {br:List (Int×Int)} {ws am:List (Str×Int)} {S x2 x4 x5 x6:Option Slot} {gs:List (List Str)} {ρ1:zaI} {r:Str}
namespace Law
theorem zdx:FnScope ["_law_script","_law_k","_law_number"] ["_law_script","_law_k"] (zah (top 57)):=zaT
theorem zdw:FnScope ["_law_script","_law_k","_law_cell_here","_law_mixed"] ["_law_script","_law_k"] (zah (top 58)):=zaT
theorem zbj:FnScope ["_law_number","_law_horizon","_law_found","_law_at","_law_k","_law_begin","_law_end"] ["_law_number","_law_horizon"] (zah (top 59)):=zaT
theorem zcd:FnScope ["_law_number","_law_benches","_law_horizon","_law_first","_law_found","_law_more","_law_k","_law_bench"] ["_law_number","_law_benches","_law_horizon"] (zah (top 60)):=zaT
theorem zaY:FnScope ["_law_number","_law_steps","_law_horizon","_law_groups","_law_k","_law_jobs_here","_law_members","_law_early","_law_sooner","_law_due_here"] ["_law_number","_law_steps","_law_horizon"] (zah (top 61)):=zaT
theorem zbi:FnScope ["_law_number","_law_benches","_law_found","_law_k","_law_one","_law_other","_law_moments"] ["_law_number","_law_benches"] (zah (top 62)):=zaT
theorem za5:FnScope ["_law_number","_law_steps","_law_found","_law_k","_law_one","_law_other","_law_told"] ["_law_number","_law_steps"] (zah (top 63)):=zaT
theorem zbC:FnScope ["_law_number","_law_steps","_law_takes","_law_puts","_law_k","_law_first"] ["_law_number","_law_steps"] (zah (top 64)):=zaT
theorem zaK:FnScope ["_law_script","_law_most","_law_shape","_law_horizon","_law_benches","_law_k","_law_steps","_law_number","_law_ways_here","_law_jobs_here","_law_setups_here","_law_links_here"] ["_law_script","_law_most"] (zah (top 65)):=zaT
theorem ziS:FnScope ["thing"] ["thing"] (zah (top 15)):=zaT
theorem zh1:FnScope ["thing","least","most"] ["thing","least","most"] (zah (top 18)):=zaT
theorem ziT:FnScope ["thing","many"] ["thing","many"] (zah (top 20)):=zaT
theorem ziW:FnScope ["row","horizon"] ["row","horizon"] (zah (top 34)):=zaT
theorem zkE:FnScope ["thing","least","most"] ["thing","least","most"] (zah (top 19)):=zaT
theorem zhd:FnScope ["breaks","horizon"] ["breaks","horizon"] (zah (top 35)):=zaT
theorem zkD:FnScope ["thing"] ["thing"] (zah (top 16)):=zaT
theorem ziX:FnScope ["row","horizon"] ["row","horizon"] (zah (top 36)):=zaT
theorem zha:FnScope ["things"] ["things"] (zah (top 22)):=zaT
theorem zgv:FnScope ["benches","horizon"] ["benches","horizon"] (zah (top 37)):=zaT
theorem zh2:FnScope ["thing","names"] ["thing","names"] (zah (top 21)):=zaT
theorem zly:FnScope ["row","bench_names","horizon"] ["row","bench_names","horizon"] (zah (top 38)):=zaT
theorem ziY:FnScope ["ways","bench_names","horizon"] ["ways","bench_names","horizon"] (zah (top 39)):=zaT
theorem zkC:FnScope ["row","bench_names","horizon"] ["row","bench_names","horizon"] (zah (top 40)):=zaT
theorem zh4:FnScope ["steps","bench_names","horizon"] ["steps","bench_names","horizon"] (zah (top 41)):=zaT
theorem zlz:FnScope ["row","step_names","horizon"] ["row","step_names","horizon"] (zah (top 42)):=zaT
theorem zd7:FnScope ["jobs","step_names","horizon","members","row"] ["jobs","step_names","horizon"] (zah (top 43)):=zaT
theorem ziV:FnScope ["row","bench_names","horizon"] ["row","bench_names","horizon"] (zah (top 44)):=zaT
theorem zhc:FnScope ["setups","bench_names","horizon"] ["setups","bench_names","horizon"] (zah (top 45)):=zaT
theorem zkF:FnScope ["row","step_names","horizon"] ["row","step_names","horizon"] (zah (top 46)):=zaT
theorem zh5:FnScope ["links","step_names","horizon"] ["links","step_names","horizon"] (zah (top 47)):=zaT
theorem zh3:FnScope ["row","step_names"] ["row","step_names"] (zah (top 48)):=zaT
theorem zgw:FnScope ["rows","step_names"] ["rows","step_names"] (zah (top 49)):=zaT
theorem ziU:FnScope ["row","step_names"] ["row","step_names"] (zah (top 50)):=zaT
theorem zhb:FnScope ["stocks","step_names"] ["stocks","step_names"] (zah (top 51)):=zaT
theorem zcn:FnScope ["benches","steps","jobs","setups","links","stocks","horizon","bench_names","step_names"] ["benches","steps","jobs","setups","links","stocks","horizon"] (zah (top 52)):=zaT
theorem znJ:FnScope ["thing"] ["thing"] (zah (top 54)):=zaT
theorem zb4:FnScope ["self","benches","steps","jobs","setups","links","stocks","horizon","part","row","step"] ["self","benches","steps","jobs","setups","links","stocks","horizon"] (zah (zbM (top 55) 0)):=zaT
theorem zh6:FnScope ["_law_parts_here"] ["_law_parts_here"] (zah (top 66)):=zaT
theorem za6:FnScope ["_law_parts_here","_law_found","_law_name","_law_early","_law_due_here","_law_in_turn","_law_steps","_law_k"] ["_law_parts_here"] (zah (top 68)):=zaT
theorem zbe:FnScope ["_law_parts_here","_law_rule","_law_row_here","_law_due_here","_law_name","_law_early","_law_late","_law_in_turn","_law_steps","_law_least"] ["_law_parts_here","_law_rule","_law_row_here"] (zah (top 69)):=zaT
theorem zce:FnScope ["_law_parts_here","_law_ahead_here","_law_rule","_law_row_here","_law_best","_law_step","_law_lacking","_law_rank_here"] ["_law_parts_here","_law_ahead_here","_law_rule","_law_row_here"] (zah (top 70)):=zaT
theorem zcO:FnScope ["_law_parts_here","_law_rule","_law_ahead_here","_law_row_here","_law_k","_law_best"] ["_law_parts_here","_law_rule"] (zah (top 71)):=zaT
theorem zeq:FnScope ["self"] ["self"] (zah (zbM (top 55) 9)):=zaT
theorem zfp:FnScope ["self"] ["self"] (zah (zbM (top 55) 3)):=zaT
theorem zdf:FnScope ["things","pairs","place","one"] ["things"] (zah (top 2)):=zaT
theorem zeS:FnScope ["self"] ["self"] (zah (zbM (top 55) 5)):=zaT
theorem za3:FnScope ["shop","gaps","job","pair","one","other","gap"] ["shop"] (zah (top 3)):=zaT
theorem zbL:FnScope ["shop","names","gaps","orders","one"] ["shop"] (zah (top 4)):=zaT
theorem zdT:FnScope ["self"] ["self"] (zah (zbM (top 55) 9)):=zaT
theorem zfZ:FnScope ["self","step"] ["self","step"] (zah (zbM (top 55) 10)):=zaT
theorem zfY:FnScope ["shop","step"] ["shop","step"] (zah (top 6)):=zaT
theorem zgx:FnScope ["self","step"] ["self","step"] (zah (zbM (top 55) 12)):=zaT
theorem zd8:FnScope ["self"] ["self"] (zah (zbM (top 55) 7)):=zaT
theorem zep:FnScope ["shop","step","job"] ["shop","step"] (zah (top 7)):=zaT
theorem zkB:FnScope ["shop","rule","step"] ["shop","rule","step"] (zah (top 8)):=zaT
theorem zcv:FnScope ["shop","rule","orders","left","ranks","row","waiting","free","best"] ["shop","rule"] (zah (top 9)):=zaT
theorem zeR:FnScope ["self"] ["self"] (zah (zbM (top 55) 2)):=zaT
theorem zgJ:FnScope ["_law_script","_law_parts_here","_law_shop_here","_law_rule","_law_due_here","_law_found"] ["_law_script"] (zah (top 72)):=zaT
def tkI (mg:Str->Option Value) (x:Str):Tok:=match mg x with | some (.int _ t)=>t | _=>0
theorem tkI_of {h:Heap} {n:Int} {t:Tok} (X:K.In h) (G:h.Ns mainGlobals mg) (a:PySem.W.nsIn K mainGlobals x=some (some (.int n t))):mg x=some (.int n (tkI mg x)):=by have q:=PySem.W.mg_of X G a;rw [q];unfold tkI;rw [q]
structure Vd (K:PySem.W.Frag) (mg:Str->Option Value) (C_Shop:Addr):Prop where
 z_all:mg "all"=none
 z_bool:mg "bool"=none
 z_dict:mg "dict"=none
 z_enumerate:mg "enumerate"=none
 z_int:mg "int"=none
 z_isinstance:mg "isinstance"=none
 z_len:mg "len"=none
 z_list:mg "list"=none
 z_min:mg "min"=none
 z_range:mg "range"=none
 z_set:mg "set"=none
 z_sorted:mg "sorted"=none
 z_str:mg "str"=none
 z_tuple:mg "tuple"=none
 k_LONGEST_NAME:mg "LONGEST_NAME"=some (.int 8 (tkI mg "LONGEST_NAME"))
 k_MOST_AMOUNT:mg "MOST_AMOUNT"=some (.int 1000000 (tkI mg "MOST_AMOUNT"))
 k_MOST_BENCHES:mg "MOST_BENCHES"=some (.int 8 (tkI mg "MOST_BENCHES"))
 k_MOST_BREAKS:mg "MOST_BREAKS"=some (.int 10 (tkI mg "MOST_BREAKS"))
 k_MOST_HORIZON:mg "MOST_HORIZON"=some (.int 1000000 (tkI mg "MOST_HORIZON"))
 k_MOST_JOBS:mg "MOST_JOBS"=some (.int 40 (tkI mg "MOST_JOBS"))
 k_MOST_LINKS:mg "MOST_LINKS"=some (.int 100 (tkI mg "MOST_LINKS"))
 k_MOST_SETUPS:mg "MOST_SETUPS"=some (.int 100 (tkI mg "MOST_SETUPS"))
 k_MOST_STEPS:mg "MOST_STEPS"=some (.int 40 (tkI mg "MOST_STEPS"))
 k_MOST_STOCKS:mg "MOST_STOCKS"=some (.int 6 (tkI mg "MOST_STOCKS"))
 k_MOST_WAYS:mg "MOST_WAYS"=some (.int 4 (tkI mg "MOST_WAYS"))
 d0:Dfn K mg "_law_cell" (top 57)
 d1:Dfn K mg "_law_wide" (top 58)
 d2:Dfn K mg "_law_breaks" (top 59)
 d3:Dfn K mg "_law_ways" (top 60)
 d4:Dfn K mg "_law_jobs" (top 61)
 d5:Dfn K mg "_law_setups" (top 62)
 d6:Dfn K mg "_law_links" (top 63)
 d7:Dfn K mg "_law_stocks" (top 64)
 d8:Dfn K mg "_law_parts" (top 65)
 d9:Dfn K mg "is_whole" (top 15)
 d10:Dfn K mg "is_within" (top 18)
 d11:Dfn K mg "is_tuple" (top 20)
 d12:Dfn K mg "is_break" (top 34)
 d13:Dfn K mg "is_list" (top 19)
 d14:Dfn K mg "are_breaks" (top 35)
 d15:Dfn K mg "is_name" (top 16)
 d16:Dfn K mg "is_bench" (top 36)
 d17:Dfn K mg "are_unlike" (top 22)
 d18:Dfn K mg "are_benches" (top 37)
 d19:Dfn K mg "is_one_of" (top 21)
 d20:Dfn K mg "is_way" (top 38)
 d21:Dfn K mg "are_ways" (top 39)
 d22:Dfn K mg "is_step" (top 40)
 d23:Dfn K mg "are_steps" (top 41)
 d24:Dfn K mg "is_job" (top 42)
 d25:Dfn K mg "are_jobs" (top 43)
 d26:Dfn K mg "is_setup" (top 44)
 d27:Dfn K mg "are_setups" (top 45)
 d28:Dfn K mg "is_link" (top 46)
 d29:Dfn K mg "are_links" (top 47)
 d30:Dfn K mg "is_amount" (top 48)
 d31:Dfn K mg "are_amounts" (top 49)
 d32:Dfn K mg "is_stock" (top 50)
 d33:Dfn K mg "are_stocks" (top 51)
 d34:Dfn K mg "first_bad_part" (top 52)
 d35:Dfn K mg "fresh" (top 54)
 d36:DfnM K C_Shop "Shop" "__init__" "Shop.__init__" (zbM (top 55) 0)
 d37:Dfn K mg "_law_shop" (top 66)
 d38:Dfn K mg "_law_ahead" (top 68)
 d39:Dfn K mg "_law_rank" (top 69)
 d40:Dfn K mg "_law_next" (top 70)
 d41:Dfn K mg "_law_due" (top 71)
 d42:DfnM K C_Shop "Shop" "step_names" "Shop.step_names" (zbM (top 55) 9)
 d43:DfnM K C_Shop "Shop" "job_rows" "Shop.job_rows" (zbM (top 55) 3)
 d44:Dfn K mg "pairs_of" (top 2)
 d45:DfnM K C_Shop "Shop" "link_rows" "Shop.link_rows" (zbM (top 55) 5)
 d46:Dfn K mg "greatest_gaps" (top 3)
 d47:Dfn K mg "known_orders" (top 4)
 d49:DfnM K C_Shop "Shop" "ways_of" "Shop.ways_of" (zbM (top 55) 10)
 d50:Dfn K mg "least_length" (top 6)
 d51:DfnM K C_Shop "Shop" "job_of" "Shop.job_of" (zbM (top 55) 12)
 d52:DfnM K C_Shop "Shop" "last_moment" "Shop.last_moment" (zbM (top 55) 7)
 d53:Dfn K mg "due_moment" (top 7)
 d54:Dfn K mg "rank_by" (top 8)
 d56:DfnM K C_Shop "Shop" "step_rows" "Shop.step_rows" (zbM (top 55) 2)
structure Vw (K:PySem.W.Frag) (mg:Str->Option Value) (C_Shop:Addr):Prop extends Vd K mg C_Shop where
 O_Shop:ClsOk (Gam C_Shop) K mg "Shop" C_Shop
 cf_Shop:CF (Gam C_Shop) K "Shop" znj
section
variable (V:Vw K mg C_Shop)
include V
theorem zjv:Cal (Gam C_Shop) P w K mg base "_law_cell" 2 1 zdq :=
 V.d0.cal (k:=0) zdx (bn fun _ _ _ _ _ _ _=>rfl) fun f cdv A outer s H E hr =>
  (zaf (za0 (zaW zm3 (zab 1) (zap zbO rfl V.z_len (by rfl) (zaa (zab 0) zae)) (zaU _)) (zag (zao (zat (zab 0) (zab 1)))) zas) (zaf (zaD 2 zdx.nd (zaQ (zaQ (zcW (zcW (zab 1) (zab 1)) zad) (zcW zad (zab 1))) zad)) (zaf (za0 (zaW zm5 (zap zbO rfl V.z_len (by rfl) (zaa (zab 0) zae)) zad (zaU _)) (zag (zaD 2 zdx.nd (zaQ (zab 2) (zcW (zaL (zat (zab 0) (zaL (zcW (zab 1) zad) (zap zbO rfl V.z_len (by rfl) (zaa (zab 0) zae)))) zad) (zaQ (zcW (zab 1) (zab 1)) zad))))) zas) (zag (zao (zaQ (zcW (zaL (zcW (zab 2) (zab 2)) zad) zad) (zab 2)))))))
theorem zcb:Cal (Gam C_Shop) P w K mg base "_law_wide" 2 2 zbl :=
 V.d1.cal (k:=1) zdw (bn fun _ _ _ _ _ _ _=>rfl) fun f cdv A outer s H E hr =>
  (zaf (zaD 2 zdw.nd (dC (zjv V) hr (zaa (zab 0) (zaa (zab 1) zae)) ln2)) (zaf (za0 (DW.dt (zki (zaW zm3 (zab 1) (zap zbO rfl V.z_len (by rfl) (zaa (zab 0) zae)) (zaU _)) (zhu (zaW zve (zab 2) (zko zad zad) (zaU _))))) (zag (zao (zaL (zab 2) (zrg (zko zad zad) (zko zad zad))))) zas) (zaf (zaD 3 zdw.nd (zaQ (zaQ (zaL (zab 2) zad) zad) (zcW (zab 1) (zab 1)))) (zag (zao (zaN (zko (zaQ (zcW (zab 3) zad) zad) zad) zad))))))
theorem zhI:Cal (Gam C_Shop) P w K mg base "_law_breaks" 2 1 zcI :=
 V.d2.cal (k:=0) zbj (bn fun _ _ _ _ _ _ _=>rfl) fun f cdv A outer s H E hr =>
  (zaf (zcD 2 zbj.nd (zbf zae)) (zaf (zaD 3 zbj.nd (zaL (zab 0) zad)) (zaf (zbG PassesOwn.never rfl (zb1 rfl V.z_range (zaa (zaL (zaN (zab 0) zad) zad) zae)) (zam 4 zbj.nd) (zaf (zaD 5 zbj.nd (zaQ (zab 3) (zaL (zaN (zab 0) (zaQ zad (zcW zad (zab 4)))) zad))) (zaf (zaD 6 zbj.nd (zaQ (zaQ (zab 5) zad) (zaL (zaN (zab 0) (zaQ zad (zcW zad (zab 4)))) zad))) (zaf (za0 (zaW zhD (zab 6) (zab 1) (zaU _)) (zag (zbA 2 (zbB (zaa (zab 5) (zaa (zab 6) zae))))) zas) (zag (zaD 3 zbj.nd (zaQ (zab 6) zad))))))) (zco 2 (zag (zao (zab 2)))))))
theorem zjq:Cal (Gam C_Shop) P w K mg base "_law_ways" 3 1 zdm :=
 V.d3.cal (k:=0) zcd (bn fun _ _ _ _ _ _ _=>rfl) fun f cdv A outer s H E hr =>
  (zaf (zaD 3 zcd.nd (zaL (zab 0) (zap zbO rfl V.z_len (by rfl) (zaa (zab 1) zae)))) (zaf (zcD 4 zcd.nd (zbf (zaa (zbB (zaa (zat (zat (zab 1) (zab 3)) zad) (zaa (zaQ zad (zaL (zaN (zab 0) zad) (zap (ziG rfl) rfl V.z_min (by rfl) (zaa zad (zaa (zab 2) zae))))) zae))) zae))) (zaf (zaD 5 zcd.nd (zat (DO.de (zbf (zaa zad (zaa zad (zaa zad (zaa zad (zaa zad zae))))))) (zaL (zaN (zab 0) zad) zad))) (zaf (zbG PassesOwn.never rfl (zit rfl V.z_range (zaa zad (zaa (zap (ziG rfl) rfl V.z_min (by rfl) (zaa (zap zbO rfl V.z_len (by rfl) (zaa (zab 1) zae)) (zaa (zaQ (zab 5) zad) zae))) zae))) (zam 6 zcd.nd) (zaf (zaD 7 zcd.nd (zat (zat (zab 1) (zaL (zaQ (zab 3) (zab 6)) (zap zbO rfl V.z_len (by rfl) (zaa (zab 1) zae)))) zad)) (zag (zbA 4 (zbB (zaa (zab 7) (zaa (zaQ zad (zaL (zaN (zab 0) (zat (DO.de (zbf (zaa zad (zaa zad (zaa zad (zaa zad zae)))))) (zab 6))) (zap (ziG rfl) rfl V.z_min (by rfl) (zaa zad (zaa (zab 2) zae))))) zae))))))) (zco 4 (zag (zao (zab 4))))))))
theorem zju:Cal (Gam C_Shop) P w K mg base "_law_jobs" 3 1 zdp :=
 V.d4.cal (k:=0) zaY (bn fun _ _ _ _ _ _ _=>rfl) fun f cdv A outer s H E hr =>
  (zaf (zq6 3 zaY.nd) (zaf (zbG PassesOwn.never rfl (zb1 rfl V.z_range (zaa (zap zbO rfl V.z_len (by rfl) (zaa (zab 1) zae)) zae)) (zam 4 zaY.nd) (zag (zoB 3 (zaL (zaN (zab 0) (zat (DO.de (zbf (zaa zad (zaa zad (zaa zad (zaa zad (zaa zad (zaa zad (zaa zad (zaa zad zae)))))))))) (zaL (zab 4) zad))) zad) (zat (zat (zab 1) (zab 4)) zad)))) (zaf (zaD 0 zaY.nd (zaN (zab 0) zad)) (zaf (zcD 5 zaY.nd (zbf zae)) (zmH 3 (zaf (zbG PassesOwn.never rfl (zb1 rfl V.z_range (zaa zad zae)) (zam 4 zaY.nd) (zaf (zaD 6 zaY.nd (zat (zab 3) (zaQ (zab 4) zad))) (zaf (za0 (zaW zfu (zaL (zaN (zab 0) (zaQ zad (zab 4))) zad) zad (zaU _)) (zag (zaD 6 zaY.nd (ztL (zab 6)))) zas) (zaf (zaD 7 zaY.nd (zat (DO.de (zbf (zaa zad (zaa (zaL (zaN (zab 0) (zaQ zad (zcW zad (zab 4)))) (zap (ziG rfl) rfl V.z_min (by rfl) (zaa zad (zaa (zab 2) zae)))) zae)))) (zaL (zaN (zab 0) (zaQ zad (zab 4))) zad))) (zaf (zaD 8 zaY.nd (zaL (zaN (zab 0) (zaQ zad (zcW zad (zab 4)))) (zap (ziG rfl) rfl V.z_min (by rfl) (zaa zad (zaa (zab 2) zae))))) (zaf (zaD 9 zaY.nd (zgX (zab 2) (zat (DO.de (zbf (zaa zad (zaa zad (zaa (zab 8) zae))))) (zaL (zaN (zab 0) (zaQ zad (zab 4))) zad)))) (zag (za0 (zaW (ziv (zpk hr)) (zab 6) (DO.de (zbf zae)) (zaU _)) (zag (zbA 5 (zbB (zaa (zat (DO.de (zbf (zaa zbc (zaa zbc zae)))) (zab 4)) (zaa (zab 7) (zaa (zab 9) (zaa (zfj zfu (zaL (zaN (zab 0) (zaQ zad (zab 4))) zad) zad (zaU _)) (zaa (zab 6) zae)))))))) zas)))))))) (zco 5 (zag (zao (zab 5))))))))))
theorem zhH:Cal (Gam C_Shop) P w K mg base "_law_setups" 2 1 zcH :=
 V.d5.cal (k:=0) zbi (bn fun _ _ _ _ _ _ _=>rfl) fun f cdv A outer s H E hr =>
  (zaf (zcD 2 zbi.nd (zbf zae)) (zaf (zbG PassesOwn.never rfl (zb1 rfl V.z_range (zaa (zap zbO rfl V.z_len (by rfl) (zaa (zab 1) zae)) zae)) (zam 3 zbi.nd) (zag (zbG PassesOwn.never rfl (zaC (DO.de (zbf (zaa zbc (zaa zbc zae))))) (zam 4 zbi.nd) (zag (zbG PassesOwn.never rfl (zaC (DO.de (zbf (zaa zbc (zaa zbc zae))))) (zam 5 zbi.nd) (zaf (zaD 6 zbi.nd (zgX (zaL (zab 0) zad) zad)) (zaf (zaD 0 zbi.nd (zaN (zab 0) zad)) (zag (za0 (zaW zm5 (zab 6) zad (zaU _)) (zag (zbA 2 (zbB (zaa (zat (zat (zab 1) (zab 3)) zad) (zaa (zab 4) (zaa (zab 5) (zaa (zab 6) zae))))))) zas))))))))) (zco 2 (zag (zao (zab 2))))))
theorem ziA:Cal (Gam C_Shop) P w K mg base "_law_links" 2 1 zcZ :=
 V.d6.cal (k:=0) za5 (bn fun _ _ _ _ _ _ _=>rfl) fun f cdv A outer s H E hr =>
  (zaf (zcD 2 za5.nd (zbf zae)) (zaf (zbG PassesOwn.never rfl (zb1 rfl V.z_range (zaa (zaL (zab 0) zad) zae)) (zam 3 za5.nd) (zaf (zaD 0 za5.nd (zaQ (zaN (zab 0) zad) zad)) (zaf (zaD 4 za5.nd (zat (zat (zab 1) (zaL (zab 0) (zap zbO rfl V.z_len (by rfl) (zaa (zab 1) zae)))) zad)) (zaf (zaD 5 za5.nd (zat (zat (zab 1) (zaL (zaN (zab 0) zad) (zap zbO rfl V.z_len (by rfl) (zaa (zab 1) zae)))) zad)) (zaf (za0 (zaW zm5 (zaL (zaN (zab 0) zad) zad) zad (zaU _)) (zag (ztG (zap zoX rfl V.z_sorted (by rfl) (zaa (DO.de (zbf (zaa (zab 4) (zaa (zab 5) zae)))) zae)) (ztK (n:=2) rfl (zaE (zam 4 za5.nd) (zaE (zam 5 za5.nd) zc5))))) zas) (zaf (zir 6 2 za5.nd rfl (CompScope.of rfl rfl) (FvOk.of (N':=["_law_row_here"]) (fv:=[none]) rfl) (zaC (zab 2)) ⟨fun _ _ _ _ _=>⟨(zam 0 (show (["_law_row_here"]:List Str).Nodup by decide +kernel)),zaF,(zcV (zab 0) zdE (zdD zad))⟩⟩) (zag (za0 (zoz 6 (DW.dt (zki (zaW (ziv (zpk hr)) (zab 4) (zab 5) (zaU _)) (zhu (zaW (zhC (zgU hr)) (zbB (zaa (zab 4) (zaa (zab 5) zae))) (zab 6) (by rfl)))))) (zag (zbA 2 (zbB (zaa (zab 4) (zaa (zab 5) (zaa (zaL (zaN (zab 0) zad) zad) zae)))))) zas)))))))) (zco 2 (zag (zao (zab 2))))))
theorem zhG:Cal (Gam C_Shop) P w K mg base "_law_stocks" 2 1 zcG :=
 V.d7.cal (k:=0) zbC (bn fun _ _ _ _ _ _ _=>rfl) fun f cdv A outer s H E hr =>
  (zaf (za0 (zaW zm5 (zaL (zab 0) zad) zad (zaU _)) (zag (zao (DO.de (zbf zae)))) zas) (zaf (zcD 2 zbC.nd (zbf zae)) (zaf (zcD 3 zbC.nd (zbf zae)) (zaf (zbG PassesOwn.never rfl (zb1 rfl V.z_range (zaa (zap zbO rfl V.z_len (by rfl) (zaa (zab 1) zae)) zae)) (zam 4 zbC.nd) (zaf (zaD 0 zbC.nd (zaQ (zaN (zab 0) zad) zad)) (zaf (za0 (zaW zfu (zaL (zab 0) zad) zad (zaU _)) (zag (zbA 2 (zbB (zaa (zat (zat (zab 1) (zab 4)) zad) (zaa (zaQ zad (zaL (zaN (zab 0) zad) zad)) zae))))) zas) (zag (za0 (DW.dt (zcB (zaW zfu (zaL (zab 0) zad) zad (zaU _)) (zb0 (zaW zfu (zaL (zab 0) zad) zad (zaU _))))) (zag (zbA 3 (zbB (zaa (zat (zat (zab 1) (zab 4)) zad) (zaa (zaQ zad (zaL (zaN (zab 0) zad) zad)) zae))))) zas))))) (zaf (zaD 5 zbC.nd (zaL (zaN (zab 0) zad) zad)) (zco 2 (zco 3 (zag (zao (DO.de (zbf (zaa (zbB (zaa zbc (zaa (zab 5) (zaa (zaQ (zab 5) (zaL (zaN (zab 0) zad) zad)) (zaa (zab 2) (zaa (zab 3) zae)))))) zae))))))))))))
theorem ziz:Cal (Gam C_Shop) P w K mg base "_law_parts" 2 3 zcy :=
 V.d8.cal (k:=2) zaK (bn fun _ _ _ _ _ _ _=>rfl) fun f cdv A outer s H E hr =>
  (zaf (zaD 2 zaK.nd (zaN (dC (zcb V) hr (zaa (zab 0) (zaa zad zae)) ln2) zad)) (zaf (zaD 3 zaK.nd (zaQ zad (zaL (zab 2) zad))) (zaf (zcD 4 zaK.nd (zbf zae)) (zaf (zbG PassesOwn.never rfl (zb1 rfl V.z_range (zaa (zaQ zad (zaL (zaN (zab 2) zad) zad)) zae)) (zam 5 zaK.nd) (zag (zbA 4 (zbB (zaa (zaQ (zat zbc (zab 5)) (zcV zbc zdE (zdD (zaL (zaN (zab 2) zad) zad)))) (zaa (dC (zhI V) hr (zaa (dC (zcb V) hr (zaa (zab 0) (zaa (zaQ zad (zab 5)) zae)) ln2) (zaa (zab 3) zae)) ln2) zae)))))) (zaf (zcD 6 zaK.nd (zbf zae)) (zco 4 (zaf (zbG PassesOwn.never rfl (zb1 rfl V.z_range (zaa (zaQ zad (zaL (zaN (zab 2) zad) (zab 1))) zae)) (zam 5 zaK.nd) (zaf (zaD 7 zaK.nd (dC (zcb V) hr (zaa (zab 0) (zaa (zaQ zad (zab 5)) zae)) ln2)) (zaf (zaD 8 zaK.nd (dC (zjq V) hr (zaa (zaN (zab 7) zad) (zaa (zab 4) (zaa (zab 3) zae))) ln3)) (zag (zbA 6 (zbB (zaa (zaQ (zat zbc (zab 5)) (zcV zbc zdE (zdD (zaL (zaN (zab 2) zad) zad)))) (zaa (zat (DO.de (zbf (zaa zbc (zaa zbc zae)))) (zaL (zab 7) zad)) (zaa (zab 8) zae))))))))) (zco 6 (zaf (zaD 9 zaK.nd (dC (zju V) hr (zaa (dC (zcb V) hr (zaa (zab 0) (zaa zad zae)) ln2) (zaa (zab 6) (zaa (zab 3) zae))) ln3)) (zaf (zaD 10 zaK.nd (dC (zhH V) hr (zaa (dC (zcb V) hr (zaa (zab 0) (zaa zad zae)) ln2) (zaa (zab 4) zae)) ln2)) (zaf (zaD 11 zaK.nd (dC (ziA V) hr (zaa (dC (zcb V) hr (zaa (zab 0) (zaa zad zae)) ln2) (zaa (zab 6) zae)) ln2)) (zag (zao (zbB (zaa (zab 4) (zaa (zab 6) (zaa (zab 9) (zaa (zab 10) (zaa (zab 11) (zaa (dC (zhG V) hr (zaa (dC (zcb V) hr (zaa (zab 0) (zaa zad zae)) ln2) (zaa (zab 6) zae)) ln2) (zaa (zab 3) zae)))))))))))))))))))))
theorem zk0:Cal (Gam C_Shop) P w K mg base "is_whole" 1 1 zdO :=
 V.d9.cal (k:=0) ziS (bn fun _ _ _ _ _ _ _=>rfl) fun f cdv A outer s H E hr =>
  (zag (zao (zcw (zap zeK rfl V.z_isinstance (by rfl) (zaa (zab 0) (zaa (zhx rfl V.z_int (by rfl)) zae))) (zde (ztM (zap zeK rfl V.z_isinstance (by rfl) (zaa (zab 0) (zaa (zhx rfl V.z_bool (by rfl)) zae))))))))
theorem za9:Cal (Gam C_Shop) P w K mg base "is_within" 3 2 zaR :=
 V.d10.cal (k:=1) zh1 (bn fun _ _ _ _ _ _ _=>rfl) fun f cdv A outer s H E hr =>
  (zag (zao (zcw (dC (zk0 V) hr (zaa (zab 0) zae) ln1) (zde (zhz zhD zhD (zab 1) (zab 0) (zab 2))))))
theorem zbU:Cal (Gam C_Shop) P w K mg base "is_tuple" 2 1 zaS :=
 V.d11.cal (k:=0) ziT (bn fun _ _ _ _ _ _ _=>rfl) fun f cdv A outer s H E hr =>
  (zag (zao (zcw (zap zeK rfl V.z_isinstance (by rfl) (zaa (zab 0) (zaa (zhx rfl V.z_tuple (by rfl)) zae))) (zde (zfj zfu (zap zbO rfl V.z_len (by rfl) (zaa (zab 0) zae)) (zab 1) (zaU _))))))
theorem zk3:Cal (Gam C_Shop) P w K mg base "is_break" 2 3 zdR :=
 V.d12.cal (k:=2) ziW (bn fun _ _ _ _ _ _ _=>rfl) fun f cdv A outer s H E hr =>
  (zaf (za0 (DW.dt (zcB (zaG (zaB (dC (zbU V) hr (zaa (zab 0) (zaa zad zae)) ln2))) (zcB (zaG (zaB (dC (za9 V) hr (zaa (zat (zab 0) zad) (zaa zad (zaa (zab 1) zae))) ln3))) (zb0 (zaG (zaB (dC (za9 V) hr (zaa (zat (zab 0) zad) (zaa zad (zaa (zab 1) zae))) ln3))))))) (zag (zao zc6)) zas) (zag (zao (zfj zm3 (zat (zab 0) zad) (zat (zab 0) zad) (zaU _)))))
theorem zb2:Cal (Gam C_Shop) P w K mg base "is_list" 3 1 zbt :=
 V.d13.cal (k:=0) zkE (bn fun _ _ _ _ _ _ _=>rfl) fun f cdv A outer s H E hr =>
  (zag (zao (zcw (zap zeK rfl V.z_isinstance (by rfl) (zaa (zab 0) (zaa (zhx rfl V.z_list (by rfl)) zae))) (zde (zhz zhD zhD (zab 1) (zap zbO rfl V.z_len (by rfl) (zaa (zab 0) zae)) (zab 2))))))
theorem ziy:Cal (Gam C_Shop) P w K mg base "are_breaks" 2 4 zdJ :=
 V.d14.cal (k:=3) zhd (bn fun _ _ _ _ _ _ _=>rfl) fun f cdv A outer s H E hr =>
  (zaf (za0 (DW.dt (zcB (zaG (zaB (dC (zb2 V) hr (zaa (zab 0) (zaa zad (zaa (zb5 rfl V.k_MOST_BREAKS) zae))) ln3))) (zb0 (zaG (zaB (zap (zdt rfl) rfl V.z_all (by rfl) (zaa (DO.de (zbT rfl (CompScope.of rfl rfl) (FvOk.of (N':=["row","horizon"]) (fv:=[none,some 1]) rfl) (zaC (zab 0)) ⟨fun _ _ _ _ _=>⟨(zam 0 (show (["row","horizon"]:List Str).Nodup by decide +kernel)),zaF,(dC (zk3 V) hr (zaa (zab 0) (zaa (zab 1) zae)) ln2)⟩⟩)) zae))))))) (zag (zao zc6)) zas) (zag (zao (zap (zdt rfl) rfl V.z_all (by rfl) (zaa (DO.de (zbT rfl (CompScope.of rfl rfl) (FvOk.of (N':=["place","breaks"]) (fv:=[none,some 0]) rfl) (zit rfl V.z_range (zaa zad (zaa (zap zbO rfl V.z_len (by rfl) (zaa (zab 0) zae)) zae))) ⟨fun _ _ _ _ _=>⟨(zam 0 (show (["place","breaks"]:List Str).Nodup by decide +kernel)),zaF,(zfj zm3 (zat (zat (zab 1) (zgX (zab 0) zad)) zad) (zat (zat (zab 1) (zab 0)) zad) (zaU _))⟩⟩)) zae)))))
theorem zcx:Cal (Gam C_Shop) P w K mg base "is_name" 1 1 zb3 :=
 V.d15.cal (k:=0) zkD (bn fun _ _ _ _ _ _ _=>rfl) fun f cdv A outer s H E hr =>
  (zaf (za0 (DW.dt (zcB (zaG (zaB (zap zeK rfl V.z_isinstance (by rfl) (zaa (zab 0) (zaa (zhx rfl V.z_str (by rfl)) zae))))) (zb0 (zaG (zoy zhD zhD zad (zap zbO rfl V.z_len (by rfl) (zaa (zab 0) zae)) (zb5 rfl V.k_LONGEST_NAME)))))) (zag (zao zc6)) zas) (zag (zao (zap (zdt rfl) rfl V.z_all (by rfl) (zaa (DO.de (zbT rfl (CompScope.of rfl rfl) (FvOk.of (N':=["sign"]) (fv:=[none]) rfl) (ztJ (zab 0)) ⟨fun _ _ _ _ _=>⟨(zam 0 (show (["sign"]:List Str).Nodup by decide +kernel)),zaF,(zhz zhD zhD zbc (zab 0) zbc)⟩⟩)) zae)))))
theorem zk4:Cal (Gam C_Shop) P w K mg base "is_bench" 2 5 zdS :=
 V.d16.cal (k:=4) ziX (bn fun _ _ _ _ _ _ _=>rfl) fun f cdv A outer s H E hr =>
  (zag (zao (zcw (dC (zbU V) hr (zaa (zab 0) (zaa zad zae)) ln2) (zcw (dC (zcx V) hr (zaa (zat (zab 0) zad) zae) ln1) (zde (dC (ziy V) hr (zaa (zat (zab 0) zad) (zaa (zab 1) zae)) ln2))))))
theorem zbg:Cal (Gam C_Shop) P w K mg base "are_unlike" 1 1 zaz :=
 V.d17.cal (k:=0) zha (bn fun _ _ _ _ _ _ _=>rfl) fun f cdv A outer s H E hr =>
  (zag (zao (zfj zfu (zmU rfl (zgU hr) rfl V.z_len rfl V.z_set (zab 0)) (zap zbO rfl V.z_len (by rfl) (zaa (zab 0) zae)) (zaU _))))
theorem zhF:Cal (Gam C_Shop) P w K mg base "are_benches" 2 6 zdl :=
 V.d18.cal (k:=5) zgv (bn fun _ _ _ _ _ _ _=>rfl) fun f cdv A outer s H E hr =>
  (zaf (za0 (DW.dt (zcB (zaG (zaB (dC (zb2 V) hr (zaa (zab 0) (zaa zad (zaa (zb5 rfl V.k_MOST_BENCHES) zae))) ln3))) (zb0 (zaG (zaB (zap (zdt rfl) rfl V.z_all (by rfl) (zaa (DO.de (zbT rfl (CompScope.of rfl rfl) (FvOk.of (N':=["row","horizon"]) (fv:=[none,some 1]) rfl) (zaC (zab 0)) ⟨fun _ _ _ _ _=>⟨(zam 0 (show (["row","horizon"]:List Str).Nodup by decide +kernel)),zaF,(dC (zk4 V) hr (zaa (zab 0) (zaa (zab 1) zae)) ln2)⟩⟩)) zae))))))) (zag (zao zc6)) zas) (zag (zao (dC (zbg V) hr (zaa (DO.de (zbT rfl (CompScope.of rfl rfl) (FvOk.of (N':=["row"]) (fv:=[none]) rfl) (zaC (zab 0)) ⟨fun _ _ _ _ _=>⟨(zam 0 (show (["row"]:List Str).Nodup by decide +kernel)),zaF,(zat (zab 0) zad)⟩⟩)) zae) ln1))))
theorem zcp:Cal (Gam C_Shop) P w K mg base "is_one_of" 2 2 zbv :=
 V.d19.cal (k:=1) zh2 (bn fun _ _ _ _ _ _ _=>rfl) fun f cdv A outer s H E hr =>
  (zag (zao (zcw (dC (zcx V) hr (zaa (zab 0) zae) ln1) (zde (zfj (zm4 (zgU hr)) (zab 0) (zab 1) (by rfl))))))
theorem zoQ:Cal (Gam C_Shop) P w K mg base "is_way" 3 3 zfK :=
 V.d20.cal (k:=2) zly (bn fun _ _ _ _ _ _ _=>rfl) fun f cdv A outer s H E hr =>
  (zag (zao (zcw (dC (zbU V) hr (zaa (zab 0) (zaa zad zae)) ln2) (zcw (dC (zcp V) hr (zaa (zat (zab 0) zad) (zaa (zab 1) zae)) ln2) (zde (dC (za9 V) hr (zaa (zat (zab 0) zad) (zaa zad (zaa (zab 2) zae))) ln3))))))
theorem zk5:Cal (Gam C_Shop) P w K mg base "are_ways" 3 4 ze7 :=
 V.d21.cal (k:=3) ziY (bn fun _ _ _ _ _ _ _=>rfl) fun f cdv A outer s H E hr =>
  (zaf (za0 (DW.dt (zcB (zaG (zaB (dC (zb2 V) hr (zaa (zab 0) (zaa zad (zaa (zb5 rfl V.k_MOST_WAYS) zae))) ln3))) (zb0 (zaG (zaB (zap (zdt rfl) rfl V.z_all (by rfl) (zaa (DO.de (zbT rfl (CompScope.of rfl rfl) (FvOk.of (N':=["row","bench_names","horizon"]) (fv:=[none,some 1,some 2]) rfl) (zaC (zab 0)) ⟨fun _ _ _ _ _=>⟨(zam 0 (show (["row","bench_names","horizon"]:List Str).Nodup by decide +kernel)),zaF,(dC (zoQ V) hr (zaa (zab 0) (zaa (zab 1) (zaa (zab 2) zae))) ln3)⟩⟩)) zae))))))) (zag (zao zc6)) zas) (zag (zao (dC (zbg V) hr (zaa (DO.de (zbT rfl (CompScope.of rfl rfl) (FvOk.of (N':=["row"]) (fv:=[none]) rfl) (zaC (zab 0)) ⟨fun _ _ _ _ _=>⟨(zam 0 (show (["row"]:List Str).Nodup by decide +kernel)),zaF,(zat (zab 0) zad)⟩⟩)) zae) ln1))))
theorem znb:Cal (Gam C_Shop) P w K mg base "is_step" 3 5 zeL :=
 V.d22.cal (k:=4) zkC (bn fun _ _ _ _ _ _ _=>rfl) fun f cdv A outer s H E hr =>
  (zaf (za0 (DW.dt (zcB (zaG (zaB (dC (zbU V) hr (zaa (zab 0) (zaa zad zae)) ln2))) (zcB (zaG (zaB (dC (zcx V) hr (zaa (zat (zab 0) zad) zae) ln1))) (zb0 (zaG (zaB (dC (zcx V) hr (zaa (zat (zab 0) zad) zae) ln1))))))) (zag (zao zc6)) zas) (zag (zao (dC (zk5 V) hr (zaa (zat (zab 0) zad) (zaa (zab 1) (zaa (zab 2) zae))) ln3))))
theorem zjo:Cal (Gam C_Shop) P w K mg base "are_steps" 3 6 zeh :=
 V.d23.cal (k:=5) zh4 (bn fun _ _ _ _ _ _ _=>rfl) fun f cdv A outer s H E hr =>
  (zaf (za0 (DW.dt (zcB (zaG (zaB (dC (zb2 V) hr (zaa (zab 0) (zaa zad (zaa (zb5 rfl V.k_MOST_STEPS) zae))) ln3))) (zb0 (zaG (zaB (zap (zdt rfl) rfl V.z_all (by rfl) (zaa (DO.de (zbT rfl (CompScope.of rfl rfl) (FvOk.of (N':=["row","bench_names","horizon"]) (fv:=[none,some 1,some 2]) rfl) (zaC (zab 0)) ⟨fun _ _ _ _ _=>⟨(zam 0 (show (["row","bench_names","horizon"]:List Str).Nodup by decide +kernel)),zaF,(dC (znb V) hr (zaa (zab 0) (zaa (zab 1) (zaa (zab 2) zae))) ln3)⟩⟩)) zae))))))) (zag (zao zc6)) zas) (zag (zao (dC (zbg V) hr (zaa (DO.de (zbT rfl (CompScope.of rfl rfl) (FvOk.of (N':=["row"]) (fv:=[none]) rfl) (zaC (zab 0)) ⟨fun _ _ _ _ _=>⟨(zam 0 (show (["row"]:List Str).Nodup by decide +kernel)),zaF,(zat (zab 0) zad)⟩⟩)) zae) ln1))))
theorem zoR:Cal (Gam C_Shop) P w K mg base "is_job" 3 3 zhP :=
 V.d24.cal (k:=2) zlz (bn fun _ _ _ _ _ _ _=>rfl) fun f cdv A outer s H E hr =>
  (zaf (za0 (DW.dt (zcB (zaG (zaB (dC (zbU V) hr (zaa (zab 0) (zaa zad zae)) ln2))) (zcB (zaG (zaB (dC (zcx V) hr (zaa (zat (zab 0) zad) zae) ln1))) (zb0 (zaG (zaB (zap zeK rfl V.z_isinstance (by rfl) (zaa (zat (zab 0) zad) (zaa (zhx rfl V.z_bool (by rfl)) zae))))))))) (zag (zao zc6)) zas) (zaf (za0 (DW.dt (zcB (zaG (zaB (dC (za9 V) hr (zaa (zat (zab 0) zad) (zaa zad (zaa (zab 2) zae))) ln3))) (zb0 (zaG (zaB (dC (za9 V) hr (zaa (zat (zab 0) zad) (zaa zad (zaa (zab 2) zae))) ln3)))))) (zag (zao zc6)) zas) (zag (zao (zcw (dC (zb2 V) hr (zaa (zat (zab 0) zad) (zaa zad (zaa (zap zbO rfl V.z_len (by rfl) (zaa (zab 1) zae)) zae))) ln3) (zde (zap (zdt rfl) rfl V.z_all (by rfl) (zaa (DO.de (zbT rfl (CompScope.of rfl rfl) (FvOk.of (N':=["name","step_names"]) (fv:=[none,some 1]) rfl) (zaC (zat (zab 0) zad)) ⟨fun _ _ _ _ _=>⟨(zam 0 (show (["name","step_names"]:List Str).Nodup by decide +kernel)),zaF,(dC (zcp V) hr (zaa (zab 0) (zaa (zab 1) zae)) ln2)⟩⟩)) zae))))))))
theorem zk6:Cal (Gam C_Shop) P w K mg base "are_jobs" 3 4 ze8 :=
 V.d25.cal (k:=3) zd7 (bn fun _ _ _ _ _ _ _=>rfl) fun f cdv A outer s H E hr =>
  (zaf (za0 (DW.dt (zcB (zaG (zaB (dC (zb2 V) hr (zaa (zab 0) (zaa zad (zaa (zb5 rfl V.k_MOST_JOBS) zae))) ln3))) (zb0 (zaG (zaB (zap (zdt rfl) rfl V.z_all (by rfl) (zaa (DO.de (zbT rfl (CompScope.of rfl rfl) (FvOk.of (N':=["row","step_names","horizon"]) (fv:=[none,some 1,some 2]) rfl) (zaC (zab 0)) ⟨fun _ _ _ _ _=>⟨(zam 0 (show (["row","step_names","horizon"]:List Str).Nodup by decide +kernel)),zaF,(dC (zoR V) hr (zaa (zab 0) (zaa (zab 1) (zaa (zab 2) zae))) ln3)⟩⟩)) zae))))))) (zag (zao zc6)) zas) (zaf (zcD 3 zd7.nd (zbf zae)) (zaf (zbG PassesOwn.never rfl (zaC (zab 0)) (zam 4 zd7.nd) (zag (zgk 3 (zat (zab 4) zad)))) (zco 3 (zag (zao (zcw (dC (zbg V) hr (zaa (DO.de (zbT rfl (CompScope.of rfl rfl) (FvOk.of (N':=["row"]) (fv:=[none]) rfl) (zaC (zab 0)) ⟨fun _ _ _ _ _=>⟨(zam 0 (show (["row"]:List Str).Nodup by decide +kernel)),zaF,(zat (zab 0) zad)⟩⟩)) zae) ln1) (zde (dC (zbg V) hr (zaa (zab 3) zae) ln1)))))))))
theorem zk2:Cal (Gam C_Shop) P w K mg base "is_setup" 3 3 zdQ :=
 V.d26.cal (k:=2) ziV (bn fun _ _ _ _ _ _ _=>rfl) fun f cdv A outer s H E hr =>
  (zaf (za0 (DW.dt (zcB (zaG (zaB (dC (zbU V) hr (zaa (zab 0) (zaa zad zae)) ln2))) (zb0 (zaG (zaB (dC (zcp V) hr (zaa (zat (zab 0) zad) (zaa (zab 1) zae)) ln2)))))) (zag (zao zc6)) zas) (zag (zao (zcw (dC (zcx V) hr (zaa (zat (zab 0) zad) zae) ln1) (zcw (dC (zcx V) hr (zaa (zat (zab 0) zad) zae) ln1) (zde (dC (za9 V) hr (zaa (zat (zab 0) zad) (zaa zad (zaa (zab 2) zae))) ln3)))))))
theorem zix:Cal (Gam C_Shop) P w K mg base "are_setups" 3 4 zdI :=
 V.d27.cal (k:=3) zhc (bn fun _ _ _ _ _ _ _=>rfl) fun f cdv A outer s H E hr =>
  (zaf (za0 (DW.dt (zcB (zaG (zaB (dC (zb2 V) hr (zaa (zab 0) (zaa zad (zaa (zb5 rfl V.k_MOST_SETUPS) zae))) ln3))) (zb0 (zaG (zaB (zap (zdt rfl) rfl V.z_all (by rfl) (zaa (DO.de (zbT rfl (CompScope.of rfl rfl) (FvOk.of (N':=["row","bench_names","horizon"]) (fv:=[none,some 1,some 2]) rfl) (zaC (zab 0)) ⟨fun _ _ _ _ _=>⟨(zam 0 (show (["row","bench_names","horizon"]:List Str).Nodup by decide +kernel)),zaF,(dC (zk2 V) hr (zaa (zab 0) (zaa (zab 1) (zaa (zab 2) zae))) ln3)⟩⟩)) zae))))))) (zag (zao zc6)) zas) (zag (zao (dC (zbg V) hr (zaa (DO.de (zbT rfl (CompScope.of rfl rfl) (FvOk.of (N':=["row"]) (fv:=[none]) rfl) (zaC (zab 0)) ⟨fun _ _ _ _ _=>⟨(zam 0 (show (["row"]:List Str).Nodup by decide +kernel)),zaF,(zcV (zab 0) zdE (zdD zad))⟩⟩)) zae) ln1))))
theorem znc:Cal (Gam C_Shop) P w K mg base "is_link" 3 3 zeM :=
 V.d28.cal (k:=2) zkF (bn fun _ _ _ _ _ _ _=>rfl) fun f cdv A outer s H E hr =>
  (zaf (za0 (DW.dt (zcB (zaG (zaB (dC (zbU V) hr (zaa (zab 0) (zaa zad zae)) ln2))) (zcB (zaG (zaB (dC (zcp V) hr (zaa (zat (zab 0) zad) (zaa (zab 1) zae)) ln2))) (zb0 (zaG (zaB (dC (zcp V) hr (zaa (zat (zab 0) zad) (zaa (zab 1) zae)) ln2))))))) (zag (zao zc6)) zas) (zag (zao (zcw (zfj (ziv (zpk hr)) (zat (zab 0) zad) (zat (zab 0) zad) (zaU _)) (zde (dC (za9 V) hr (zaa (zat (zab 0) zad) (zaa zad (zaa (zab 2) zae))) ln3))))))
theorem zjp:Cal (Gam C_Shop) P w K mg base "are_links" 3 4 zei :=
 V.d29.cal (k:=3) zh5 (bn fun _ _ _ _ _ _ _=>rfl) fun f cdv A outer s H E hr =>
  (zaf (za0 (DW.dt (zcB (zaG (zaB (dC (zb2 V) hr (zaa (zab 0) (zaa zad (zaa (zb5 rfl V.k_MOST_LINKS) zae))) ln3))) (zb0 (zaG (zaB (zap (zdt rfl) rfl V.z_all (by rfl) (zaa (DO.de (zbT rfl (CompScope.of rfl rfl) (FvOk.of (N':=["row","step_names","horizon"]) (fv:=[none,some 1,some 2]) rfl) (zaC (zab 0)) ⟨fun _ _ _ _ _=>⟨(zam 0 (show (["row","step_names","horizon"]:List Str).Nodup by decide +kernel)),zaF,(dC (znc V) hr (zaa (zab 0) (zaa (zab 1) (zaa (zab 2) zae))) ln3)⟩⟩)) zae))))))) (zag (zao zc6)) zas) (zag (zao (dC (zbg V) hr (zaa (DO.de (zbT rfl (CompScope.of rfl rfl) (FvOk.of (N':=["row"]) (fv:=[none]) rfl) (zaC (zab 0)) ⟨fun _ _ _ _ _=>⟨(zam 0 (show (["row"]:List Str).Nodup by decide +kernel)),zaF,(zcV (zab 0) zdE (zdD zad))⟩⟩)) zae) ln1))))
theorem zjn:Cal (Gam C_Shop) P w K mg base "is_amount" 2 3 zdk :=
 V.d30.cal (k:=2) zh3 (bn fun _ _ _ _ _ _ _=>rfl) fun f cdv A outer s H E hr =>
  (zag (zao (zcw (dC (zbU V) hr (zaa (zab 0) (zaa zad zae)) ln2) (zcw (dC (zcp V) hr (zaa (zat (zab 0) zad) (zaa (zab 1) zae)) ln2) (zde (dC (za9 V) hr (zaa (zat (zab 0) zad) (zaa zad (zaa (zb5 rfl V.k_MOST_AMOUNT) zae))) ln3))))))
theorem zeI:Cal (Gam C_Shop) P w K mg base "are_amounts" 2 4 zcF :=
 V.d31.cal (k:=3) zgw (bn fun _ _ _ _ _ _ _=>rfl) fun f cdv A outer s H E hr =>
  (zaf (za0 (DW.dt (zcB (zaG (zaB (dC (zb2 V) hr (zaa (zab 0) (zaa zad (zaa (zap zbO rfl V.z_len (by rfl) (zaa (zab 1) zae)) zae))) ln3))) (zb0 (zaG (zaB (zap (zdt rfl) rfl V.z_all (by rfl) (zaa (DO.de (zbT rfl (CompScope.of rfl rfl) (FvOk.of (N':=["row","step_names"]) (fv:=[none,some 1]) rfl) (zaC (zab 0)) ⟨fun _ _ _ _ _=>⟨(zam 0 (show (["row","step_names"]:List Str).Nodup by decide +kernel)),zaF,(dC (zjn V) hr (zaa (zab 0) (zaa (zab 1) zae)) ln2)⟩⟩)) zae))))))) (zag (zao zc6)) zas) (zag (zao (dC (zbg V) hr (zaa (DO.de (zbT rfl (CompScope.of rfl rfl) (FvOk.of (N':=["row"]) (fv:=[none]) rfl) (zaC (zab 0)) ⟨fun _ _ _ _ _=>⟨(zam 0 (show (["row"]:List Str).Nodup by decide +kernel)),zaF,(zat (zab 0) zad)⟩⟩)) zae) ln1))))
theorem zk1:Cal (Gam C_Shop) P w K mg base "is_stock" 2 5 zdP :=
 V.d32.cal (k:=4) ziU (bn fun _ _ _ _ _ _ _=>rfl) fun f cdv A outer s H E hr =>
  (zaf (za0 (DW.dt (zcB (zaG (zaB (dC (zbU V) hr (zaa (zab 0) (zaa zad zae)) ln2))) (zb0 (zaG (zaB (dC (zcx V) hr (zaa (zat (zab 0) zad) zae) ln1)))))) (zag (zao zc6)) zas) (zaf (za0 (DW.dt (zcB (zaG (zaB (dC (za9 V) hr (zaa (zat (zab 0) zad) (zaa zad (zaa (zb5 rfl V.k_MOST_AMOUNT) zae))) ln3))) (zb0 (zaG (zaB (dC (za9 V) hr (zaa (zat (zab 0) zad) (zaa zad (zaa (zat (zab 0) zad) zae))) ln3)))))) (zag (zao zc6)) zas) (zag (zao (zcw (dC (zeI V) hr (zaa (zat (zab 0) zad) (zaa (zab 1) zae)) ln2) (zde (dC (zeI V) hr (zaa (zat (zab 0) zad) (zaa (zab 1) zae)) ln2)))))))
theorem ziw:Cal (Gam C_Shop) P w K mg base "are_stocks" 2 6 zdH :=
 V.d33.cal (k:=5) zhb (bn fun _ _ _ _ _ _ _=>rfl) fun f cdv A outer s H E hr =>
  (zaf (za0 (DW.dt (zcB (zaG (zaB (dC (zb2 V) hr (zaa (zab 0) (zaa zad (zaa (zb5 rfl V.k_MOST_STOCKS) zae))) ln3))) (zb0 (zaG (zaB (zap (zdt rfl) rfl V.z_all (by rfl) (zaa (DO.de (zbT rfl (CompScope.of rfl rfl) (FvOk.of (N':=["row","step_names"]) (fv:=[none,some 1]) rfl) (zaC (zab 0)) ⟨fun _ _ _ _ _=>⟨(zam 0 (show (["row","step_names"]:List Str).Nodup by decide +kernel)),zaF,(dC (zk1 V) hr (zaa (zab 0) (zaa (zab 1) zae)) ln2)⟩⟩)) zae))))))) (zag (zao zc6)) zas) (zag (zao (dC (zbg V) hr (zaa (DO.de (zbT rfl (CompScope.of rfl rfl) (FvOk.of (N':=["row"]) (fv:=[none]) rfl) (zaC (zab 0)) ⟨fun _ _ _ _ _=>⟨(zam 0 (show (["row"]:List Str).Nodup by decide +kernel)),zaF,(zat (zab 0) zad)⟩⟩)) zae) ln1))))
theorem zfv:Cal (Gam C_Shop) P w K mg base "first_bad_part" 7 7 zcC :=
 V.d34.cal (k:=6) zcn (bn fun _ _ _ _ _ _ _=>rfl) fun f cdv A outer s H E hr =>
  (zaf (za0 (zaG (zaB (dC (za9 V) hr (zaa (zab 6) (zaa zad (zaa (zb5 rfl V.k_MOST_HORIZON) zae))) ln3))) (zag (zao zbc)) zas) (zaf (za0 (zaG (zaB (dC (zhF V) hr (zaa (zab 0) (zaa (zab 6) zae)) ln2))) (zag (zao zbc)) zas) (zaf (zoC 7 zcn.nd rfl (CompScope.of rfl rfl) (FvOk.of (N':=["row"]) (fv:=[none]) rfl) (zaC (zab 0)) ⟨fun _ _ _ _ _=>⟨(zam 0 (show (["row"]:List Str).Nodup by decide +kernel)),zaF,(zat (zab 0) zad)⟩⟩) (zaf (za0 (zaG (zaB (dC (zjo V) hr (zaa (zab 1) (zaa (zab 7) (zaa (zab 6) zae))) ln3))) (zag (zao zbc)) zas) (zaf (zoC 8 zcn.nd rfl (CompScope.of rfl rfl) (FvOk.of (N':=["row"]) (fv:=[none]) rfl) (zaC (zab 1)) ⟨fun _ _ _ _ _=>⟨(zam 0 (show (["row"]:List Str).Nodup by decide +kernel)),zaF,(zat (zab 0) zad)⟩⟩) (zaf (za0 (zaG (zaB (dC (zk6 V) hr (zaa (zab 2) (zaa (zab 8) (zaa (zab 6) zae))) ln3))) (zag (zao zbc)) zas) (zaf (za0 (zaG (zaB (dC (zix V) hr (zaa (zab 3) (zaa (zab 7) (zaa (zab 6) zae))) ln3))) (zag (zao zbc)) zas) (zaf (za0 (zaG (zaB (dC (zjp V) hr (zaa (zab 4) (zaa (zab 8) (zaa (zab 6) zae))) ln3))) (zag (zao zbc)) zas) (zaf (za0 (zaG (zaB (dC (ziw V) hr (zaa (zab 5) (zaa (zab 8) zae)) ln2))) (zag (zao zbc)) zas) (zag (zao zd1)))))))))))
theorem zm9 {k:Nat} {zbw:FQ} (zcj:Cal (Gam C_Shop) P w K mg base "fresh" 1 k zbw):Cal (Gam C_Shop) P w K mg base "fresh" 1 (k+1) (zda zbw) :=
 V.d35.cal (k:=k) znJ (bn fun _ _ _ _ _ _ _=>rfl) fun f cdv A outer s H E hr =>
  (zaf (za0 (zaB (zap zeK rfl V.z_isinstance (by rfl) (zaa (zab 0) (zaa (zhx rfl V.z_list (by rfl)) zae)))) (zag (zao (DO.de (zbT rfl (CompScope.of rfl rfl) (FvOk.of (N':=["part"]) (fv:=[none]) rfl) (zaC (zab 0)) ⟨fun _ _ _ _ _=>⟨(zam 0 (show (["part"]:List Str).Nodup by decide +kernel)),zaF,(zd2 zcj hr (qu _) rfl (zaa (zab 0) zae) ln1)⟩⟩)))) zas) (zaf (za0 (zaB (zap zeK rfl V.z_isinstance (by rfl) (zaa (zab 0) (zaa (zhx rfl V.z_tuple (by rfl)) zae)))) (zag (zao (zdF znx rfl V.z_tuple (by rfl) (zaa (DO.de (zbT rfl (CompScope.of rfl rfl) (FvOk.of (N':=["part"]) (fv:=[none]) rfl) (zaC (zab 0)) ⟨fun _ _ _ _ _=>⟨(zam 0 (show (["part"]:List Str).Nodup by decide +kernel)),zaF,(zd2 zcj hr (qu _) rfl (zaa (zab 0) zae) ln1)⟩⟩)) zae)))) zas) (zag (zao (zab 0)))))
theorem zcj:Cal (Gam C_Shop) P w K mg base "fresh" 1 8 zbw:=by
 have h:∀ n,Cal (Gam C_Shop) P w K mg base "fresh" 1 n (zc9 n):=fun n=>by
  induction n with
  | zero=>exact Dfn.none (ps:=["thing"]) V.d35 (bn fun _ _ _ _ _ _ _=>rfl)
  | succ n ih=>exact zm9 V ih
 exact h 8
theorem zgp:CalI (Gam C_Shop) P w K mg base "Shop" 7 9 zcR :=
 DfnM.calI (k:=8) V.O_Shop V.d36 zb4 (bn fun _ _ _ _ _ _ _=>rfl) fun f y cdv A outer s H E hr =>
  (zaf (zaD 8 zb4.nd (zd2 ((zfv V).re y) hr (by decide) rfl (zaa (zab 1) (zaa (zab 2) (zaa (zab 3) (zaa (zab 4) (zaa (zab 5) (zaa (zab 6) (zaa (zab 7) zae))))))) ln7)) (zaf (za0 (zaW zks (zab 8) zd1 (zaU _)) (zag zva) zas) (zaf (zc4 0 (V.cf_Shop.re y) (.head _) (zd2 ((zcj V).re y) hr (by decide) rfl (zaa (zab 1) zae) ln1)) (zaf (zc4 0 (V.cf_Shop.re y) (.tail _ (.head _)) (zd2 ((zcj V).re y) hr (by decide) rfl (zaa (zab 2) zae) ln1)) (zaf (zc4 0 (V.cf_Shop.re y) (.tail _ (.tail _ (.head _))) (zd2 ((zcj V).re y) hr (by decide) rfl (zaa (zab 3) zae) ln1)) (zaf (zc4 0 (V.cf_Shop.re y) (.tail _ (.tail _ (.tail _ (.head _)))) (zd2 ((zcj V).re y) hr (by decide) rfl (zaa (zab 4) zae) ln1)) (zaf (zc4 0 (V.cf_Shop.re y) (.tail _ (.tail _ (.tail _ (.tail _ (.head _))))) (zd2 ((zcj V).re y) hr (by decide) rfl (zaa (zab 5) zae) ln1)) (zaf (zc4 0 (V.cf_Shop.re y) (.tail _ (.tail _ (.tail _ (.tail _ (.tail _ (.head _)))))) (zd2 ((zcj V).re y) hr (by decide) rfl (zaa (zab 6) zae) ln1)) (zaf (zc4 0 (V.cf_Shop.re y) (.tail _ (.tail _ (.tail _ (.tail _ (.tail _ (.tail _ (.head _))))))) (zab 7)) (zaf (zc4 0 (V.cf_Shop.re y) (.tail _ (.tail _ (.tail _ (.tail _ (.tail _ (.tail _ (.tail _ (.head _)))))))) (zdF (zg6 rfl (zgU hr)) rfl V.z_dict (by rfl) (zaa (DO.de (zbT rfl (CompScope.of rfl rfl) (FvOk.of (N':=["row"]) (fv:=[none]) rfl) (zaC (zhy 0 (V.cf_Shop.re y) (.head _))) ⟨fun _ _ _ _ _=>⟨(zam 0 (show (["row"]:List Str).Nodup by decide +kernel)),zaF,(zbB (zaa (zat (zab 0) zad) (zaa (zab 0) zae)))⟩⟩)) zae))) (zaf (zc4 0 (V.cf_Shop.re y) (.tail _ (.tail _ (.tail _ (.tail _ (.tail _ (.tail _ (.tail _ (.tail _ (.head _))))))))) (zdF (zg6 rfl (zgU hr)) rfl V.z_dict (by rfl) (zaa (DO.de (zbT rfl (CompScope.of rfl rfl) (FvOk.of (N':=["row"]) (fv:=[none]) rfl) (zaC (zhy 0 (V.cf_Shop.re y) (.tail _ (.head _)))) ⟨fun _ _ _ _ _=>⟨(zam 0 (show (["row"]:List Str).Nodup by decide +kernel)),zaF,(zbB (zaa (zat (zab 0) zad) (zaa (zab 0) zae)))⟩⟩)) zae))) (zaf (zc4 0 (V.cf_Shop.re y) (.tail _ (.tail _ (.tail _ (.tail _ (.tail _ (.tail _ (.tail _ (.tail _ (.tail _ (.head _)))))))))) (zdF (zny rfl (zgU hr)) rfl V.z_dict (by rfl) (zaa (DO.de (zbT rfl (CompScope.of rfl rfl) (FvOk.of (N':=["row"]) (fv:=[none]) rfl) (zaC (zhy 0 (V.cf_Shop.re y) (.tail _ (.tail _ (.tail _ (.head _)))))) ⟨fun _ _ _ _ _=>⟨(zam 0 (show (["row"]:List Str).Nodup by decide +kernel)),zaF,(zbB (zaa (zcV (zab 0) zdE (zdD zad)) (zaa (zat (zab 0) zad) zae)))⟩⟩)) zae))) (zaf (ztE 0 (V.cf_Shop.re y) (.tail _ (.tail _ (.tail _ (.tail _ (.tail _ (.tail _ (.tail _ (.tail _ (.tail _ (.tail _ (.head _)))))))))))) (zag (zbG PassesOwn.never rfl (zaC (zhy 0 (V.cf_Shop.re y) (.tail _ (.tail _ (.head _))))) (zam 9 zb4.nd) (zag (zbG PassesOwn.never rfl (zaC (zat (zab 9) zad)) (zam 10 zb4.nd) (zag (zmJ 0 (zgU hr) (V.cf_Shop.re y) (.tail _ (.tail _ (.tail _ (.tail _ (.tail _ (.tail _ (.tail _ (.tail _ (.tail _ (.tail _ (.head _))))))))))) (zab 10) (zab 9))))))))))))))))))))
theorem zjr:Cal (Gam C_Shop) P w K mg base "_law_shop" 1 11 zdn :=
 V.d37.cal (k:=10) zh6 (bn fun _ _ _ _ _ _ _=>rfl) fun f cdv A outer s H E hr =>
  (zag (zao (zrh (zgp V) hr (by decide) rfl (zaa (zat (zab 0) zad) (zaa (zat (zab 0) zad) (zaa (zat (zab 0) zad) (zaa (zat (zab 0) zad) (zaa (zat (zab 0) zad) (zaa (zat (zab 0) zad) (zaa (zat (zab 0) zad) zae))))))) ln7)))
theorem ziB:Cal (Gam C_Shop) P w K mg base "_law_ahead" 1 1 zc0 :=
 V.d38.cal (k:=0) za6 (bn fun _ _ _ _ _ _ _=>rfl) fun f cdv A outer s H E hr =>
  (zaf (zoC 1 za6.nd rfl (CompScope.of rfl rfl) (FvOk.of (N':=["_law_one","_law_other","_law_gap"]) (fv:=[none,none,none]) rfl) (zaC (zat (zab 0) zad)) ⟨fun _ _ _ _ _=>⟨(zeD (n:=3) rfl (zaE (zam 0 (show (["_law_one","_law_other","_law_gap"]:List Str).Nodup by decide +kernel)) (zaE (zam 1 (show (["_law_one","_law_other","_law_gap"]:List Str).Nodup by decide +kernel)) (zaE (zam 2 (show (["_law_one","_law_other","_law_gap"]:List Str).Nodup by decide +kernel)) zc5)))),zaF,(zbB (zaa (zab 0) (zaa (zab 1) zae)))⟩⟩) (zaf (zbG PassesOwn.never rfl (zaC (zat (zab 0) zad)) (zeD (n:=5) rfl (zaE (zam 2 za6.nd) (zaE (zam 3 za6.nd) (zaE (zam 4 za6.nd) (zaE (zam 5 za6.nd) (zaE (zam 6 za6.nd) zc5)))))) (zag (za0 (zaB (zab 5)) (zag (zbG PassesOwn.never rfl (zb1 rfl V.z_range (zaa (zap zbO rfl V.z_len (by rfl) (zaa (zab 6) zae)) zae)) (zam 7 za6.nd) (zag (zaD 1 za6.nd (zaQ (zab 1) (DO.de (zbT rfl (CompScope.of rfl rfl) (FvOk.of (N':=["_law_one","_law_steps","_law_k"]) (fv:=[none,some 6,some 7]) rfl) (zaC (zcV (zab 6) zdE (zdD (zab 7)))) ⟨fun _ _ _ _ _=>⟨(zam 0 (show (["_law_one","_law_steps","_law_k"]:List Str).Nodup by decide +kernel)),zaF,(zbB (zaa (zab 0) (zaa (zat (zab 1) (zab 2)) zae)))⟩⟩))))))) zas))) (zag (zao (zab 1)))))
theorem zjs:Cal (Gam C_Shop) P w K mg base "_law_rank" 3 1 zdo :=
 V.d39.cal (k:=0) zbe (bn fun _ _ _ _ _ _ _=>rfl) fun f cdv A outer s H E hr =>
  (zaf (zaD 3 zbe.nd (zat (zab 0) zad)) (zaf (zbG PassesOwn.never rfl (zaC (zat (zab 0) zad)) (zeD (n:=5) rfl (zaE (zam 4 zbe.nd) (zaE (zam 5 zbe.nd) (zaE (zam 6 zbe.nd) (zaE (zam 7 zbe.nd) (zaE (zam 8 zbe.nd) zc5)))))) (zag (za0 (zaW (zm4 (zgU hr)) (zat (zab 2) zad) (zab 8) (by rfl)) (zag (zaD 3 zbe.nd (zab 6))) zas))) (zaf (zaD 9 zbe.nd (zap (zni rfl) rfl V.z_min (by rfl) (zaa (DO.de (zbT rfl (CompScope.of rfl rfl) (FvOk.of (N':=["_law_bench","_law_length"]) (fv:=[none,none]) rfl) (zaC (zat (zab 2) zad)) ⟨fun _ _ _ _ _=>⟨(zeD (n:=2) rfl (zaE (zam 0 (show (["_law_bench","_law_length"]:List Str).Nodup by decide +kernel)) (zaE (zam 1 (show (["_law_bench","_law_length"]:List Str).Nodup by decide +kernel)) zc5))),zaF,(zab 1)⟩⟩)) zae))) (zag (zao (zjj (zgU hr) (zri (zfJ zad (zfJ (zgX zad (zab 9)) (zfJ (zab 3) (zfJ (zgX (zab 3) (zab 9)) zq8)))) (by decide +kernel) (by simp) (by decide)) (zab 1)))))))
theorem zjt:Cal (Gam C_Shop) P w K mg base "_law_next" 4 2 zbx :=
 V.d40.cal (k:=1) zce (bn fun _ _ _ _ _ _ _=>rfl) fun f cdv A outer s H E hr =>
  (zaf (zaD 4 zce.nd zd1) (zaf (zbG PassesOwn.never rfl (zaC (zat (zab 0) zad)) (zam 5 zce.nd) (zag (za0 (zaW (zhC (zgU hr)) (zat (zab 5) zad) (zab 3) (by rfl)) (zaf (zoC 6 zce.nd rfl (CompScope.of rfl rfl) (FvOk.of (N':=["_law_one","_law_other","_law_row_here","_law_step"]) (fv:=[none,none,some 3,some 5]) rfl) (zaC (zab 1)) ⟨fun _ _ _ _ _=>⟨(zeD (n:=2) rfl (zaE (zam 0 (show (["_law_one","_law_other","_law_row_here","_law_step"]:List Str).Nodup by decide +kernel)) (zaE (zam 1 (show (["_law_one","_law_other","_law_row_here","_law_step"]:List Str).Nodup by decide +kernel)) zc5))),(zhw (DW.dt (zki (zaW (zm6 (zpk hr)) (zab 1) (zat (zab 3) zad) (zaU _)) (zhu (zaW (zhC (zgU hr)) (zab 0) (zab 2) (by rfl)))))),(zab 0)⟩⟩) (zaf (zaD 7 zce.nd (dC (zjs V) hr (zaa (zab 0) (zaa (zab 2) (zaa (zab 5) zae))) ln3)) (zag (za0 (DW.dt (zki (zaW (zm6 (zpk hr)) (zab 6) (DO.de (zbf zae)) (zaU _)) (zhu (DW.dt (zcB (zaW zoN (zab 4) zd1 (zaU _)) (zb0 (zaW zm3 (zab 7) (zat (zab 4) zad) (zaU _)))))))) (zag (zaD 4 zce.nd (zbB (zaa (zab 7) (zaa (zat (zab 5) zad) zae))))) zas)))) zas))) (zag (zao (zab 4)))))
theorem zk7:Cal (Gam C_Shop) P w K mg base "_law_due" 2 3 zcN :=
 V.d41.cal (k:=2) zcO (bn fun _ _ _ _ _ _ _=>rfl) fun f cdv A outer s H E hr =>
  (zaf (zaD 2 zcO.nd (dC (ziB V) hr (zaa (zab 0) zae) ln1)) (zaf (zcD 3 zcO.nd (zbf zae)) (zaf (zbG PassesOwn.never rfl (zb1 rfl V.z_range (zaa (zap zbO rfl V.z_len (by rfl) (zaa (zat (zab 0) zad) zae)) zae)) (zam 4 zcO.nd) (zaf (zaD 5 zcO.nd (zpv 3 (dC (zjt V) hr (zaa (zab 0) (zaa (zab 2) (zaa (zab 1) (zaa (zab 3) zae)))) ln4))) (zaf (za0 (zaW zoN (zab 5) zd1 (zaU _)) (zag (zao zd1)) zas) (zag (zbA 3 (zat (zab 5) zad)))))) (zco 3 (zag (zao (zab 3)))))))
theorem ze5:CalM (Gam C_Shop) P w K mg base "Shop" "step_names" 1 1 zcr :=
 DfnM.cal (k:=0) V.O_Shop V.d42 zeq (bn fun _ _ _ _ _ _ _=>rfl) fun f cdv A outer s H E hr =>
  (zag (zao (DO.de (zbT rfl (CompScope.of rfl rfl) (FvOk.of (N':=["row"]) (fv:=[none]) rfl) (zaC (zfi V.cf_Shop (.tail _ (.head _)) (zab 0))) ⟨fun _ _ _ _ _=>⟨(zam 0 (show (["row"]:List Str).Nodup by decide +kernel)),zaF,(zat (zab 0) zad)⟩⟩))))
theorem zgo:CalM (Gam C_Shop) P w K mg base "Shop" "job_rows" 1 9 zcl :=
 DfnM.cal (k:=8) V.O_Shop V.d43 zfp (bn fun _ _ _ _ _ _ _=>rfl) fun f cdv A outer s H E hr =>
  (zag (zao (dC (zcj V) hr (zaa (zfi V.cf_Shop (.tail _ (.tail _ (.head _))) (zab 0)) zae) ln1)))
theorem zkZ:Cal (Gam C_Shop) P w K mg base "pairs_of" 1 1 zcM :=
 V.d44.cal (k:=0) zdf (bn fun _ _ _ _ _ _ _=>rfl) fun f cdv A outer s H E hr =>
  (zaf (zcD 1 zdf.nd (zbf zae)) (zaf (zbG PassesOwn.never rfl (zre rfl V.z_enumerate (zab 0)) (zeD (n:=2) rfl (zaE (zam 2 zdf.nd) (zaE (zam 3 zdf.nd) zc5))) (zag (zgk 1 (DO.de (zbT rfl (CompScope.of rfl rfl) (FvOk.of (N':=["other","one"]) (fv:=[none,some 3]) rfl) (zaC (zcV (zab 0) (zdD (zaQ (zab 2) zad)) zdE)) ⟨fun _ _ _ _ _=>⟨(zam 0 (show (["other","one"]:List Str).Nodup by decide +kernel)),zaF,(zbB (zaa (zab 1) (zaa (zab 0) zae)))⟩⟩))))) (zco 1 (zag (zao (zab 1))))))
theorem zfx:CalM (Gam C_Shop) P w K mg base "Shop" "link_rows" 1 9 zb8 :=
 DfnM.cal (k:=8) V.O_Shop V.d45 zeS (bn fun _ _ _ _ _ _ _=>rfl) fun f cdv A outer s H E hr =>
  (zag (zao (dC (zcj V) hr (zaa (zfi V.cf_Shop (.tail _ (.tail _ (.tail _ (.tail _ (.head _))))) (zab 0)) zae) ln1)))
theorem zgn:Cal (Gam C_Shop) P w K mg base "greatest_gaps" 1 10 zcQ :=
 V.d46.cal (k:=9) za3 (bn fun _ _ _ _ _ _ _=>rfl) fun f cdv A outer s H E hr =>
  (zaf (ztF 1 za3.nd) (zaf (zbG PassesOwn.never rfl (zaC (zeE (zgo V) hr (by decide) (zab 0))) (zam 2 za3.nd) (zag (za0 (zaB (zat (zab 2) zad)) (zag (zbG PassesOwn.never rfl (zaC (dC (zkZ V) hr (zaa (zat (zab 2) zad) zae) ln1)) (zam 3 za3.nd) (zag (zkk 1 (zgU hr) (zab 3) zad)))) zas))) (zaf (zbG PassesOwn.never rfl (zaC (zeE (zfx V) hr (by decide) (zab 0))) (zeD (n:=3) rfl (zaE (zam 4 za3.nd) (zaE (zam 5 za3.nd) (zaE (zam 6 za3.nd) zc5)))) (zag (zkk 1 (zgU hr) (zbB (zaa (zab 4) (zaa (zab 5) zae))) (zab 6)))) (zoA 1 (zag (zao (zab 1)))))))
theorem zgB:Cal (Gam C_Shop) P w K mg base "known_orders" 1 11 zcu :=
 V.d47.cal (k:=10) zbL (bn fun _ _ _ _ _ _ _=>rfl) fun f cdv A outer s H E hr =>
  (zaf (zaD 1 zbL.nd (zeE (ze5 V) hr (by decide) (zab 0))) (zaf (zaD 2 zbL.nd (dC (zgn V) hr (zaa (zab 0) zae) ln1)) (zaf (zcD 3 zbL.nd (zbf zae)) (zaf (zbG PassesOwn.never rfl (zaC (zab 1)) (zam 4 zbL.nd) (zag (zgk 3 (DO.de (zbT rfl (CompScope.of rfl rfl) (FvOk.of (N':=["other","one","gaps"]) (fv:=[none,some 4,some 2]) rfl) (zaC (zab 1)) ⟨fun _ _ _ _ _=>⟨(zam 0 (show (["other","one","gaps"]:List Str).Nodup by decide +kernel)),(zhw (zaW (ztW (zgU hr)) (zbB (zaa (zab 1) (zaa (zab 0) zae))) (zab 2) (by rfl))),(zbB (zaa (zab 1) (zaa (zab 0) (zaa (zjj (zgU hr) (zab 2) (zbB (zaa (zab 1) (zaa (zab 0) zae)))) zae))))⟩⟩))))) (zco 3 (zag (zao (zab 3))))))))
theorem zee:CalMO (Gam C_Shop) P w K mg base "Shop" "step_names" 1 1 zaO :=
 DfnM.calO (k:=0) V.O_Shop V.d42 zdT (bn fun _ _ _ _ _ _ _=>rfl) fun f cdv A outer s H E hr =>
  (zag (zq5 (zbT rfl (CompScope.of rfl rfl) (FvOk.of (N':=["row"]) (fv:=[none]) rfl) (zaC (zfi V.cf_Shop (.tail _ (.head _)) (zab 0))) ⟨fun _ _ _ _ _=>⟨(zam 0 (show (["row"]:List Str).Nodup by decide +kernel)),zaF,(zat (zab 0) zad)⟩⟩)))
theorem zgC:CalM (Gam C_Shop) P w K mg base "Shop" "ways_of" 2 9 zdb :=
 DfnM.cal (k:=8) V.O_Shop V.d49 zfZ (bn fun _ _ _ _ _ _ _=>rfl) fun f cdv A outer s H E hr =>
  (zag (zao (dC (zcj V) hr (zaa (zat (zjj (zgU hr) (zfi V.cf_Shop (.tail _ (.tail _ (.tail _ (.tail _ (.tail _ (.tail _ (.tail _ (.tail _ (.head _))))))))) (zab 0)) (zab 1)) zad) zae) ln1)))
theorem zd3:Cal (Gam C_Shop) P w K mg base "least_length" 2 10 zct :=
 V.d50.cal (k:=9) zfY (bn fun _ _ _ _ _ _ _=>rfl) fun f cdv A outer s H E hr =>
  (zag (zao (zap (zni rfl) rfl V.z_min (by rfl) (zaa (DO.de (zbT rfl (CompScope.of rfl rfl) (FvOk.of (N':=["bench","length"]) (fv:=[none,none]) rfl) (zaC (zmT (zgC V) hr (by decide) (zab 0) (zaa (zab 1) zae) ln1)) ⟨fun _ _ _ _ _=>⟨(zeD (n:=2) rfl (zaE (zam 0 (show (["bench","length"]:List Str).Nodup by decide +kernel)) (zaE (zam 1 (show (["bench","length"]:List Str).Nodup by decide +kernel)) zc5))),zaF,(zab 1)⟩⟩)) zae))))
theorem zhJ:CalM (Gam C_Shop) P w K mg base "Shop" "job_of" 2 9 zcJ :=
 DfnM.cal (k:=8) V.O_Shop V.d51 zgx (bn fun _ _ _ _ _ _ _=>rfl) fun f cdv A outer s H E hr =>
  (zag (zao (dC (zcj V) hr (zaa (zoI (zgU hr) (zfi V.cf_Shop (.tail _ (.tail _ (.tail _ (.tail _ (.tail _ (.tail _ (.tail _ (.tail _ (.tail _ (.tail _ (.head _))))))))))) (zab 0)) (zab 1)) zae) ln1)))
theorem zeJ:CalM (Gam C_Shop) P w K mg base "Shop" "last_moment" 1 1 zbH :=
 DfnM.cal (k:=0) V.O_Shop V.d52 zd8 (bn fun _ _ _ _ _ _ _=>rfl) fun f cdv A outer s H E hr =>
  (zag (zao (zfi V.cf_Shop (.tail _ (.tail _ (.tail _ (.tail _ (.tail _ (.tail _ (.head _))))))) (zab 0))))
theorem zfl:Cal (Gam C_Shop) P w K mg base "due_moment" 2 10 zcY :=
 V.d53.cal (k:=9) zep (bn fun _ _ _ _ _ _ _=>rfl) fun f cdv A outer s H E hr =>
  (zaf (zaD 2 zep.nd (zmT (zhJ V) hr (by decide) (zab 0) (zaa (zab 1) zae) ln1)) (zag (zao (zoH (zaW zoN (zab 2) zd1 (zaU _)) (zeE (zeJ V) hr (by decide) (zab 0)) (zat (zab 2) zad)))))
theorem zna:Cal (Gam C_Shop) P w K mg base "rank_by" 3 11 zbs :=
 V.d54.cal (k:=10) zkB (bn fun _ _ _ _ _ _ _=>rfl) fun f cdv A outer s H E hr =>
  (zaf (za0 (zaW zfu (zab 1) zbc (zaU _)) (zag (zao (zrf (dC (zd3 V) hr (zaa (zab 0) (zaa (zab 2) zae)) ln2)))) zas) (zaf (za0 (zaW zfu (zab 1) zbc (zaU _)) (zag (zao (dC (zfl V) hr (zaa (zab 0) (zaa (zab 2) zae)) ln2))) zas) (zaf (za0 (zaW zfu (zab 1) zbc (zaU _)) (zag (zao (zgX (dC (zfl V) hr (zaa (zab 0) (zaa (zab 2) zae)) ln2) (dC (zd3 V) hr (zaa (zab 0) (zaa (zab 2) zae)) ln2)))) zas) (zag (zao zad)))))
omit V in
abbrev zkv (Q:Addr):Hp->Prop:=JP Q "row_by.<locals>.<lambda>" ⟨50,29,50,53⟩
theorem zk8 {c Q:Addr} (HC:PySem.W.CodeHd base c Q) (HB:base.BuiltinsAt mg Q) (f:Addr) (A:Around) (outer:List Env) (s:Shared) (H:Hp) (E:XK) (hr:Room 11 (A.deeper (envOfC "row_by" (zah (top 9)) s.heap.objs.size f (.ref c)))):JSs (Gam C_Shop) (ziM CX0 P w K mg base ["shop","rule","orders","left","ranks","row","waiting","free","best"] "row_by" (zah (top 9)) f (.ref c) A outer s H E).nox (zkv Q) (zaV (top 9)) zku :=
  (zbn (zft (zaD 2 zcv.nd (dC (zgB V) hr (zaa (zab 0) zae) ln1))) (zbn (zft (zcD 3 zcv.nd (zoF (zee V) hr (by decide) (zab 0)))) (zbn (zft (zaD 4 zcv.nd (zpv 3 (zdF (zg6 rfl (zgU hr)) rfl V.z_dict (by rfl) (zaa (DO.de (zbT rfl (CompScope.of rfl rfl) (FvOk.of (N':=["step","shop","rule"]) (fv:=[none,some 0,some 1]) rfl) (zaC (zab 3)) ⟨fun _ _ _ _ _=>⟨(zam 0 (show (["step","shop","rule"]:List Str).Nodup by decide +kernel)),zaF,(zbB (zaa (zab 0) (zaa (dC (zna V) hr (zaa (zab 1) (zaa (zab 2) (zaa (zab 0) zae))) ln3) zae)))⟩⟩)) zae))))) (zbn (zft (zcD 5 zcv.nd (zbf zae))) (zbn (zon 50 PassesOwn.never (ztd (zoz 3 (zaW zm5 (zap zbO rfl V.z_len (by rfl) (zaa (zab 3) zae)) zad (zaU _)))) (zbn (zft (zcD 6 zcv.nd (zvb 3 (zbT rfl (CompScope.of rfl rfl) (FvOk.of (N':=["one","other","gap","left"]) (fv:=[none,none,none,some 3]) rfl) (zaC (zab 2)) ⟨fun _ _ _ _ _=>⟨(zeD (n:=3) rfl (zaE (zam 0 (show (["one","other","gap","left"]:List Str).Nodup by decide +kernel)) (zaE (zam 1 (show (["one","other","gap","left"]:List Str).Nodup by decide +kernel)) (zaE (zam 2 (show (["one","other","gap","left"]:List Str).Nodup by decide +kernel)) zc5)))),(zhw (zaW (zm4 (zgU hr)) (zab 0) (zab 3) (by rfl))),(zab 1)⟩⟩)))) (zmp 6 (zbn (zft (zir 7 3 zcv.nd rfl (CompScope.of rfl rfl) (FvOk.of (N':=["step","waiting"]) (fv:=[none,some 6]) rfl) (zaC (zab 3)) ⟨fun _ _ _ _ _=>⟨(zam 0 (show (["step","waiting"]:List Str).Nodup by decide +kernel)),(zhw (zaW (zhC (zgU hr)) (zab 0) (zab 1) (by rfl))),(zab 0)⟩⟩)) (zbn (zft (za0 (zoz 7 (zaW zfu (zap zbO rfl V.z_len (by rfl) (zaa (zab 7) zae)) zad (zaU _))) (zag (zao zd1)) zas)) (zmp 7 (zbn (ztf 8 zcv.nd (zqM 4 rfl hr rfl HC HB (CompScope.of rfl rfl) rfl V.z_min (zab 7) (fun _ _ _ _ _ _ _=>rfl))) (zgS (zaf (zbA 5 (zab 8)) (zag (zmI 3 (zab 8)))))))))))) (zgS (zag (zq4 5))))))))
theorem zfw:CalM (Gam C_Shop) P w K mg base "Shop" "step_rows" 1 9 zb7 :=
 DfnM.cal (k:=8) V.O_Shop V.d56 zeR (bn fun _ _ _ _ _ _ _=>rfl) fun f cdv A outer s H E hr =>
  (zag (zao (dC (zcj V) hr (zaa (zfi V.cf_Shop (.tail _ (.head _)) (zab 0)) zae) ln1)))
theorem zrr {J:Hp->Prop} (c_row_by:CalJ (Gam C_Shop) P w K mg base J "row_by" 2 12 zba) (f:Addr) (cdv:Value) (A:Around) (outer:List Env) (s:Shared) (H:Hp) (E:XK) (hr:Room 12 (A.deeper (envOfC "law" (zah (top 72)) s.heap.objs.size f cdv))):JSs (Gam C_Shop) (ziM CX0 P w K mg base ["_law_script","_law_parts_here","_law_shop_here","_law_rule","_law_due_here","_law_found"] "law" (zah (top 72)) f cdv A outer s H E).nox J (zaV (top 72)) zt2 :=
  (zbn (zft (zaD 1 zgJ.nd (dC (ziz V) hr (zaa (zab 0) (zaa zad zae)) ln2))) (zbn (zft (zaD 2 zgJ.nd (dC (zjr V) hr (zaa (zab 1) zae) ln1))) (zbn (zti PassesOwn.never rfl (zaC (DO.de (zbf (zaa zbc (zaa zbc (zaa zbc (zaa zbc zae))))))) (zam 3 zgJ.nd) (zbn (zft (zaD 4 zgJ.nd (dC (zk7 V) hr (zaa (zab 1) (zaa (zab 3) zae)) ln2))) (zbn (ztg 5 zgJ.nd (zpg c_row_by hr (by decide) rfl (zaa (zab 2) (zaa (zab 3) zae)) ln2)) (zmo (zth (ztd (zaW zoN (zab 4) zd1 (zaU _))) (zgS (zag (za0 (zaW zks (zab 5) zd1 (zaU _)) (zag (zao zc6)) zas))) (zbn (zft (za0 (zoz 5 (DW.dt (zcB (zaG (zaB (zap zeK rfl V.z_isinstance (by rfl) (zaa (zab 5) (zaa (zhx rfl V.z_list (by rfl)) zae))))) (zb0 (zaW (ziv (zpk hr)) (zab 5) (zab 4) (zaU _)))))) (zag (zao zc6)) zas)) (zbn (zft (zbA 5 zbc)) (zmo (zth (zte (ziv (zpk hr)) (JO.je (zpg c_row_by hr (by decide) rfl (zaa (zab 2) (zaa (zab 3) zae)) ln2)) (zab 4) (zaU _)) (zgS (zag (zao zc6))) (zgS zas)))))))))) (zgS (zag (zao (zfj (zm6 (zpk hr)) (zeE (zfw V) hr (by decide) (zab 2)) (zat (zab 1) zad) (zaU _))))))))
end
theorem i2:ziL "int" "int"=some true:=rfl
theorem i3:ziL "int" "bool"=some false:=rfl
theorem i5:ziL "bool" "bool"=some true:=rfl
theorem j1:ziL "str" "str"=some true:=rfl
theorem k1:ziL "list" "list"=some true:=rfl
theorem k2:ziL "tuple" "list"=some false:=rfl
theorem k3:ziL "tuple" "tuple"=some true:=rfl
theorem k4:ziL "str" "list"=some false:=rfl
theorem k5:ziL "str" "tuple"=some false:=rfl
theorem k6:ziL "int" "list"=some false:=rfl
theorem k7:ziL "int" "tuple"=some false:=rfl
theorem k8:ziL "bool" "list"=some false:=rfl
theorem k9:ziL "bool" "tuple"=some false:=rfl
theorem k10:ziL "NoneType" "list"=some false:=rfl
theorem k11:ziL "NoneType" "tuple"=some false:=rfl
theorem sz2:(1+1<=sizeLine)=True:=by simp [sizeLine]
theorem sz3:(1+1+1<=sizeLine)=True:=by simp [sizeLine]
section
variable {x0 x1 x2 x3 x4:D} {r:List D}
theorem zdi (l:List α) (n:Nat):atI l (n:Int)=l[n]?:=by
 unfold atI ixN
 rw [qV (by omega)]
 by_cases h:n < l.length
 ·rw [qV (by omega)];simp
 ·rw [qW (by omega)];simp;omega
theorem zj8:ixD (.tup (x0::r)) (.int 0)=some x0:=zdi _ 0
theorem znq:ixD (.tup (x0::x1::r)) (.int 1)=some x1:=zdi _ 1
theorem zrJ:ixD (.tup (x0::x1::x2::r)) (.int 2)=some x2:=zdi _ 2
theorem zum:ixD (.tup (x0::x1::x2::x3::r)) (.int 3)=some x3:=zdi _ 3
theorem zrI:ixD (.tup (x0::x1::x2::x3::x4::r)) (.int 4)=some x4:=zdi _ 4
end
theorem zoL {fe:FE} {r:zaI} {f:D->D}:∀ {xs:List D} {a:Option Slot},(∀ x∈xs,fe (oS x::r)=some (f x))->zbr (zau 0) tT fe xs (a::r)=some (xs.map f)
 | [],_,_=>rfl
 | x::xs,a,h=>by
  have h1:=h x qf
  have ih:=zoL (xs:=xs) (a:=oS x) fun y hy=>h y (qg _ hy)
  simp only [zbr,zau,List.set_cons_zero,qa,tT,if_true,h1,ih,qd,ql]
theorem zpx {fe:FE} {ft:FT} {r:zaI} {f:D->D} {p:D->Bool}:∀ {xs:List D} {a:Option Slot},(∀ x∈xs,ft (oS x::r)=some (p x)/\(p x=true->fe (oS x::r)=some (f x)))->zbr (zau 0) ft fe xs (a::r)=some ((xs.filter p).map f)
 | [],_,_=>rfl
 | x::xs,a,h=>by
  have h1:=h x qf
  have ih:=zpx (xs:=xs) (a:=oS x) fun y hy=>h y (qg _ hy)
  simp only [zbr,zau,List.set_cons_zero,qa,h1.1,ih,List.filter_cons]
  cases e:p x
  ·simp
  ·simp [h1.2 e]
theorem zng:∀ {l:List D},(∀ x∈l,x=.bl true)->∃ bs:List Bool,zrL l=some bs/\bs.all id=true
 | [],_=>⟨[],rfl,rfl⟩
 | x::r,h=>by
  obtain ⟨bs,h1,h2⟩:=zng (l:=r) fun y hy=>h y (qg _ hy)
  have hx:=h x qf
  subst hx
  exact ⟨true::bs,by simp [zrL,h1],by simpa using h2⟩
theorem zb6 {r:zaI} {a:Option Slot} {xs:List D} (h1:fi ρ=some xs) (h2:xs.length<=sizeLine) (h3:zeA fv ρ=a::r) (h:∀ x∈xs,fe (oS x::r)=some (.bl true)) :
  cF ziH (zac (zbb (zaw fi (zau 0) tT fe fv)) zai) ρ=some (.bl true):=by
 have c:=zoL (a:=a) (f:=fun _=>.bl true) h
 obtain ⟨bs,e1,e2⟩:=zng (l:=xs.map fun _=>D.bl true) (by simp)
 simp only [cF,zac,zai,zbb,zaw,h1,qa,qV h2,h3,c,qd,ziH,e1]
 simpa using e2
theorem zcg {r:zaI} {a:Option Slot} {xs:List D} {f:D->D} (h1:fi ρ=some xs) (h2:xs.length<=sizeLine) (h3:zeA fv ρ=a::r) (h:∀ x∈xs,fe (oS x::r)=some (f x)) :
  zbb (zaw fi (zau 0) tT fe fv) ρ=some (.lst (xs.map f)):=by
 simp only [zbb,zaw,h1,qa,qV h2,h3,zoL (a:=a) h,qd]
theorem zgj {body:FS} {xs:List D} (I:Nat->zaI->Prop) (h0:I 0 ρ) (hs:∀ i x ρ,xs[i]?=some x->I i ρ->∃ ρ1 ρ2,gg x ρ=some ρ1/\body ρ1=some (.nx,ρ2)/\I (i+1) ρ2) :
  ∃ ρ',zfI gg body xs ρ=some (.nx,ρ')/\I xs.length ρ':=by
 have key:∀ (ys:List D) (k:Nat) (ρ:zaI),xs.drop k=ys->I k ρ->∃ ρ',zfI gg body ys ρ=some (.nx,ρ')/\I (k+ys.length) ρ':=by
  intro ys
  induction ys with
  | nil=>intro k ρ _ hk;exact ⟨ρ,rfl,hk⟩
  | cons y r ih =>
   intro k ρ hd hk
   have hy:xs[k]?=some y:=by
    have:(xs.drop k)[0]?=some y:=by rw [hd];rfl
    simpa using this
   obtain ⟨ρ1,ρ2,h1,h2,h3⟩:=hs k y ρ hy hk
   have hd':xs.drop (k+1)=r:=by rw [← List.drop_drop,hd];rfl
   obtain ⟨ρ',h4,h5⟩:=ih (k+1) ρ2 hd' h3
   refine ⟨ρ',?_,by rw [qh];rwa [show k+1+r.length=k+(r.length+1) by omega] at h5⟩
   simp only [zfI,h1,qa,h2,h4]
 obtain ⟨ρ',h1,h2⟩:=key xs 0 ρ rfl h0
 exact ⟨ρ',h1,by rwa [Nat.zero_add] at h2⟩
theorem ztZ:(2:Int) ^ 62=4611686018427387904:=by decide +kernel
theorem zlD {i j:Int} (h:0<=i/\i<=1000000/\0<=j/\j<=1000000):znP [.int i,.int j]=some ((List.range (j - i).toNat).map fun k:Nat=>D.int (i+k)):=by
 unfold znP
 rw [ztZ]
 exact qV ⟨by omega,by omega,by omega,by omega⟩
theorem zlE {j:Int} (h:0<=j/\j<=1000000):ziK [.int j]=some ((List.range j.toNat).map fun i:Nat=>D.int (0+i)):=by
 unfold ziK
 rw [ztZ]
 exact qV ⟨by omega,by omega⟩
theorem zpj {g:List D->Option (List D)} {fr:FA} {r:List D} (h1:fr ρ=some ds) (h2:g ds=some r):itR g fr ρ=some r:=by
 unfold itR;rw [h1];exact h2
theorem zc8 {g:D->D->Option D} {x y:D} (h1:fa ρ=some x) (h2:fb ρ=some y) (h3:g x y=some z):b2 g fa fb ρ=some z:=by
 unfold b2;rw [h1,qa,h2,qa];exact h3
theorem zcc {g:FQ} {fr:FA} (h1:fr ρ=some ds) (h2:g ds=some z):cF g fr ρ=some z:=by
 unfold cF;rw [h1];exact h2
theorem zaA {fr:FA} (h1:f ρ=some d) (h2:fr ρ=some ds):zac f fr ρ=some (d::ds):=by
 unfold zac;rw [h1,qa,h2];rfl
theorem za7 :zai ρ=some []:=rfl
theorem zo2 (h:g (ds.map (fun d=>some (Slot.sh d))++List.replicate n none)=some (.rt d,ρ')):zby n g ds=some d:=by
 unfold zby;rw [h];rfl
theorem za1 (ρ:zaI) (e:ds.map (fun d=>some (Slot.sh d))++List.replicate n none=ρ) (h:g ρ=some (.rt d,ρ')):zby n g ds=some d:=by
 subst e;exact zo2 h
theorem zaZ (h:f ρ=some d):zaJ f ρ=some (.rt d,ρ):=by unfold zaJ;rw [h];rfl
theorem zbF {b:Bool} (h:f ρ=some (.bl b)):toB f ρ=some b:=by unfold toB;rw [h];rfl
theorem zgf {A:FE} {X E:FS} (hA:A ρ=some (.bl true)):zar (sIf (zbR (toB A)) X zbd) E ρ=E ρ:=by
 simp only [zar,sIf,zbR,zbF hA,qd,qa,Bool.not_true,qp,if_false,zbd]
theorem zdB {A:FE} {X E:FS} (hA:A ρ=some (.bl true)) (hB:B ρ=some (.bl true)):zar (sIf (orT (zbR (toB A)) (zbR (toB B))) X zbd) E ρ=E ρ:=by
 simp only [zar,sIf,orT,zbR,zbF hA,zbF hB,qd,qa,Bool.not_true,qp,if_false,zbd]
theorem ztu {A C:FE} {X E:FS} (hA:A ρ=some (.bl true)) (hB:B ρ=some (.bl true)) (hC:C ρ=some (.bl true)):zar (sIf (orT (zbR (toB A)) (orT (zbR (toB B)) (zbR (toB C)))) X zbd) E ρ=E ρ:=by
 simp only [zar,sIf,orT,zbR,zbF hA,zbF hB,zbF hC,qd,qa,Bool.not_true,qp,if_false,zbd]
theorem zpA {A:FE} (hA:A ρ=some (.bl true)) (hB:B ρ=some (.bl true)):zd4 A B ρ=some (.bl true):=by
 simp only [zd4,hA,hB,qa]
theorem zfd (h:f ρ=some d):zar (zbq i f) g ρ=g (ρ.set i (oS d)):=by
 simp only [zar,zbq,h,qd,qa]
theorem zlg (i:Int):zdO [.int i]=some (.bl true):=by
 simp only [zdO,zby,zaJ,zd4,zuj,cF,zac,zai,vSh,vC,zeZ,tyD,ql,qN,qo,qQ,List.replicate,qb,qa,qd,Bool.not_false,i2,i3]
theorem zbo (i a b:Int) (h:a<=i/\i<=b):zaR [.int i,.int a,.int b]=some (.bl true):=by
 simp only [zaR,zlg,zby,zaJ,zd4,cF,zac,zai,vSh,chD,leD,ql,qN,qo,qQ,List.replicate,qb,qc,qa,qd,qR h.1,qR h.2]
theorem zc3 (l:List D) (a b:Int) (h:a<=l.length/\(l.length:Int)<=b):zbt [.lst l,.int a,.int b]=some (.bl true):=by
 simp only [zbt,zby,zaJ,zd4,cF,zac,zai,vSh,vC,chD,zeZ,tyD,zcT,leD,ql,qN,qo,qQ,List.replicate,qb,qc,qa,qd,k1,qR h.1,qR h.2]
theorem zfC (l:List D) (n:Int) (h:(l.length:Int)=n):zaS [.tup l,.int n]=some (.bl true):=by
 simp only [zaS,zby,zaJ,zd4,cF,zac,zai,vSh,vC,b2,zeZ,tyD,zcT,eqD,eqS,ql,qN,qo,qQ,List.replicate,qb,qc,qa,qd,k3,qR h]
section
variable {a b c e:D}
theorem zua:zaS [.tup [a,b],.int 2]=some (.bl true):=zfC _ _ rfl
theorem zvp:zaS [.tup [a,b,c],.int 3]=some (.bl true):=zfC _ _ rfl
theorem zvN:zaS [.tup [a,b,c,d],.int 4]=some (.bl true):=zfC _ _ rfl
theorem zvo:zaS [.tup [a,b,c,d,e],.int 5]=some (.bl true):=zfC _ _ rfl
end
noncomputable def dIv (p:Int×Int):D:=.tup [.int p.1,.int p.2]
theorem zoV (p:Int×Int) (h:Int) (h1:0<=p.1) (h2:p.1 < p.2) (h3:p.2<=h):zdR [dIv p,.int h]=some (.bl true):=by
 simp only [zdR,dIv,zby,zar,sIf,zaJ,zbd,orT,zbR,toB,cF,zac,zai,vSh,vC,b2,ltD,zj8,znq,ql,qN,qo,qQ,List.replicate,qb,qc,qa,qd,if_false,Bool.not_true,qp,zua,zbo p.1 0 h ⟨h1,by omega⟩,zbo p.2 0 h ⟨by omega,h3⟩,qR h2]
def az (c:Nat):Bool:=!ltS ⟨#[c]⟩ "a" && !ltS "z" ⟨#[c]⟩
theorem zvj {c:Nat} (h:az c=true):c<=122:=by
 have z:("z":Str)=⟨#[122]⟩:=by decide +kernel
 unfold az ltS at h
 rw [z] at h
 simp only [Bool.and_eq_true,Bool.not_eq_true',decide_eq_false_iff_not] at h
 have h2:=h.2
 rcases Nat.lt_or_ge 122 c with q | q
 ·exact absurd (show ([122]:List Nat) < [c] from List.Lex.rel q) h2
 ·exact q
theorem zoM (c:Nat) (r:zaI):chD leD leD (vC (.str "a")) (vSh 0) (vC (.str "z")) (oS (.str ⟨#[c]⟩)::r)=some (.bl (az c)):=by
 simp only [chD,vC,vSh,qb,qa,leD,az]
 cases ltS ⟨#[c]⟩ "a" <;> simp
def zay (x:Str):Bool:=decide (1<=x.length) && decide (x.length<=8) && x.cps.toList.all az
theorem zl5 (h:zay x=true):1<=x.length/\x.length<=8:=by
 unfold zay at h
 simp only [Bool.and_eq_true,decide_eq_true_eq] at h
 exact h.1
theorem zjZ (h:zay x=true):∀ c∈x.cps.toList,az c=true:=by
 unfold zay at h
 simp only [Bool.and_eq_true,List.all_eq_true] at h
 exact h.2
theorem zdA (h:zay x=true):zb3 [.str x]=some (.bl true):=by
 obtain ⟨h1,h2⟩:=zl5 h
 have hz:x.length<=sizeLine:=by unfold sizeLine;omega
 have hl:(x.cps.toList.map fun c=>D.str ⟨#[c]⟩).length<=sizeLine:=by simpa [Str.length] using hz
 have e1:decide ((1:Int)<=(x.length:Nat))=true:=qR (by omega)
 have e2:decide (((x.length:Nat):Int)<=8)=true:=qR (by omega)
 have ha:=zb6 (fi:=itS (vSh 0)) (fe:=chD leD leD (vC (.str "a")) (vSh 0) (vC (.str "z"))) (fv:=[none]) (ρ:=[oS (.str x)]) (r:=[]) (a:=none) (xs:=x.cps.toList.map fun c=>D.str ⟨#[c]⟩)
  (by simp [itS,vSh,zlv]) hl rfl (fun y hy=>by
   obtain ⟨c,hc,rfl⟩:=List.mem_map.mp hy
   rw [zoM,zjZ h c hc])
 refine zo2 (ρ':=[oS (.str x)]) ((zdB ?_ ?_).trans (zaZ ha))
 ·rfl
 ·show chD leD leD (vC (.int 1)) (cF zcT (zac (vSh 0) zai)) (vC (.int 8)) [oS (.str x)]=_
  simp only [cF,zac,zai,vSh,vC,chD,zcT,leD,qb,qa,qd,qV hz,e1,e2]
theorem zfE (h:zay x=true):PyData.strOk x=true:=by
 unfold PyData.strOk
 rw [Array.all_eq_true']
 intro c hc
 have:=zvj (zjZ h c (by simpa using hc))
 exact qR (by omega)
theorem zeU:∀ (ns:List Str),zgt (ns.map D.str)=some (ns.map PyData.str)
 | []=>by simp [zgt]
 | x::r=>by simp [zgt,pdD,zeU r]
theorem zdM:∀ {ns:List Str},(∀ x∈ns,zay x=true)->PyData.canLayAll0 (ns.map PyData.str)=true
 | [],_=>by simp [PyData.canLayAll0]
 | x::r,h=>by
  simp only [ql,PyData.canLayAll0,PyData.canLay0,zfE (h x qf),Bool.true_and]
  exact zdM fun y hy=>h y (qg _ hy)
theorem zhM (x:Str):∀ (ns:List Str),((ns.map PyData.str).any fun z=>PyData.eqv z (.str x))=decide (x∈ns)
 | []=>by simp
 | y::r=>by
  have ih:=zhM x r
  rw [ql,List.any_cons,ih]
  simp only [PyData.eqv]
  by_cases e:y=x
  ·subst e;simp
  ·have:x≠y:=fun z=>e z.symm
   simp [e,this]
theorem zja {ns:List Str} (hx:zay x=true) (hn:∀ y∈ns,zay y=true):zjb (.str x) (.lst (ns.map D.str))=some (.bl (decide (x∈ns))):=by
 have sh:SeqAt.shaped (.str x)=true:=by simp [SeqAt.shaped,PyData.canLay0,zfE hx,PyData.depth]
 simp only [zjb,inX,pdD,zeU,qd,qa,sh,zdM hn,and_self,if_true,zhM]
theorem zdc {ns:List Str} (hx:x∈ns) (hn:∀ y∈ns,zay y=true):zbv [.str x,.lst (ns.map D.str)]=some (.bl true):=by
 simp only [zbv,zby,zaJ,zd4,cF,zac,zai,vSh,b2,ql,qN,qo,qQ,List.replicate,qb,qc,qa,qd,zdA (hn x hx),zja (hn x hx) hn,qR hx]
theorem zkp [DecidableEq κ] {l:List κ} (h:l.Nodup):ST.dd l=l:=by
 have key:∀ (l a:List κ),(a++l).Nodup->l.foldl (fun a k=>if k∈a then a else a++[k]) a=a++l:=by
  intro l
  induction l with
  | nil=>intro a _;simp
  | cons x r ih =>
   intro a hn
   have hx:x∉a:=by
    intro z
    rw [List.nodup_append] at hn
    exact hn.2.2 x z x qf rfl
   rw [List.foldl_cons,qW hx,ih (a++[x]) (by simpa using hn)]
   simp
 simpa [ST.dd] using key l [] (by simpa using h)
theorem zdN:∀ (ns:List Str),zeC (ns.map D.str)=some (ns.map Sum.inr)
 | []=>by simp [zeC]
 | x::r=>by simp [zeC,zmM,zdN r]
theorem zb9 {ns:List Str} (h:ns.Nodup) (hl:ns.length<=300):zaz [.lst (ns.map D.str)]=some (.bl true):=by
 have hd:(ns.map (Sum.inr:Str->Key)).Nodup:=List.Pairwise.map _ (fun a b hab z=>hab (Sum.inr.inj z)) h
 simp only [zaz,zby,zaJ,cF,zac,zai,vSh,b1,b2,zcT,eqD,eqS,ql,qN,qo,qQ,List.replicate,qb,qa,qd,zeY,qe,qV hl,zdN,zkp hd]
 simp
theorem zfc:∀ (ts:List (List Str)),zd6 (ts.map fun t=>.tup (t.map D.str))=some (ts.map fun t=>t.map Sum.inr)
 | []=>by simp [zd6]
 | t::r=>by simp [zd6,zdN,zfc r]
theorem zfP {ts:List (List Str)} (h:ts.Nodup) (hl:ts.length<=300):zaz [.lst (ts.map fun t=>.tup (t.map D.str))]=some (.bl true):=by
 have inj:∀ a b:List Str,a.map (Sum.inr:Str->Key)=b.map Sum.inr->a=b:=fun a b z=>(List.map_inj_right (fun x y q=>Sum.inr.inj q)).mp z
 have hd:(ts.map fun t=>t.map (Sum.inr:Str->Key)).Nodup:=List.Pairwise.map _ (fun a b hab z=>hab (inj a b z)) h
 cases ts with
 | nil=>simp only [zaz,zby,zaJ,cF,zac,zai,vSh,b1,b2,zcT,eqD,eqS,ql,qN,qo,qQ,List.replicate,qb,qa,qd,qk,zeY,zeC,ST.dd];simp
 | cons t r =>
  have e:zeC ((t::r).map fun t=>D.tup (t.map D.str))=none:=by simp [zeC,zmM]
  simp only [zaz,zby,zaJ,b2,b1,vSh,ql,qN,qo,qQ,List.replicate,qb,qa,zeY,cF,zac,zai,zcT,qd]
  rw [qV (by simpa using hl)]
  have e':=e
  rw [ql] at e'
  rw [e']
  have t':=zfc (t::r)
  rw [ql] at t'
  rw [t']
  rw [qd,zkp hd]
  simp [eqD,eqS]
structure BenchT where
 nm:Str
 br:List (Int×Int)
structure StepT where
 nm:Str
 kd:Str
 ws:List (Str×Int)
structure JobT where
 nm:Str
 ea:Int
 du:Int
 od:Bool
 ms:List Str
structure SetT where
 b:Str
 p:Str
 q:Str
 n:Int
structure LinkT where
 a:Str
 b:Str
 g:Int
structure StockT where
 nm:Str
 lo:Int
 hi:Int
 tk:List (Str×Int)
 pt:List (Str×Int)
noncomputable def dW (w:Str×Int):D:=.tup [.str w.1,.int w.2]
def zaP (b:BenchT):D:=.tup [.str b.nm,.lst (b.br.map dIv)]
def zaH (s:StepT):D:=.tup [.str s.nm,.str s.kd,.lst (s.ws.map dW)]
def zbE (j:JobT):D:=.tup [.str j.nm,.int j.ea,.int j.du,.bl j.od,.lst (j.ms.map D.str)]
def zeF (u:SetT):D:=.tup [.str u.b,.str u.p,.str u.q,.int u.n]
def zbu (l:LinkT):D:=.tup [.str l.a,.str l.b,.int l.g]
def zbV (k:StockT):D:=.tup [.str k.nm,.int k.lo,.int k.hi,.lst (k.tk.map dW),.lst (k.pt.map dW)]
structure GoodB (h:Int) (b:BenchT):Prop where
 nm:zay b.nm=true
 len:b.br.length<=10
 iv:∀ p∈b.br,0<=p.1/\p.1 < p.2/\p.2<=h
 gap:∀ (i:Nat) p q,b.br[i]?=some p->b.br[i+1]?=some q->p.2 < q.1
structure GoodS (bn:List Str) (h:Int) (s:StepT):Prop where
 nm:zay s.nm=true
 kd:zay s.kd=true
 l1:1<=s.ws.length
 l4:s.ws.length<=4
 ws:∀ w∈s.ws,w.1∈bn/\1<=w.2/\w.2<=h
 nd:(s.ws.map (·.1)).Nodup
structure GoodJ (sn:List Str) (h:Int) (j:JobT):Prop where
 nm:zay j.nm=true
 ea:0<=j.ea/\j.ea<=h
 du:0<=j.du/\j.du<=h
 l1:1<=j.ms.length
 ln:j.ms.length<=sn.length
 ms:∀ m∈j.ms,m∈sn
structure GoodU (bn:List Str) (h:Int) (u:SetT):Prop where
 b:u.b∈bn
 p:zay u.p=true
 q:zay u.q=true
 n:1<=u.n/\u.n<=h
structure GoodL (sn:List Str) (h:Int) (l:LinkT):Prop where
 a:l.a∈sn
 b:l.b∈sn
 ne:l.a≠l.b
 g:0<=l.g/\l.g<=h
structure GoodA (sn:List Str) (am:List (Str×Int)):Prop where
 ln:am.length<=sn.length
 ws:∀ w∈am,w.1∈sn/\1<=w.2/\w.2<=1000000
 nd:(am.map (·.1)).Nodup
structure GoodK (sn:List Str) (k:StockT):Prop where
 nm:zay k.nm=true
 lo:0<=k.lo/\k.lo<=k.hi
 hi:0<=k.hi/\k.hi<=1000000
 tk:GoodA sn k.tk
 pt:GoodA sn k.pt
structure Good (bs:List BenchT) (ss:List StepT) (js:List JobT) (us:List SetT) (ls:List LinkT) (ks:List StockT) (hz:Int):Prop where
 hh:1<=hz/\hz<=1000000
 bl:1<=bs.length/\bs.length<=8
 b:∀ x∈bs,GoodB hz x
 bn:(bs.map (·.nm)).Nodup
 sl:1<=ss.length/\ss.length<=40
 s:∀ x∈ss,GoodS (bs.map (·.nm)) hz x
 sn:(ss.map (·.nm)).Nodup
 jl:js.length<=40
 j:∀ x∈js,GoodJ (ss.map (·.nm)) hz x
 jn:(js.map (·.nm)).Nodup
 jm:(js.flatMap (·.ms)).Nodup
 ul:us.length<=100
 u:∀ x∈us,GoodU (bs.map (·.nm)) hz x
 un:(us.map fun u=>[u.b,u.p,u.q]).Nodup
 ll:ls.length<=100
 l:∀ x∈ls,GoodL (ss.map (·.nm)) hz x
 ln:(ls.map fun l=>[l.a,l.b]).Nodup
 kl:ks.length<=6
 k:∀ x∈ks,GoodK (ss.map (·.nm)) x
 kn:(ks.map (·.nm)).Nodup
theorem ixL (l:List D) (n:Nat):ixD (.lst l) (.int (n:Int))=l[n]?:=zdi l n
theorem szN {k:Nat} (h:n<=k) (hk:k<=1000):n<=sizeLine:=by unfold sizeLine;omega
variable {ss:List StepT}
section
variable {bn:List Str}
theorem ztv (len:br.length<=10) (gap:∀ (i:Nat) p q,br[i]?=some p->br[i+1]?=some q->p.2 < q.1) :
  cF ziH (zac (zbb (zaw (itR znP (zac (vC (.int 1)) (zac (cF zcT (zac (vSh 0) zai)) zai))) (zau 0) tT (b2 ltD (b2 ixD (b2 ixD (vSh 1) (b2 ziQ (vSh 0) (vC (.int 1)))) (vC (.int 1))) (b2 ixD (b2 ixD (vSh 1) (vSh 0)) (vC (.int 0)))) [none,some 0])) zai) [oS (.lst (br.map dIv)),oS (.int h)]=some (.bl true):=by
 have e0:itR znP (zac (vC (.int 1)) (zac (cF zcT (zac (vSh 0) zai)) zai)) [oS (.lst (br.map dIv)),oS (.int h)]=some ((List.range (((br.map dIv).length:Int) - 1).toNat).map fun k:Nat=>D.int (1+k)):=by
  exact zpj rfl (zlD (i:=1) (j:=((br.map dIv).length:Nat)) (by rw [qe];omega))
 refine zb6 (r:=[oS (.lst (br.map dIv))]) (a:=none) e0 ?_ rfl fun x hx=>?_
 ·simp only [qe,qT]
  exact szN (k:=10) (by omega) (by decide)
 ·obtain ⟨k,hk,rfl⟩:=List.mem_map.mp hx
  rw [List.mem_range,qe] at hk
  have hk1:k < br.length:=by omega
  have hk2:k+1 < br.length:=by omega
  have e1:br[k]?=some br[k]:=by simp [hk1]
  have e2:br[k+1]?=some br[k+1]:=by simp [hk2]
  have g:=gap k _ _ e1 e2
  have a1:ixD (.lst (br.map dIv)) (.int (1+(k:Int) - 1))=some (dIv br[k]):=by
   have:(1+(k:Int) - 1)=((k:Nat):Int):=by omega
   rw [this,ixL,qj,e1];rfl
  have a2:ixD (.lst (br.map dIv)) (.int (1+(k:Int)))=some (dIv br[k+1]):=by
   have:(1+(k:Int))=((k+1:Nat):Int):=by omega
   rw [this,ixL,qj,e2];rfl
  simp only [vSh,vC,b2,ltD,ziQ,qb,qc,qa,a1,a2]
  simp only [dIv,zj8,znq,qa,qR g]
theorem znd (len:br.length<=10) (iv:∀ p∈br,0<=p.1/\p.1 < p.2/\p.2<=h) (gap:∀ (i:Nat) p q,br[i]?=some p->br[i+1]?=some q->p.2 < q.1) :
  zdJ [.lst (br.map dIv),.int h]=some (.bl true):=by
 refine za1 [oS (.lst (br.map dIv)),oS (.int h)] rfl ((zdB ?_ (zb6 (r:=[oS (.int h)]) (a:=none) (xs:=br.map dIv) rfl (by rw [qe];exact szN len (by decide)) rfl fun x hx=>?_)).trans (zaZ (ztv len gap)))
 ·exact zc3 _ 0 10 ⟨by omega,by rw [qe];omega⟩
 ·obtain ⟨p,hp,rfl⟩:=List.mem_map.mp hx
  obtain ⟨h1,h2,h3⟩:=iv p hp
  exact zoV p h h1 h2 h3
theorem zoW {b:BenchT} (g:GoodB h b):zdS [zaP b,.int h]=some (.bl true):=by
 simp only [zdS,zaP,zby,zaJ,zd4,cF,zac,zai,vSh,vC,b2,zj8,znq,ql,qN,qo,qQ,List.replicate,qb,qc,qa,qd,zua,zdA g.nm,znd g.len g.iv g.gap]
theorem zcU {f:α->D} {nm:α->Str} {xs:List α} (hf:∀ x,∃ r,f x=.tup (.str (nm x)::r)) (h1:vSh i ρ=some (.lst (xs.map f))) (h2:xs.length<=sizeLine) (h3:zeA fv ρ=[none]) :
  zbb (zaw (itF (vSh i)) (zau 0) tT (b2 ixD (vSh 0) (vC (.int 0))) fv) ρ=some (.lst ((xs.map nm).map D.str)):=by
 have hc:=zcg (fi:=itF (vSh i)) (fe:=b2 ixD (vSh 0) (vC (.int 0))) (fv:=fv) (ρ:=ρ) (r:=[]) (a:=none) (xs:=xs.map f) (f:=fun d=>match d with | .tup (x::_)=>x | _=>.non) (by unfold itF;rw [h1];rfl) (by rw [qe];exact h2) h3 (fun x hx=>by
  obtain ⟨y,_,rfl⟩:=List.mem_map.mp hx
  obtain ⟨r,e⟩:=hf y
  simp only [b2,vSh,vC,qb,qa,e,zj8])
 rw [hc]
 congr 2
 rw [qm,qm]
 refine List.map_congr_left fun x _=>?_
 obtain ⟨r,e⟩:=hf x
 simp [e]
theorem zk9 {bs:List BenchT} (l1:1<=bs.length) (l8:bs.length<=8) (g:∀ x∈bs,GoodB h x) (nd:(bs.map (·.nm)).Nodup):zdl [.lst (bs.map zaP),.int h]=some (.bl true):=by
 refine za1 [oS (.lst (bs.map zaP)),oS (.int h)] rfl ((zdB ?_ (zb6 (r:=[oS (.int h)]) (a:=none) (xs:=bs.map zaP) rfl (by rw [qe];exact szN l8 (by decide)) rfl fun x hx=>?_)).trans (zaZ ?_))
 ·exact zc3 _ 1 8 ⟨by rw [qe];omega,by rw [qe];omega⟩
 ·obtain ⟨p,hp,rfl⟩:=List.mem_map.mp hx
  exact zoW (g p hp)
 ·have:=zcU (i:=0) (fv:=[none]) (ρ:=[oS (.lst (bs.map zaP)),oS (.int h)]) (f:=zaP) (nm:=(·.nm)) (xs:=bs) (fun x=>⟨_,rfl⟩) rfl (szN l8 (by decide)) rfl
  simp only [cF,zac,zai,this,qa,qd]
  exact zb9 nd (by rw [qe];omega)
theorem zrP {w:Str×Int} (hb:∀ y∈bn,zay y=true) (g:w.1∈bn/\1<=w.2/\w.2<=h):zfK [dW w,.lst (bn.map D.str),.int h]=some (.bl true):=by
 simp only [zfK,dW,zby,zaJ,zd4,cF,zac,zai,vSh,vC,b2,zj8,znq,ql,qN,qo,qQ,List.replicate,qb,qc,qa,qd,zua,zdc g.1 hb,zbo w.2 1 h g.2]
theorem zpD (hb:∀ y∈bn,zay y=true) (l1:1<=ws.length) (l4:ws.length<=4) (g:∀ w∈ws,w.1∈bn/\1<=w.2/\w.2<=h) (nd:(ws.map (·.1)).Nodup):ze7 [.lst (ws.map dW),.lst (bn.map D.str),.int h]=some (.bl true):=by
 refine za1 [oS (.lst (ws.map dW)),oS (.lst (bn.map D.str)),oS (.int h)] rfl ((zdB ?_ (zb6 (r:=[oS (.lst (bn.map D.str)),oS (.int h)]) (a:=none) (xs:=ws.map dW) rfl (by rw [qe];exact szN l4 (by decide)) rfl fun x hx=>?_)).trans (zaZ ?_))
 ·exact zc3 _ 1 4 ⟨by rw [qe];omega,by rw [qe];omega⟩
 ·obtain ⟨p,hp,rfl⟩:=List.mem_map.mp hx
  exact zrP hb (g p hp)
 ·have:=zcU (i:=0) (fv:=[none]) (ρ:=[oS (.lst (ws.map dW)),oS (.lst (bn.map D.str)),oS (.int h)]) (f:=dW) (nm:=(·.1)) (xs:=ws) (fun x=>⟨_,rfl⟩) rfl (szN l4 (by decide)) rfl
  simp only [cF,zac,zai,this,qa,qd]
  exact zb9 nd (by rw [qe];omega)
theorem zpN {s:StepT} (hb:∀ y∈bn,zay y=true) (g:GoodS bn h s):zeL [zaH s,.lst (bn.map D.str),.int h]=some (.bl true):=by
 simp only [zeL,zaH,zby,zar,sIf,zaJ,zbd,orT,zbR,toB,cF,zac,zai,vSh,vC,b2,zj8,znq,zrJ,ql,qN,qo,qQ,List.replicate,qb,qc,qa,qd,if_false,Bool.not_true,qp,zvp,zdA g.nm,zdA g.kd,zpD hb g.l1 g.l4 g.ws g.nd]
theorem znD (hb:∀ y∈bn,zay y=true) (l1:1<=ss.length) (l4:ss.length<=40) (g:∀ s∈ss,GoodS bn h s) (nd:(ss.map (·.nm)).Nodup):zeh [.lst (ss.map zaH),.lst (bn.map D.str),.int h]=some (.bl true):=by
 refine za1 [oS (.lst (ss.map zaH)),oS (.lst (bn.map D.str)),oS (.int h)] rfl ((zdB ?_ (zb6 (r:=[oS (.lst (bn.map D.str)),oS (.int h)]) (a:=none) (xs:=ss.map zaH) rfl (by rw [qe];exact szN l4 (by decide)) rfl fun x hx=>?_)).trans (zaZ ?_))
 ·exact zc3 _ 1 40 ⟨by rw [qe];omega,by rw [qe];omega⟩
 ·obtain ⟨p,hp,rfl⟩:=List.mem_map.mp hx
  exact zpN hb (g p hp)
 ·have:=zcU (i:=0) (fv:=[none]) (ρ:=[oS (.lst (ss.map zaH)),oS (.lst (bn.map D.str)),oS (.int h)]) (f:=zaH) (nm:=(·.nm)) (xs:=ss) (fun x=>⟨_,rfl⟩) rfl (szN l4 (by decide)) rfl
  simp only [cF,zac,zai,this,qa,qd]
  exact zb9 nd (by rw [qe];omega)
end
theorem zqz (a b:Str):neA (.str a) (.str b)=some (.bl (!decide (a=b))):=rfl
theorem zvF {a b c:D} :zeo none (some 3) (.tup [a,b,c,d])=some (.tup [a,b,c]):=rfl
theorem zwe {a b c:D} :zeo none (some 2) (.tup [a,b,c])=some (.tup [a,b]):=rfl
theorem zke {α β:Type} {f:α->List β} {m:Nat}:∀ {l:List α},(∀ x∈l,(f x).length<=m)->(l.flatMap f).length<=l.length*m
 | [],_=>by simp
 | x::r,h=>by
  have h1:=h x qf
  have h2:=zke (l:=r) fun y hy=>h y (qg _ hy)
  rw [List.flatMap_cons,qi,qh,Nat.succ_mul]
  omega
variable {js:List JobT} {us:List SetT} {ls:List LinkT} {ks:List StockT}
section
variable {bn:List Str}
theorem ztl {j:JobT} (hs:∀ y∈sn,zay y=true) (hl:sn.length<=40) (g:GoodJ sn h j):zhP [zbE j,.lst (sn.map D.str),.int h]=some (.bl true):=by
 refine za1 [oS (zbE j),oS (.lst (sn.map D.str)),oS (.int h)] rfl ((ztu ?_ ?_ ?_).trans ((zdB ?_ ?_).trans (zaZ (zpA ?_ (zb6 (r:=[oS (.lst (sn.map D.str))]) (a:=none) (xs:=j.ms.map D.str) ?_ ?_ rfl fun x hx=>?_)))))
 ·exact zvo
 ·simp only [zbE,cF,zac,zai,vSh,vC,b2,zj8,qb,qa,qd,zdA g.nm]
 ·simp only [zbE,cF,zac,zai,vSh,vC,b2,zeZ,tyD,zum,qb,qa,qd,i5]
 ·simp only [zbE,cF,zac,zai,vSh,vC,b2,znq,qb,qc,qa,qd,zbo _ 0 h g.ea]
 ·simp only [zbE,cF,zac,zai,vSh,vC,b2,zrJ,qb,qc,qa,qd,zbo _ 0 h g.du]
 ·simp only [zbE,cF,zac,zai,vSh,vC,b2,zcT,zrI,qb,qc,qa,qd]
  exact zc3 _ _ _ ⟨by rw [qe];have:=g.l1;omega,by rw [qe,qe];have:=g.ln;omega⟩
 ·simp only [zbE,vSh,vC,b2,itF,zik,zrI,qb,qa]
 ·rw [qe];exact szN (qL g.ln hl) (by decide)
 ·obtain ⟨m,hm,rfl⟩:=List.mem_map.mp hx
  simp only [cF,zac,zai,vSh,qb,qc,qa,qd,zdc (g.ms m hm) hs]
theorem zkL {H:Option Slot} (hl:js.length<=40) (g:∀ j∈js,j.ms.length<=40) :
  ∃ z,zfI (zau 4) (zld 3 (b2 ixD (vSh 4) (vC (.int 4)))) (js.map zbE) [oS (.lst (js.map zbE)),S,H,some (.own []),none]=some (.nx,[oS (.lst (js.map zbE)),S,H,some (.own ((js.flatMap (·.ms)).map D.str)),z]):=by
 obtain ⟨ρ',h1,z,h2⟩:=zgj (gg:=zau 4) (body:=zld 3 (b2 ixD (vSh 4) (vC (.int 4)))) (xs:=js.map zbE) (ρ:=[oS (.lst (js.map zbE)),S,H,some (.own []),none])
  (fun i ρ=>∃ z,ρ=[oS (.lst (js.map zbE)),S,H,some (.own (((js.take i).flatMap (·.ms)).map D.str)),z]) ⟨none,by simp⟩ (fun i x ρ hx hI=>by
   obtain ⟨z,rfl⟩:=hI
   rw [qj] at hx
   obtain ⟨j,hj,rfl⟩:=oMd hx
   have hm:j∈js:=qO hj
   have t1:((js.take i).flatMap (·.ms)).length<=(js.take i).length*40:=zke fun y hy=>g y (List.mem_of_mem_take hy)
   have t2:(js.take i).length<=40:=by rw [qC];omega
   have t3:=g j hm
   have tk:js.take (i+1)=js.take i++[j]:=by rw [List.take_add_one,hj];rfl
   have sz:(((js.take i).flatMap (·.ms)).map D.str).length+(j.ms.map D.str).length<=sizeLine:=by
    rw [qe,qe];unfold sizeLine;omega
   refine ⟨_,[oS (.lst (js.map zbE)),S,H,some (.own (((js.take (i+1)).flatMap (·.ms)).map D.str)),oS (zbE j)],rfl,?_,_,rfl⟩
   have e:b2 ixD (vSh 4) (vC (.int 4)) [oS (.lst (js.map zbE)),S,H,some (.own (((js.take i).flatMap (·.ms)).map D.str)),oS (zbE j)]=some (.lst (j.ms.map D.str)):=by
    simp only [zbE,vSh,vC,b2,zrI,qb,qc,qa]
   simp only [zld,List.set_cons_zero,List.set_cons_succ,qb,qc,e,qa,qV sz,tk]
   simp)
 refine ⟨z,?_⟩
 rw [h1,h2,qe,List.take_length]
theorem zqL (hs:∀ y∈sn,zay y=true) (hl:sn.length<=40) (l4:js.length<=40) (g:∀ j∈js,GoodJ sn h j) (nd:(js.map (·.nm)).Nodup) (nm:(js.flatMap (·.ms)).Nodup) (ml:(js.flatMap (·.ms)).length<=300):ze8 [.lst (js.map zbE),.lst (sn.map D.str),.int h]=some (.bl true):=by
 obtain ⟨z,hz⟩:=zkL (js:=js) (S:=oS (.lst (sn.map D.str))) (H:=oS (.int h)) l4 fun j hj=>qL (g j hj).ln hl
 refine za1 [oS (.lst (js.map zbE)),oS (.lst (sn.map D.str)),oS (.int h),none,none] (ρ':=[oS (.lst (js.map zbE)),oS (.lst (sn.map D.str)),oS (.int h),oS (.lst ((js.flatMap (·.ms)).map D.str)),z]) rfl ((zdB ?_ (zb6 (r:=[oS (.lst (sn.map D.str)),oS (.int h)]) (a:=none) (xs:=js.map zbE) rfl (by rw [qe];exact szN l4 (by decide)) rfl fun x hx=>?_)).trans ?_)
 ·exact zc3 _ 0 40 ⟨by omega,by rw [qe];omega⟩
 ·obtain ⟨p,hp,rfl⟩:=List.mem_map.mp hx
  simp only [cF,zac,zai,vSh,qb,qc,qa,qd,ztl hs hl (g p hp)]
 ·have nn:=zcU (i:=0) (fv:=[none]) (ρ:=[oS (.lst (js.map zbE)),oS (.lst (sn.map D.str)),oS (.int h),oS (.lst ((js.flatMap (·.ms)).map D.str)),z]) (f:=zbE) (nm:=(·.nm)) (xs:=js) (fun x=>⟨_,rfl⟩) rfl (szN l4 (by decide)) rfl
  have u1:cF zaz (zac (zbb (zaw (itF (vSh 0)) (zau 0) tT (b2 ixD (vSh 0) (vC (.int 0))) [none])) zai) [oS (.lst (js.map zbE)),oS (.lst (sn.map D.str)),oS (.int h),oS (.lst ((js.flatMap (·.ms)).map D.str)),z]=some (.bl true) :=
   zcc (zaA nn za7) (zb9 nd (by rw [qe];omega))
  have u2:cF zaz (zac (vSh 3) zai) [oS (.lst (js.map zbE)),oS (.lst (sn.map D.str)),oS (.int h),oS (.lst ((js.flatMap (·.ms)).map D.str)),z]=some (.bl true) :=
   zcc (zaA rfl za7) (zb9 nm ml)
  have r:=zaZ (zpA u1 u2)
  have z0:(0<=sizeLine)=True:=by simp
  simp only [zar,zdV,szF,zai,qa,qd,qk,z0,if_true,List.set_cons_zero,List.set_cons_succ,zcS,itF,vSh,qb,zik]
  rw [hz]
  simp only [qa,zeN,qb,qc,List.set_cons_zero,List.set_cons_succ]
  exact r
theorem znG {u:SetT} (hb:∀ y∈bn,zay y=true) (g:GoodU bn h u):zdQ [zeF u,.lst (bn.map D.str),.int h]=some (.bl true):=by
 simp only [zdQ,zeF,zby,zar,sIf,zaJ,zbd,zd4,orT,zbR,toB,cF,zac,zai,vSh,vC,b2,zj8,znq,zrJ,zum,ql,qN,qo,qQ,List.replicate,qb,qc,qa,qd,if_false,Bool.not_true,qp,zvN,zdc g.b hb,zdA g.p,zdA g.q,zbo _ 1 h g.n]
theorem zlw (hb:∀ y∈bn,zay y=true) (l4:us.length<=100) (g:∀ u∈us,GoodU bn h u) (nd:(us.map fun u=>[u.b,u.p,u.q]).Nodup):zdI [.lst (us.map zeF),.lst (bn.map D.str),.int h]=some (.bl true):=by
 refine za1 [oS (.lst (us.map zeF)),oS (.lst (bn.map D.str)),oS (.int h)] rfl ((zdB ?_ (zb6 (r:=[oS (.lst (bn.map D.str)),oS (.int h)]) (a:=none) (xs:=us.map zeF) rfl (by rw [qe];exact szN l4 (by decide)) rfl fun x hx=>?_)).trans (zaZ (zcc (zaA (zcg (r:=[]) (a:=none) (xs:=us.map zeF) (f:=fun d=>match d with | .tup [a,b,c,d]=>.tup [a,b,c] | _=>.non) rfl (by rw [qe];exact szN l4 (by decide)) rfl fun x hx=>?_) za7) ?_)))
 ·exact zc3 _ 0 100 ⟨by omega,by rw [qe];omega⟩
 ·obtain ⟨p,hp,rfl⟩:=List.mem_map.mp hx
  simp only [cF,zac,zai,vSh,qb,qc,qa,qd,znG hb (g p hp)]
 ·obtain ⟨p,hp,rfl⟩:=List.mem_map.mp hx
  simp only [vSh,vC,slF,pN,pS,qb,qa,zeF,zvF]
 ·have:=zfP nd (by rw [qe];omega)
  rw [qm] at this ⊢
  exact this
theorem zqH {l:LinkT} (hs:∀ y∈sn,zay y=true) (g:GoodL sn h l):zeM [zbu l,.lst (sn.map D.str),.int h]=some (.bl true):=by
 have:=g.ne
 simp only [zeM,zbu,zby,zar,sIf,zaJ,zbd,zd4,orT,zbR,toB,cF,zac,zai,vSh,vC,b2,zj8,znq,zrJ,ql,qN,qo,qQ,List.replicate,qb,qc,qa,qd,if_false,Bool.not_true,Bool.not_false,qp,zvp,zdc g.a hs,zdc g.b hs,zqz,qM g.ne,zbo _ 0 h g.g]
theorem zof (hs:∀ y∈sn,zay y=true) (l4:ls.length<=100) (g:∀ l∈ls,GoodL sn h l) (nd:(ls.map fun l=>[l.a,l.b]).Nodup):zei [.lst (ls.map zbu),.lst (sn.map D.str),.int h]=some (.bl true):=by
 refine za1 [oS (.lst (ls.map zbu)),oS (.lst (sn.map D.str)),oS (.int h)] rfl ((zdB ?_ (zb6 (r:=[oS (.lst (sn.map D.str)),oS (.int h)]) (a:=none) (xs:=ls.map zbu) rfl (by rw [qe];exact szN l4 (by decide)) rfl fun x hx=>?_)).trans (zaZ (zcc (zaA (zcg (r:=[]) (a:=none) (xs:=ls.map zbu) (f:=fun d=>match d with | .tup [a,b,c]=>.tup [a,b] | _=>.non) rfl (by rw [qe];exact szN l4 (by decide)) rfl fun x hx=>?_) za7) ?_)))
 ·exact zc3 _ 0 100 ⟨by omega,by rw [qe];omega⟩
 ·obtain ⟨p,hp,rfl⟩:=List.mem_map.mp hx
  simp only [cF,zac,zai,vSh,qb,qc,qa,qd,zqH hs (g p hp)]
 ·obtain ⟨p,hp,rfl⟩:=List.mem_map.mp hx
  simp only [vSh,vC,slF,pN,pS,qb,qa,zbu,zwe]
 ·have:=zfP nd (by rw [qe];omega)
  rw [qm] at this ⊢
  exact this
theorem znl {w:Str×Int} (hs:∀ y∈sn,zay y=true) (g:w.1∈sn/\1<=w.2/\w.2<=1000000):zdk [dW w,.lst (sn.map D.str)]=some (.bl true):=by
 simp only [zdk,dW,zby,zaJ,zd4,cF,zac,zai,vSh,vC,b2,zj8,znq,ql,qN,qo,qQ,List.replicate,qb,qc,qa,qd,zua,zdc g.1 hs,zbo w.2 1 1000000 g.2]
theorem zg1 (hs:∀ y∈sn,zay y=true) (hl:sn.length<=40) (g:GoodA sn ws):zcF [.lst (ws.map dW),.lst (sn.map D.str)]=some (.bl true):=by
 have l4:ws.length<=40:=qL g.ln hl
 refine za1 [oS (.lst (ws.map dW)),oS (.lst (sn.map D.str))] rfl ((zdB ?_ (zb6 (r:=[oS (.lst (sn.map D.str))]) (a:=none) (xs:=ws.map dW) rfl (by rw [qe];exact szN l4 (by decide)) rfl fun x hx=>?_)).trans (zaZ ?_))
 ·have e:=zc3 (ws.map dW) 0 ((sn.map D.str).length:Nat) ⟨by omega,by rw [qe,qe];have:=g.ln;omega⟩
  simp only [cF,zac,zai,vSh,vC,zcT,qb,qc,qa,qd]
  exact e
 ·obtain ⟨p,hp,rfl⟩:=List.mem_map.mp hx
  simp only [cF,zac,zai,vSh,qb,qc,qa,qd,znl hs (g.ws p hp)]
 ·have:=zcU (i:=0) (fv:=[none]) (ρ:=[oS (.lst (ws.map dW)),oS (.lst (sn.map D.str))]) (f:=dW) (nm:=(·.1)) (xs:=ws) (fun x=>⟨_,rfl⟩) rfl (szN l4 (by decide)) rfl
  exact zcc (zaA this za7) (zb9 g.nd (by rw [qe];omega))
theorem znC {k:StockT} (hs:∀ y∈sn,zay y=true) (hl:sn.length<=40) (g:GoodK sn k):zdP [zbV k,.lst (sn.map D.str)]=some (.bl true):=by
 simp only [zdP,zbV,zby,zar,sIf,zaJ,zbd,zd4,orT,zbR,toB,cF,zac,zai,vSh,vC,b2,zj8,znq,zrJ,zum,zrI,ql,qN,qo,qQ,List.replicate,qb,qc,qa,qd,if_false,Bool.not_true,qp,zvo,zdA g.nm,zbo _ 0 1000000 g.hi,zbo _ 0 _ g.lo,zg1 hs hl g.tk,zg1 hs hl g.pt]
theorem zlp (hs:∀ y∈sn,zay y=true) (hl:sn.length<=40) (l4:ks.length<=6) (g:∀ k∈ks,GoodK sn k) (nd:(ks.map (·.nm)).Nodup):zdH [.lst (ks.map zbV),.lst (sn.map D.str)]=some (.bl true):=by
 refine za1 [oS (.lst (ks.map zbV)),oS (.lst (sn.map D.str))] rfl ((zdB ?_ (zb6 (r:=[oS (.lst (sn.map D.str))]) (a:=none) (xs:=ks.map zbV) rfl (by rw [qe];exact szN l4 (by decide)) rfl fun x hx=>?_)).trans (zaZ ?_))
 ·exact zc3 _ 0 6 ⟨by omega,by rw [qe];omega⟩
 ·obtain ⟨p,hp,rfl⟩:=List.mem_map.mp hx
  simp only [cF,zac,zai,vSh,qb,qc,qa,qd,znC hs hl (g p hp)]
 ·have:=zcU (i:=0) (fv:=[none]) (ρ:=[oS (.lst (ks.map zbV)),oS (.lst (sn.map D.str))]) (f:=zbV) (nm:=(·.nm)) (xs:=ks) (fun x=>⟨_,rfl⟩) rfl (szN l4 (by decide)) rfl
  exact zcc (zaA this za7) (zb9 nd (by rw [qe];omega))
end
section
variable {bs:List BenchT}
theorem Good.bnn (g:Good bs ss js us ls ks h):∀ y∈bs.map (·.nm),zay y=true:=fun y hy=>by
 obtain ⟨b,hb,rfl⟩:=List.mem_map.mp hy
 exact (g.b b hb).nm
theorem Good.snn (g:Good bs ss js us ls ks h):∀ y∈ss.map (·.nm),zay y=true:=fun y hy=>by
 obtain ⟨b,hb,rfl⟩:=List.mem_map.mp hy
 exact (g.s b hb).nm
theorem zlV (g:Good bs ss js us ls ks h) (ml:(js.flatMap (·.ms)).length<=300):zcC [.lst (bs.map zaP),.lst (ss.map zaH),.lst (js.map zbE),.lst (us.map zeF),.lst (ls.map zbu),.lst (ks.map zbV),.int h]=some .non:=by
 have hb:=g.bnn
 have hs:=g.snn
 have hl:(ss.map (·.nm)).length<=40:=by rw [qe];exact g.sl.2
 have n1:∀ z:Option Slot,zbb (zaw (itF (vSh 0)) (zau 0) tT (b2 ixD (vSh 0) (vC (.int 0))) [none]) [oS (.lst (bs.map zaP)),oS (.lst (ss.map zaH)),oS (.lst (js.map zbE)),oS (.lst (us.map zeF)),oS (.lst (ls.map zbu)),oS (.lst (ks.map zbV)),oS (.int h),none,none]=some (.lst ((bs.map (·.nm)).map D.str)):=fun z =>
  zcU (f:=zaP) (nm:=(·.nm)) (xs:=bs) (fun x=>⟨_,rfl⟩) rfl (szN g.bl.2 (by decide)) rfl
 have n2:zbb (zaw (itF (vSh 1)) (zau 0) tT (b2 ixD (vSh 0) (vC (.int 0))) [none]) [oS (.lst (bs.map zaP)),oS (.lst (ss.map zaH)),oS (.lst (js.map zbE)),oS (.lst (us.map zeF)),oS (.lst (ls.map zbu)),oS (.lst (ks.map zbV)),oS (.int h),oS (.lst ((bs.map (·.nm)).map D.str)),none]=some (.lst ((ss.map (·.nm)).map D.str)) :=
  zcU (f:=zaH) (nm:=(·.nm)) (xs:=ss) (fun x=>⟨_,rfl⟩) rfl (szN g.sl.2 (by decide)) rfl
 refine za1 [oS (.lst (bs.map zaP)),oS (.lst (ss.map zaH)),oS (.lst (js.map zbE)),oS (.lst (us.map zeF)),oS (.lst (ls.map zbu)),oS (.lst (ks.map zbV)),oS (.int h),none,none] rfl ((zgf ?_).trans ((zgf ?_).trans ((zfd (n1 none)).trans ((zgf ?_).trans ((zfd n2).trans ((zgf ?_).trans ((zgf ?_).trans ((zgf ?_).trans ((zgf ?_).trans (zaZ rfl))))))))))
 ·exact zbo h 1 1000000 g.hh
 ·exact zk9 g.bl.1 g.bl.2 g.b g.bn
 ·exact znD hb g.sl.1 g.sl.2 g.s g.sn
 ·exact zqL hs hl g.jl g.j g.jn g.jm ml
 ·exact zlw hb g.ul g.u g.un
 ·exact zof hs g.ll g.l g.ln
 ·exact zlp hs hl g.kl g.k g.kn
end
def Pl:Nat->D->Prop
 | 0,_=>False
 | n+1,.lst l=>l.length<=sizeLine/\∀ x∈l,Pl n x
 | n+1,.tup l=>l.length<=sizeLine/\∀ x∈l,Pl n x
 | _+1,.non=>True
 | _+1,.bl _=>True
 | _+1,.int _=>True
 | _+1,.str _=>True
 | _+1,_=>False
theorem zbD {X E:FS} (h:ft ρ=some false):zar (sIf ft X zbd) E ρ=E ρ:=by
 simp only [zar,sIf,h,qa,qp,if_false,zbd]
theorem zfR {A B E:FS} (h:ft ρ=some true) (h2:A ρ=some (.rt d,ρ')):zar (sIf ft A B) E ρ=some (.rt d,ρ'):=by
 simp only [zar,sIf,h,qa,if_true,h2]
theorem zht:∀ (n:Nat) (d:D),Pl n d->zc9 n [d]=some d
 | 0,_,h=>h.elim
 | n+1,.lst l,h=>by
  refine za1 [oS (.lst l)] rfl (zfR (zbF (b:=true) ?_) (zaZ ?_))
  ·simp only [cF,zac,zai,vSh,vC,zeZ,tyD,qb,qa,qd,k1]
  ·have:=zcg (fi:=itF (vSh 0)) (fe:=cF (zc9 n) (zac (vSh 0) zai)) (fv:=[none]) (ρ:=[oS (.lst l)]) (r:=[]) (a:=none) (xs:=l) (f:=fun x=>x) rfl h.1 rfl (fun x hx=>by simp only [cF,zac,zai,vSh,qb,qa,qd,zht n x (h.2 x hx)])
   rw [List.map_id'] at this
   exact this
 | n+1,.tup l,h=>by
  refine za1 [oS (.tup l)] rfl ((zbD (zbF (b:=false) ?_)).trans (zfR (zbF (b:=true) ?_) (zaZ (zcc (zaA (d:=.lst l) ?_ za7) rfl))))
  ·simp only [cF,zac,zai,vSh,vC,zeZ,tyD,qb,qa,qd,k2]
  ·simp only [cF,zac,zai,vSh,vC,zeZ,tyD,qb,qa,qd,k3]
  ·have:=zcg (fi:=itF (vSh 0)) (fe:=cF (zc9 n) (zac (vSh 0) zai)) (fv:=[none]) (ρ:=[oS (.tup l)]) (r:=[]) (a:=none) (xs:=l) (f:=fun x=>x) rfl h.1 rfl (fun x hx=>by simp only [cF,zac,zai,vSh,qb,qa,qd,zht n x (h.2 x hx)])
   rw [List.map_id'] at this
   exact this
 | n+1,.non,h=>by
  show zda (zc9 n) [.non]=some .non
  unfold zda
  refine za1 [oS .non] rfl ((zbD (zbF (b:=false) ?_)).trans ((zbD (zbF (b:=false) ?_)).trans (zaZ (f:=vSh 0) rfl))) <;> simp only [cF,zac,zai,vSh,vC,zeZ,tyD,qb,qa,qd,k10,k11]
 | n+1,.bl b,h=>by
  show zda (zc9 n) [.bl b]=some (.bl b)
  unfold zda
  refine za1 [oS (.bl b)] rfl ((zbD (zbF (b:=false) ?_)).trans ((zbD (zbF (b:=false) ?_)).trans (zaZ (f:=vSh 0) rfl))) <;> simp only [cF,zac,zai,vSh,vC,zeZ,tyD,qb,qa,qd,k8,k9]
 | n+1,.int b,h=>by
  show zda (zc9 n) [.int b]=some (.int b)
  unfold zda
  refine za1 [oS (.int b)] rfl ((zbD (zbF (b:=false) ?_)).trans ((zbD (zbF (b:=false) ?_)).trans (zaZ (f:=vSh 0) rfl))) <;> simp only [cF,zac,zai,vSh,vC,zeZ,tyD,qb,qa,qd,k6,k7]
 | n+1,.str b,h=>by
  show zda (zc9 n) [.str b]=some (.str b)
  unfold zda
  refine za1 [oS (.str b)] rfl ((zbD (zbF (b:=false) ?_)).trans ((zbD (zbF (b:=false) ?_)).trans (zaZ (f:=vSh 0) rfl))) <;> simp only [cF,zac,zai,vSh,vC,zeZ,tyD,qb,qa,qd,k4,k4,k5]
theorem zdC (h:Pl 8 d):zbw [d]=some d:=zht 8 d h
theorem zdr {f:α->D} {xs:List α} (hl:xs.length<=1000) (h:∀ x∈xs,Pl n (f x)):Pl (n+1) (.lst (xs.map f)) :=
 ⟨by rw [qe];exact szN hl (by decide),fun x hx=>by
  obtain ⟨y,hy,rfl⟩:=List.mem_map.mp hx
  exact h y hy⟩
theorem zsz {xs:List Str} (hl:xs.length<=1000):Pl (n+2) (.lst (xs.map D.str)):=zdr hl fun x _=>(trivial:Pl (n+1) (.str x))
theorem zug {xs:List (Str×Int)} (hl:xs.length<=1000):Pl (n+3) (.lst (xs.map dW)):=zdr hl fun x _=>⟨by simp [sizeLine],by
 intro y hy
 simp only [qK,qI,or_false] at hy
 rcases hy with rfl | rfl <;> trivial⟩
theorem znW {b:BenchT} (g:GoodB h b):Pl (n+4) (zaP b):=⟨by simp [sizeLine],by
 intro y hy
 simp only [qK,qI,or_false] at hy
 rcases hy with rfl | rfl
 ·trivial
 ·exact zdr (by have:=g.len;omega) fun x _=>⟨by simp [sizeLine],by
   intro y hy
   simp only [qK,qI,or_false] at hy
   rcases hy with rfl | rfl <;> trivial⟩⟩
theorem zlJ {bn:List Str} {s:StepT} (g:GoodS bn h s):Pl (n+4) (zaH s):=⟨by simp [sizeLine],by
 intro y hy
 simp only [qK,qI,or_false] at hy
 rcases hy with rfl | rfl | rfl
 ·trivial
 ·trivial
 ·exact zug (by have:=g.l4;omega)⟩
theorem zlL {j:JobT} (hl:sn.length<=40) (g:GoodJ sn h j):Pl (n+3) (zbE j):=⟨by simp [sizeLine],by
 intro y hy
 simp only [qK,qI,or_false] at hy
 rcases hy with rfl | rfl | rfl | rfl | rfl
 ·trivial
 ·trivial
 ·trivial
 ·trivial
 ·exact zsz (by have:=g.ln;omega)⟩
theorem zsA {u:SetT} :Pl (n+2) (zeF u):=⟨by simp [sizeLine],by
 intro y hy
 simp only [qK,qI,or_false] at hy
 rcases hy with rfl | rfl | rfl | rfl <;> trivial⟩
theorem zlK {u:LinkT} :Pl (n+2) (zbu u):=⟨by simp [sizeLine],by
 intro y hy
 simp only [qK,qI,or_false] at hy
 rcases hy with rfl | rfl | rfl <;> trivial⟩
theorem znV {k:StockT} (hl:sn.length<=40) (g:GoodK sn k):Pl (n+4) (zbV k):=⟨by simp [sizeLine],by
 intro y hy
 simp only [qK,qI,or_false] at hy
 rcases hy with rfl | rfl | rfl | rfl | rfl
 ·trivial
 ·trivial
 ·trivial
 ·exact zug (by have:=g.tk.ln;omega)
 ·exact zug (by have:=g.pt.ln;omega)⟩
theorem zeV {α:Type} {nm:α->Str} {f:α->D}:∀ (xs:List α),zgQ (xs.map fun x=>.tup [.str (nm x),f x])=some (xs.map fun x=>(.inr (nm x),f x))
 | []=>rfl
 | x::r=>by simp only [ql,zgQ,zmM,qa,zeV r,qd]
theorem zgP {α:Type} {t:α->List Str} {f:α->D}:∀ (xs:List α),zf2 (xs.map fun x=>.tup [.tup ((t x).map D.str),f x])=some (xs.map fun x=>((t x).map Sum.inr,f x))
 | []=>rfl
 | x::r=>by simp only [ql,zf2,zdN,qa,zgP r,qd]
theorem zeW [DecidableEq κ] {ps:List (κ×D)} (h:(ps.map (·.1)).Nodup):zuk ps=ps:=by
 have key:∀ (l a:List (κ×D)),((a++l).map (·.1)).Nodup->l.foldl (fun acc kv=>zhg acc kv.1 kv.2) a=a++l:=by
  intro l
  induction l with
  | nil=>intro a _;simp
  | cons x r ih =>
   intro a hn
   have hx:(a.any fun kv=>decide (kv.1=x.1))=false:=by
    rw [List.any_eq_false]
    intro y hy z
    rw [List.map_append,List.nodup_append] at hn
    exact hn.2.2 y.1 (qU hy) x.1 (by simp) (of_decide_eq_true z)
   rw [List.foldl_cons]
   have e:zhg a x.1 x.2=a++[x]:=by
    unfold zhg
    rw [hx]
    rfl
   rw [e,ih (a++[x]) (by simpa using hn)]
   simp
 simpa [zuk] using key ps [] (by simpa using h)
theorem zfH {β:Type}:∀ {fs:List (Str×β)} {i:Nat} {k:Str} {d:β},(fs.map (·.1)).Nodup->fs[i]?=some (k,d)->fs.lookup k=some d
 | [],i,k,d,_,h=>by simp at h
 | (a,b)::r,0,k,d,_,h=>by
  simp only [qb,Option.some.injEq,Prod.mk.injEq] at h
  obtain ⟨rfl,rfl⟩:=h
  simp [List.lookup]
 | (a,b)::r,i+1,k,d,nd,h=>by
  rw [qc] at h
  rw [ql,List.nodup_cons] at nd
  have ne:k≠a:=by
   intro z
   subst z
   exact nd.1 (qU (f:=(·.1)) (qO h))
  have hb:(k==a)=false:=by simpa using ne
  simp only [List.lookup,hb]
  exact zfH nd.2 h
theorem zeX {β:Type}:∀ {fs:List (Str×β)} {k:Str},k∉fs.map (·.1)->fs.lookup k=none
 | [],_,_=>rfl
 | (a,b)::r,k,h=>by
  rw [ql,qK,not_or] at h
  have hb:(k==a)=false:=by simpa using h.1
  simp only [List.lookup,hb]
  exact zeX h.2
def zkH (j:JobT) (acc:List (Key×D)) (m:Str):List (Key×D):=zhg acc (.inr m) (zbE j)
def jkv (js:List JobT):List (Key×D):=js.foldl (fun acc j=>j.ms.foldl (zkH j) acc) []
theorem zfF [DecidableEq κ] (kvs:List (κ×D)) (k:κ) (v:D):(zhg kvs k v).length<=kvs.length+1:=by
 unfold zhg
 split
 ·rw [qe];omega
 ·rw [qi];simp
theorem zge (j:JobT):∀ (ms:List Str) (acc:List (Key×D)),(ms.foldl (zkH j) acc).length<=acc.length+ms.length
 | [],acc=>by simp
 | m::r,acc=>by
  rw [List.foldl_cons]
  have h1:=zge j r (zkH j acc m)
  have h2:(zkH j acc m).length<=acc.length+1:=zfF _ _ _
  rw [qh];omega
theorem zmt {m:Nat}:∀ {js:List JobT} (acc:List (Key×D)),(∀ j∈js,j.ms.length<=m)->(js.foldl (fun acc j=>j.ms.foldl (zkH j) acc) acc).length<=acc.length+js.length*m
 | [],acc,_=>by simp
 | j::r,acc,h=>by
  rw [List.foldl_cons]
  have h1:=zmt (js:=r) (j.ms.foldl (zkH j) acc) fun y hy=>h y (qg _ hy)
  have h2:=zge j j.ms acc
  have h3:=h j qf
  rw [qh,Nat.succ_mul];omega
def zmC (bs:List BenchT) (ss:List StepT) (js:List JobT) (us:List SetT) (ls:List LinkT) (ks:List StockT) (h:Int):List (Str×D) :=
 [("benches",.lst (bs.map zaP)),("steps",.lst (ss.map zaH)),("jobs",.lst (js.map zbE)),("setups",.lst (us.map zeF)),("links",.lst (ls.map zbu)),("stocks",.lst (ks.map zbV)),("horizon",.int h),
 ("bench_by_name",.dk (bs.map fun b=>(.inr b.nm,zaP b))),("step_by_name",.dk (ss.map fun s=>(.inr s.nm,zaH s))),("setup_by_names",.dt (us.map fun u=>([u.b,u.p,u.q].map Sum.inr,.int u.n)))]
def zpn (bs:List BenchT) (ss:List StepT) (js:List JobT) (us:List SetT) (ls:List LinkT) (ks:List StockT) (h:Int):List (Str×D):=zmC bs ss js us ls ks h++[(("job_by_step":Str),D.dk (jkv js))]
def zav (bs:List BenchT) (ss:List StepT) (js:List JobT) (us:List SetT) (ls:List LinkT) (ks:List StockT) (h:Int):D:=.ins "Shop" (zpn bs ss js us ls ks h)
def zfg:List Str:=["benches","steps","jobs","setups","links","stocks","horizon","bench_by_name","step_by_name","setup_by_names","job_by_step"]
theorem zhn:zfg.Nodup:=by decide +kernel
theorem zl4 {l:List α} (h:l.Nodup) (n:Nat):(l.take n).Nodup:=List.Sublist.nodup (List.take_sublist n l) h
section
variable {fs:List (Str×D)} {f:Str} {fv:FE} {r:zaI}
theorem zc2 (n:Nat) (hk:zfg[n]?=some f) (hf:fs.map (·.1)=zfg.take n) (h:fv (some (.obj "Shop" fs)::r)=some d):zar (zeu "Shop" f 0 fv) g (some (.obj "Shop" fs)::r)=g (some (.obj "Shop" (fs++[(f,d)]))::r):=by
 have hno:fs.lookup f=none:=zeX (by
  rw [hf]
  intro z
  obtain ⟨i,hi⟩:=List.getElem?_of_mem z
  have hin:i < n:=by
   rcases Nat.lt_or_ge i n with q | q
   ·exact q
   ·rw [List.getElem?_eq_none (by rw [qC];omega)] at hi;cases hi
  rw [List.getElem?_take_of_lt hin] at hi
  have:=(List.getElem?_inj (List.getElem?_eq_some_iff.mp hi).1 zhn).mp (hi.trans hk.symm)
  omega)
 have hlen:fs.length < 100:=by
  have:=congrArg List.length hf
  rw [qe,qC] at this
  have k:zfg.length=11:=rfl
  omega
 simp only [zar,zeu,h,qa,qb,hno,hlen,and_self,if_true,List.set_cons_zero]
theorem zhl (n i:Nat) (hf:fs.map (·.1)=zfg.take n) (h:fs[i]?=some (f,d)):zgy "Shop" f 0 (some (.obj "Shop" fs)::r)=some d:=by
 have e:fs.lookup f=some d:=zfH (by rw [hf];exact zl4 zhn n) h
 show (if some ("Shop":Str)=some ("Shop":Str) then fs.lookup f else none)=some d
 rw [qV rfl,e]
end
theorem zmN {f:α->D} {nm:α->Str} {xs:List α} (hf:∀ x,∃ r,f x=.tup (.str (nm x)::r)) (h1:fo ρ=some (.lst (xs.map f))) (h2:xs.length<=1000) (nd:(xs.map nm).Nodup) :
  cF zd0 (zac (zbb (zaw (itF fo) (zau 0) tT (zbJ (szF (zac (b2 ixD (vSh 0) (vC (.int 0))) (zac (vSh 0) zai)))) [none])) zai) ρ=some (.dk (xs.map fun x=>(.inr (nm x),f x))):=by
 have hc:=zcg (fi:=itF fo) (fe:=zbJ (szF (zac (b2 ixD (vSh 0) (vC (.int 0))) (zac (vSh 0) zai)))) (fv:=[none]) (ρ:=ρ) (r:=[]) (a:=none) (xs:=xs.map f) (f:=fun d=>.tup [match d with | .tup (x::_)=>x | _=>.non,d]) (by unfold itF;rw [h1];rfl) (by rw [qe];exact szN h2 (by decide)) rfl (fun x hx=>by
  obtain ⟨y,_,rfl⟩:=List.mem_map.mp hx
  obtain ⟨r,e⟩:=hf y
  simp only [zac,zai,vSh,vC,b2,zbJ,szF,zj8,qb,qa,qd,if_true,qh,qk,Nat.zero_add,sz2,e])
 have e:(xs.map f).map (fun d=>D.tup [match d with | .tup (x::_)=>x | _=>.non,d])=xs.map fun x=>.tup [.str (nm x),f x]:=by
  rw [qm]
  refine List.map_congr_left fun x _=>?_
  obtain ⟨r,e⟩:=hf x
  simp [e]
 rw [e] at hc
 have kn:((xs.map fun x=>((.inr (nm x):Key),f x)).map (·.1)).Nodup:=by
  rw [qm]
  have:=List.Pairwise.map (S:=fun a b:Key=>a≠b) (Sum.inr:Str->Key) (fun a b hab z=>hab (Sum.inr.inj z)) nd
  rw [qm] at this
  exact this
 refine zcc (zaA hc za7) ?_
 show (if _ then _ else _)=_
 rw [qV (by rw [qe];exact h2),zeV,qd,zeW kn]
theorem zoG (h1:fo ρ=some (.lst (us.map zeF))) (h2:us.length<=1000) (nd:(us.map fun u=>[u.b,u.p,u.q]).Nodup) :
  cF zkn (zac (zbb (zaw (itF fo) (zau 0) tT (zbJ (szF (zac (slF (vSh 0) pN (pS (vC (.int 3)))) (zac (b2 ixD (vSh 0) (vC (.int 3))) zai)))) [none])) zai) ρ=some (.dt (us.map fun u=>([u.b,u.p,u.q].map Sum.inr,.int u.n))):=by
 have hc:=zcg (fi:=itF fo) (fe:=zbJ (szF (zac (slF (vSh 0) pN (pS (vC (.int 3)))) (zac (b2 ixD (vSh 0) (vC (.int 3))) zai)))) (fv:=[none]) (ρ:=ρ) (r:=[]) (a:=none) (xs:=us.map zeF) (f:=fun d=>match d with | .tup [a,b,c,d]=>.tup [.tup [a,b,c],d] | _=>.non) (by unfold itF;rw [h1];rfl) (by rw [qe];exact szN h2 (by decide)) rfl (fun x hx=>by
  obtain ⟨y,_,rfl⟩:=List.mem_map.mp hx
  simp only [zac,zai,vSh,vC,b2,zbJ,szF,slF,pN,pS,zum,qb,qa,qd,if_true,qh,qk,Nat.zero_add,sz2,zeF,zvF])
 rw [qm] at hc
 have kn:((us.map fun u=>([u.b,u.p,u.q].map (Sum.inr:Str->Key),D.int u.n)).map (·.1)).Nodup:=by
  rw [qm]
  have inj:∀ a b:List Str,a.map (Sum.inr:Str->Key)=b.map Sum.inr->a=b:=fun a b z=>(List.map_inj_right (fun x y q=>Sum.inr.inj q)).mp z
  have:=List.Pairwise.map (S:=fun a b:List Key=>a≠b) (List.map (Sum.inr:Str->Key)) (fun a b hab z=>hab (inj a b z)) nd
  rw [qm] at this
  exact this
 refine zcc (zaA hc za7) ?_
 show (if _ then _ else _)=_
 have e:=zgP (t:=fun u:SetT=>[u.b,u.p,u.q]) (f:=fun u=>.int u.n) us
 rw [qV (by rw [qe];exact h2)]
 have e2:zf2 (us.map ((fun d=>match d with | .tup [a,b,c,d]=>D.tup [.tup [a,b,c],d] | _=>.non) ∘ zeF))=some (us.map fun u=>([u.b,u.p,u.q].map Sum.inr,.int u.n)):=e
 rw [e2,qd,zeW kn]
section
variable {bs:List BenchT}
theorem zgi:(zmC bs ss js us ls ks h).map (·.1)=zfg.take 10:=rfl
theorem zgh:(zpn bs ss js us ls ks h).map (·.1)=zfg:=rfl
abbrev r9 (bs:List BenchT) (ss:List StepT) (js:List JobT) (us:List SetT) (ls:List LinkT) (ks:List StockT) (h:Int) (a b:Option Slot):zaI:=[oS (.lst (bs.map zaP)),oS (.lst (ss.map zaH)),oS (.lst (js.map zbE)),oS (.lst (us.map zeF)),oS (.lst (ls.map zbu)),oS (.lst (ks.map zbV)),oS (.int h),oS .non,a,b]
abbrev ob (bs:List BenchT) (ss:List StepT) (js:List JobT) (us:List SetT) (ls:List LinkT) (ks:List StockT) (h:Int) (kvs:List (Key×D)):Option Slot:=some (.objd "Shop" (zmC bs ss js us ls ks h) "job_by_step" kvs)
theorem zsr {j:JobT} {kvs:List (Key×D)} (hl:kvs.length < 100000):zc1 "Shop" "job_by_step" 0 (vSh 10) (vSh 9) (ob bs ss js us ls ks h kvs::r9 bs ss js us ls ks h (oS (zbE j)) (oS (.str m)))=some (.nx,ob bs ss js us ls ks h (zkH j kvs m)::r9 bs ss js us ls ks h (oS (zbE j)) (oS (.str m))):=by
 have hno:(zmC bs ss js us ls ks h).lookup ("job_by_step":Str)=none:=zeX (by rw [zgi];decide +kernel)
 simp only [zc1,vSh,qb,qc,qa,zmM,hno,hl,and_self,if_true,List.set_cons_zero,zkH]
theorem zos {j:JobT} {acc:List (Key×D)} {z:Option Slot} (hl:acc.length+j.ms.length < 100000):∃ z',zcS (itF (b2 ixD (vSh 9) (vC (.int 4)))) (zau 10) (zc1 "Shop" "job_by_step" 0 (vSh 10) (vSh 9)) (ob bs ss js us ls ks h acc::r9 bs ss js us ls ks h (oS (zbE j)) z)=some (.nx,ob bs ss js us ls ks h (j.ms.foldl (zkH j) acc)::r9 bs ss js us ls ks h (oS (zbE j)) z'):=by
 obtain ⟨ρ',h1,z',h2⟩:=zgj (gg:=zau 10) (body:=zc1 "Shop" "job_by_step" 0 (vSh 10) (vSh 9)) (xs:=j.ms.map D.str) (ρ:=ob bs ss js us ls ks h acc::r9 bs ss js us ls ks h (oS (zbE j)) z)
  (fun i ρ=>∃ z,ρ=ob bs ss js us ls ks h ((j.ms.take i).foldl (zkH j) acc)::r9 bs ss js us ls ks h (oS (zbE j)) z) ⟨z,by simp⟩ (fun i x ρ hx hI=>by
   obtain ⟨z,rfl⟩:=hI
   rw [qj] at hx
   obtain ⟨m,hm,rfl⟩:=oMd hx
   have tk:j.ms.take (i+1)=j.ms.take i++[m]:=by rw [List.take_add_one,hm];rfl
   have hlen:=zge j (j.ms.take i) acc
   rw [qC] at hlen
   refine ⟨_,_,rfl,zsr (by omega),oS (.str m),?_⟩
   rw [tk,List.foldl_append];rfl)
 refine ⟨z',?_⟩
 have e:itF (b2 ixD (vSh 9) (vC (.int 4))) (ob bs ss js us ls ks h acc::r9 bs ss js us ls ks h (oS (zbE j)) z)=some (j.ms.map D.str):=by
  simp only [vSh,vC,b2,itF,zik,zrI,qb,qc,qa,zbE]
 unfold zcS
 rw [e,qa,h1,h2,qe,List.take_length]
theorem zn7 (hj:js.length<=40) (hm:∀ j∈js,j.ms.length<=40):∃ z z',zfI (zau 9) (zcS (itF (b2 ixD (vSh 9) (vC (.int 4)))) (zau 10) (zc1 "Shop" "job_by_step" 0 (vSh 10) (vSh 9))) (js.map zbE) (ob bs ss js us ls ks h []::r9 bs ss js us ls ks h none none)=some (.nx,ob bs ss js us ls ks h (jkv js)::r9 bs ss js us ls ks h z z'):=by
 obtain ⟨ρ',h1,z,z',h2⟩:=zgj (gg:=zau 9) (body:=zcS (itF (b2 ixD (vSh 9) (vC (.int 4)))) (zau 10) (zc1 "Shop" "job_by_step" 0 (vSh 10) (vSh 9))) (xs:=js.map zbE) (ρ:=ob bs ss js us ls ks h []::r9 bs ss js us ls ks h none none)
  (fun i ρ=>∃ z z',ρ=ob bs ss js us ls ks h (jkv (js.take i))::r9 bs ss js us ls ks h z z') ⟨none,none,by simp [jkv]⟩ (fun i x ρ hx hI=>by
   obtain ⟨z,z',rfl⟩:=hI
   rw [qj] at hx
   obtain ⟨j,hjm,rfl⟩:=oMd hx
   have tk:js.take (i+1)=js.take i++[j]:=by rw [List.take_add_one,hjm];rfl
   have hlen:=zmt (m:=40) (js:=js.take i) [] fun y hy=>hm y (List.mem_of_mem_take hy)
   rw [qC,qk] at hlen
   have h4:=hm j (qO hjm)
   obtain ⟨w,hw⟩:=zos (bs:=bs) (ss:=ss) (js:=js) (us:=us) (ls:=ls) (ks:=ks) (h:=h) (j:=j) (acc:=jkv (js.take i)) (z:=z') (by unfold jkv;omega)
   refine ⟨_,_,rfl,hw,oS (zbE j),w,?_⟩
   rw [tk]
   unfold jkv
   rw [List.foldl_append];rfl)
 refine ⟨z,z',?_⟩
 rw [h1,h2,qe,List.take_length]
theorem zqQ (g:Good bs ss js us ls ks h) (ml:(js.flatMap (·.ms)).length<=300):zcR [.lst (bs.map zaP),.lst (ss.map zaH),.lst (js.map zbE),.lst (us.map zeF),.lst (ls.map zbu),.lst (ks.map zbV),.int h]=some (zav bs ss js us ls ks h):=by
 have hl:(ss.map (·.nm)).length<=40:=by rw [qe];exact g.sl.2
 have f1:=zdC (d:=.lst (bs.map zaP)) (zdr (by have:=g.bl.2;omega) fun x hx=>znW (g.b x hx))
 have f2:=zdC (d:=.lst (ss.map zaH)) (zdr (by have:=g.sl.2;omega) fun x hx=>zlJ (g.s x hx))
 have f3:=zdC (d:=.lst (js.map zbE)) (zdr (by have:=g.jl;omega) fun x hx=>zlL hl (g.j x hx))
 have f4:=zdC (d:=.lst (us.map zeF)) (zdr (by have:=g.ul;omega) fun x hx=>zsA)
 have f5:=zdC (d:=.lst (ls.map zbu)) (zdr (by have:=g.ll;omega) fun x hx=>zlK)
 have f6:=zdC (d:=.lst (ks.map zbV)) (zdr (by have:=g.kl;omega) fun x hx=>znV hl (g.k x hx))
 obtain ⟨z,z',ho⟩:=zn7 (bs:=bs) (ss:=ss) (us:=us) (ls:=ls) (ks:=ks) (h:=h) g.jl fun j hj=>qL (g.j j hj).ln hl
 have key:∀ (G:FS) (ρ':zaI),G (some (.obj "Shop" [])::[oS (.lst (bs.map zaP)),oS (.lst (ss.map zaH)),oS (.lst (js.map zbE)),oS (.lst (us.map zeF)),oS (.lst (ls.map zbu)),oS (.lst (ks.map zbV)),oS (.int h),none,none,none])=some (.nx,ob bs ss js us ls ks h (jkv js)::ρ') ->
   zrG 3 "Shop" G [.lst (bs.map zaP),.lst (ss.map zaH),.lst (js.map zbE),.lst (us.map zeF),.lst (ls.map zbu),.lst (ks.map zbV),.int h]=some (zav bs ss js us ls ks h):=fun G ρ' e=>by
  unfold zrG
  show (G (some (.obj "Shop" [])::[oS (.lst (bs.map zaP)),oS (.lst (ss.map zaH)),oS (.lst (js.map zbE)),oS (.lst (us.map zeF)),oS (.lst (ls.map zbu)),oS (.lst (ks.map zbV)),oS (.int h),none,none,none])).bind _=_
  rw [e]
  rfl
 refine key _ (r9 bs ss js us ls ks h z z') ((zfd (zcc rfl (zlV g ml))).trans ?_)
 show zar _ _ (some (.obj "Shop" [])::r9 bs ss js us ls ks h none none)=_
 refine (zbD (zbF (b:=false) rfl)).trans ?_
 refine (zc2 0 rfl rfl (zcc rfl f1)).trans ?_
 refine (zc2 1 rfl rfl (zcc rfl f2)).trans ?_
 refine (zc2 2 rfl rfl (zcc rfl f3)).trans ?_
 refine (zc2 3 rfl rfl (zcc rfl f4)).trans ?_
 refine (zc2 4 rfl rfl (zcc rfl f5)).trans ?_
 refine (zc2 5 rfl rfl (zcc rfl f6)).trans ?_
 refine (zc2 6 rfl rfl (d:=.int h) rfl).trans ?_
 refine (zc2 7 rfl rfl (zmN (f:=zaP) (nm:=(·.nm)) (xs:=bs) (fun x=>⟨_,rfl⟩) (zhl 7 0 rfl rfl) (by have:=g.bl.2;omega) g.bn)).trans ?_
 refine (zc2 8 rfl rfl (zmN (f:=zaH) (nm:=(·.nm)) (xs:=ss) (fun x=>⟨_,rfl⟩) (zhl 8 1 rfl rfl) (by have:=g.sl.2;omega) g.sn)).trans ?_
 refine (zc2 9 rfl rfl (zoG (us:=us) (zhl 9 3 rfl rfl) (by have:=g.ul;omega) g.un)).trans ?_
 have hno:(zmC bs ss js us ls ks h).lookup ("job_by_step":Str)=none:=zeX (by rw [zgi];decide +kernel)
 have hle:(zmC bs ss js us ls ks h).length < 100:=by simp [zmC]
 have e1:zrF "Shop" "job_by_step" 0 (some (.obj "Shop" (zmC bs ss js us ls ks h))::r9 bs ss js us ls ks h none none)=some (.nx,ob bs ss js us ls ks h []::r9 bs ss js us ls ks h none none):=by
  simp only [zrF,qb,hno,hle,and_self,if_true,List.set_cons_zero]
 have e2:itF (zgy "Shop" "jobs" 0) (ob bs ss js us ls ks h []::r9 bs ss js us ls ks h none none)=some (js.map zbE):=by
  have lk:(zmC bs ss js us ls ks h).lookup ("jobs":Str)=some (.lst (js.map zbE)):=zfH (i:=2) (by rw [zgi];exact zl4 zhn 10) rfl
  have n1:("jobs":Str)≠"job_by_step":=by decide +kernel
  have e:zgy "Shop" "jobs" 0 (ob bs ss js us ls ks h []::r9 bs ss js us ls ks h none none)=some (.lst (js.map zbE)):=by
   show (if some ("Shop":Str)=some ("Shop":Str) then (if ("jobs":Str)="job_by_step" then none else (zmC bs ss js us ls ks h).lookup ("jobs":Str)) else none)=_
   rw [qV rfl,qW n1,lk]
  unfold itF
  rw [e];rfl
 show zar (zrF "Shop" "job_by_step" 0) (zcS (itF (zgy "Shop" "jobs" 0)) (zau 9) (zcS (itF (b2 ixD (vSh 9) (vC (.int 4)))) (zau 10) (zc1 "Shop" "job_by_step" 0 (vSh 10) (vSh 9)))) (some (.obj "Shop" (zmC bs ss js us ls ks h))::r9 bs ss js us ls ks h none none)=_
 unfold zar
 rw [e1,qa]
 show zcS _ _ _ _=_
 unfold zcS
 rw [e2,qa]
 exact ho
end
def Wp (o:Option α) (P:α->Prop):Prop:=∃ a,o=some a/\P a
section
variable {o:Option α} {P Q:α->Prop} {fr:FA} {R:Fl×zaI->Prop} {gt:FT}
theorem Wp.imp (h:Wp o P) (k:∀ a,P a->Q a):Wp o Q:=let ⟨a,e,p⟩:=h;⟨a,e,k a p⟩
theorem zfz {f:α->Option β} {P:β->Prop} (h:Wp o fun a=>Wp (f a) P):Wp (o.bind f) P:=by
 obtain ⟨a,rfl,b,e,p⟩:=h
 exact ⟨b,e,p⟩
theorem zrC {f:α->β} {P:β->Prop} (h:Wp o fun a=>P (f a)):Wp (o.map f) P:=by
 obtain ⟨a,rfl,p⟩:=h
 exact ⟨_,rfl,p⟩
theorem zbP {a:α} (e:o=some a) (p:P a):Wp o P:=⟨a,e,p⟩
theorem w_2 {G:D->D->Option D} {P:D->Prop} (h:Wp (fa ρ) fun x=>Wp (fb ρ) fun y=>Wp (G x y) P):Wp (b2 G fa fb ρ) P:=zfz (h.imp fun _ k=>zfz k)
theorem w_1 {G:D->Option D} {P:D->Prop} (h:Wp (fa ρ) fun x=>Wp (G x) P):Wp (b1 G fa ρ) P:=zfz h
theorem w_c {P:D->Prop} (p:P d):Wp (vC d ρ) P:=⟨d,rfl,p⟩
theorem zax {P:D->Prop} (h:ρ[i]?=some (oS d)) (p:P d):Wp (vSh i ρ) P:=⟨d,by unfold vSh;rw [h],p⟩
theorem zan {P:List D->Prop} (h:Wp (fa ρ) fun x=>Wp (fr ρ) fun l=>P (x::l)):Wp (zac fa fr ρ) P:=zfz (h.imp fun _ k=>zrC k)
theorem zaX {P:List D->Prop} (p:P []):Wp (zai ρ) P:=⟨_,rfl,p⟩
theorem zup {P:List D->Prop} (h:Wp (fr ρ) fun l=>l.length<=1000/\P l):Wp (szF fr ρ) P:=zfz (h.imp fun l k=>⟨l,qV (by unfold sizeLine;omega),k.2⟩)
theorem zeP {P:D->Prop} (h:Wp (fr ρ) fun l=>l.length<=1000/\P (.tup l)):Wp (zbJ (szF fr) ρ) P:=zrC (zup h)
theorem zpF {P:D->Prop} (h:Wp (fr ρ) fun l=>l.length<=1000/\P (.lst l)):Wp (zbb (szF fr) ρ) P:=zrC (zup h)
theorem zfa {F:FQ} {P:D->Prop} (h:Wp (fr ρ) fun l=>Wp (F l) P):Wp (cF F fr ρ) P:=zfz h
theorem zdv {F:FQ} {P:D->Prop} {l:List D} (h:fr ρ=some l) (k:Wp (F l) P):Wp (cF F fr ρ) P:=zfz ⟨l,h,k⟩
theorem zbK {a b:Int} {P:D->Prop} (p:P (.int (a+b))):Wp (zbY (.int a) (.int b)) P:=⟨_,rfl,p⟩
theorem znt {a b:Int} {P:D->Prop} (p:P (.int (a - b))):Wp (ziQ (.int a) (.int b)) P:=⟨_,rfl,p⟩
theorem zbm {a b:Int} {P:D->Prop} (h:0 < b) (p:∀ n,0<=n->n < b->n=a % b->P (.int n)):Wp (zbQ (.int a) (.int b)) P:=⟨_,qV h,p _ (Int.emod_nonneg _ (by omega)) (Int.emod_lt_of_pos _ h) rfl⟩
theorem za8 {a b:Int} {P:D->Prop} (h:0 < b/\b < 1073741824) (p:P (.int (a / b))):Wp (za4 (.int a) (.int b)) P:=⟨_,qV h,p⟩
theorem zdu {P:Bool->Prop} (h:Wp (f ρ) fun d=>∃ b,d=.bl b/\P b):Wp (toB f ρ) P:=zfz (h.imp fun d ⟨b,e,p⟩=>by subst e;exact ⟨b,rfl,p⟩)
theorem zvL {a b:Int} {P:D->Prop} (p:P (.bl (decide (a<=b)))):Wp (leD (.int a) (.int b)) P:=⟨_,rfl,p⟩
theorem zrS {a b:Int} {P:D->Prop} (p:P (.bl (decide (a < b)))):Wp (ltD (.int a) (.int b)) P:=⟨_,rfl,p⟩
theorem zt8 {a b:Int} {P:D->Prop} (p:P (.bl (decide (b < a)))):Wp (gtD (.int a) (.int b)) P:=⟨_,rfl,p⟩
theorem zvM {a b:Int} {P:D->Prop} (p:P (.bl (decide (b<=a)))):Wp (geD (.int a) (.int b)) P:=⟨_,rfl,p⟩
theorem zrT {a b:Int} {P:D->Prop} (p:∀ c:Bool,(c=true↔a=b)->P (.bl c)):Wp (eqD (.int a) (.int b)) P:=⟨_,rfl,p _ (by simp)⟩
theorem zrV {P:Bool->Prop} (h:Wp (ft ρ) fun b=>if b=true then Wp (gt ρ) P else P false):Wp (zhR ft gt ρ) P:=zfz (h.imp fun b k=>by
 cases b with
 | true=>exact k
 | false=>exact ⟨_,rfl,k⟩)
theorem zvK {P:Bool->Prop} (h:Wp (ft ρ) fun b=>if b=true then P true else Wp (gt ρ) P):Wp (orT ft gt ρ) P:=zfz (h.imp fun b k=>by
 cases b with
 | false=>exact k
 | true=>exact ⟨_,rfl,k⟩)
theorem zcz (h:Wp (g ρ) fun r=>r.1=.nx/\Wp (g' r.2) R):Wp (zar g g' ρ) R:=zfz (h.imp fun ⟨fl,ρ'⟩ ⟨e,k⟩=>by
 have e:fl=.nx:=e
 subst e
 exact k)
theorem zfe (h:Wp (f ρ) fun d=>R (.nx,ρ.set j (oS d))):Wp (zbq j f ρ) R:=zrC h
theorem zbp (h:Wp (f ρ) fun d=>Wp (g (ρ.set j (oS d))) R):Wp (zar (zbq j f) g ρ) R:=zcz (zfe (h.imp fun _ k=>⟨rfl,k⟩))
theorem zse (h:Wp (fr ρ) fun d=>R (.nx,ρ.set j (some (.own d)))):Wp (zdV j fr ρ) R:=zrC h
theorem zkG (h:Wp (fr ρ) fun d=>Wp (g (ρ.set j (some (.own d)))) R):Wp (zar (zdV j fr) g ρ) R:=zcz (zse (h.imp fun _ k=>⟨rfl,k⟩))
theorem zdZ (h:Wp (g (ρ.set j (some (.own [])))) R):Wp (zar (zdV j (szF zai)) g ρ) R:=zkG ⟨[],rfl,h⟩
theorem zsf (hs:ρ[j]?=some (some (.own ds))) (hl:ds.length<=1000) (h:Wp (f ρ) fun d=>R (.nx,ρ.set j (some (.own (ds++[d]))))):Wp (zek j f ρ) R:=by
 unfold zek
 rw [hs]
 exact zfz (h.imp fun d k=>⟨_,qV (by unfold sizeLine;omega),k⟩)
theorem zfr (hs:ρ[j]?=some (some (.own ds))) (h:Wp (g (ρ.set j (oS (.lst ds)))) R):Wp (zeN j g ρ) R:=by
 unfold zeN;rw [hs];exact h
theorem zer (h:Wp (f ρ) fun d=>R (.rt d,ρ)):Wp (zaJ f ρ) R:=zrC h
theorem zvX (h:Wp (ft ρ) fun b=>Wp ((if b=true then g else g') ρ) R):Wp (sIf ft g g' ρ) R:=zfz (h.imp fun b k=>by cases b <;> exact k)
theorem zes (h:R (.nx,ρ)):Wp (zbd ρ) R:=⟨_,rfl,h⟩
theorem zdU (I:Nat->zaI->Prop) (h:Wp (fi ρ) fun xs=>I 0 ρ/\(∀ i x ρ,xs[i]?=some x->I i ρ->Wp (gg x ρ) fun ρ1=>Wp (g ρ1) fun r=>r.1=.nx/\I (i+1) r.2)/\∀ ρ,I xs.length ρ->R (.nx,ρ)):Wp (zcS fi gg g ρ) R:=zfz (h.imp fun xs ⟨h0,hs,he⟩=>by
 have key:∀ (n i:Nat) (ρ:zaI),i+n=xs.length->I i ρ->Wp (zfI gg g (xs.drop i) ρ) fun r=>r.1=.nx/\I xs.length r.2:=by
  intro n
  induction n with
  | zero =>
   intro i ρ hi hI
   have e:i=xs.length:=by omega
   subst e
   rw [List.drop_length]
   exact ⟨_,rfl,rfl,hI⟩
  | succ n ih =>
   intro i ρ hi hI
   have hlt:i < xs.length:=by omega
   rw [List.drop_eq_getElem_cons hlt]
   unfold zfI
   refine zfz ((hs i xs[i] ρ (by simp [hlt]) hI).imp fun ρ1 k=>zfz (k.imp fun ⟨fl,ρ2⟩ ⟨e,hI2⟩=>?_))
   have e:fl=.nx:=e
   subst e
   exact ih (i+1) ρ2 (by omega) hI2
 have:=key xs.length 0 ρ (by omega) h0
 rw [List.drop_zero] at this
 exact this.imp fun ⟨fl,ρ'⟩ ⟨e,k⟩=>by
  have e:fl=.nx:=e
  subst e
  exact he ρ' k)
theorem zeT {P:D->Prop} (h:Wp (g (ds.map (fun d=>some (Slot.sh d))++List.replicate n none)) fun r=>∃ d,r.1=.rt d/\P d):Wp (zby n g ds) P:=zfz (h.imp fun ⟨fl,ρ'⟩ ⟨d,e,p⟩=>by
 have e:fl=.rt d:=e
 subst e
 exact ⟨d,rfl,p⟩)
theorem zg3 {P:List D->Prop} (h:Wp (fr ρ) fun l=>∃ n:Int,l=[.int n]/\0<=n/\n<=1000/\P ((List.range n.toNat).map fun i:Nat=>D.int (0+i))):Wp (itR ziK fr ρ) P:=by
 unfold itR
 exact zfz (h.imp fun l ⟨n,e,h0,h1,k⟩=>⟨_,by rw [e];exact zlE ⟨h0,by omega⟩,k⟩)
theorem zew {x:D} (h:((List.range n).map fun i:Nat=>D.int (0+(i:Int)))[i]?=some x):i < n/\x=.int i:=by
 rw [qj] at h
 obtain ⟨k,hk,rfl⟩:=oMd h
 obtain ⟨hlt,e⟩:=List.getElem?_eq_some_iff.mp hk
 rw [List.getElem_range] at e
 rw [qT] at hlt
 subst e
 exact ⟨hlt,by rw [Int.zero_add]⟩
end
section
variable {R:Fl×zaI->Prop}
theorem zhe (h:Wp (ft ρ) fun b=>if b=true then Wp (f ρ) fun d=>R (.rt d,ρ) else Wp (g' ρ) R):Wp (zar (sIf ft (zaJ f) zbd) g' ρ) R:=by
 obtain ⟨b,e,k⟩:=h
 unfold zar sIf
 rw [e]
 cases b with
 | true =>
  obtain ⟨d,e2,k⟩:=k
  refine ⟨(.rt d,ρ),?_,k⟩
  show ((zaJ f ρ).bind _)=_
  unfold zaJ
  rw [e2]
  rfl
 | false=>exact k
theorem zel {a b:Int} {P:D->Prop} (h:(-(2 ^ 64) < a/\a < 2 ^ 64)\/(-(2 ^ 64) < b/\b < 2 ^ 64)) (p:P (.int (a*b))):Wp (zfG (.int a) (.int b)) P:=⟨_,qV h,p⟩
theorem zjD {P:D->Prop} (p:P (.int ns.length)):Wp (zcT [.scr ns]) P:=⟨_,rfl,p⟩
theorem zli {l:List D} {P:D->Prop} (p:P (.int l.length)):Wp (zcT [.lst l]) P:=⟨_,rfl,p⟩
end
theorem zeg:(2:Int) ^ 64=18446744073709551616:=by decide +kernel
theorem zo1 {n:Int} {P:D->Prop} (h0:0<=n) (h1:n < ns.length) (p:∀ m,P (.int m)):Wp (ixD (.scr ns) (.int n)) P:=by
 obtain ⟨k,rfl⟩:=Int.eq_ofNat_of_zero_le h0
 refine ⟨.int (ns.getD k 0),?_,p _⟩
 show (atI ns (k:Int)).map D.int=_
 rw [zdi]
 have:k < ns.length:=by omega
 simp [List.getD,this]
abbrev cE (ns:List Int) (k:Int) (a:Option Slot):zaI:=[oS (.scr ns),oS (.int k),a]
theorem sqb {k:Int} (h0:0<=k) (h1:k<=100):0<=k*k/\k*k<=10000:=⟨Int.mul_nonneg h0 h0,Int.le_trans (Int.mul_le_mul_of_nonneg_left h1 h0) (by omega)⟩
theorem ztT (ns:List Int) {k:Int} (h0:0<=k) (h1:k<=100):Wp (zdq [.scr ns,.int k]) fun d=>∃ n,d=.int n:=by
 obtain ⟨q0,q1⟩:=sqb h0 h1
 unfold zdq
 refine zeT (zhe (zdu (w_2 (zax rfl (zfa (zan (zax rfl (zaX (zjD (zrS ⟨_,rfl,?_⟩))))))))))
 by_cases hk:k < ns.length
 ·rw [qV (qR hk)]
  exact w_2 (zax rfl (zax rfl (zo1 h0 hk fun m=>⟨_,rfl,m,rfl⟩)))
 ·rw [qW (by rw [qM hk];exact qq)]
  refine zbp (w_2 (w_2 (w_2 (w_2 (zax rfl (zax rfl (zel (.inl (by rw [zeg];omega)) (w_c (zel (.inl (by rw [zeg];omega)) (w_2 (w_c (zax rfl (zel (.inl (by rw [zeg];omega)) (zbK (w_c (zbK ?_))))))))))))))) )
  have fin:∀ z:Int,-(2 ^ 64) < z/\z < 2 ^ 64->Wp (zaJ (b2 zbY (b2 zfG (b2 zbQ (b2 zfG (vSh 2) (vSh 2)) (vC (.int 2147483629))) (vC (.int 982451653))) (vSh 2)) (cE ns k (oS (.int z)))) fun r=>∃ d,r.1=.rt d/\∃ n,d=.int n:=by
   intro z hz
   exact zer (w_2 (w_2 (w_2 (w_2 (zax rfl (zax rfl (zel (.inl hz) (w_c (zbm (by decide) fun n a b _=>w_c (zel (.inl (by rw [zeg];omega)) (zax rfl (zbK ⟨_,rfl,_,rfl⟩))))))))))))
  refine zcz (zvX (zdu (w_2 (zfa (zan (zax rfl (zaX (zjD (w_c (zt8 ⟨_,rfl,?_⟩))))))))))
  by_cases hn:(0:Int) < ns.length
  ·rw [qR hn]
   refine zfe (w_2 (zax rfl (w_2 (w_2 (w_2 (zax rfl (w_2 (w_2 (zax rfl (w_c (zel (.inl (by rw [zeg];omega)) (zfa (zan (zax rfl (zaX (zjD (zbm hn fun n a b _=>zo1 a b fun m=>w_c (zbm (by decide) fun n2 a2 b2 _=>w_2 (w_2 (zax rfl (zax rfl (zel (.inl (by rw [zeg];omega)) (w_c (zbK (zel (.inl (by rw [zeg];omega)) (zbK ⟨rfl,?_⟩))))))))))))))))))))))))))
   have e:0<=n2*(k*k+69621)/\n2*(k*k+69621)<=2147483647*100000:=⟨Int.mul_nonneg a2 (by omega),Int.mul_le_mul (by omega) (by omega) (by omega) (by omega)⟩
   exact fin _ (by rw [zeg];omega)
  ·rw [qM hn]
   exact zes ⟨rfl,fin _ (by rw [zeg];omega)⟩
theorem zpE {a:Int} {P:D->Prop} (h:n<=1000000) (h2:a.natAbs < 2 ^ 64) (p:P (.int (a ^ n))):Wp (znU (.int a) (.int n)) P:=⟨_,by
 show (if 0<=(n:Int)/\(n:Int)<=1000000/\a.natAbs < 2 ^ 64 then some (D.int (a ^ (n:Int).toNat)) else none)=_
 rw [qV ⟨by omega,by omega,h2⟩,Int.toNat_natCast],p⟩
theorem zru:(0:Int) < 10 ^ 60*10 ^ 60:=by decide +kernel
theorem zqC {a b:Int} (h:a.natAbs.log2 < 4000/\b.natAbs.log2 < 4000):zs2 (.int a) (.int b)=some (.int (a*b)):=qV h
theorem zrR {P:D->Prop} (p:P (.int (10 ^ 60*10 ^ 60))):Wp (zs2 (.int (10 ^ 60)) (.int (10 ^ 60))) P:=⟨_,zqC (by decide +kernel),p⟩
abbrev wE (ns:List Int) (k:Int) (a b:Option Slot):zaI:=[oS (.scr ns),oS (.int k),a,b]
theorem zfL (ns:List Int) {k:Int} (h0:0<=k) (h1:k<=100):Wp (zbl [.scr ns,.int k]) fun d=>∃ n,d=.int n:=by
 obtain ⟨q0,q1⟩:=sqb h0 h1
 unfold zbl
 refine zeT (zbp (zdv rfl ((ztT ns h0 h1).imp fun d ⟨c,e⟩=>?_)))
 subst e
 show Wp (zar _ _ (wE ns k (oS (.int c)) none)) _
 have p60:∀ {P:D->Prop},P (.int (10 ^ 60))->Wp (b2 znU (vC (.int 10)) (vC (.int 60)) (wE ns k (oS (.int c)) none)) P:=fun p=>w_2 (w_c (w_c (zpE (n:=60) (by decide) (by decide) p)))
 have last:Wp (zar (zbq 3 (b2 zbY (b2 zbY (b2 zbQ (vSh 2) (vC (.int 2147483629))) (vC (.int 48271))) (b2 zfG (vSh 1) (vSh 1)))) (zaJ (b2 za4 (b2 znU (b2 zbY (b2 zfG (vSh 3) (vC (.int 982451653))) (vC (.int 7))) (vC (.int 7))) (vC (.int 1000003)))) (wE ns k (oS (.int c)) none)) fun r=>∃ d,r.1=.rt d/\∃ n,d=.int n:=by
  refine zbp (w_2 (w_2 (w_2 (zax rfl (w_c (zbm (by decide) fun n a b _=>w_c (zbK (w_2 (zax rfl (zax rfl (zel (.inl (by rw [zeg];omega)) (zbK ?_))))))))))))
  exact zer (w_2 (w_2 (w_2 (w_2 (zax rfl (w_c (zel (.inl (by rw [zeg];omega)) (w_c (zbK (w_c (zpE (n:=7) (by decide) (by omega) (w_c (za8 (by decide) ⟨_,rfl,_,rfl⟩)))))))))))))
 refine zhe (zrV (zdu (w_2 (zax rfl (zfa (zan (zax rfl (zaX (zjD (zrS ⟨_,rfl,?_⟩))))))))))
 by_cases hk:k < ns.length
 ·rw [qV (qR hk)]
  refine zdu (w_2 (zax rfl (w_2 (w_c (w_c (zpE (n:=18) (by decide) (by decide) (zvM ⟨_,rfl,?_⟩)))))))
  by_cases hc:(10:Int) ^ 18<=c
  ·rw [qV (qR hc)]
   exact w_2 (zax rfl (w_2 (p60 (p60 (zrR (zbm zru fun n _ _ _=>⟨_,rfl,_,rfl⟩))))))
  ·rw [qW (by rw [qM hc];exact qq)]
   exact last
 ·rw [qW (by rw [qM hk];exact qq),qW qq]
  exact last
theorem zfq {R:Fl×zaI->Prop} (h:Wp (ft ρ) fun b=>(b=true->Wp (g ρ) R)/\(b=false->Wp (g' ρ) R)):Wp (sIf ft g g' ρ) R:=zfz (h.imp fun b k=>by
 cases b with
 | true=>exact k.1 rfl
 | false=>exact k.2 rfl)
theorem zet {m:α->D} {xs:List α} {R:Fl×zaI->Prop} (x:α) (hs:ρ[j]?=some (some (.own (xs.map m)))) (hl:xs.length<=1000) (h:Wp (f ρ) fun d=>d=m x/\R (.nx,ρ.set j (some (.own ((xs++[x]).map m))))):Wp (zek j f ρ) R :=
 zsf hs (by rw [qe];exact hl) (h.imp fun d ⟨e,k⟩=>by subst e;rw [List.map_append] at k;exact k)
abbrev kE (n h:Int) (br:List (Int×Int)) (f:Int) (a b c:Option Slot):zaI:=[oS (.int n),oS (.int h),some (.own (br.map dIv)),oS (.int f),a,b,c]
structure GoodI (h f:Int) (br:List (Int×Int)):Prop where
 iv:∀ p∈br,0<=p.1/\p.1 < p.2/\p.2<=h/\p.2 < f
 gap:∀ (i:Nat) p q,br[i]?=some p->br[i+1]?=some q->p.2 < q.1
theorem GoodI.up {f f':Int} (g:GoodI h f br) (hf:f<=f'):GoodI h f' br:=⟨fun p hp=>by have:=g.iv p hp;exact ⟨this.1,this.2.1,this.2.2.1,by omega⟩,g.gap⟩
theorem GoodI.snoc {f b e:Int} (g:GoodI h f br) (h0:0<=f) (h1:f<=b) (h2:b < e) (h3:e<=h):GoodI h (e+1) (br++[(b,e)]):=by
 refine ⟨fun p hp=>?_,fun i p q hp hq=>?_⟩
 ·rcases List.mem_append.mp hp with hp | hp
  ·have:=g.iv p hp
   exact ⟨this.1,this.2.1,this.2.2.1,by omega⟩
  ·rw [List.mem_singleton.mp hp]
   exact ⟨by show 0<=b;omega,h2,h3,by show e < e+1;omega⟩
 ·by_cases hi:i+1 < br.length
  ·rw [qx (by omega)] at hp
   rw [qx hi] at hq
   exact g.gap i p q hp hq
  ·by_cases hi2:i+1=br.length
   ·rw [qx (by omega)] at hp
    rw [qJ (by omega),show i+1 - br.length=0 by omega] at hq
    cases hq
    have:=(g.iv p (qO hp)).2.2.2
    show p.2 < b
    omega
   ·rw [List.getElem?_eq_none (by simp;omega)] at hq
    cases hq
theorem zoU (n:Int) :Wp (zcI [.int n,.int h]) fun d=>∃ br:List (Int×Int),d=.lst (br.map dIv)/\br.length<=2/\∃ f,GoodI h f br:=by
 unfold zcI
 refine zeT (zdZ (zbp (w_2 (zax rfl (w_c (zbm (by decide) fun f f0 _ _=>zcz ?_))))))
 refine zdU (fun i ρ=>∃ (br:List (Int×Int)) (f:Int) (a b c:Option Slot),ρ=kE n h br f a b c/\br.length<=i/\0<=f/\GoodI h f br) (zg3 (zan (w_2 (w_2 (zax rfl (w_c (za8 (by decide) (w_c (zbm (by decide) fun m m0 m1 _=>zaX ⟨m,rfl,m0,by omega,?_,?_,?_⟩)))))))))
 ·exact ⟨[],f,none,none,none,rfl,qu _,f0,⟨(fun _ z=>nomatch z),fun _ _ _ z=>by simp at z⟩⟩
 ·rintro i x ρ hx ⟨br,f,a,b,c,rfl,hl,f0,g⟩
  obtain ⟨hi,rfl⟩:=zew hx
  have hi3:(i:Int) < 3:=by omega
  refine zbP rfl (zbp (w_2 (zax rfl (w_2 (w_2 (zax rfl (w_2 (w_c (w_2 (w_c (zax rfl (zel (.inl (by rw [zeg];omega)) (zbK (za8 (by omega) (w_c (zbm (by decide) fun x x0 x1 _=>zbK (zbp (w_2 (w_2 (zax rfl (w_c (zbK (w_2 (w_2 (zax rfl (w_2 (w_c (w_2 (w_c (zax rfl (zel (.inl (by rw [zeg];omega)) (zbK (za8 (by omega) (w_c (zbm (by decide) fun y y0 y1 _=>zbK (zcz (zfq (zdu (w_2 (zax rfl (zax rfl (zvL ⟨_,rfl,fun hc=>?_,fun hc=>?_⟩))))))))))))))))))))))))))))))))))))))))))
  ·have hc:=of_decide_eq_true hc
   refine zet (m:=dIv) (xs:=br) (f+x,f+x+1+y) rfl (by omega) (zeP (zan (zax rfl (zan (zax rfl (zaX ⟨by simp,rfl,rfl,?_⟩))))))
   exact zfe (w_2 (zax rfl (w_c (zbK ⟨rfl,br++[(f+x,f+x+1+y)],_,_,_,_,rfl,by rw [qi];simp;omega,by omega,g.snoc f0 (by omega) (by omega) hc⟩))))
  ·refine zes ⟨rfl,?_⟩
   exact zfe (w_2 (zax rfl (w_c (zbK ⟨rfl,br,_,_,_,_,rfl,by omega,by omega,g.up (by omega)⟩))))
 ·rintro ρ ⟨br,f,a,b,c,rfl,hl,f0,g⟩
  refine ⟨rfl,zfr (ds:=br.map dIv) rfl ?_⟩
  exact zer (zax rfl ⟨_,rfl,br,rfl,by simp at hl;omega,f,g⟩)
theorem zrQ {fr:FA} {P:List D->Prop} (h:Wp (fr ρ) fun l=>∃ a b:Int,l=[.int a,.int b]/\0<=a/\a<=1000/\0<=b/\b<=1000/\P ((List.range (b - a).toNat).map fun i:Nat=>D.int (a+i))):Wp (itR znP fr ρ) P :=
 zfz (h.imp fun l ⟨a,b,e,h0,h1,h2,h3,k⟩=>⟨_,by rw [e];exact zlD ⟨h0,by omega,h2,by omega⟩,k⟩)
theorem zpX {a:Int} {x:D} (h:((List.range n).map fun i:Nat=>D.int (a+(i:Int)))[i]?=some x):i < n/\x=.int (a+i):=by
 rw [qj] at h
 obtain ⟨k,hk,rfl⟩:=oMd h
 obtain ⟨hlt,e⟩:=List.getElem?_eq_some_iff.mp hk
 rw [List.getElem_range] at e
 rw [qT] at hlt
 subst e
 exact ⟨hlt,rfl⟩
theorem znu {a b:Int} {P:D->Prop} (p:P (.int (if b < a then b else a))):Wp (zma [.int a,.int b]) P:=⟨_,rfl,p⟩
def bnm (bs:List BenchT) (i:Nat):Str:=(bs.map (·.nm)).getD i ⟨#[]⟩
theorem zne {bs:List BenchT} (h:i < bs.length):bnm bs i∈bs.map (·.nm):=by
 unfold bnm
 rw [List.getD_eq_getElem?_getD,qj,qB h]
 exact qU (List.getElem_mem h)
theorem znf {bs:List BenchT} (nd:(bs.map (·.nm)).Nodup) {a b:Nat} (ha:a < bs.length) (hb:b < bs.length) (h:bnm bs a=bnm bs b):a=b:=by
 unfold bnm at h
 rw [List.getD_eq_getElem?_getD,List.getD_eq_getElem?_getD,qB (by simpa using ha),qB (by simpa using hb)] at h
 exact (List.getElem_inj nd).mp h
theorem zvn {m:α->D} {nm:α->Str} (hm:∀ x,∃ r,m x=.tup (.str (nm x)::r)) {xs:List α} {g:FE} {P:D->Prop} (hf:f ρ=some (.lst (xs.map m))) (hg:Wp (g ρ) fun d=>∃ n:Int,d=.int n/\0<=n/\n < xs.length/\P (.str ((xs.map nm).getD n.toNat ⟨#[]⟩))):Wp (b2 ixD (b2 ixD f g) (vC (.int 0)) ρ) P:=by
 obtain ⟨_,e0,n,rfl,h0,h1,p⟩:=hg
 obtain ⟨k,rfl⟩:=Int.eq_ofNat_of_zero_le h0
 have hk:k < xs.length:=by omega
 obtain ⟨r,e⟩:=hm xs[k]
 refine ⟨.str (nm xs[k]),?_,?_⟩
 ·unfold b2
  rw [hf,e0]
  show (((ixD (.lst (xs.map m)) (.int (k:Int))).bind fun x=>(vC (.int 0) ρ).bind fun y=>ixD x y))=_
  rw [ixL,qj,qB hk]
  show ixD (m xs[k]) (.int 0)=_
  rw [e]
  exact zj8
 ·rw [Int.toNat_natCast,List.getD_eq_getElem?_getD,qj,qB hk] at p
  exact p
theorem ziP {bs:List BenchT} {g:FE} {P:D->Prop} (hf:f ρ=some (.lst (bs.map zaP))) (hg:Wp (g ρ) fun d=>∃ n:Int,d=.int n/\0<=n/\n < bs.length/\P (.str (bnm bs n.toNat))):Wp (b2 ixD (b2 ixD f g) (vC (.int 0)) ρ) P:=zvn (m:=zaP) (nm:=fun b=>b.nm) (fun x=>⟨[.lst (x.br.map dIv)],rfl⟩) hf hg
theorem zmy {n:Int} {P:D->Prop} (h0:0<=n) (h1:n < ns.length) (p:∀ m∈ns,P (.int m)):Wp (ixD (.lst (ns.map D.int)) (.int n)) P:=by
 obtain ⟨k,rfl⟩:=Int.eq_ofNat_of_zero_le h0
 have hk:k < ns.length:=by omega
 exact ⟨.int ns[k],by rw [ixL,qj,qB hk];rfl,p _ (List.getElem_mem hk)⟩
theorem zor {n:Int} {P:D->Prop} (h0:0<=n) (h1:n < ns.length) (p:ns.getD n.toNat 0∈ns->P (.int (ns.getD n.toNat 0))):Wp (ixD (.lst (ns.map D.int)) (.int n)) P:=by
 obtain ⟨k,rfl⟩:=Int.eq_ofNat_of_zero_le h0
 have hk:k < ns.length:=by omega
 have e:ns.getD (k:Int).toNat 0=ns[k]:=by rw [Int.toNat_natCast,List.getD_eq_getElem?_getD,qB hk];rfl
 rw [e] at p
 exact ⟨.int ns[k],by rw [ixL,qj,qB hk];rfl,p (List.getElem_mem hk)⟩
abbrev yE (n:Int) (bs:List BenchT) (h first:Int) (ws:List (Str×Int)) (more:Int) (a b:Option Slot):zaI:=[oS (.int n),oS (.lst (bs.map zaP)),oS (.int h),oS (.int first),some (.own (ws.map dW)),oS (.int more),a,b]
theorem zt9 {bs:List BenchT} {P:D->Prop} (p:P (.int bs.length)):Wp (zcT [.lst (bs.map zaP)]) P:=zli (by rw [qe];exact p)
theorem zvA (hh:9<=h):(if h < 6 then h else 6)=6:=qW (by omega)
theorem zs3 {f l a b:Int} (hl:0 < l) (ha:0<=a) (hb:a < b) (hbl:b < l):(f+a) % l≠(f+b) % l:=fun e=>by
 have h1:=Int.emod_emod_of_dvd
 have:=Int.emod_eq_emod_iff_emod_sub_eq_zero.mp e
 have e2:(f+a - (f+b)) = -(b - a):=by omega
 rw [e2,Int.neg_emod] at this
 rw [Int.emod_eq_of_lt (by omega) (by omega)] at this
 split at this
 ·rename_i hd
  have:=Int.le_of_dvd (by omega) hd
  omega
 ·have hn:(l.natAbs:Int)=l:=by omega
  omega
theorem zrO (n:Int) {bs:List BenchT} (hh:9<=h) (hb:1<=bs.length/\bs.length<=4) (nd:(bs.map (·.nm)).Nodup):Wp (zdm [.int n,.lst (bs.map zaP),.int h]) fun d=>∃ ws:List (Str×Int),d=.lst (ws.map dW)/\1<=ws.length/\ws.length<=4/\(∀ w∈ws,w.1∈bs.map (·.nm)/\1<=w.2/\w.2<=h)/\(ws.map (·.1)).Nodup:=by
 have bl:(0:Int) < bs.length:=by omega
 unfold zdm
 refine zeT (zbp (w_2 (zax rfl (zfa (zan (zax rfl (zaX (zt9 (zbm bl fun f f0 f1 _=>?_)))))))))
 have len:∀ {Q:D->Prop} {g:FE} {a:Option Slot} {b:Option Slot} {c d e:Option Slot},Wp (g [oS (.int n),oS (.lst (bs.map zaP)),oS (.int h),a,b,c,d,e]) (fun x=>∃ k,x=.int k/\Wp (zbQ (.int k) (.int 6)) Q)->Wp (b2 zbQ g (cF zma (zac (vC (.int 6)) (zac (vSh 2) zai))) [oS (.int n),oS (.lst (bs.map zaP)),oS (.int h),a,b,c,d,e]) Q:=by
  intro Q g a b c d e hg
  obtain ⟨x,e1,k,e2,q⟩:=hg
  subst e2
  exact w_2 (zbP e1 (zfa (zan (w_c (zan (zax rfl (zaX (znu (by rw [zvA hh];exact q)))))))))
 refine zkG (zup (zan (zeP (zan (ziP rfl (zax rfl ⟨f,rfl,f0,f1,?_⟩))))))
 refine zan (w_2 (w_c (len (w_2 (zax rfl (w_c (za8 (by decide) ⟨_,rfl,?_⟩)))))))
 refine zbm (by decide) fun m m0 m1 _=>zbK (zaX ⟨by simp,zaX ⟨by simp,?_⟩⟩)
 refine zbp (w_2 (zbP (a:=.lst (([0,1,1,2,3]:List Int).map D.int)) rfl (w_2 (w_2 (zax rfl (w_c (za8 (by decide) (w_c (zbm (by decide) fun z z0 z1 _=>zmy z0 z1 fun more hm=>?_)))))))))
 have hmr:0<=more/\more<=3:=by
  simp only [qK,qI,or_false] at hm
  rcases hm with rfl | rfl | rfl | rfl | rfl <;> decide
 refine zcz (zdU (fun i ρ=>∃ (ws:List (Str×Int)) (a b:Option Slot),ρ=yE n bs h f ws more a b/\ws.map (·.1)=(List.range (i+1)).map (fun t:Nat=>bnm bs ((f+t) % bs.length).toNat)/\(∀ w∈ws,1<=w.2/\w.2<=h)) (zrQ (zan (w_c (zan (zfa (zan (zfa (zan (zax rfl (zaX (zt9 (zan (w_2 (zax rfl (w_c (zbK (zaX (znu (zaX ⟨1,_,rfl,by decide,by decide,by split <;> omega,by split <;> omega,?_,?_,?_⟩))))))))))))))))))))
 ·refine ⟨[(bnm bs f.toNat,1+m)],none,none,rfl,?_,fun w hw=>?_⟩
  ·show [bnm bs f.toNat]=[bnm bs ((f+(0:Nat)) % bs.length).toNat]
   rw [show f+((0:Nat):Int)=f by omega,Int.emod_eq_of_lt f0 f1]
  ·rw [List.mem_singleton.mp hw]
   exact ⟨by show 1<=1+m;omega,by show 1+m<=h;omega⟩
 ·rintro i x ρ hx ⟨ws,a,b,rfl,hw,hg⟩
  obtain ⟨hi,rfl⟩:=zpX hx
  have hi2:1+(i:Int) < bs.length/\1+(i:Int)<=more:=by
   split at hi <;> omega
  have hwl:ws.length=i+1:=by have:=congrArg List.length hw;simpa using this
  refine zbP rfl (zbp (ziP rfl (w_2 (w_2 (zax rfl (zax rfl (zbK (zfa (zan (zax rfl (zaX (zt9 (zbm bl fun t t0 t1 et=>⟨t,rfl,t0,t1,?_⟩)))))))))))))
  refine zet (m:=dW) (xs:=ws) (bnm bs t.toNat,1+(n / ([1,90,540,3240]:List Int).getD (1+(i:Int)).toNat 0) % 6) rfl (by omega) (zeP (zan (zax rfl (zan (w_2 (w_c (len (w_2 (zax rfl (w_2 (zbP (a:=.lst (([1,90,540,3240]:List Int).map D.int)) rfl (zax rfl ?_))))))))))))
  refine zor (by omega) (by show 1+(i:Int) < 4;omega) fun hm=>za8 ?_ ⟨_,rfl,?_⟩
  ·simp only [qK,qI,or_false] at hm
   rcases hm with hm | hm | hm | hm <;> rw [hm] <;> decide
  ·refine zbm (by decide) fun y y0 y1 ey=>zbK (zaX ⟨by simp,?_,rfl,ws++[(bnm bs t.toNat,1+(n / ([1,90,540,3240]:List Int).getD (1+(i:Int)).toNat 0) % 6)],_,_,rfl,?_,fun w hw'=>?_⟩)
   ·rw [ey];rfl
   ·rw [List.map_append,hw,List.range_succ (n:=i+1),List.map_append]
    show _++[bnm bs t.toNat]=_++[bnm bs ((f+((i+1:Nat):Int)) % bs.length).toNat]
    rw [et,show f+((i+1:Nat):Int)=f+(1+(i:Int)) by omega]
   ·rcases List.mem_append.mp hw' with hw' | hw'
    ·exact hg w hw'
    ·rw [List.mem_singleton.mp hw',← ey]
     exact ⟨by show 1<=1+y;omega,by show 1+y<=h;omega⟩
 ·rintro ρ ⟨ws,a,b,rfl,hw,hg⟩
  have hwl:ws.length<=4:=by
   have:=congrArg List.length hw
   simp at this
   split at this <;> omega
  refine ⟨rfl,zfr (ds:=ws.map dW) rfl (zer (zax rfl ⟨_,rfl,ws,rfl,?_,hwl,fun w hm=>⟨?_,hg w hm⟩,?_⟩))⟩
  ·have:=congrArg List.length hw
   simp at this
   omega
  ·have:w.1∈ws.map (·.1):=qU hm
   rw [hw] at this
   obtain ⟨t,_,e⟩:=List.mem_map.mp this
   rw [← e]
   have a0:=Int.emod_nonneg (f+t) (show (bs.length:Int)≠0 by omega)
   have a1:=Int.emod_lt_of_pos (f+t) bl
   exact zne (by omega)
  ·rw [hw]
   refine List.pairwise_map.mpr (List.Pairwise.imp_of_mem ?_ (List.pairwise_lt_range (n:=_)))
   intro u v hu hv huv e
   have hv2:v < bs.length:=by
    have:=List.mem_range.mp hv
    simp at this
    split at this <;> omega
   have b0:=Int.emod_nonneg (f+u) (show (bs.length:Int)≠0 by omega)
   have b1:=Int.emod_lt_of_pos (f+u) bl
   have c0:=Int.emod_nonneg (f+v) (show (bs.length:Int)≠0 by omega)
   have c1:=Int.emod_lt_of_pos (f+v) bl
   have:=znf nd (by omega) (by omega) e
   exact zs3 (f:=f) (a:=u) (b:=v) bl (by omega) (by omega) (by omega) (by omega)
def rb2:List Str:=["red","blue"]
def uK (u:SetT):List Str:=[u.b,u.p,u.q]
structure StU (us:List SetT) (L:List (List Str)):Prop where
 sub:(us.map uK).Sublist L
 gd:∀ u∈us,1<=u.n/\u.n<=3
 ln:us.length<=L.length
theorem StU.skip {L:List (List Str)} (h:StU us L) (k:List Str):StU us (L++[k]):=⟨h.sub.trans (List.sublist_append_left _ _),h.gd,by have:=h.ln;rw [qi];omega⟩
theorem StU.add {L:List (List Str)} (h:StU us L) {u:SetT} (hu:1<=u.n/\u.n<=3):StU (us++[u]) (L++[uK u]):=⟨by rw [List.map_append];exact h.sub.append (List.Sublist.refl _),fun x hx=>(List.mem_append.mp hx).elim (h.gd x) fun hx=>by rw [List.mem_singleton.mp hx];exact hu,by have:=h.ln;rw [qi,qi];simp;exact this⟩
abbrev uE (n:Int) (bs:List BenchT) (us:List SetT) (a b c d:Option Slot):zaI:=[oS (.int n),oS (.lst (bs.map zaP)),some (.own (us.map zeF)),a,b,c,d]
theorem zsl {P:List D->Prop} (p:P (rb2.map D.str)):Wp (itF (zbb (szF (zac (vC (.str "red")) (zac (vC (.str "blue")) zai)))) ρ) P:=⟨_,rfl,p⟩
theorem ziR {l:List Str} {x:D} (h:(l.map D.str)[i]?=some x):∃ s,l[i]?=some s/\x=.str s:=by
 rw [qj] at h
 obtain ⟨s,hs,rfl⟩:=oMd h
 exact ⟨s,hs,rfl⟩
theorem znz {l:List α} {x:α} (f:α->β) (h:l[i]?=some x):(l.take (i+1)).map f=(l.take i).map f++[f x]:=by
 rw [List.take_succ,h,List.map_append];rfl
theorem zpJ {l:List α} {x:α} (f:α->List β) (h:l[i]?=some x):(l.take (i+1)).flatMap f=(l.take i).flatMap f++f x:=by
 rw [List.take_succ,h,List.flatMap_append];simp
def cmb (b:Str):List (List Str):=rb2.flatMap fun p=>rb2.map fun q=>[b,p,q]
theorem uin {bs:List BenchT} {k:Nat} (hk:k < bs.length) {n:Int} {L:List (List Str)} {p:Str} {c d:Option Slot} (hl:L.length<=100) (st:StU us L):Wp (zcS (itF (zbb (szF (zac (vC (.str "red")) (zac (vC (.str "blue")) zai))))) (zau 5) (zar (zbq 6 (b2 ziQ (b2 zbQ (vSh 0) (vC (.int 7))) (vC (.int 3)))) (zar (zbq 0 (b2 za4 (vSh 0) (vC (.int 7)))) (sIf (toB (b2 gtD (vSh 6) (vC (.int 0)))) (zek 2 (zbJ (szF (zac (b2 ixD (b2 ixD (vSh 1) (vSh 3)) (vC (.int 0))) (zac (vSh 4) (zac (vSh 5) (zac (vSh 6) zai))))))) zbd))) (uE n bs us (oS (.int k)) (oS (.str p)) c d)) fun r=>r.1=.nx/\∃ n' us' c' d',r.2=uE n' bs us' (oS (.int k)) (oS (.str p)) c' d'/\StU us' (L++rb2.map fun q=>[bnm bs k,p,q]):=by
 refine zdU (fun i ρ=>i<=2/\∃ n' us' c' d',ρ=uE n' bs us' (oS (.int k)) (oS (.str p)) c' d'/\StU us' (L++(rb2.take i).map fun q=>[bnm bs k,p,q])) (zsl ⟨?_,?_,?_⟩)
 ·exact ⟨by decide,n,us,c,d,rfl,by rw [List.take_zero,qN,List.append_nil];exact st⟩
 ·rintro i x ρ hx ⟨hi,n',us',c',d',rfl,st'⟩
  obtain ⟨q,hq,rfl⟩:=ziR hx
  have hi2:i < 2:=(List.getElem?_eq_some_iff.mp hq).1
  have tk:=znz (fun q=>[bnm bs k,p,q]) hq
  have ln:us'.length<=1000:=by
   have:=st'.ln
   rw [qi,qe,qC] at this
   omega
  refine zbP rfl (zbp (w_2 (w_2 (zax rfl (w_c (zbm (by decide) fun m m0 m1 _=>w_c (znt (zbp (w_2 (zax rfl (w_c (za8 (by decide) (zfq (zdu (w_2 (zax rfl (w_c (zt8 ⟨_,rfl,fun hc=>?_,fun hc=>?_⟩))))))))))))))))))
  ·have hc:=of_decide_eq_true hc
   refine zet (m:=zeF) (xs:=us') ⟨bnm bs k,p,q,m - 3⟩ rfl ln (zeP (zan (ziP rfl (zax rfl ⟨k,rfl,by omega,by omega,zan (zax rfl (zan (zax rfl (zan (zax rfl (zaX ⟨by simp,?_,rfl,by omega,_,_,_,_,rfl,?_⟩))))))⟩))))
   ·rw [Int.toNat_natCast];rfl
   ·rw [tk,← qv]
    exact st'.add (u:=⟨bnm bs k,p,q,m - 3⟩) ⟨by show 1<=m - 3;omega,by show m - 3<=3;omega⟩
  ·exact zes ⟨rfl,by omega,_,us',_,_,rfl,by rw [tk,← qv];exact st'.skip _⟩
 ·rintro ρ ⟨_,n',us',c',d',rfl,st'⟩
  exact ⟨rfl,n',us',c',d',rfl,st'⟩
theorem znF (n:Int) {bs:List BenchT} (hb:bs.length<=4):Wp (zcH [.int n,.lst (bs.map zaP)]) fun d=>∃ us:List SetT,d=.lst (us.map zeF)/\StU us ((List.range bs.length).flatMap fun k=>cmb (bnm bs k)):=by
 have cl:∀ b,(cmb b).length=4:=fun b=>rfl
 have rl:∀ k,((List.range k).flatMap fun k=>cmb (bnm bs k)).length=4*k:=fun k=>by
  induction k with
  | zero=>rfl
  | succ k ih=>rw [List.range_succ,List.flatMap_append,qi,ih];simp [cl];omega
 unfold zcH
 refine zeT (zdZ (zcz (zdU (fun i ρ=>i<=bs.length/\∃ n' us a b c d,ρ=uE n' bs us a b c d/\StU us ((List.range i).flatMap fun k=>cmb (bnm bs k))) (zg3 (zan (zfa (zan (zax rfl (zaX (zt9 (zaX ⟨_,rfl,by omega,by omega,?_,?_,?_⟩)))))))))))
 ·exact ⟨Nat.zero_le _,n,[],none,none,none,none,rfl,List.Sublist.refl _,(fun _ z=>nomatch z),qu _⟩
 ·rintro k x ρ hx ⟨hk,n',us,a,b,c,d,rfl,st⟩
  obtain ⟨hk,rfl⟩:=zew hx
  have hk:k < bs.length:=by omega
  refine zbP rfl ?_
  show Wp (zcS _ _ _ (uE n' bs us (oS (.int k)) b c d)) _
  refine zdU (fun i ρ=>i<=2/\∃ n' us' b c' d',ρ=uE n' bs us' (oS (.int k)) b c' d'/\StU us' (((List.range k).flatMap fun k=>cmb (bnm bs k))++(rb2.take i).flatMap fun p=>rb2.map fun q=>[bnm bs k,p,q])) (zsl ⟨?_,?_,?_⟩)
  ·exact ⟨by decide,n',us,b,c,d,rfl,by rw [List.take_zero,List.flatMap_nil,List.append_nil];exact st⟩
  ·rintro i x ρ hx ⟨hi,n2,us2,b2,c2,d2,rfl,st2⟩
   obtain ⟨p,hp,rfl⟩:=ziR hx
   have hi2:i < 2:=(List.getElem?_eq_some_iff.mp hp).1
   refine zbP rfl ((uin hk (L:=_) ?_ st2).imp fun r ⟨e,n3,us3,c3,d3,e2,st3⟩=>⟨e,by omega,n3,us3,_,c3,d3,e2,?_⟩)
   ·rw [qi,rl]
    have:((rb2.take i).flatMap fun p=>rb2.map fun q=>[bnm bs k,p,q]).length<=4:=by
     rcases (show i=0\/i=1 by omega) with rfl | rfl <;> simp [rb2]
    omega
   ·rw [zpJ _ hp,← qv];exact st3
  ·rintro ρ ⟨_,n2,us2,b2,c2,d2,rfl,st2⟩
   exact ⟨rfl,by omega,n2,us2,_,b2,c2,d2,rfl,by rw [List.range_succ,List.flatMap_append];simpa [cmb] using st2⟩
 ·rintro ρ ⟨_,n',us,a,b,c,d,rfl,st⟩
  refine ⟨rfl,zfr (ds:=us.map zeF) rfl (zer (zax rfl ⟨_,rfl,us,rfl,?_⟩))⟩
  simpa using st
def snm (ss:List StepT) (i:Nat):Str:=(ss.map (·.nm)).getD i ⟨#[]⟩
theorem zhS {g:FE} {P:D->Prop} (hf:f ρ=some (.lst (ss.map zaH))) (hg:Wp (g ρ) fun d=>∃ n:Int,d=.int n/\0<=n/\n < ss.length/\P (.str (snm ss n.toNat))):Wp (b2 ixD (b2 ixD f g) (vC (.int 0)) ρ) P:=zvn (m:=zaH) (nm:=fun b=>b.nm) (fun x=>⟨_,rfl⟩) hf hg
theorem zt7 {P:D->Prop} (p:P (.int ss.length)):Wp (zcT [.lst (ss.map zaH)]) P:=zli (by rw [qe];exact p)
structure StA (ss:List StepT) (i:Nat) (am:List (Str×Int)):Prop where
 sub:(am.map (·.1)).Sublist ((ss.map (·.nm)).take i)
 gd:∀ w∈am,1<=w.2/\w.2<=3
theorem zjI (h:i < ss.length):(ss.map (·.nm)).take (i+1)=(ss.map (·.nm)).take i++[snm ss i]:=by
 rw [List.take_succ]
 unfold snm
 rw [List.getD_eq_getElem?_getD,qB (by simpa using h)]
 rfl
theorem StA.skip (h:StA ss i am):StA ss (i+1) am:=⟨h.sub.trans (List.take_sublist_take_left (by omega)),h.gd⟩
theorem StA.add (h:StA ss i am) (hi:i < ss.length) {n:Int} (h0:0<=n) (h1:n < 3):StA ss (i+1) (am++[(snm ss i,1+n)]):=⟨by rw [List.map_append,zjI hi];exact h.sub.append (List.Sublist.refl _),fun w hw=>(List.mem_append.mp hw).elim (h.gd w) fun hw=>by rw [List.mem_singleton.mp hw];exact ⟨by show 1<=1+n;omega,by show 1+n<=3;omega⟩⟩
theorem StA.len {ss:List StepT} {i:Nat} {am:List (Str×Int)} (h:StA ss i am):am.length<=ss.length:=by
 have:=h.sub.length_le
 simp at this
 omega
theorem StA.good (h:StA ss i am) (nd:(ss.map (·.nm)).Nodup):GoodA (ss.map (·.nm)) am:=⟨by rw [qe];exact h.len,fun w hw=>⟨List.mem_of_mem_take (h.sub.subset (qU hw)),(h.gd w hw).1,by have:=(h.gd w hw).2;omega⟩,List.Sublist.nodup (h.sub.trans (List.take_sublist _ _)) nd⟩
abbrev oE (n:Int) (ss:List StepT) (tk pt:List (Str×Int)) (a b:Option Slot):zaI:=[oS (.int n),oS (.lst (ss.map zaH)),some (.own (tk.map dW)),some (.own (pt.map dW)),a,b]
theorem znB (n:Int) (hs:ss.length<=8) (nd:(ss.map (·.nm)).Nodup):Wp (zcG [.int n,.lst (ss.map zaH)]) fun d=>∃ ks:List StockT,d=.lst (ks.map zbV)/\ks.length<=1/\∀ k∈ks,GoodK (ss.map (·.nm)) k:=by
 unfold zcG
 refine zeT (zhe (zdu (w_2 (w_2 (zax rfl (w_c (zbm (by decide) fun m _ _ _=>w_c (zt8 ⟨_,rfl,?_⟩))))))))
 by_cases hm:0 < m
 ·rw [qV (qR hm)]
  exact ⟨_,rfl,_,rfl,[],rfl,by simp,fun _ z=>nomatch z⟩
 rw [qW (by rw [qM hm];exact qq)]
 refine zdZ (zdZ (zcz (zdU (fun i ρ=>i<=ss.length/\∃ n' tk pt a b,ρ=oE n' ss tk pt a b/\StA ss i tk/\StA ss i pt) (zg3 (zan (zfa (zan (zax rfl (zaX (zt7 (zaX ⟨_,rfl,by omega,by omega,?_,?_,?_⟩)))))))))))
 ·exact ⟨Nat.zero_le _,n,[],[],none,none,rfl,⟨List.nil_sublist _,fun _ z=>nomatch z⟩,⟨List.nil_sublist _,fun _ z=>nomatch z⟩⟩
 ·rintro k x ρ hx ⟨hk,n',tk,pt,a,b,rfl,st,sp⟩
  obtain ⟨hk,rfl⟩:=zew hx
  have hk:k < ss.length:=by omega
  have lt:=st.len
  have lp:=sp.len
  refine zbP rfl (zbp (w_2 (w_2 (zax rfl (w_c (za8 (by decide) (w_c (zbK ?_))))))))
  show Wp (zar _ _ (oE (n' / 4+7) ss tk pt (oS (.int k)) b)) _
  have put:∀ tk,tk.length<=1000->StA ss (k+1) tk->Wp (sIf (orT (toB (b2 eqD (b2 zbQ (vSh 0) (vC (.int 4))) (vC (.int 2)))) (toB (b2 eqD (b2 zbQ (vSh 0) (vC (.int 16))) (vC (.int 5))))) (zek 3 (zbJ (szF (zac (b2 ixD (b2 ixD (vSh 1) (vSh 4)) (vC (.int 0))) (zac (b2 zbY (vC (.int 1)) (b2 zbQ (b2 za4 (vSh 0) (vC (.int 16))) (vC (.int 3)))) zai))))) zbd (oE (n' / 4+7) ss tk pt (oS (.int k)) b)) fun r=>r.1=.nx/\k+1<=ss.length/\∃ n' tk pt a b,r.2=oE n' ss tk pt a b/\StA ss (k+1) tk/\StA ss (k+1) pt:=by
   intro tk _ st
   have orr:∀ {Q:Bool->Prop},(∀ c,Q c)->Wp (orT (toB (b2 eqD (b2 zbQ (vSh 0) (vC (.int 4))) (vC (.int 2)))) (toB (b2 eqD (b2 zbQ (vSh 0) (vC (.int 16))) (vC (.int 5)))) (oE (n' / 4+7) ss tk pt (oS (.int k)) b)) Q:=by
    intro Q q
    refine zvK (zdu (w_2 (w_2 (zax rfl (w_c (zbm (by decide) fun m _ _ _=>w_c (zrT fun c _=>⟨c,rfl,?_⟩)))))))
    cases c with
    | true=>exact q true
    | false=>exact zdu (w_2 (w_2 (zax rfl (w_c (zbm (by decide) fun m _ _ _=>w_c (zrT fun c _=>⟨c,rfl,q c⟩))))))
   refine zfq (orr fun c=>⟨fun _=>?_,fun _=>?_⟩)
   ·refine zet (m:=dW) (xs:=pt) (snm ss k,1+(n' / 4+7) / 16 % 3) rfl (by omega) (zeP (zan (zhS rfl (zax rfl ⟨k,rfl,by omega,by omega,?_⟩))))
    refine zan (w_2 (w_c (w_2 (w_2 (zax rfl (w_c (za8 (by decide) (w_c (zbm (by decide) fun m m0 m1 em=>zbK (zaX ⟨by simp,?_,rfl,hk,_,tk,_,_,_,rfl,st,?_⟩))))))))))
    ·rw [Int.toNat_natCast,em];rfl
    ·rw [← em];exact sp.add hk m0 m1
   ·exact zes ⟨rfl,hk,_,tk,pt,_,_,rfl,st,sp.skip⟩
  refine zcz (zfq (zdu (w_2 (w_2 (zax rfl (w_c (zbm (by decide) fun m _ _ _=>w_c (zrT fun c _=>⟨c,rfl,fun _=>?_,fun _=>?_⟩))))))))
  ·refine zet (m:=dW) (xs:=tk) (snm ss k,1+(n' / 4+7) / 4 % 3) rfl (by omega) (zeP (zan (zhS rfl (zax rfl ⟨k,rfl,by omega,by omega,?_⟩))))
   refine zan (w_2 (w_c (w_2 (w_2 (zax rfl (w_c (za8 (by decide) (w_c (zbm (by decide) fun m m0 m1 em=>zbK (zaX ⟨by simp,?_,rfl,?_⟩))))))))))
   ·rw [Int.toNat_natCast,em];rfl
   ·rw [← em]
    exact put _ (by rw [qi];simp;omega) (st.add hk m0 m1)
  ·exact zes ⟨rfl,put tk (by omega) st.skip⟩
 ·rintro ρ ⟨_,n',tk,pt,a,b,rfl,st,sp⟩
  refine ⟨rfl,?_⟩
  refine zbp (w_2 (w_2 (zax rfl (w_c (za8 (by decide) (w_c (zbm (by decide) fun f f0 f1 _=>?_)))))))
  refine zfr (ds:=tk.map dW) rfl (zfr (ds:=pt.map dW) rfl (zer (zpF (zan (zeP (zan (w_c (zan (zax rfl (zan (w_2 (zax rfl (w_2 (w_2 (zax rfl (w_c (za8 (by decide) (w_c (zbm (by decide) fun g g0 g1 _=>zbK (zan (zax rfl (zan (zax rfl (zaX ⟨by simp,zaX ⟨by simp,_,rfl,[⟨"pile",f,f+g,tk,pt⟩],rfl,by simp,fun k hk=>?_⟩⟩))))))))))))))))))))))))
  rw [List.mem_singleton.mp hk]
  exact ⟨by show zay "pile"=true;decide +kernel,⟨f0,by show f<=f+g;omega⟩,⟨by show 0<=f+g;omega,by show f+g<=1000000;omega⟩,st.good nd,sp.good nd⟩
theorem ze4:∀ (ns:List Str),PyData.depthAll (ns.map PyData.str)=0
 | []=>by simp [PyData.depthAll]
 | x::r=>by simp [PyData.depthAll,PyData.depth,ze4 r]
theorem zfX {ns:List Str} (h:∀ x∈ns,zay x=true):SeqAt.shaped (.list (ns.map PyData.str))=true:=by
 simp [SeqAt.shaped,PyData.canLay0,zdM h,PyData.depth,ze4]
theorem zqA {ns:List Str} (h:∀ x∈ns,zay x=true):neA (.lst (ns.map D.str)) (.lst [])=some (.bl (!ns.isEmpty)):=by
 have e0:neA (.lst (ns.map D.str)) (.lst [])=zqy (.lst (ns.map D.str)) (.lst []):=rfl
 have s1:=zfX h
 have s2:SeqAt.shaped (.list [])=true:=by simp [SeqAt.shaped,PyData.canLay0,PyData.canLayAll0,PyData.depth,PyData.depthAll]
 have p1:pdD (.lst (ns.map D.str))=some (.list (ns.map PyData.str)):=by simp [pdD,zeU]
 have p2:pdD (.lst [])=some (.list []):=by simp [pdD,zgt]
 have q:PyData.eqv (.list (ns.map PyData.str)) (.list [])=ns.isEmpty:=by
  cases ns <;> simp [PyData.eqv,PyData.eqvAll]
 rw [e0]
 unfold zqy eqX
 rw [p1,p2,qa,qa,qV ⟨s1,s2⟩,q]
 rfl
theorem zpb (t:List Str):pdD (.tup (t.map D.str))=some (.tuple (t.map PyData.str)):=by simp [pdD,zeU]
theorem zlT:∀ (ts:List (List Str)),zgt (ts.map fun t=>.tup (t.map D.str))=some (ts.map fun t=>.tuple (t.map PyData.str))
 | []=>by simp [zgt]
 | t::r=>by simp [zgt,zpb,zlT r]
theorem zj4:∀ {ts:List (List Str)},(∀ t∈ts,∀ x∈t,zay x=true)->PyData.canLayAll0 (ts.map fun t=>.tuple (t.map PyData.str))=true
 | [],_=>by simp [PyData.canLayAll0]
 | t::r,h=>by
  simp only [ql,PyData.canLayAll0,PyData.canLay0,zdM (h t qf),Bool.true_and]
  exact zj4 fun y hy=>h y (qg _ hy)
theorem zkg:∀ (a b:List Str),PyData.eqvAll (a.map PyData.str) (b.map PyData.str)=decide (a=b)
 | [],[]=>by simp [PyData.eqvAll]
 | [],_::_=>by simp [PyData.eqvAll]
 | _::_,[]=>by simp [PyData.eqvAll]
 | x::r,y::t=>by
  simp only [ql,PyData.eqvAll,PyData.eqv,zkg r t]
  by_cases e:x=y
  ·subst e;simp
  ·simp [e]
theorem zkt (t:List Str):∀ (ts:List (List Str)),((ts.map fun t=>PyData.tuple (t.map PyData.str)).any fun z=>PyData.eqv z (.tuple (t.map PyData.str)))=decide (t∈ts)
 | []=>by simp
 | y::r=>by
  rw [ql,List.any_cons,zkt t r]
  simp only [PyData.eqv,zkg]
  by_cases e:y=t
  ·subst e;simp
  ·have:t≠y:=fun z=>e z.symm
   simp [e,this]
theorem zn9 {t:List Str} {ts:List (List Str)} (hx:∀ x∈t,zay x=true) (hn:∀ y∈ts,∀ x∈y,zay x=true):zcf (.tup (t.map D.str)) (.lst (ts.map fun t=>.tup (t.map D.str)))=some (.bl (!decide (t∈ts))):=by
 have sh:SeqAt.shaped (.tuple (t.map PyData.str))=true:=by simp [SeqAt.shaped,PyData.canLay0,zdM hx,PyData.depth,ze4]
 have p1:pdD (.lst (ts.map fun t=>.tup (t.map D.str)))=some (.list (ts.map fun t=>.tuple (t.map PyData.str))):=by simp [pdD,zlT]
 unfold zcf inX
 rw [zpb,p1,qa,qa]
 simp only [sh,zj4 hn,and_self,if_true,zkt,qd]
def lK (l:LinkT):List Str:=[l.a,l.b]
structure StL (ss:List StepT) (ls:List LinkT):Prop where
 gd:∀ l∈ls,l.a∈ss.map (·.nm)/\l.b∈ss.map (·.nm)/\l.a≠l.b/\0<=l.g/\l.g < 5
 nd:(ls.map lK).Nodup
theorem zlr (h:i < ss.length):snm ss i∈ss.map (·.nm):=by
 unfold snm
 rw [List.getD_eq_getElem?_getD,qj,qB h]
 exact qU (List.getElem_mem h)
theorem zuC (a b:Str):zfV [a,b]=[a,b]\/zfV [a,b]=[b,a]:=by
 have p:(zfV [a,b]).Perm [a,b]:=List.mergeSort_perm _ _
 have hl:=p.length_eq
 match h:zfV [a,b],hl with
 | [x,y],_ =>
  rw [h] at p
  have hx:x∈[a,b]:=p.subset (qf)
  rcases List.mem_cons.mp hx with rfl | hx
  ·have:=(List.perm_cons x).mp p
   rw [List.perm_singleton.mp this]
   exact .inl rfl
  ·obtain rfl:x=b:=by simpa using hx
   have:=(List.perm_cons x).mp (p.trans (List.Perm.swap x a []))
   rw [List.perm_singleton.mp this]
   exact .inr rfl
abbrev lE (n:Int) (ss:List StepT) (ls:List LinkT) (a b c d:Option Slot):zaI:=[oS (.int n),oS (.lst (ss.map zaH)),some (.own (ls.map zbu)),a,b,c,d]
theorem zpI (n:Int) (ss:List StepT) (ls:List LinkT) (a b c d:Option Slot) (hl:ls.length<=1000):bwA 2 (zaw (itF (vSh 2)) (zau 0) tT (slF (vSh 0) pN (pS (vC (.int 2)))) [none]) (lE n ss ls a b c d)=some ((ls.map lK).map fun t=>.tup (t.map D.str)):=by
 have e:zaw (itF (vSh 2)) (zau 0) tT (slF (vSh 0) pN (pS (vC (.int 2)))) [none] ((lE n ss ls a b c d).set 2 (oS (.lst (ls.map zbu))))=some ((ls.map lK).map fun t=>.tup (t.map D.str)):=by
  have c0:zbr (zau 0) tT (slF (vSh 0) pN (pS (vC (.int 2)))) (ls.map zbu) [none]=some ((ls.map lK).map fun t=>.tup (t.map D.str)):=by
   have g:=zoL (fe:=slF (vSh 0) pN (pS (vC (.int 2)))) (r:=[]) (f:=fun d=>match d with | .tup (x::y::_)=>.tup [x,y] | d=>d) (xs:=ls.map zbu) (a:=none) (by
    intro x hx
    obtain ⟨l,_,rfl⟩:=List.mem_map.mp hx
    rfl)
   rw [g,qm,qm]
   rfl
  unfold zaw
  show (if (ls.map zbu).length<=sizeLine then zbr _ _ _ (ls.map zbu) [none] else none)=_
  rw [qV (by rw [qe];unfold sizeLine;omega),c0]
 unfold bwA
 show (zaw _ _ _ _ _ ((lE n ss ls a b c d).set 2 (oS (.lst (ls.map zbu))))).bind _=_
 rw [e,qa,qV]
 rw [List.all_eq_true]
 intro x hx
 obtain ⟨t,_,rfl⟩:=List.mem_map.mp hx
 show (t.map D.str).all zio=true
 rw [List.all_eq_true]
 intro y hy
 obtain ⟨z,_,rfl⟩:=List.mem_map.mp hy
 rfl
theorem zoS {b:Bool} (h1:ρ[i]?=some (some (.own ds))) (h2:ft (ρ.set i (oS (.lst ds)))=some b):bwT i ft ρ=some b:=by
 unfold bwT;rw [h1];exact h2
theorem zqG (n:Int) (hs:1<=ss.length/\ss.length<=8) (nb:∀ x∈ss.map (·.nm),zay x=true):Wp (zcZ [.int n,.lst (ss.map zaH)]) fun d=>∃ ls:List LinkT,d=.lst (ls.map zbu)/\ls.length<=3/\StL ss ls:=by
 have sl:(0:Int) < ss.length:=by omega
 unfold zcZ
 refine zeT (zdZ (zcz (zdU (fun i ρ=>∃ n' ls a b c d,ρ=lE n' ss ls a b c d/\ls.length<=i/\StL ss ls) (zg3 (zan (w_2 (zax rfl (w_c (zbm (by decide) fun m m0 m1 _=>zaX ⟨m,rfl,m0,by omega,?_,?_,?_⟩)))))))))
 ·exact ⟨n,[],none,none,none,none,rfl,qu _,(fun _ z=>nomatch z),List.nodup_nil⟩
 ·rintro k x ρ hx ⟨n',ls,a,b,c,d,rfl,hl,st⟩
  obtain ⟨hk,rfl⟩:=zew hx
  refine zbP rfl (zbp (w_2 (w_2 (zax rfl (w_c (za8 (by decide) (w_c (zbK ?_))))))))
  refine zbp (zhS rfl (w_2 (zax rfl (zfa (zan (zax rfl (zaX (zt7 (zbm sl fun i i0 i1 _=>⟨i,rfl,i0,i1,?_⟩)))))))))
  refine zbp (zhS rfl (w_2 (w_2 (zax rfl (w_c (za8 (by decide) (zfa (zan (zax rfl (zaX (zt7 (zbm sl fun j j0 j1 _=>⟨j,rfl,j0,j1,?_⟩))))))))))))
  have m1:snm ss i.toNat∈ss.map (·.nm):=zlr (by omega)
  have m2:snm ss j.toNat∈ss.map (·.nm):=zlr (by omega)
  generalize snm ss i.toNat=o1 at m1 ⊢
  generalize snm ss j.toNat=o2 at m2 ⊢
  show Wp (zar _ _ (lE (n' / 5+3) ss ls (oS (.int k)) (oS (.str o1)) (oS (.str o2)) d)) _
  generalize n' / 5+3=q
  have last:∀ o1 o2,o1∈ss.map (·.nm)->o2∈ss.map (·.nm)->Wp (zar (zdV 6 (bwA 2 (zaw (itF (vSh 2)) (zau 0) tT (slF (vSh 0) pN (pS (vC (.int 2)))) [none]))) (sIf (bwT 6 (zhR (toB (b2 neA (vSh 4) (vSh 5))) (toB (b2 zcf (zbJ (szF (zac (vSh 4) (zac (vSh 5) zai)))) (vSh 6))))) (zek 2 (zbJ (szF (zac (vSh 4) (zac (vSh 5) (zac (b2 zbQ (b2 za4 (vSh 0) (vC (.int 256))) (vC (.int 5))) zai)))))) zbd) (lE q ss ls (oS (.int k)) (oS (.str o1)) (oS (.str o2)) d)) fun r=>r.1=.nx/\∃ n' ls a b c d,r.2=lE n' ss ls a b c d/\ls.length<=k+1/\StL ss ls:=by
   intro o1 o2 m1 m2
   refine zkG (zbP (zpI q ss ls _ _ _ d (by omega)) ?_)
   have nt:=zn9 (t:=[o1,o2]) (ts:=ls.map lK) (by intro x hx;simp at hx;rcases hx with rfl | rfl;exact nb _ m1;exact nb _ m2) (by
    intro y hy x hx
    obtain ⟨l,hl,rfl⟩:=List.mem_map.mp hy
    have:=st.gd l hl
    simp [lK] at hx
    rcases hx with rfl | rfl
    ·exact nb _ this.1
    ·exact nb _ this.2.1)
   have tst:bwT 6 (zhR (toB (b2 neA (vSh 4) (vSh 5))) (toB (b2 zcf (zbJ (szF (zac (vSh 4) (zac (vSh 5) zai)))) (vSh 6)))) ((lE q ss ls (oS (.int k)) (oS (.str o1)) (oS (.str o2)) d).set 6 (some (.own ((ls.map lK).map fun t=>.tup (t.map D.str)))))=some (!decide (o1=o2) && !decide ([o1,o2]∈ls.map lK)):=by
    refine zoS rfl ?_
    unfold zhR
    show (some (!decide (o1=o2))).bind _=_
    rw [qa]
    by_cases e:o1=o2
    ·rw [qR e];rfl
    ·rw [qM e]
     show (Option.bind (zcf (.tup [.str o1,.str o2]) (.lst ((ls.map lK).map fun t=>.tup (t.map D.str)))) _)=_
     have nt':zcf (.tup [.str o1,.str o2]) (.lst ((ls.map lK).map fun t=>.tup (t.map D.str)))=some (.bl (!decide ([o1,o2]∈ls.map lK))):=nt
     rw [nt']
     rfl
   refine zfq (zbP tst ⟨fun hc=>?_,fun _=>?_⟩)
   ·simp only [Bool.and_eq_true,Bool.not_eq_true',decide_eq_false_iff_not] at hc
    refine zet (m:=zbu) (xs:=ls) ⟨o1,o2,q / 256 % 5⟩ rfl (by omega) (zeP (zan (zax rfl (zan (zax rfl (zan (w_2 (w_2 (zax rfl (w_c (za8 (by decide) (w_c (zbm (by decide) fun g g0 g1 eg=>zaX ⟨by simp,?_,rfl,_,_,_,_,_,_,rfl,?_,?_,?_⟩)))))))))))))
    ·rw [eg];rfl
    ·rw [qi];simp;omega
    ·intro l hl
     rcases List.mem_append.mp hl with hl | hl
     ·exact st.gd l hl
     ·rw [List.mem_singleton.mp hl,← eg]
      exact ⟨m1,m2,hc.1,g0,g1⟩
    ·rw [List.map_append]
     refine List.nodup_append.mpr ⟨st.nd,by simp,fun x hx y hy e=>hc.2 ?_⟩
     have hy:y=[o1,o2]:=by simpa [lK] using hy
     rw [← hy,← e];exact hx
   ·exact zes ⟨rfl,_,ls,_,_,_,_,rfl,by omega,st⟩
  refine zcz (zfq (zdu (w_2 (w_2 (w_2 (zax rfl (w_c (za8 (by decide) (w_c (zbm (by decide) fun m _ _ _=>w_c (zt8 ⟨_,rfl,fun _=>?_,fun _=>?_⟩)))))))))))
  ·rcases zuC o1 o2 with e | e
   ·refine ⟨(.nx,lE q ss ls (oS (.int k)) (oS (.str o1)) (oS (.str o2)) d),?_,rfl,last o1 o2 m1 m2⟩
    show ((zfW [.lst [.str o1,.str o2]]).bind _)=_
    have:zfW [.lst [.str o1,.str o2]]=some (.lst ((zfV [o1,o2]).map D.str)):=rfl
    rw [this,e]
    rfl
   ·refine ⟨(.nx,lE q ss ls (oS (.int k)) (oS (.str o2)) (oS (.str o1)) d),?_,rfl,last o2 o1 m2 m1⟩
    show ((zfW [.lst [.str o1,.str o2]]).bind _)=_
    have:zfW [.lst [.str o1,.str o2]]=some (.lst ((zfV [o1,o2]).map D.str)):=rfl
    rw [this,e]
    rfl
  ·exact zes ⟨rfl,last o1 o2 m1 m2⟩
 ·rintro ρ ⟨n',ls,a,b,c,d,rfl,hl,st⟩
  refine ⟨rfl,zfr (ds:=ls.map zbu) rfl (zer (zax rfl ⟨_,rfl,ls,rfl,?_,st⟩))⟩
  simp at hl
  omega
abbrev dG (gs:List (List Str)):List (List D):=gs.map fun g=>g.map D.str
theorem zpU {R:Fl×zaI->Prop} {c:Nat} (hs:ρ[i]?=some (some (.oll (dG gs)))) (hk:fk ρ=some (.int (c:Int))) (hf:f ρ=some (.str x)) (hc:c < gs.length) (hl:∀ g∈gs,g.length<=1000)
  (k:R (.nx,ρ.set i (some (.oll (dG (gs.set c (gs[c]++[x]))))))):Wp (zgK i fk f ρ) R:=by
 have e:zul (dG gs).length (.int (c:Int))=some (c,(c:Int)):=by
  show (ixN (dG gs).length (c:Int)).map _=_
  rw [show ixN (dG gs).length (c:Int)=some c by unfold ixN;rw [qV (by omega),qV (by rw [qe];omega),Int.toNat_natCast]]
  rfl
 refine ⟨_,?_,k⟩
 unfold zgK
 rw [hs]
 show ((fk ρ).bind _)=_
 rw [hk,qa,hf,qa,e,qa]
 show (match (dG gs)[c]? with | some ds=>_ | none=>_)=_
 rw [qj,qB hc]
 show (if (gs[c].map D.str).length < sizeLine then _ else _)=_
 rw [qV (by have:=hl _ (List.getElem_mem hc);rw [qe];unfold sizeLine;omega)]
 show some (Fl.nx,ρ.set i (some (Slot.oll ((dG gs).set c (gs[c].map D.str++[D.str x])))))=_
 rw [show (dG gs).set c (gs[c].map D.str++[D.str x])=dG (gs.set c (gs[c]++[x])) by
  unfold dG
  rw [List.map_set,List.map_append]
  rfl]
theorem znH {c:Nat} (hc:c < gs.length) (x:Str):(gs.set c (gs[c]++[x])).flatten.Perm (gs.flatten++[x]):=by
 induction gs generalizing c with
 | nil=>simp at hc
 | cons g r ih =>
  cases c with
  | zero =>
   show ((g++[x])++r.flatten).Perm ((g++r.flatten)++[x])
   rw [qv,qv]
   exact List.Perm.append_left g (List.perm_append_comm)
  | succ c =>
   have hc':c < r.length:=by simpa using hc
   show (g++(r.set c (r[c]'hc'++[x])).flatten).Perm ((g++r.flatten)++[x])
   rw [qv]
   exact List.Perm.append_left g (ih hc')
abbrev gE (n:Int) (ss:List StepT) (h:Int) (a b:Option Slot) (r:List (Option Slot)):zaI:=oS (.int n)::oS (.lst (ss.map zaH))::oS (.int h)::a::b::r
def pw8:List Int:=[1,3,9,27,81,243,729,2187]
theorem zot {n:Int} {k:Nat} {r:List (Option Slot)} (hg:gs.length=3) (hk:k < ss.length) (hs:ss.length<=8) (hl:gs.flatten.length<=8):Wp (zgK 3 (b2 zbQ (b2 za4 (vSh 0) (b2 ixD (zbb (szF (zac (vC (.int 1)) (zac (vC (.int 3)) (zac (vC (.int 9)) (zac (vC (.int 27)) (zac (vC (.int 81)) (zac (vC (.int 243)) (zac (vC (.int 729)) (zac (vC (.int 2187)) zai)))))))))) (b2 zbQ (vSh 4) (vC (.int 8))))) (vC (.int 3))) (b2 ixD (b2 ixD (vSh 1) (vSh 4)) (vC (.int 0))) (gE n ss h (some (.oll (dG gs))) (oS (.int k)) r)) fun q=>q.1=.nx/\∃ gs':List (List Str),q.2=gE n ss h (some (.oll (dG gs'))) (oS (.int k)) r/\gs'.length=3/\gs'.flatten.Perm (gs.flatten++[snm ss k]):=by
 have key:Wp (b2 zbQ (b2 za4 (vSh 0) (b2 ixD (zbb (szF (zac (vC (.int 1)) (zac (vC (.int 3)) (zac (vC (.int 9)) (zac (vC (.int 27)) (zac (vC (.int 81)) (zac (vC (.int 243)) (zac (vC (.int 729)) (zac (vC (.int 2187)) zai)))))))))) (b2 zbQ (vSh 4) (vC (.int 8))))) (vC (.int 3)) (gE n ss h (some (.oll (dG gs))) (oS (.int k)) r)) fun d=>∃ c:Nat,d=.int (c:Int)/\c < 3:=by
  refine w_2 (w_2 (zax rfl (w_2 (zbP (a:=.lst (pw8.map D.int)) rfl (w_2 (zax rfl (w_c (zbm (by decide) fun m m0 m1 _=>zmy m0 m1 fun y hy=>za8 ?_ (w_c (zbm (by decide) fun c c0 c1 _=>⟨c.toNat,?_,?_⟩))))))))))
  ·simp only [pw8,qK,qI,or_false] at hy
   rcases hy with rfl | rfl | rfl | rfl | rfl | rfl | rfl | rfl <;> decide
  ·rw [Int.toNat_of_nonneg c0]
  ·omega
 obtain ⟨_,e1,c,rfl,hc⟩:=key
 obtain ⟨_,e2,e3⟩:=zhS (ss:=ss) (ρ:=gE n ss h (some (.oll (dG gs))) (oS (.int k)) r) (f:=vSh 1) (g:=vSh 4) (P:=fun d=>d=.str (snm ss k)) rfl (zax rfl ⟨k,rfl,by omega,by omega,by rw [Int.toNat_natCast]⟩)
 subst e3
 refine zpU rfl e1 e2 (by omega) (fun g hg'=>?_) ⟨rfl,_,rfl,by rw [List.length_set];exact hg,znH _ _⟩
 have:g.length<=gs.flatten.length:=(List.sublist_flatten_of_mem hg').length_le
 omega
abbrev jE (n:Int) (ss:List StepT) (h:Int) (gs:List (List Str)) (k:Option Slot) (js:List JobT) (a b c d:Option Slot):zaI:=[oS (.int n),oS (.lst (ss.map zaH)),oS (.int h),oS (.lst ((dG gs).map D.lst)),k,some (.own (js.map zbE)),a,b,c,d]
def zqY:List Str:=["first","second"]
structure StJ (ss:List StepT) (h:Int) (gs:List (List Str)) (k:Nat) (js:List JobT):Prop where
 nm:(js.map (·.nm)).Sublist (zqY.take k)
 ms:(js.flatMap (·.ms)).Perm (((gs.drop 1).take k).flatten)
 gd:∀ j∈js,0<=j.ea/\j.ea<=h/\0<=j.du/\j.du<=h/\1<=j.ms.length
 ln:js.length<=k
theorem znk {l:List D} {n:Int} {P:D->Prop} (h0:0<=n) (h1:n < l.length) (p:∀ d∈l,P d):Wp (ixD (.lst l) (.int n)) P:=by
 obtain ⟨k,rfl⟩:=Int.eq_ofNat_of_zero_le h0
 have hk:k < l.length:=by omega
 exact ⟨l[k],by rw [ixL,qB hk],p _ (List.getElem_mem hk)⟩
theorem zmc {a b:D} {P:D->Prop} (h1:P a) (h2:P b):∀ d∈[a,b],P d:=by
 intro d hd
 simp only [qK,qI,or_false] at hd
 rcases hd with rfl | rfl
 ·exact h1
 ·exact h2
theorem zmd {a b c:D} {P:D->Prop} (h1:P a) (h2:P b) (h3:P c):∀ d∈[a,b,c],P d:=by
 intro d hd
 simp only [qK,qI,or_false] at hd
 rcases hd with rfl | rfl | rfl
 ·exact h1
 ·exact h2
 ·exact h3
theorem zlA {m:α->D} {xs:List α} {R:Fl×zaI->Prop} (hs:ρ[j]?=some (some (.own (xs.map m)))) (hl:xs.length<=1000) (h:Wp (f ρ) fun d=>∃ x,d=m x/\R (.nx,ρ.set j (some (.own ((xs++[x]).map m))))):Wp (zek j f ρ) R :=
 zsf hs (by rw [qe];exact hl) (h.imp fun d ⟨x,e,k⟩=>by subst e;rw [List.map_append] at k;exact k)
def zvC:FS:=sIf (toB (b2 neA (vSh 6) (zbb (szF zai)))) (zek 5 (zbJ (szF (zac (b2 ixD (zbb (szF (zac (vC (.str "first")) (zac (vC (.str "second")) zai)))) (vSh 4)) (zac (vSh 7) (zac (vSh 9) (zac (b2 eqD (b2 zbQ (b2 za4 (vSh 0) (b2 zbY (vC (.int 5)) (vSh 4))) (vC (.int 2))) (vC (.int 0))) (zac (vSh 6) zai)))))))) zbd
def zv8:FS:=zar (zbq 9 (b2 ziQ (vSh 2) (b2 ixD (zbb (szF (zac (vC (.int 0)) (zac (vC (.int 0)) (zac (vSh 8) zai))))) (b2 zbQ (b2 za4 (vSh 0) (b2 zbY (vC (.int 17)) (vSh 4))) (vC (.int 3)))))) zvC
def ztm:FS:=zar (zbq 8 (b2 zbQ (b2 za4 (vSh 0) (b2 zbY (vC (.int 200)) (b2 zfG (vC (.int 11)) (vSh 4)))) (cF zma (zac (vC (.int 9)) (zac (vSh 2) zai))))) zv8
def zvD:FS:=zar (zbq 7 (b2 ixD (zbb (szF (zac (vC (.int 0)) (zac (b2 zbQ (b2 za4 (vSh 0) (b2 zbY (vC (.int 30)) (b2 zfG (vC (.int 7)) (vSh 4)))) (cF zma (zac (vC (.int 6)) (zac (vSh 2) zai)))) zai)))) (b2 zbQ (b2 za4 (vSh 0) (b2 zbY (vC (.int 9)) (vSh 4))) (vC (.int 2))))) ztm
def ztn:FS:=zar (zbq 6 (b2 ixD (vSh 3) (b2 zbY (vSh 4) (vC (.int 1))))) (zar (sIf (toB (b2 eqD (b2 zbQ (b2 za4 (vSh 0) (b2 zbY (vC (.int 2)) (vSh 4))) (vC (.int 3))) (vC (.int 0)))) (zbq 6 (b1 zuf (vSh 6))) zbd) zvD)
section
variable {n ea s du:Int} {k:Nat} {ms:List Str}
abbrev JR (n:Int) (ss:List StepT) (h:Int) (gs:List (List Str)) (k:Nat):Fl×zaI->Prop:=fun r=>r.1=.nx/\∃ js' a b c d,r.2=jE n ss h gs (oS (.int k)) js' a b c d/\StJ ss h gs (k+1) js'
theorem tk1 (hk:k+1 < gs.length):(((gs.drop 1).take (k+1)).flatten)=((gs.drop 1).take k).flatten++gs[k+1]:=by
 rw [List.take_succ,List.getElem?_drop,show 1+k=k+1 by omega,qB hk,List.flatten_append]
 simp
theorem zmu (hk:k < 2) (hk1:k+1 < gs.length) (nb:∀ x∈gs.flatten,zay x=true) (st:StJ ss h gs k js) (pm:ms.Perm gs[k+1]) (h1:0<=ea/\ea<=h) (h2:0<=du/\du<=h):Wp (zvC (jE n ss h gs (oS (.int k)) js (oS (.lst (ms.map D.str))) (oS (.int ea)) (oS (.int s)) (oS (.int du)))) (JR n ss h gs k):=by
 have nn:∀ x∈ms,zay x=true:=fun x hx=>nb x (List.mem_flatten.mpr ⟨_,List.getElem_mem hk1,pm.subset hx⟩)
 have sl:=st.ln
 have fk:zqY[k]?=some (zqY.getD k ""):=by
  rcases (show k=0\/k=1 by omega) with rfl | rfl <;> rfl
 have fe:ixD (.lst [.str "first",.str "second"]) (.int (k:Int))=some (.str (zqY.getD k "")):=by
  rcases (show k=0\/k=1 by omega) with rfl | rfl <;> rfl
 refine zfq (zdu (w_2 (zax rfl (zbP (a:=.lst []) rfl (zbP (zqA nn) ⟨_,rfl,fun hm=>?_,fun hm=>?_⟩)))))
 ·have hm:ms≠[]:=by intro z;rw [z] at hm;simp at hm
  refine zlA (m:=zbE) (xs:=js) rfl (by omega) (zeP (zan (w_2 (zbP (a:=.lst [.str "first",.str "second"]) rfl (zax rfl (zbP fe (zan (zax rfl (zan (zax rfl (zan (w_2 (w_2 (w_2 (zax rfl (w_2 (w_c (zax rfl (zbK (za8 (by omega) (w_c (zbm (by decide) fun m _ _ _=>w_c (zrT fun od _=>zan (zax rfl (zaX ⟨by simp,⟨zqY.getD k "",ea,du,od,ms⟩,rfl,rfl,_,_,_,_,_,rfl,?_,?_,?_,?_⟩)))))))))))))))))))))))))
  ·rw [List.map_append,List.take_succ,fk]
   exact st.nm.append (List.Sublist.refl _)
  ·rw [tk1 hk1,List.flatMap_append]
   refine List.Perm.append st.ms ?_
   simpa using pm
  ·intro j hj
   rcases List.mem_append.mp hj with hj | hj
   ·exact st.gd j hj
   ·rw [List.mem_singleton.mp hj]
    exact ⟨h1.1,h1.2,h2.1,h2.2,List.length_pos_iff.mpr hm⟩
  ·rw [qi];simp;omega
 ·have hm:ms=[]:=by cases ms with | nil=>rfl | cons _ _=>simp at hm
  refine zes ⟨rfl,js,_,_,_,_,rfl,st.nm.trans (List.take_sublist_take_left (by omega)),?_,st.gd,by omega⟩
  have:gs[k+1]=[]:=by rw [hm] at pm;exact List.nil_perm.mp pm
  rw [tk1 hk1,this,List.append_nil]
  exact st.ms
theorem zph (hh:9<=h) (hk:k < 2) (hk1:k+1 < gs.length) (nb:∀ x∈gs.flatten,zay x=true) (st:StJ ss h gs k js) (pm:ms.Perm gs[k+1]) {z0 z1 z2:Option Slot} :Wp (zvD (jE n ss h gs (oS (.int k)) js (oS (.lst (ms.map D.str))) z0 z1 z2)) (JR n ss h gs k):=by
 have m9:(if h < 9 then h else 9)=9:=qW (by omega)
 have soon:∀ ea:Int,0<=ea/\ea<=h->Wp (ztm (jE n ss h gs (oS (.int k)) js (oS (.lst (ms.map D.str))) (oS (.int ea)) z1 z2)) (JR n ss h gs k):=by
  intro ea h1
  refine zbp (w_2 (w_2 (zax rfl (w_2 (w_c (w_2 (w_c (zax rfl (zel (.inl (by rw [zeg];omega)) (zbK (za8 (by omega) (zfa (zan (w_c (zan (zax rfl (zaX (znu ?_))))))))))))))))))
  rw [m9]
  refine zbm (by decide) fun s s0 s1 _=>?_
  refine zbp (w_2 (zax rfl (w_2 (zpF (zan (w_c (zan (w_c (zan (zax rfl (zaX ⟨by simp,?_⟩)))))))))))
  refine w_2 (w_2 (zax rfl (w_2 (w_c (zax rfl (zbK (za8 (by omega) (w_c (zbm (by decide) fun i i0 i1 _=>znk i0 i1 (zmd (znt ?_) (znt ?_) (znt ?_)))))))))))
  ·exact zmu hk hk1 nb st pm h1 (by omega)
  ·exact zmu hk hk1 nb st pm h1 (by omega)
  ·exact zmu hk hk1 nb st pm h1 (by omega)
 refine zbp (w_2 (zpF (zan (w_c (zan (w_2 (w_2 (zax rfl (w_2 (w_c (w_2 (w_c (zax rfl (zel (.inl (by rw [zeg];omega)) (zbK (za8 (by omega) (zfa (zan (w_c (zan (zax rfl (zaX (znu ?_)))))))))))))))))))))))
 rw [zvA hh]
 refine zbm (by decide) fun e e0 e1 _=>zaX ⟨by simp,?_⟩
 exact w_2 (w_2 (zax rfl (w_2 (w_c (zax rfl (zbK (za8 (by omega) (w_c (zbm (by decide) fun i i0 i1 _=>znk i0 i1 (zmc (soon 0 (by omega)) (soon e (by omega))))))))))))
theorem zqN (hh:9<=h) (hk:k < 2) (hk1:k+1 < gs.length) (nb:∀ x∈gs.flatten,zay x=true) (st:StJ ss h gs k js) {a b c d:Option Slot} :Wp (ztn (jE n ss h gs (oS (.int k)) js a b c d)) (JR n ss h gs k):=by
 have ix:b2 ixD (vSh 3) (b2 zbY (vSh 4) (vC (.int 1))) (jE n ss h gs (oS (.int k)) js a b c d)=some (.lst (gs[k+1].map D.str)):=by
  show ixD (.lst ((dG gs).map D.lst)) (.int ((k:Int)+1))=_
  rw [show (k:Int)+1=((k+1:Nat):Int) by omega,ixL,qj,qj,qB hk1]
  rfl
 refine zbp (zbP ix (zcz (zfq (zdu (w_2 (w_2 (w_2 (zax rfl (w_2 (w_c (zax rfl (zbK (za8 (by omega) (w_c (zbm (by decide) fun m _ _ _=>w_c (zrT fun od _=>⟨od,rfl,fun _=>?_,fun _=>?_⟩))))))))))))))))
 ·refine zfe (w_1 (zax rfl ⟨.lst ((gs[k+1].reverse).map D.str),by rw [List.map_reverse];rfl,rfl,?_⟩))
  exact zph hh hk hk1 nb st (List.reverse_perm _)
 ·exact zes ⟨rfl,zph hh hk hk1 nb st (List.Perm.refl _)⟩
end
theorem zmK:∀ (gs:List (List Str)),((gs.drop 1).flatten).Sublist gs.flatten
 | []=>List.Sublist.refl _
 | g::r=>List.sublist_append_right g r.flatten
theorem ztk (n:Int) (hh:9<=h) (hs:ss.length<=8) (nd:(ss.map (·.nm)).Nodup) (nb:∀ x∈ss.map (·.nm),zay x=true):Wp (zdp [.int n,.lst (ss.map zaH),.int h]) fun d=>∃ js:List JobT,d=.lst (js.map zbE)/\js.length<=2/\(js.map (·.nm)).Nodup/\(js.flatMap (·.ms)).Nodup/\∀ j∈js,GoodJ (ss.map (·.nm)) h j:=by
 unfold zdp
 refine zeT (zcz (zbP (a:=(Fl.nx,gE n ss h (some (.oll (dG [[],[],[]]))) none [none,none,none,none,none])) rfl ⟨rfl,?_⟩))
 refine zcz (zdU (fun i ρ=>i<=ss.length/\∃ (gs:List (List Str)) (a:Option Slot),ρ=gE n ss h (some (.oll (dG gs))) a [none,none,none,none,none]/\gs.length=3/\gs.flatten.Perm ((ss.map (·.nm)).take i)) (zg3 (zan (zfa (zan (zax rfl (zaX (zt7 (zaX ⟨_,rfl,by omega,by omega,?_,?_,?_⟩)))))))))
 ·exact ⟨Nat.zero_le _,[[],[],[]],none,rfl,rfl,by rw [List.take_zero];exact List.Perm.refl _⟩
 ·rintro k x ρ hx ⟨hk,gs,a,rfl,hg,pm⟩
  obtain ⟨hk,rfl⟩:=zew hx
  have hk:k < ss.length:=by omega
  refine zbP rfl ((zot hg hk hs ?_).imp fun q ⟨e,gs',e2,hg',pm'⟩=>⟨e,by omega,gs',_,e2,hg',?_⟩)
  ·rw [pm.length_eq,qC,qe];omega
  ·rw [zjI hk];exact pm'.trans (List.Perm.append_right _ pm)
 ·rintro ρ ⟨_,gs,a,rfl,hg,pm⟩
  have pm:gs.flatten.Perm (ss.map (·.nm)):=by
   have:=pm
   rw [List.take_of_length_le (by simp)] at this
   exact this
  have nb':∀ x∈gs.flatten,zay x=true:=fun x hx=>nb x (pm.subset hx)
  refine ⟨rfl,zbp (w_2 (zax rfl (w_c (za8 (by decide) (zdZ ?_)))))⟩
  show Wp (zar (zcS _ _ ztn) _ (jE (n / 6561) ss h gs a [] none none none none)) _
  refine zcz (zdU (fun i ρ=>i<=2/\∃ (js:List JobT) (k a b c d:Option Slot),ρ=jE (n / 6561) ss h gs k js a b c d/\StJ ss h gs i js) (zg3 (zan (w_c (zaX ⟨2,rfl,by decide,by decide,?_,?_,?_⟩)))))
  ·exact ⟨by decide,[],a,none,none,none,none,rfl,List.Sublist.refl _,List.Perm.refl _,(fun _ z=>nomatch z),qu _⟩
  ·rintro k x ρ hx ⟨hk,js,a,b,c,d,e,rfl,st⟩
   obtain ⟨hk,rfl⟩:=zew hx
   have hk:k < 2:=hk
   exact zbP rfl ((zqN hh hk (by omega) nb' st).imp fun r ⟨e1,js',a,b,c,d,e2,st'⟩=>⟨e1,by omega,js',_,a,b,c,d,e2,st'⟩)
  ·rintro ρ ⟨_,js,k,a,b,c,d,rfl,st⟩
   have st:StJ ss h gs 2 js:=st
   refine ⟨rfl,zfr (ds:=js.map zbE) rfl (zer (zax rfl ⟨_,rfl,js,rfl,st.ln,st.nm.nodup (by decide +kernel),?_,fun j hj=>?_⟩))⟩
   ·have pj:(js.flatMap (·.ms)).Perm ((gs.drop 1).flatten):=by
     have:=st.ms
     rw [List.take_of_length_le (by simp;omega)] at this
     exact this
    have sb:((gs.drop 1).flatten).Sublist gs.flatten:=zmK gs
    exact pj.nodup_iff.mpr (sb.nodup (pm.nodup_iff.mpr nd))
   ·have g:=st.gd j hj
    have pj:(js.flatMap (·.ms)).Perm ((gs.drop 1).flatten):=by
     have:=st.ms
     rw [List.take_of_length_le (by simp;omega)] at this
     exact this
    have sb:((gs.drop 1).flatten).Sublist gs.flatten:=zmK gs
    have mm:∀ m∈j.ms,m∈ss.map (·.nm):=fun m hm=>pm.subset (sb.subset (pj.subset (List.mem_flatMap.mpr ⟨j,hj,hm⟩)))
    have jl:j.ms.length<=(js.flatMap (·.ms)).length:=(List.sublist_flatten_of_mem (qU hj)).length_le
    have l2:=pj.length_eq
    have l3:=sb.length_le
    have l4:=pm.length_eq
    refine ⟨?_,⟨g.1,g.2.1⟩,⟨g.2.2.1,g.2.2.2.1⟩,g.2.2.2.2,by omega,mm⟩
    have:j.nm∈zqY:=List.mem_of_mem_take (st.nm.subset (qU hj))
    simp only [zqY,qK,qI,or_false] at this
    rcases this with e | e <;> rw [e] <;> decide +kernel
def bL:List Str:=["x","y","z","w"]
def bP:List Str:=["","b","be","ben","benc","bench"]
def sL:List Str:=["d","h","b","f","a","c","g","e"]
def sP:List Str:=["","s","st","ste","step"]
def bN (p k:Nat):Str:=bL.getD k ""++bP.getD p ""
def sN (p k:Nat):Str:=sL.getD k ""++sP.getD p ""
theorem zvh:∀ p,p < 6->(∀ k,k < 4->zay (bN p k)=true)/\((List.range 4).map (bN p)).Nodup:=by decide +kernel
theorem zuJ:∀ p,p < 5->(∀ k,k < 8->zay (sN p k)=true)/\((List.range 8).map (sN p)).Nodup:=by decide +kernel
theorem zvi:∀ {k:Nat},k < 4->ixD (.str "xyzw") (.int (k:Int))=some (.str (bL.getD k ""))
 | 0,_=>rfl | 1,_=>rfl | 2,_=>rfl | 3,_=>rfl
 | n+4,h=>by omega
theorem zuK:∀ {k:Nat},k < 8->ixD (.str "dhbfacge") (.int (k:Int))=some (.str (sL.getD k ""))
 | 0,_=>rfl | 1,_=>rfl | 2,_=>rfl | 3,_=>rfl | 4,_=>rfl | 5,_=>rfl | 6,_=>rfl | 7,_=>rfl
 | n+8,h=>by omega
theorem zvg:∀ {k:Nat},k < 6->zeo none (some (k:Int)) (.str "bench")=some (.str (bP.getD k ""))
 | 0,_=>rfl | 1,_=>rfl | 2,_=>rfl | 3,_=>rfl | 4,_=>rfl | 5,_=>rfl
 | n+6,h=>by omega
theorem zuI:∀ {k:Nat},k < 5->zeo none (some (k:Int)) (.str "step")=some (.str (sP.getD k ""))
 | 0,_=>rfl | 1,_=>rfl | 2,_=>rfl | 3,_=>rfl | 4,_=>rfl
 | n+5,h=>by omega
theorem zwf:∀ p,p < 6->∀ k,k < 4->(bL.getD k "").length+(bP.getD p "").length<=100:=by decide +kernel
theorem zvZ:∀ p,p < 5->∀ k,k < 8->(sL.getD k "").length+(sP.getD p "").length<=100:=by decide +kernel
theorem zt1 {i j:Str} (h:i.length+j.length<=100):zbY (.str i) (.str j)=some (.str (i++j)):=by
 show (if i.length+j.length<=sizeLine then _ else _)=_
 rw [qV (by unfold sizeLine;omega)]
theorem zrU {g:FE} {P:D->Prop} (hf:f ρ=some d) (hg:Wp (g ρ) fun x=>∃ n:Int,x=.int n/\Wp (zeo none (some n) d) P):Wp (slF f pN (pS g) ρ) P:=by
 obtain ⟨_,e,n,rfl,k⟩:=hg
 unfold slF
 rw [hf]
 show Wp ((pS g ρ).bind _) P
 unfold pS
 rw [e]
 exact k
abbrev pE (ns:List Int) (sh h:Int) (b k s:Option Slot) (r:List (Option Slot)):zaI:=oS (.scr ns)::oS (.int 8)::oS (.int sh)::oS (.int h)::b::k::s::r
theorem zrs {sh:Int} {b s:Option Slot} {r:List (Option Slot)} {k:Nat} (hk:k < 4):b2 zbY (b2 ixD (vC (.str "xyzw")) (vSh 5)) (slF (vC (.str "bench")) pN (pS (b2 zbQ (b2 za4 (vSh 2) (vC (.int 96))) (vC (.int 6))))) (pE ns sh h b (oS (.int k)) s r)=some (.str (bN (sh / 96 % 6).toNat k)):=by
 obtain ⟨_,e,e2⟩:Wp (b2 zbY (b2 ixD (vC (.str "xyzw")) (vSh 5)) (slF (vC (.str "bench")) pN (pS (b2 zbQ (b2 za4 (vSh 2) (vC (.int 96))) (vC (.int 6))))) (pE ns sh h b (oS (.int k)) s r)) fun d=>d=.str (bN (sh / 96 % 6).toNat k):=by
  refine w_2 (w_2 (w_c (zax rfl (zbP (zvi hk) (zrU rfl (w_2 (w_2 (zax rfl (w_c (za8 (by decide) (w_c (zbm (by decide) fun m m0 m1 em=>⟨m,rfl,?_⟩))))))))))))
  obtain ⟨p,rfl⟩:=Int.eq_ofNat_of_zero_le m0
  have hp:p < 6:=by omega
  refine zbP (zvg hp) (zbP (zt1 (zwf p hp k hk)) ?_)
  rw [← em];rfl
 rw [e,e2]
theorem zpP {sh:Int} {b s:Option Slot} {r:List (Option Slot)} {k:Nat} (hk:k < 8):b2 zbY (b2 ixD (vC (.str "dhbfacge")) (vSh 5)) (slF (vC (.str "step")) pN (pS (b2 zbQ (b2 za4 (vSh 2) (vC (.int 5000))) (vC (.int 5))))) (pE ns sh h b (oS (.int k)) s r)=some (.str (sN (sh / 5000 % 5).toNat k)):=by
 obtain ⟨_,e,e2⟩:Wp (b2 zbY (b2 ixD (vC (.str "dhbfacge")) (vSh 5)) (slF (vC (.str "step")) pN (pS (b2 zbQ (b2 za4 (vSh 2) (vC (.int 5000))) (vC (.int 5))))) (pE ns sh h b (oS (.int k)) s r)) fun d=>d=.str (sN (sh / 5000 % 5).toNat k):=by
  refine w_2 (w_2 (w_c (zax rfl (zbP (zuK hk) (zrU rfl (w_2 (w_2 (zax rfl (w_c (za8 (by decide) (w_c (zbm (by decide) fun m m0 m1 em=>⟨m,rfl,?_⟩))))))))))))
  obtain ⟨p,rfl⟩:=Int.eq_ofNat_of_zero_le m0
  have hp:p < 5:=by omega
  refine zbP (zuI hp) (zbP (zt1 (zvZ p hp k hk)) ?_)
  rw [← em];rfl
 rw [e,e2]
theorem zs1 {m:Nat} {f:Nat->Str} (h:((List.range n).map f).Nodup) (hm:m<=n):((List.range m).map f).Nodup:=by
 have:((List.range m).map f).Sublist ((List.range n).map f):=(List.range_sublist.mpr hm).map f
 exact this.nodup h
theorem ztS (b:Str):(cmb b).Nodup:=by
 have h:("red":Str)≠"blue":=by decide +kernel
 simp [cmb,rb2,h,Ne.symm h]
theorem zm1 {b:Str} {x:List Str} (h:x∈cmb b):∃ p q,x=[b,p,q]/\zay p=true/\zay q=true:=by
 simp only [cmb,List.mem_flatMap,List.mem_map] at h
 obtain ⟨p,hp,q,hq,rfl⟩:=h
 have nr:∀ x∈rb2,zay x=true:=by decide +kernel
 exact ⟨p,q,rfl,nr p hp,nr q hq⟩
theorem zt0 {bs:List BenchT} (nd:(bs.map (·.nm)).Nodup):((List.range bs.length).flatMap fun k=>cmb (bnm bs k)).Nodup:=by
 refine List.pairwise_flatMap.mpr ⟨fun k _=>ztS _,List.Pairwise.imp_of_mem ?_ (List.pairwise_lt_range (n:=bs.length))⟩
 intro i j hi hj hlt x hx y hy e
 obtain ⟨p,q,rfl,_,_⟩:=zm1 hx
 obtain ⟨p',q',rfl,_,_⟩:=zm1 hy
 have:=znf nd (List.mem_range.mp hi) (List.mem_range.mp hj) (List.cons.inj e).1
 omega
theorem zqk (ns:List Int):Wp (zcy [.scr ns,.int 8]) fun d=>∃ (bs:List BenchT) (ss:List StepT) (js:List JobT) (us:List SetT) (ls:List LinkT) (ks:List StockT) (h:Int),d=.tup [.lst (bs.map zaP),.lst (ss.map zaH),.lst (js.map zbE),.lst (us.map zeF),.lst (ls.map zbu),.lst (ks.map zbV),.int h]/\Good bs ss js us ls ks h/\ss.length<=8/\js.length<=2:=by
 unfold zcy
 refine zeT (zbp (w_2 (zdv rfl ((zfL ns (k:=0) (by decide) (by decide)).imp fun d ⟨w0,e⟩=>?_))))
 subst e
 refine w_c (za8 (by decide) (zbp (w_2 (w_c (w_2 (zax rfl (w_c (zbm (by decide) fun z z0 z1 _=>zbK (zdZ ?_)))))))))
 generalize w0 / 2=sh
 generalize hh:9+z=h
 have h9:9<=h:=by omega
 have h41:h<=40:=by omega
 have q0:=Int.emod_nonneg (sh / 96) (show (6:Int)≠0 by decide)
 have q1:=Int.emod_lt_of_pos (sh / 96) (show (0:Int) < 6 by decide)
 have r0:=Int.emod_nonneg (sh / 5000) (show (5:Int)≠0 by decide)
 have r1:=Int.emod_lt_of_pos (sh / 5000) (show (0:Int) < 5 by decide)
 obtain ⟨bnb,bnd⟩:=zvh (sh / 96 % 6).toNat (by omega)
 obtain ⟨snb,snd⟩:=zuJ (sh / 5000 % 5).toNat (by omega)
 refine zcz (zdU (fun i ρ=>i<=4/\∃ (bs:List BenchT) (k:Option Slot),ρ=pE ns sh h (some (.own (bs.map zaP))) k none [none,none,none,none,none]/\bs.map (·.nm)=(List.range i).map (bN (sh / 96 % 6).toNat)/\∀ b∈bs,GoodB h b) (zg3 (zan (w_2 (w_c (w_2 (w_2 (zax rfl (w_c (za8 (by decide) (w_c (zbm (by decide) fun nb nb0 nb1 _=>zbK (zaX ⟨1+nb,rfl,by omega,by omega,?_,?_,?_⟩)))))))))))))
 ·exact ⟨by decide,[],none,rfl,rfl,fun _ z=>nomatch z⟩
 ·rintro k x ρ hx ⟨_,bs,k0,rfl,hn,hg⟩
  obtain ⟨hk,rfl⟩:=zew hx
  have hk:k < 4:=by omega
  have bl:bs.length=k:=by have:=congrArg List.length hn;simpa using this
  refine zbP rfl (zlA (m:=zaP) (xs:=bs) rfl (by omega) (zeP (zan (zbP (zrs hk) (zan (zfa (zan (zfa (zan (zax rfl (zan (w_2 (w_c (zax rfl (zbK (zaX ((zfL ns (k:=10+(k:Int)) (by omega) (by omega)).imp fun d ⟨wn,e⟩=>?_)))))))))))))))))
  subst e
  refine zan (zax rfl (zaX ((zoU wn (h:=h)).imp fun d ⟨br,e,bl2,f,gi⟩=>?_)))
  subst e
  refine zaX ⟨by simp,⟨bN (sh / 96 % 6).toNat k,br⟩,rfl,rfl,by omega,_,_,rfl,?_,fun b hb=>?_⟩
  ·rw [List.map_append,hn,List.range_succ,List.map_append];rfl
  ·rcases List.mem_append.mp hb with hb | hb
   ·exact hg b hb
   ·rw [List.mem_singleton.mp hb]
    exact ⟨bnb k hk,by show br.length<=10;omega,fun p hp=>by have:=gi.iv p hp;exact ⟨this.1,this.2.1,this.2.2.1⟩,gi.gap⟩
 ·rintro ρ ⟨_,bs,k0,rfl,hn,hg⟩
  have bl:bs.length=1+nb.toNat:=by
   have:=congrArg List.length hn
   simp at this
   omega
  have bdn:(bs.map (·.nm)).Nodup:=by
   rw [hn]
   refine zs1 bnd ?_
   simp
   omega
  have bnm':∀ x∈bs.map (·.nm),zay x=true:=by
   rw [hn]
   intro x hx
   obtain ⟨k,hk,rfl⟩:=List.mem_map.mp hx
   have:=List.mem_range.mp hk
   simp at this
   exact bnb k (by omega)
  clear hn
  refine ⟨rfl,zdZ (zfr (ds:=bs.map zaP) rfl ?_)⟩
  refine zcz (zdU (fun i ρ=>i<=8/\∃ (ss:List StepT) (k a b:Option Slot),ρ=pE ns sh h (oS (.lst (bs.map zaP))) k (some (.own (ss.map zaH))) [a,b,none,none,none]/\ss.map (·.nm)=(List.range i).map (sN (sh / 5000 % 5).toNat)/\∀ s∈ss,GoodS (bs.map (·.nm)) h s) (zg3 (zan (w_2 (w_c (w_2 (w_2 (zax rfl (w_c (za8 (by decide) (zax rfl (zbm (by decide) fun nt nt0 nt1 _=>zbK (zaX ⟨1+nt,rfl,by omega,by omega,?_,?_,?_⟩)))))))))))))
  ·exact ⟨by decide,[],_,none,none,rfl,rfl,fun _ z=>nomatch z⟩
  ·rintro k x ρ hx ⟨_,ss,k0,a,b,rfl,hn,hgs⟩
   obtain ⟨hk,rfl⟩:=zew hx
   have hk:k < 8:=by omega
   have sl:ss.length=k:=by have:=congrArg List.length hn;simpa using this
   refine zbP rfl (zbp (zfa (zan (zax rfl (zan (w_2 (w_c (zax rfl (zbK (zaX ((zfL ns (k:=20+(k:Int)) (by omega) (by omega)).imp fun d ⟨wn,e⟩=>?_)))))))))))
   subst e
   refine zbp (zfa (zan (w_2 (zax rfl (w_c (za8 (by decide) (zan (zax rfl (zan (zax rfl (zaX ((zrO (wn / 2) (bs:=bs) h9 (by omega) bdn).imp fun d ⟨ws,e,w1,w4,wg,wnd⟩=>?_))))))))))))
   subst e
   refine zlA (m:=zaH) (xs:=ss) rfl (by omega) (zeP (zan (zbP (zpP hk) (zan (w_2 (zbP (a:=.lst [.str "red",.str "blue"]) rfl (w_2 (zax rfl (w_c (zbm (by decide) fun c c0 c1 _=>znk c0 c1 ?_))))))))))
   have fin:∀ kd:Str,zay kd=true->Wp (zac (vSh 8) zai (pE ns sh h (oS (.lst (bs.map zaP))) (oS (.int k)) (some (.own (ss.map zaH))) [oS (.int wn),oS (.lst (ws.map dW)),none,none,none])) fun l=>(D.str (sN (sh / 5000 % 5).toNat k)::D.str kd::l).length<=1000/\∃ x:StepT,D.tup (D.str (sN (sh / 5000 % 5).toNat k)::D.str kd::l)=zaH x/\True/\x.nm=sN (sh / 5000 % 5).toNat k/\GoodS (bs.map (·.nm)) h x:=by
    intro kd hkd
    exact zan (zax rfl (zaX ⟨by simp,⟨sN (sh / 5000 % 5).toNat k,kd,ws⟩,rfl,trivial,rfl,⟨snb k hk,hkd,w1,w4,wg,wnd⟩⟩))
   have up:∀ kd:Str,zay kd=true->Wp (zac (vSh 8) zai (pE ns sh h (oS (.lst (bs.map zaP))) (oS (.int k)) (some (.own (ss.map zaH))) [oS (.int wn),oS (.lst (ws.map dW)),none,none,none])) fun l=>(D.str (sN (sh / 5000 % 5).toNat k)::D.str kd::l).length<=1000/\∃ x:StepT,D.tup (D.str (sN (sh / 5000 % 5).toNat k)::D.str kd::l)=zaH x/\(Fl.nx=Fl.nx/\k+1<=8/\∃ (ss':List StepT) (k' a b:Option Slot),(pE ns sh h (oS (.lst (bs.map zaP))) (oS (.int k)) (some (.own ((ss++[x]).map zaH))) [oS (.int wn),oS (.lst (ws.map dW)),none,none,none])=pE ns sh h (oS (.lst (bs.map zaP))) k' (some (.own (ss'.map zaH))) [a,b,none,none,none]/\ss'.map (·.nm)=(List.range (k+1)).map (sN (sh / 5000 % 5).toNat)/\∀ s∈ss',GoodS (bs.map (·.nm)) h s):=by
    intro kd hkd
    refine (fin kd hkd).imp fun l ⟨h1,x,e,_,e2,gx⟩=>⟨h1,x,e,rfl,by omega,ss++[x],_,_,_,rfl,?_,fun s hs=>?_⟩
    ·rw [List.map_append,hn,List.range_succ,List.map_append]
     show _++[x.nm]=_
     rw [e2];rfl
    ·rcases List.mem_append.mp hs with hs | hs
     ·exact hgs s hs
     ·rw [List.mem_singleton.mp hs];exact gx
   exact zmc (up "red" (by decide +kernel)) (up "blue" (by decide +kernel))
  ·rintro ρ ⟨_,ss,k1,a,b,rfl,hn,hgs⟩
   have sl:ss.length=1+nt.toNat:=by
    have:=congrArg List.length hn
    simp at this
    omega
   have sdn:(ss.map (·.nm)).Nodup:=by
    rw [hn]
    refine zs1 snd ?_
    simp
    omega
   have snm':∀ x∈ss.map (·.nm),zay x=true:=by
    rw [hn]
    intro x hx
    obtain ⟨k,hk,rfl⟩:=List.mem_map.mp hx
    have:=List.mem_range.mp hk
    simp at this
    exact snb k (by omega)
   clear hn
   refine ⟨rfl,zfr (ds:=ss.map zaH) rfl ?_⟩
   refine zbp (zfa (zan (zdv rfl ((zfL ns (k:=3) (by decide) (by decide)).imp fun d ⟨w3,e⟩=>?_))))
   subst e
   refine zan (zax rfl (zan (zax rfl (zaX ((ztk w3 (ss:=ss) h9 (by omega) sdn snm').imp fun d ⟨js,e,jl,jn,jm,jg⟩=>?_)))))
   subst e
   refine zbp (zfa (zan (zdv rfl ((zfL ns (k:=4) (by decide) (by decide)).imp fun d ⟨w4,e⟩=>?_))))
   subst e
   refine zan (zax rfl (zaX ((znF w4 (bs:=bs) (by omega)).imp fun d ⟨us,e,stu⟩=>?_)))
   subst e
   refine zbp (zfa (zan (zdv rfl ((zfL ns (k:=5) (by decide) (by decide)).imp fun d ⟨w5,e⟩=>?_))))
   subst e
   refine zan (zax rfl (zaX ((zqG w5 (ss:=ss) (by omega) snm').imp fun d ⟨ls,e,ll,stl⟩=>?_)))
   subst e
   refine zer (zeP (zan (zax rfl (zan (zax rfl (zan (zax rfl (zan (zax rfl (zan (zax rfl (zan (zfa (zan (zdv rfl ((zfL ns (k:=6) (by decide) (by decide)).imp fun d ⟨w6,e⟩=>?_))))))))))))))))
   subst e
   refine zan (zax rfl (zaX ((znB w6 (ss:=ss) (by omega) sdn).imp fun d ⟨ks,e,kl,kg⟩=>?_)))
   subst e
   refine zan (zax rfl (zaX ⟨by simp,_,rfl,bs,ss,js,us,ls,ks,h,rfl,?_,by omega,jl⟩))
   refine ⟨⟨by omega,by omega⟩,⟨by omega,by omega⟩,hg,bdn,⟨by omega,by omega⟩,hgs,sdn,by omega,jg,jn,jm,?_,fun u hu=>?_,stu.sub.nodup (zt0 bdn),by omega,fun l hl=>?_,stl.nd,by omega,kg,?_⟩
   ·have:=stu.ln
    have:((List.range bs.length).flatMap fun k=>cmb (bnm bs k)).length=4*bs.length:=by
     have g:∀ l:List Nat,(l.flatMap fun k=>cmb (bnm bs k)).length=4*l.length:=fun l=>by
      induction l with
      | nil=>rfl
      | cons k r ih=>rw [List.flatMap_cons,qi,ih,qh];show 4+_=_;omega
     rw [g,qT]
    omega
   ·have hm:=stu.sub.subset (qU hu)
    obtain ⟨k,hk,hx⟩:=List.mem_flatMap.mp hm
    obtain ⟨p,q,e,np,nq⟩:=zm1 hx
    have e:[u.b,u.p,u.q]=[bnm bs k,p,q]:=e
    injection e with e1 e2
    injection e2 with e2 e3
    injection e3 with e3 _
    have gu:=stu.gd u hu
    exact ⟨by rw [e1];exact zne (List.mem_range.mp hk),by rw [e2];exact np,by rw [e3];exact nq,gu.1,by omega⟩
   ·have g:=stl.gd l hl
    exact ⟨g.1,g.2.1,g.2.2.1,g.2.2.2.1,by omega⟩
   ·cases ks with
    | nil=>exact List.nodup_nil
    | cons k r =>
     cases r with
     | nil=>simp
     | cons _ _=>simp at kl
theorem zhZ (h:g ρ=some (.nx,ρ1)):zar g g' ρ=g' ρ1:=by unfold zar;rw [h];rfl
theorem zpd :zar (zdV i (szF zai)) g ρ=g (ρ.set i (some (.own []))):=by
 have z0:(0<=sizeLine)=True:=by simp
 simp only [zar,zdV,szF,zai,qa,qd,qk,z0,if_true]
theorem zpo (h1:ρ[i]?=some (some (.own ds))):zeN i g ρ=g (ρ.set i (oS (.lst ds))):=by unfold zeN;rw [h1]
theorem zgV {body:FS} {xs:List D} (h:fi ρ=some xs):zcS fi gg body ρ=zfI gg body xs ρ:=by unfold zcS;rw [h];rfl
theorem zow {xs:List D} (h:(xs.mapIdx fun i d=>D.tup [.int i,d])[i]?=some d):∃ x,xs[i]?=some x/\d=.tup [.int i,x]:=by
 rw [List.getElem?_mapIdx] at h
 obtain ⟨x,hx,rfl⟩:=oMd h
 exact ⟨x,hx,rfl⟩
theorem zfQ {g:FE} {x y:D} (h1:f ρ=some x) (h2:g ρ=some y):zbJ (szF (zac f (zac g zai))) ρ=some (.tup [x,y]):=by
 simp only [zbJ,szF,zac,zai,h1,h2,qa,qd,qh,qk,Nat.zero_add,sz2,if_true]
theorem zpH {g e:FE} {x y:D} (h1:f ρ=some x) (h2:g ρ=some y) (h3:e ρ=some z):zbJ (szF (zac f (zac g (zac e zai)))) ρ=some (.tup [x,y,z]):=by
 simp only [zbJ,szF,zac,zai,h1,h2,h3,qa,qd,qh,qk,Nat.zero_add,sz3,if_true]
theorem ztP {xs:List D} {d:Int} (h:0<=d):zeo none (some d) (.lst xs)=some (.lst (xs.take d.toNat)):=by
 show some (D.lst (ziN xs none (some d)))=_
 unfold ziN HT.sIx
 simp only
 rw [qW (by omega),List.drop_zero,Nat.sub_zero]
 congr 2
 rw [Nat.min_def]
 split
 ·rfl
 ·rw [List.take_of_length_le (qu _),List.take_of_length_le (by omega)]
theorem ztO {xs:List D} {d:Int} (h:0<=d):zeo (some d) none (.lst xs)=some (.lst (xs.drop d.toNat)):=by
 show some (D.lst (ziN xs (some d) none))=_
 unfold ziN HT.sIx
 simp only
 rw [qW (by omega)]
 congr 2
 rw [Nat.min_def]
 split
 ·rw [List.take_of_length_le (by rw [List.length_drop];omega)]
 ·rw [List.drop_of_length_le (qu _),List.drop_of_length_le (by omega)];simp
theorem zuG {g:FE} {xs:List D} {d:Int} (h1:f ρ=some (.lst xs)) (h2:g ρ=some (.int d)) (h:0<=d):slF f pN (pS g) ρ=some (.lst (xs.take d.toNat)):=by
 unfold slF pN pS
 rw [h1,h2]
 exact ztP h
theorem zuF {g:FE} {xs:List D} {d:Int} (h1:f ρ=some (.lst xs)) (h2:g ρ=some (.int d)) (h:0<=d):slF f (pS g) pN ρ=some (.lst (xs.drop d.toNat)):=by
 unfold slF pN pS
 rw [h1,h2]
 exact ztO h
section
variable {bs:List BenchT}
def zcL (bs:List BenchT) (ss:List StepT) (js:List JobT) (us:List SetT) (ls:List LinkT) (ks:List StockT) (h:Int):D:=.tup [.lst (bs.map zaP),.lst (ss.map zaH),.lst (js.map zbE),.lst (us.map zeF),.lst (ls.map zbu),.lst (ks.map zbV),.int h]
theorem ixT (l:List D) (n:Nat):ixD (.tup l) (.int (n:Int))=l[n]?:=zdi l n
theorem zpS (g:Good bs ss js us ls ks h) (ml:(js.flatMap (·.ms)).length<=300):zdn [zcL bs ss js us ls ks h]=some (zav bs ss js us ls ks h) :=
 za1 [oS (zcL bs ss js us ls ks h)] rfl (zaZ (zcc (zaA (zc8 rfl rfl (ixT _ 0)) (zaA (zc8 rfl rfl (ixT _ 1)) (zaA (zc8 rfl rfl (ixT _ 2)) (zaA (zc8 rfl rfl (ixT _ 3)) (zaA (zc8 rfl rfl (ixT _ 4)) (zaA (zc8 rfl rfl (ixT _ 5)) (zaA (zc8 rfl rfl (ixT _ 6)) za7))))))) (zqQ g ml)))
theorem zfh {f:Str} (i:Nat) (h1:fo ρ=some (zav bs ss js us ls ks h)) (h2:(zpn bs ss js us ls ks h)[i]?=some (f,d)):zkT "Shop" f fo ρ=some d:=by
 unfold zkT
 rw [h1]
 show (if ("Shop":Str)="Shop" then (zpn bs ss js us ls ks h).lookup f else none)=some d
 rw [qV rfl]
 exact zfH (by rw [zgh];exact zhn) h2
theorem zea {F:FQ} {fr:FA} (hm:m∉zfg) (h1:fo ρ=some (zav bs ss js us ls ks h)) (h2:fr ρ=some ds) (h3:F (zav bs ss js us ls ks h::ds)=some d):zdW "Shop" m F fo fr ρ=some d:=by
 have hno:(zpn bs ss js us ls ks h).lookup m=none:=zeX (by rw [zgh];exact hm)
 unfold zdW
 rw [h1]
 show (if ("Shop":Str)="Shop"/\(zpn bs ss js us ls ks h).lookup m=none then (fr ρ).bind fun ds=>F (zav bs ss js us ls ks h::ds) else none)=_
 rw [qV ⟨rfl,hno⟩,h2]
 exact h3
theorem zjY {f:α->D} {nm:α->Str} {xs:List α} (hf:∀ x,∃ r,f x=.tup (.str (nm x)::r)) (h1:fo ρ=some (.lst (xs.map f))) (h2:xs.length<=sizeLine) (h3:zeA fv ρ=[none]) :
  zbb (zaw (itF fo) (zau 0) tT (b2 ixD (vSh 0) (vC (.int 0))) fv) ρ=some (.lst ((xs.map nm).map D.str)):=by
 have hc:=zcg (fi:=itF fo) (fe:=b2 ixD (vSh 0) (vC (.int 0))) (fv:=fv) (ρ:=ρ) (r:=[]) (a:=none) (xs:=xs.map f) (f:=fun d=>match d with | .tup (x::_)=>x | _=>.non) (by unfold itF;rw [h1];rfl) (by rw [qe];exact h2) h3 (fun x hx=>by
  obtain ⟨y,_,rfl⟩:=List.mem_map.mp hx
  obtain ⟨r,e⟩:=hf y
  simp only [b2,vSh,vC,qb,qa,e,zj8])
 rw [hc]
 congr 2
 rw [qm,qm]
 refine List.map_congr_left fun x _=>?_
 obtain ⟨r,e⟩:=hf x
 simp [e]
theorem zg8 (hl:ss.length<=40):zcr [zav bs ss js us ls ks h]=some (.lst ((ss.map (·.nm)).map D.str)) :=
 za1 [oS (zav bs ss js us ls ks h)] rfl (zaZ (zjY (f:=zaH) (nm:=(·.nm)) (xs:=ss) (fun x=>⟨_,rfl⟩) (zfh 1 rfl rfl) (szN hl (by decide)) rfl))
theorem zg4 [DecidableEq κ] (kvs:List (κ×D)) (k k':κ) (v:D):zdY (zhg kvs k v) k'=if k'=k then some v else zdY kvs k':=by
 unfold zhg
 split
 ·rename_i hany
  by_cases e:k'=k
  ·subst e
   rw [qV rfl]
   unfold zdY
   induction kvs with
   | nil=>simp at hany
   | cons x r ih =>
    rw [ql,List.find?_cons]
    by_cases ex:x.1=k'
    ·simp [ex]
    ·simp only [qW ex,qM ex]
     rw [List.any_cons,qM ex,Bool.false_or] at hany
     exact ih hany
  ·rw [qW e]
   unfold zdY
   induction kvs with
   | nil=>rfl
   | cons x r ih =>
    rw [ql,List.find?_cons,List.find?_cons]
    by_cases ex:x.1=k
    ·have:¬ x.1=k':=fun z=>e (z.symm.trans ex)
     simp only [qV ex,qM this]
     by_cases ha:(r.any fun kv=>decide (kv.1=k))=true
     ·exact ih ha
     ·have hmap:r.map (fun kv=>if kv.1=k then (kv.1,v) else kv)=r:=by
       conv=>rhs;rw [← List.map_id r]
       refine List.map_congr_left fun y hy=>?_
       have:¬ y.1=k:=fun z=>ha (List.any_eq_true.mpr ⟨y,hy,qR z⟩)
       simp [this]
      rw [hmap]
    ·simp only [qW ex]
     by_cases ex':x.1=k'
     ·simp [ex']
     ·simp only [qM ex']
      rw [List.any_cons,qM ex,Bool.false_or] at hany
      exact ih hany
 ·rename_i hany
  have hno:∀ x∈kvs,¬ x.1=k:=fun x hx z=>hany (List.any_eq_true.mpr ⟨x,hx,qR z⟩)
  unfold zdY
  rw [List.find?_append]
  by_cases e:k'=k
  ·subst e
   rw [qV rfl]
   have:kvs.find? (fun kv=>decide (kv.1=k'))=none:=by
    rw [List.find?_eq_none]
    intro x hx z
    exact hno x hx (of_decide_eq_true z)
   rw [this]
   simp
  ·rw [qW e]
   have:¬ k=k':=fun z=>e z.symm
   simp [this]
noncomputable def prS:List StepT->List (StepT×StepT)
 | []=>[]
 | s::r=>r.map (fun t=>(s,t))++prS r
def dP (p:StepT×StepT):D:=.tup [.str p.1.nm,.str p.2.nm]
theorem zi0:∀ {ss:List StepT} {n:Nat},ss.length<=n->(prS ss).length<=ss.length*n
 | [],_,_=>by simp [prS]
 | s::r,n,h=>by
  rw [qh] at h
  have:=zi0 (ss:=r) (n:=n) (by omega)
  show (r.map (fun t=>(s,t))++prS r).length<=_
  rw [qi,qe,qh,Nat.succ_mul]
  omega
theorem zmF {g:α->D} {xs ys:List α} (h1:ρ[i]?=some (some (.own (xs.map g)))) (h2:f ρ=some (.lst (ys.map g))) (h3:xs.length+ys.length<=10000):zld i f ρ=some (.nx,ρ.set i (some (.own ((xs++ys).map g)))):=by
 unfold zld
 rw [h1]
 show (f ρ).bind _=_
 rw [h2,qa]
 show (if _ then _ else _)=_
 rw [qV (by rw [qe,qe];unfold sizeLine;omega),List.map_append]
theorem zq7 {l:List α} {x:α} (h:l[i]?=some x):l.drop i=x::l.drop (i+1):=by
 obtain ⟨h1,h2⟩:=List.getElem?_eq_some_iff.mp h
 rw [List.drop_eq_getElem_cons h1,h2]
abbrev prE (ss:List StepT) (ps:List (StepT×StepT)) (a b:Option Slot):zaI:=[oS (.lst ((ss.map (·.nm)).map D.str)),some (.own (ps.map dP)),a,b]
theorem zn6 (ss:List StepT) (hl:ss.length<=40):zcM [.lst ((ss.map (·.nm)).map D.str)]=some (.lst ((prS ss).map dP)):=by
 have hpl:=zi0 (ss:=ss) (n:=40) hl
 obtain ⟨ρ',h1,ps,a,b,h2,h3⟩:=zgj (gg:=zbS 2 (zaq (zau 2) (zaq (zau 3) zbN))) (body:=(zld 1 (zbb (zaw (itF (slF (vSh 0) (pS (b2 zbY (vSh 2) (vC (.int 1)))) pN)) (zau 0) tT (zbJ (szF (zac (vSh 1) (zac (vSh 0) zai)))) [none,some 3])))) (xs:=((ss.map (·.nm)).map D.str).mapIdx fun i d=>D.tup [.int i,d]) (ρ:=prE ss [] none none)
  (fun i ρ=>∃ ps a b,ρ=prE ss ps a b/\ps++prS (ss.drop i)=prS ss) ⟨[],none,none,rfl,rfl⟩ (fun i x ρ hx hI=>by
   obtain ⟨ps,a,b,rfl,hps⟩:=hI
   obtain ⟨y,hy,rfl⟩:=zow hx
   rw [qm,qj] at hy
   obtain ⟨s,hsi,rfl⟩:=oMd hy
   have hi:i < ss.length:=(List.getElem?_eq_some_iff.mp hsi).1
   have hdr:=zq7 hsi
   have hlen:ps.length+(ss.drop (i+1)).length<=10000:=by
    have:=congrArg List.length hps
    rw [qi] at this
    rw [List.length_drop]
    omega
   have e:zbb (zaw (itF (slF (vSh 0) (pS (b2 zbY (vSh 2) (vC (.int 1)))) pN)) (zau 0) tT (zbJ (szF (zac (vSh 1) (zac (vSh 0) zai)))) [none,some 3]) (prE ss ps (oS (.int i)) (oS (.str s.nm)))=some (.lst (((ss.drop (i+1)).map fun t=>(s,t)).map dP)):=by
    have e0:itF (slF (vSh 0) (pS (b2 zbY (vSh 2) (vC (.int 1)))) pN) (prE ss ps (oS (.int i)) (oS (.str s.nm)))=some ((ss.drop (i+1)).map fun t=>D.str t.nm):=by
     have:=zuF (f:=vSh 0) (g:=b2 zbY (vSh 2) (vC (.int 1))) (ρ:=prE ss ps (oS (.int i)) (oS (.str s.nm))) (d:=(i:Int)+1) rfl (zc8 rfl rfl rfl) (by omega)
     unfold itF
     rw [this]
     show some _=_
     rw [show ((i:Int)+1).toNat=i+1 by omega,qm,List.map_drop]
     rfl
    refine (zcg (r:=[oS (.str s.nm)]) (a:=none) (f:=fun d=>.tup [.str s.nm,d]) e0 (by rw [qe,List.length_drop];exact szN (k:=40) (by omega) (by decide)) rfl fun x hx=>zfQ rfl rfl).trans ?_
    rw [qm,qm]
    rfl
   refine ⟨_,_,rfl,zmF rfl e (by rw [qe];exact hlen),ps++(ss.drop (i+1)).map (fun t=>(s,t)),_,_,rfl,?_⟩
   rw [← hps,hdr,qv]
   rfl)
 rw [List.length_mapIdx,qe,qe,List.drop_length] at h3
 have h4:ps=prS ss:=by rw [← h3];simp [prS]
 rw [h4] at h2
 exact za1 [oS (.lst ((ss.map (·.nm)).map D.str)),none,none,none] rfl (zpd.trans ((zhZ ((zgV (xs:=((ss.map (·.nm)).map D.str).mapIdx fun i d=>D.tup [.int i,d]) rfl).trans (h1.trans (by rw [h2])))).trans ((zpo rfl).trans (zaZ (f:=vSh 1) rfl))))
end
section
variable {bs:List BenchT}
theorem zry {x y:List D} (h:x.length+y.length<=sizeLine):zbY (.lst x) (.lst y)=some (.lst (x++y)):=qV h
end
def ztw (ls:List LinkT) (a b:Str):Option LinkT:=ls.find? fun l=>decide (l.a=a/\l.b=b)
def wrp (m:Str):StepT:=⟨m,m,[]⟩
def zle (ms:List Str) (a b:Str):Bool:=(prS (ms.map wrp)).any fun p=>decide (p.1.nm=a/\p.2.nm=b)
def zgg (js:List JobT) (ls:List LinkT) (a b:Str):Option Int:=match ztw ls a b with
 | some l=>some l.g
 | none=>if (js.any fun j=>j.od && zle j.ms a b)=true then some 0 else none
theorem ze3 {body:FS} {x:D} {xs:List D} {ρ2:zaI} {R:Option (Fl×zaI)} (h1:gg x ρ=some ρ1) (h2:body ρ1=some (.nx,ρ2)) (h3:zfI gg body xs ρ2=R):zfI gg body (x::xs) ρ=R:=by
 rw [← h3]
 unfold zfI
 rw [h1,qa,h2,qa]
 cases xs <;> rfl
abbrev kk (a b:Str):List Key:=[.inr a,.inr b]
theorem zkP {a b c d:Str} :kk a b=kk c d↔a=c/\b=d:=by simp [kk]
def znp (acc:List (List Key×D)) (p:StepT×StepT):List (List Key×D):=zhg acc (kk p.1.nm p.2.nm) (.int 0)
def zfs (acc:List (List Key×D)) (j:JobT):List (List Key×D):=if j.od=true then (prS (j.ms.map wrp)).foldl znp acc else acc
def zrH (acc:List (List Key×D)) (l:LinkT):List (List Key×D):=zhg acc (kk l.a l.b) (.int l.g)
theorem zjP:∀ (ps:List (StepT×StepT)) (acc:List (List Key×D)),(ps.foldl znp acc).length<=acc.length+ps.length
 | [],acc=>qu _
 | p::r,acc=>by
  have:=zjP r (znp acc p)
  have:=zfF acc (kk p.1.nm p.2.nm) (.int 0)
  rw [List.foldl_cons,qh]
  unfold znp at *
  omega
theorem vP (a b:Str):∀ (ps:List (StepT×StepT)) (acc:List (List Key×D)),zdY (ps.foldl znp acc) (kk a b)=if (ps.any fun p=>decide (p.1.nm=a/\p.2.nm=b))=true then some (.int 0) else zdY acc (kk a b)
 | [],acc=>rfl
 | p::r,acc=>by
  rw [List.foldl_cons,vP a b r,List.any_cons]
  unfold znp
  rw [zg4]
  by_cases h:p.1.nm=a/\p.2.nm=b
  ·rw [qV (zkP.mpr ⟨h.1.symm,h.2.symm⟩),qR h]
   show (if _ then _ else _)=some (D.int 0)
   split <;> rfl
  ·rw [qW (fun z=>h ⟨(zkP.mp z).1.symm,(zkP.mp z).2.symm⟩),qM h]
   rfl
theorem vJ (a b:Str):∀ (js:List JobT) (acc:List (List Key×D)),zdY (js.foldl zfs acc) (kk a b)=if (js.any fun j=>j.od && zle j.ms a b)=true then some (.int 0) else zdY acc (kk a b)
 | [],acc=>rfl
 | j::r,acc=>by
  rw [List.foldl_cons,vJ a b r,List.any_cons]
  unfold zfs zle
  by_cases h:j.od=true
  ·rw [qV h,vP,h,Bool.true_and]
   cases ((prS (j.ms.map wrp)).any fun p=>decide (p.1.nm=a/\p.2.nm=b))
   ·rfl
   ·show (if _ then _ else some (D.int 0))=some (D.int 0)
    split <;> rfl
  ·have h':j.od=false:=by simpa using h
   rw [qW h,h']
   rfl
theorem vL (a b:Str):∀ (ls:List LinkT) (acc:List (List Key×D)),(ls.map fun l=>[l.a,l.b]).Nodup->zdY (ls.foldl zrH acc) (kk a b)=match ztw ls a b with | some l=>some (.int l.g) | none=>zdY acc (kk a b)
 | [],acc,_=>rfl
 | l::r,acc,nd=>by
  rw [ql,List.nodup_cons] at nd
  rw [List.foldl_cons,vL a b r _ nd.2]
  unfold zrH ztw
  rw [zg4,List.find?_cons]
  by_cases h:l.a=a/\l.b=b
  ·rw [qV (zkP.mpr ⟨h.1.symm,h.2.symm⟩),qR h]
   have:r.find? (fun l=>decide (l.a=a/\l.b=b))=none:=by
    rw [List.find?_eq_none]
    intro x hx z
    have z:=of_decide_eq_true z
    exact nd.1 (List.mem_map.mpr ⟨x,hx,by rw [z.1,z.2,h.1,h.2]⟩)
   rw [this]
  ·rw [qW (fun z=>h ⟨(zkP.mp z).1.symm,(zkP.mp z).2.symm⟩),qM h]
section
variable {bs:List BenchT}
theorem zi8 (g:Good bs ss js us ls ks h):zcl [zav bs ss js us ls ks h]=some (.lst (js.map zbE)):=by
 have hl:(ss.map (·.nm)).length<=40:=by rw [qe];exact g.sl.2
 have hp:Pl 8 (.lst (js.map zbE)):=zdr (by have:=g.jl;omega) fun x hx=>zlL (n:=4) hl (g.j x hx)
 exact za1 [oS (zav bs ss js us ls ks h)] rfl (zaZ (zcc (zaA (zfh 2 rfl rfl) za7) (zdC hp)))
theorem zif (g:Good bs ss js us ls ks h):zb8 [zav bs ss js us ls ks h]=some (.lst (ls.map zbu)):=by
 have hp:Pl 8 (.lst (ls.map zbu)):=zdr (by have:=g.ll;omega) fun x hx=>zlK (n:=5)
 exact za1 [oS (zav bs ss js us ls ks h)] rfl (zaZ (zcc (zaA (zfh 4 rfl rfl) za7) (zdC hp)))
theorem zrN (ms:List Str):(ms.map wrp).map (·.nm)=ms:=by
 rw [qm]
 exact List.map_id _
theorem zsy (ms:List Str) (hl:ms.length<=40):zcM [.lst (ms.map D.str)]=some (.lst ((prS (ms.map wrp)).map dP)):=by
 have:=zn6 (ms.map wrp) (by rw [qe];exact hl)
 rw [zrN] at this
 exact this
theorem zv4 {acc:List (List Key×D)} {p:StepT×StepT} (hl:acc.length < 100000):zev 1 (vSh 3) (vC (.int 0)) [S,some (.odt acc),x2,oS (dP p),x4,x5,x6]=some (.nx,[S,some (.odt (znp acc p)),x2,oS (dP p),x4,x5,x6]):=qV hl
theorem zmz {S x2 x4 x5 x6:Option Slot}:∀ (ps:List (StepT×StepT)) (acc:List (List Key×D)) (z:Option Slot),acc.length+ps.length < 100000->∃ z',zfI (zau 3) (zev 1 (vSh 3) (vC (.int 0))) (ps.map dP) [S,some (.odt acc),x2,z,x4,x5,x6]=some (.nx,[S,some (.odt (ps.foldl znp acc)),x2,z',x4,x5,x6])
 | [],acc,z,_=>⟨z,rfl⟩
 | p::r,acc,z,hl=>by
  rw [qh] at hl
  have h1:=zfF acc (kk p.1.nm p.2.nm) (.int 0)
  obtain ⟨z',hz⟩:=zmz (S:=S) (x2:=x2) (x4:=x4) (x5:=x5) (x6:=x6) r (znp acc p) (oS (dP p)) (by unfold znp;omega)
  exact ⟨z',ze3 rfl (zv4 (by omega)) hz⟩
def gjB:FS:=sIf (toB (b2 ixD (vSh 2) (vC (.int 3)))) (zcS (itF (cF zcM (zac (b2 ixD (vSh 2) (vC (.int 4))) zai))) (zau 3) (zev 1 (vSh 3) (vC (.int 0)))) zbd
theorem zqR {A B:FS} (h:ft ρ=some false):sIf ft A B ρ=B ρ:=by
 unfold sIf;rw [h,qa,qW qq]
theorem ztt {A B:FS} (h:ft ρ=some true):sIf ft A B ρ=A ρ:=by
 unfold sIf;rw [h,qa,qV rfl]
theorem zu4 {a b c e:D} :ixD (.tup [a,b,c,d,e]) (.int 3)=some d:=rfl
theorem zj7 {S x4 x5 x6:Option Slot}:∀ (js:List JobT) (acc:List (List Key×D)) (y z:Option Slot),(∀ j∈js,j.ms.length<=40)->acc.length+js.length*1600 < 90000->∃ y' z',zfI (zau 2) gjB (js.map zbE) [S,some (.odt acc),y,z,x4,x5,x6]=some (.nx,[S,some (.odt (js.foldl zfs acc)),y',z',x4,x5,x6])/\(js.foldl zfs acc).length<=acc.length+js.length*1600
 | [],acc,y,z,_,_=>⟨y,z,rfl,Nat.le_add_right _ _⟩
 | j::r,acc,y,z,hm,hl=>by
  rw [qh,Nat.succ_mul] at hl
  have hj:=hm j qf
  have hpl:=zi0 (ss:=j.ms.map wrp) (n:=40) (by rw [qe];exact hj)
  rw [qe] at hpl
  have h40:j.ms.length*40<=1600:=by omega
  have eT:toB (b2 ixD (vSh 2) (vC (.int 3))) [S,some (.odt acc),oS (zbE j),z,x4,x5,x6]=some j.od:=zbF (zc8 rfl rfl zu4)
  have key:∃ z1,gjB [S,some (.odt acc),oS (zbE j),z,x4,x5,x6]=some (.nx,[S,some (.odt (zfs acc j)),oS (zbE j),z1,x4,x5,x6])/\(zfs acc j).length<=acc.length+1600:=by
   by_cases ho:j.od=true
   ·rw [ho] at eT
    obtain ⟨z1,hz⟩:=zmz (S:=S) (x2:=oS (zbE j)) (x4:=x4) (x5:=x5) (x6:=x6) (prS (j.ms.map wrp)) acc z (by omega)
    have eI:itF (cF zcM (zac (b2 ixD (vSh 2) (vC (.int 4))) zai)) [S,some (.odt acc),oS (zbE j),z,x4,x5,x6]=some ((prS (j.ms.map wrp)).map dP):=by
     unfold itF
     rw [zcc (zaA (zc8 rfl rfl zrI) za7) (zsy j.ms hj)]
     rfl
    have hP:=zjP (prS (j.ms.map wrp)) acc
    unfold zfs
    rw [qV ho]
    exact ⟨z1,(ztt eT).trans ((zgV eI).trans hz),by omega⟩
   ·have ho':j.od=false:=by simpa using ho
    rw [ho'] at eT
    unfold zfs
    rw [qW ho]
    exact ⟨z,zqR eT,by omega⟩
  obtain ⟨z1,hk,hkl⟩:=key
  obtain ⟨y',z',hr,hrl⟩:=zj7 (S:=S) (x4:=x4) (x5:=x5) (x6:=x6) r (zfs acc j) (oS (zbE j)) z1 (fun x hx=>hm x (qg _ hx)) (by omega)
  exact ⟨y',z',ze3 rfl hk hr,by rw [List.foldl_cons,qh,Nat.succ_mul];omega⟩
theorem zig {S x2 x3:Option Slot}:∀ (ls:List LinkT) (acc:List (List Key×D)) (a b c:Option Slot),acc.length+ls.length < 100000->∃ a' b' c',zfI (zbS 3 (zaq (zau 4) (zaq (zau 5) (zaq (zau 6) zbN)))) (zev 1 (zbJ (szF (zac (vSh 4) (zac (vSh 5) zai)))) (vSh 6)) (ls.map zbu) [S,some (.odt acc),x2,x3,a,b,c]=some (.nx,[S,some (.odt (ls.foldl zrH acc)),x2,x3,a',b',c'])
 | [],acc,a,b,c,_=>⟨a,b,c,rfl⟩
 | l::r,acc,a,b,c,hl=>by
  rw [qh] at hl
  have h1:=zfF acc (kk l.a l.b) (.int l.g)
  obtain ⟨a',b',c',hz⟩:=zig (S:=S) (x2:=x2) (x3:=x3) r (zrH acc l) (oS (.str l.a)) (oS (.str l.b)) (oS (.int l.g)) (by unfold zrH;omega)
  refine ⟨a',b',c',ze3 (ρ1:=[S,some (.odt acc),x2,x3,oS (.str l.a),oS (.str l.b),oS (.int l.g)]) rfl ?_ hz⟩
  have e1:zbJ (szF (zac (vSh 4) (zac (vSh 5) zai))) [S,some (.odt acc),x2,x3,oS (.str l.a),oS (.str l.b),oS (.int l.g)]=some (.tup [.str l.a,.str l.b]):=zfQ rfl rfl
  unfold zev
  rw [e1]
  exact qV (by omega)
theorem zqV (g:Good bs ss js us ls ks h):∃ kvs,zcQ [zav bs ss js us ls ks h]=some (.dt kvs)/\∀ a b,zdY kvs (kk a b)=(zgg js ls a b).map D.int:=by
 have hm:∀ j∈js,j.ms.length<=40:=fun j hj=>by
  have:=(g.j j hj).ln
  rw [qe] at this
  have:=g.sl.2
  omega
 have hjl:=g.jl
 have hll:=g.ll
 obtain ⟨y',z',h1,hl1⟩:=zj7 (S:=oS (zav bs ss js us ls ks h)) (x4:=none) (x5:=none) (x6:=none) js [] none none hm (by rw [qk];omega)
 rw [qk] at hl1
 obtain ⟨a',b',c',h2⟩:=zig (S:=oS (zav bs ss js us ls ks h)) (x2:=y') (x3:=z') ls (js.foldl zfs []) none none none (by omega)
 refine ⟨ls.foldl zrH (js.foldl zfs []),?_,fun a b=>?_⟩
 ·have e1:itF (zdW "Shop" "job_rows" zcl (vSh 0) zai) [oS (zav bs ss js us ls ks h),some (.odt []),none,none,none,none,none]=some (js.map zbE):=by
   unfold itF
   rw [zea (by decide +kernel) rfl za7 (zi8 g)]
   rfl
  have e2:itF (zdW "Shop" "link_rows" zb8 (vSh 0) zai) [oS (zav bs ss js us ls ks h),some (.odt (js.foldl zfs [])),y',z',none,none,none]=some (ls.map zbu):=by
   unfold itF
   rw [zea (by decide +kernel) rfl za7 (zif g)]
   rfl
  exact za1 [oS (zav bs ss js us ls ks h),none,none,none,none,none,none] rfl ((zhZ (ρ1:=[oS (zav bs ss js us ls ks h),some (.odt []),none,none,none,none,none]) rfl).trans ((zhZ ((zgV e1).trans h1)).trans ((zhZ ((zgV e2).trans h2)).trans (zaZ (f:=vSh 1) rfl))))
 ·rw [vL a b ls _ g.ln,vJ]
  unfold zgg
  cases ztw ls a b with
  | some l=>rfl
  | none =>
   show (if _ then _ else _)=_
   cases (js.any fun j=>j.od && zle j.ms a b) <;> rfl
end
abbrev GT:=Str×Str×Int
def dGp (t:GT):D:=.tup [.str t.1,.str t.2.1,.int t.2.2]
def ziJ (js:List JobT) (ls:List LinkT) (nms:List Str) (a:Str):List GT:=nms.filterMap fun b=>(zgg js ls a b).map fun g=>(a,b,g)
theorem zjM (js:List JobT) (ls:List LinkT) (nms:List Str) (a:Str):(ziJ js ls nms a).length<=nms.length:=List.length_filterMap_le _ _
theorem zhf (js:List JobT) (ls:List LinkT) (nms:List Str):∀ xs:List Str,(xs.flatMap (ziJ js ls nms)).length<=xs.length*nms.length
 | []=>by simp
 | x::r=>by
  have:=zhf js ls nms r
  have:=zjM js ls nms x
  rw [List.flatMap_cons,qi,qh,Nat.succ_mul]
  omega
def pG (js:List JobT) (ls:List LinkT) (a:Str):D->Bool
 | .str b=>(zgg js ls a b).isSome
 | _=>false
def fG (js:List JobT) (ls:List LinkT) (a:Str):D->D
 | .str b=>.tup [.str a,.str b,.int ((zgg js ls a b).getD 0)]
 | _=>.non
theorem zo4 (js:List JobT) (ls:List LinkT) (a:Str):∀ nms:List Str,((nms.map D.str).filter (pG js ls a)).map (fG js ls a)=(ziJ js ls nms a).map dGp
 | []=>rfl
 | b::r=>by
  have ih:=zo4 js ls a r
  unfold ziJ at ih ⊢
  rw [ql,List.filter_cons,List.filterMap_cons]
  cases e:zgg js ls a b with
  | none =>
   have e1:pG js ls a (.str b)=false:=by show (zgg js ls a b).isSome=false;rw [e];rfl
   rw [e1]
   exact ih
  | some q =>
   have e1:pG js ls a (.str b)=true:=by show (zgg js ls a b).isSome=true;rw [e];rfl
   have e2:fG js ls a (.str b)=dGp (a,b,q):=by show D.tup [.str a,.str b,.int ((zgg js ls a b).getD 0)]=_;rw [e];rfl
   rw [e1]
   show fG js ls a (.str b)::_=dGp (a,b,q)::_
   rw [e2]
   exact congrArg _ ih
section
variable {bs:List BenchT}
theorem ztR {r:zaI} {a:Option Slot} {xs:List D} {f:D->D} {p:D->Bool} (h1:fi ρ=some xs) (h2:xs.length<=sizeLine) (h3:zeA fv ρ=a::r) (h:∀ x∈xs,ft (oS x::r)=some (p x)/\(p x=true->fe (oS x::r)=some (f x))) :
  zaw fi (zau 0) ft fe fv ρ=some ((xs.filter p).map f):=by
 simp only [zaw,h1,qa,qV h2,h3,zpx (a:=a) h]
theorem zgR {fr:FA} {ys:List D} (h:fr ρ=some ys):zbb fr ρ=some (.lst ys):=by unfold zbb;rw [h];rfl
theorem koT {kvs:List (List Key×D)} (hv:∀ a b,zdY kvs (kk a b)=(zgg js ls a b).map D.int) {a:Str} {nms:List Str} {o:Option Slot} (hl:nms.length<=40) :
  zbb (zaw (itF (vSh 1)) (zau 0) (toB (b2 ztI (zbJ (szF (zac (vSh 1) (zac (vSh 0) zai)))) (vSh 2))) (zbJ (szF (zac (vSh 1) (zac (vSh 0) (zac (b2 zjh (vSh 2) (zbJ (szF (zac (vSh 1) (zac (vSh 0) zai))))) zai))))) [none,some 4,some 2]) [S,oS (.lst (nms.map D.str)),oS (.dt kvs),o,oS (.str a)]=some (.lst ((ziJ js ls nms a).map dGp)):=by
 rw [← zo4]
 refine zgR (ztR (r:=[oS (.str a),oS (.dt kvs)]) (a:=none) rfl (by rw [qe];exact szN hl (by decide)) rfl fun x hx=>?_)
 obtain ⟨b,_,rfl⟩:=List.mem_map.mp hx
 have e1:zbJ (szF (zac (vSh 1) (zac (vSh 0) zai))) [oS (.str b),oS (.str a),oS (.dt kvs)]=some (.tup [.str a,.str b]):=zfQ rfl rfl
 refine ⟨zbF (zc8 e1 rfl ?_),fun hp=>?_⟩
 ·show some (D.bl (zdY kvs (kk a b)).isSome)=some (.bl (zgg js ls a b).isSome)
  rw [hv,Option.isSome_map]
 ·have hp':(zgg js ls a b).isSome=true:=hp
  obtain ⟨q,hq⟩:=Option.isSome_iff_exists.mp hp'
  refine zpH rfl rfl (zc8 rfl e1 ?_)
  show (some (zdY kvs (kk a b))).bind id=some (.int ((zgg js ls a b).getD 0))
  rw [hv,hq]
  rfl
theorem zom (g:Good bs ss js us ls ks h):zcu [zav bs ss js us ls ks h]=some (.lst (((ss.map (·.nm)).flatMap (ziJ js ls (ss.map (·.nm)))).map dGp)):=by
 obtain ⟨kvs,hk,hv⟩:=zqV g
 have hl:(ss.map (·.nm)).length<=40:=by rw [qe];exact g.sl.2
 have hN:=zg8 (bs:=bs) (ss:=ss) (js:=js) (us:=us) (ls:=ls) (ks:=ks) (h:=h) g.sl.2
 obtain ⟨ρ',h1,z,h2⟩:=zgj (gg:=zau 4) (body:=(zld 3 (zbb (zaw (itF (vSh 1)) (zau 0) (toB (b2 ztI (zbJ (szF (zac (vSh 1) (zac (vSh 0) zai)))) (vSh 2))) (zbJ (szF (zac (vSh 1) (zac (vSh 0) (zac (b2 zjh (vSh 2) (zbJ (szF (zac (vSh 1) (zac (vSh 0) zai))))) zai))))) [none,some 4,some 2])))) (xs:=(ss.map (·.nm)).map D.str) (ρ:=[oS (zav bs ss js us ls ks h),oS (.lst ((ss.map (·.nm)).map D.str)),oS (.dt kvs),some (.own []),none])
  (fun i ρ=>∃ z,ρ=[oS (zav bs ss js us ls ks h),oS (.lst ((ss.map (·.nm)).map D.str)),oS (.dt kvs),some (.own ((((ss.map (·.nm)).take i).flatMap (ziJ js ls (ss.map (·.nm)))).map dGp)),z]) ⟨none,rfl⟩ (fun i x ρ hx hI=>by
   obtain ⟨z,rfl⟩:=hI
   rw [qj] at hx
   obtain ⟨a,hp,rfl⟩:=oMd hx
   have tk:((ss.map (·.nm)).take (i+1)).flatMap (ziJ js ls (ss.map (·.nm)))=((ss.map (·.nm)).take i).flatMap (ziJ js ls (ss.map (·.nm)))++ziJ js ls (ss.map (·.nm)) a:=by
    rw [List.take_add_one,hp,List.flatMap_append]
    simp
   have r1:=zhf js ls (ss.map (·.nm)) ((ss.map (·.nm)).take i)
   have r2:=zjM js ls (ss.map (·.nm)) a
   have r3:((ss.map (·.nm)).take i).length<=40:=qL (List.length_take_le' _ _) hl
   have r4:((ss.map (·.nm)).take i).length*(ss.map (·.nm)).length<=40*40:=Nat.mul_le_mul r3 hl
   refine ⟨_,_,rfl,zmF rfl (koT hv hl) (by omega),oS (.str a),?_⟩
   rw [tk]
   rfl)
 rw [qe,List.take_length] at h2
 subst h2
 exact za1 [oS (zav bs ss js us ls ks h),none,none,none,none] rfl ((zfd (zea (by decide +kernel) rfl za7 hN)).trans ((zfd (zcc (zaA rfl za7) hk)).trans (zpd.trans ((zhZ ((zgV rfl).trans h1)).trans ((zpo rfl).trans (zaZ rfl))))))
end
section
variable {bs:List BenchT}
theorem zg5 {α:Type} {nm:α->Str} {f:α->D}:∀ {xs:List α} {s:α},(xs.map nm).Nodup->s∈xs->zdY (xs.map fun x=>((.inr (nm x):Key),f x)) (.inr (nm s))=some (f s)
 | [],s,_,hs=>by cases hs
 | x::r,s,nd,hs=>by
  rw [ql,List.nodup_cons] at nd
  unfold zdY
  rw [ql,List.find?_cons]
  by_cases e:nm x=nm s
  ·have hxs:s=x:=by
    rcases List.mem_cons.mp hs with q | q
    ·exact q
    ·exact absurd (qU (f:=nm) q) (by rw [← e];exact nd.1)
   subst hxs
   simp
  ·have hs':s∈r:=by
    rcases List.mem_cons.mp hs with q | q
    ·subst q;exact absurd rfl e
    ·exact q
   have hne:¬ ((.inr (nm x):Key)=.inr (nm s)):=fun z=>e (Sum.inr.inj z)
   simp only [qM hne]
   exact zg5 nd.2 hs'
theorem znr {s:StepT} (g:Good bs ss js us ls ks h) (hs:s∈ss):zdb [zav bs ss js us ls ks h,.str s.nm]=some (.lst (s.ws.map dW)):=by
 have gs:=g.s s hs
 refine za1 [oS (zav bs ss js us ls ks h),oS (.str s.nm)] rfl (zaZ (zcc (zaA (zc8 (zc8 (x:=.dk (ss.map fun s=>(.inr s.nm,zaH s))) (z:=zaH s) (zfh 8 rfl rfl) rfl ?_) rfl zrJ) za7) (zdC (zug (by have:=gs.l4;omega)))))
 show zdY (ss.map fun s=>((.inr s.nm:Key),zaH s)) (.inr s.nm)=_
 exact zg5 g.sn hs
theorem zil (j:JobT) (m:Str):∀ (ms:List Str) (acc:List (Key×D)),zdY (ms.foldl (zkH j) acc) (.inr m)=if m∈ms then some (zbE j) else zdY acc (.inr m)
 | [],acc=>by simp
 | x::r,acc=>by
  rw [List.foldl_cons,zil j m r]
  by_cases h1:m∈r
  ·rw [qV h1,qV (qg _ h1)]
  ·rw [qW h1]
   unfold zkH
   rw [zg4]
   by_cases h2:m=x
   ·subst h2;rw [qV rfl,qV qf]
   ·have:¬ ((.inr m:Key)=.inr x):=fun z=>h2 (Sum.inr.inj z)
    rw [qW this,qW]
    intro z
    rcases List.mem_cons.mp z with q | q
    ·exact h2 q
    ·exact h1 q
def zgA (js:List JobT) (m:Str):Option JobT:=js.find? fun j=>decide (m∈j.ms)
theorem zms (m:Str):∀ (js:List JobT) (acc:List (Key×D)),(js.flatMap (·.ms)).Nodup->zdY (js.foldl (fun acc j=>j.ms.foldl (zkH j) acc) acc) (.inr m)=match zgA js m with | some j=>some (zbE j) | none=>zdY acc (.inr m)
 | [],acc,_=>rfl
 | j::r,acc,nd=>by
  rw [List.flatMap_cons,List.nodup_append] at nd
  rw [List.foldl_cons,zms m r _ nd.2.1,zil]
  unfold zgA
  rw [List.find?_cons]
  by_cases h1:m∈j.ms
  ·have:r.find? (fun j=>decide (m∈j.ms))=none:=by
    rw [List.find?_eq_none]
    intro x hx z
    exact nd.2.2 m h1 m (List.mem_flatMap.mpr ⟨x,hx,of_decide_eq_true z⟩) rfl
   simp only [qR h1,this,qV h1]
  ·simp only [qM h1,qW h1]
def zuW:Option JobT->D
 | some j=>zbE j
 | none=>.non
theorem zmr {j:JobT} (h:zgA js m=some j):j∈js/\m∈j.ms:=⟨List.mem_of_find?_eq_some h,by
 have:=List.find?_some h
 exact of_decide_eq_true this⟩
theorem zmq (g:Good bs ss js us ls ks h) (m:Str):zcJ [zav bs ss js us ls ks h,.str m]=some (zuW (zgA js m)):=by
 have hl:(ss.map (·.nm)).length<=40:=by rw [qe];exact g.sl.2
 have hp:Pl 8 (zuW (zgA js m)):=by
  cases e:zgA js m with
  | none=>trivial
  | some j=>exact zlL hl (g.j j (zmr e).1)
 refine za1 [oS (zav bs ss js us ls ks h),oS (.str m)] rfl (zaZ (zcc (zaA (zc8 (x:=.dk (jkv js)) (zfh 10 rfl rfl) rfl ?_) za7) (zdC hp)))
 show some ((zdY (jkv js) (.inr m)).getD .non)=_
 unfold jkv
 rw [zms m js [] g.jm]
 cases zgA js m <;> rfl
def zf8 (s:StepT):Int:=mnI (s.ws.map (·.2))
def zhv (js:List JobT) (h:Int) (m:Str):Int:=match zgA js m with
 | some j=>j.du
 | none=>h
def zbz (js:List JobT) (h:Int) (r:Str) (s:StepT):Int:=if r="long" then -zf8 s else if r="due" then zhv js h s.nm else if r="slack" then zhv js h s.nm - zf8 s else 0
theorem zj3 (ws:List (Str×Int)) (h1:1<=ws.length) (h4:ws.length<=4) (hf:fo ρ=some (.lst (ws.map dW))) (h3:zeA fv ρ=[none,none]):cF zs5 (zac (zbb (zaw (itF fo) (zbS 2 (zaq (zau 0) (zaq (zau 1) zbN))) tT (vSh 1) fv)) zai) ρ=some (.int (mnI (ws.map (·.2)))):=by
 have g:∀ (ws:List (Str×Int)) (a b:Option Slot),zbr (zbS 2 (zaq (zau 0) (zaq (zau 1) zbN))) tT (vSh 1) (ws.map dW) [a,b]=some ((ws.map (·.2)).map D.int):=by
  intro ws
  induction ws with
  | nil=>intro a b;rfl
  | cons w r ih =>
   intro a b
   have e:zbr (zbS 2 (zaq (zau 0) (zaq (zau 1) zbN))) tT (vSh 1) ((w::r).map dW) [a,b]=(zbr (zbS 2 (zaq (zau 0) (zaq (zau 1) zbN))) tT (vSh 1) (r.map dW) [oS (.str w.1),oS (.int w.2)]).map (D.int w.2::·):=rfl
   rw [e,ih]
   rfl
 have it:∀ l:List Int,zi9 (l.map D.int)=some l:=by
  intro l
  induction l with
  | nil=>rfl
  | cons x r ih=>show (zi9 (r.map D.int)).map _=_;rw [ih];rfl
 have c:zbb (zaw (itF fo) (zbS 2 (zaq (zau 0) (zaq (zau 1) zbN))) tT (vSh 1) fv) ρ=some (.lst ((ws.map (·.2)).map D.int)):=by
  refine zgR ?_
  have i0:itF fo ρ=some (ws.map dW):=by unfold itF;rw [hf];rfl
  simp only [zaw,i0,qa,h3]
  rw [qV (by rw [qe];unfold sizeLine;omega),g]
 refine zcc (zaA c za7) ?_
 show (zi9 _).bind _=_
 rw [it]
 show (if ws.map (·.2)=[] then none else _)=_
 rw [qW (by intro z;rw [List.map_eq_nil_iff.mp z] at h1;simp at h1)]
theorem zog {s:StepT} (g:Good bs ss js us ls ks h) (hs:s∈ss):zct [zav bs ss js us ls ks h,.str s.nm]=some (.int (zf8 s)) :=
 za1 [oS (zav bs ss js us ls ks h),oS (.str s.nm)] rfl (zaZ (zj3 s.ws (g.s s hs).l1 (g.s s hs).l4 (zea (by decide +kernel) rfl (zaA rfl za7) (znr g hs)) rfl))
theorem zqJ:zbH [zav bs ss js us ls ks h]=some (.int h):=by
 unfold zbH
 exact za1 [oS (zav bs ss js us ls ks h)] rfl (zaZ (zfh (bs:=bs) (ss:=ss) (js:=js) (us:=us) (ls:=ls) (ks:=ks) (h:=h) (fo:=vSh 0) 6 rfl rfl))
theorem ztD (g:Good bs ss js us ls ks h) (m:Str):zcY [zav bs ss js us ls ks h,.str m]=some (.int (zhv js h m)):=by
 have j:=zea (F:=zcJ) (fo:=vSh 0) (fr:=zac (vSh 1) zai) (ρ:=[oS (zav bs ss js us ls ks h),oS (.str m),none]) (m:="job_of") (by decide +kernel) rfl (zaA rfl za7) (zmq g m)
 refine za1 [oS (zav bs ss js us ls ks h),oS (.str m),none] rfl ((zfd j).trans (zaZ ?_))
 unfold zhv
 cases zgA js m with
 | none =>
  show ifD (toB (b2 isD (vSh 2) (vC .non))) _ _ _=_
  unfold ifD
  have:toB (b2 isD (vSh 2) (vC .non)) ([oS (zav bs ss js us ls ks h),oS (.str m),none].set 2 (oS (zuW none)))=some true:=rfl
  rw [this,qa,qV rfl]
  exact zea (by decide +kernel) rfl za7 zqJ
 | some j=>rfl
def zdy:List Str:=["told","long","due","slack"]
theorem zpY {s:StepT} (g:Good bs ss js us ls ks h) (hs:s∈ss) (hr:r∈zdy):zbs [zav bs ss js us ls ks h,.str r,.str s.nm]=some (.int (zbz js h r s)):=by
 have le:=zog g hs
 have du:=ztD g s.nm
 have ne1:("told":Str)≠"long"/\("told":Str)≠"due"/\("told":Str)≠"slack"/\("due":Str)≠"long"/\("slack":Str)≠"long"/\("slack":Str)≠"due":=by decide +kernel
 have q:∀ c:Str,toB (b2 eqD (vSh 1) (vC (.str c))) [oS (zav bs ss js us ls ks h),oS (.str r),oS (.str s.nm)]=some (decide (r=c)):=fun c=>rfl
 unfold zbz
 simp only [zdy,qK,qI,or_false] at hr
 rcases hr with rfl | rfl | rfl | rfl
 ·rw [qW ne1.1,qW ne1.2.1,qW ne1.2.2.1]
  unfold zbs
  refine za1 (ρ':=[oS (zav bs ss js us ls ks h),oS (.str "told"),oS (.str s.nm)]) [oS (zav bs ss js us ls ks h),oS (.str "told"),oS (.str s.nm)] rfl ?_
  exact ((zbD ((q _).trans (by rw [qM ne1.1]))).trans ((zbD ((q _).trans (by rw [qM ne1.2.1]))).trans ((zbD ((q _).trans (by rw [qM ne1.2.2.1]))).trans (zaZ (f:=vC (.int 0)) (d:=.int 0) rfl))))
 ·rw [qV rfl]
  refine za1 [oS (zav bs ss js us ls ks h),oS (.str "long"),oS (.str s.nm)] rfl (zfR ((q _).trans (by rw [qR rfl])) (zaZ ?_))
  unfold b1
  rw [zcc (zaA rfl (zaA rfl za7)) le]
  rfl
 ·rw [qW ne1.2.2.2.1,qV rfl]
  exact za1 [oS (zav bs ss js us ls ks h),oS (.str "due"),oS (.str s.nm)] rfl ((zbD ((q _).trans (by rw [qM ne1.2.2.2.1]))).trans (zfR ((q _).trans (by rw [qR rfl])) (zaZ (zcc (zaA rfl (zaA rfl za7)) du))))
 ·rw [qW ne1.2.2.2.2.1,qW ne1.2.2.2.2.2,qV rfl]
  exact za1 [oS (zav bs ss js us ls ks h),oS (.str "slack"),oS (.str s.nm)] rfl ((zbD ((q _).trans (by rw [qM ne1.2.2.2.2.1]))).trans ((zbD ((q _).trans (by rw [qM ne1.2.2.2.2.2]))).trans (zfR ((q _).trans (by rw [qR rfl])) (zaZ (zc8 (zcc (zaA rfl (zaA rfl za7)) du) (zcc (zaA rfl (zaA rfl za7)) le) rfl)))))
end
section
variable {bs:List BenchT}
def zps (m:Str) (d:Int) (js:List JobT):Int:=js.foldl (fun d j=>if m∈j.ms then j.du else d) d
theorem ziq {m:Str}:∀ {js:List JobT} {d:Int},m∉js.flatMap (·.ms)->zps m d js=d
 | [],_,_=>rfl
 | j::r,d,hn=>by
  have h1:m∉j.ms:=fun z=>hn (by simp [z])
  show zps m (if m∈j.ms then j.du else d) r=d
  rw [qW h1]
  exact ziq fun z=>hn (by rw [List.flatMap_cons];exact qP _ z)
theorem zmG {m:Str} {h:Int}:∀ {js:List JobT},(js.flatMap (·.ms)).Nodup->zps m h js=zhv js h m
 | [],_=>rfl
 | j::r,nd=>by
  rw [List.flatMap_cons] at nd
  have nd':=List.nodup_append.mp nd
  show zps m (if m∈j.ms then j.du else h) r=_
  unfold zhv zgA
  by_cases hm:m∈j.ms
  ·rw [qV hm,List.find?_cons_of_pos (by exact qR hm)]
   exact ziq fun z=>nd'.2.2 m hm m z rfl
  ·rw [qW hm,List.find?_cons_of_neg (by simp [hm])]
   exact zmG nd'.2.1
abbrev rE (P:D) (r:Str) (s:StepT) (d:Int) (a b c e f g:Option Slot):zaI:=[oS P,oS (.str r),oS (zaH s),oS (.int d),a,b,c,e,f,g]
theorem zoc {s:StepT} (g:Good bs ss js us ls ks h) (hs:s∈ss) (hr:r∈zdy):Wp (zdo [zcL bs ss js us ls ks h,.str r,zaH s]) fun d=>d=.int (zbz js h r s):=by
 unfold zdo
 refine zeT (zbp (w_2 (zax rfl (w_c (zbP (ixT _ 6) ?_)))))
 refine zcz (zdU (fun i ρ=>∃ a b c e f,ρ=rE (zcL bs ss js us ls ks h) r s (zps s.nm h (js.take i)) a b c e f none) (zbP (a:=js.map zbE) rfl ⟨⟨none,none,none,none,none,rfl⟩,?_,?_⟩))
 ·rintro i x ρ hx ⟨a,b,c,e,f,rfl⟩
  rw [qj] at hx
  obtain ⟨j,hj,rfl⟩:=oMd hx
  have hjm:=qO hj
  have gj:=g.j j hjm
  have tk:zps s.nm h (js.take (i+1))=if s.nm∈j.ms then j.du else zps s.nm h (js.take i):=by
   unfold zps
   rw [List.take_succ,hj,List.foldl_append]
   rfl
  refine zbP rfl (zfq (zdu (w_2 (w_2 (zax rfl (w_c (zbP (a:=.str s.nm) rfl (zax rfl (zbP (zja (ns:=j.ms) (g.s s hs).nm fun y hy=>?_) ⟨_,rfl,fun hc=>?_,fun hc=>?_⟩)))))))))
  ·obtain ⟨t,ht,e⟩:=List.mem_map.mp (gj.ms y hy)
   rw [← e];exact (g.s t ht).nm
  ·have hc:=of_decide_eq_true hc
   rw [qV hc] at tk
   exact zfe (zax rfl ⟨rfl,_,_,_,_,_,by rw [tk];rfl⟩)
  ·have hc:=of_decide_eq_false hc
   rw [qW hc] at tk
   exact zes ⟨rfl,_,_,_,_,_,by rw [tk];rfl⟩
 ·rintro ρ ⟨a,b,c,e,f,rfl⟩
  refine ⟨rfl,zbp (zbP (zj3 s.ws (g.s s hs).l1 (g.s s hs).l4 (fo:=b2 ixD (vSh 2) (vC (.int 2))) rfl rfl) ?_)⟩
  rw [qe,List.take_length,zmG g.jm]
  have e1:zvc ["told","long","due","slack"] (zac (vC (.int 0)) (zac (b2 ziQ (vC (.int 0)) (vSh 9)) (zac (vSh 3) (zac (b2 ziQ (vSh 3) (vSh 9)) zai)))) ((rE (zcL bs ss js us ls ks h) r s (zhv js h s.nm) a b c e f none).set 9 (oS (.int (mnI (s.ws.map (·.2))))))=some (.dk [(.inr "told",.int 0),(.inr "long",.int (0 - zf8 s)),(.inr "due",.int (zhv js h s.nm)),(.inr "slack",.int (zhv js h s.nm - zf8 s))]):=rfl
  refine zer (w_2 (zbP e1 (zax rfl ?_)))
  have ne1:("told":Str)≠"long"/\("told":Str)≠"due"/\("told":Str)≠"slack"/\("due":Str)≠"long"/\("slack":Str)≠"long"/\("slack":Str)≠"due":=by decide +kernel
  refine ⟨.int (zbz js h r s),?_,_,rfl,rfl⟩
  unfold zbz
  simp only [zdy,qK,qI,or_false] at hr
  rcases hr with rfl | rfl | rfl | rfl
  ·rw [qW ne1.1,qW ne1.2.1,qW ne1.2.2.1];rfl
  ·rw [qV rfl,show -zf8 s=0 - zf8 s by omega];rfl
  ·rw [qW ne1.2.2.2.1,qV rfl];rfl
  ·rw [qW ne1.2.2.2.2.1,qW ne1.2.2.2.2.2,qV rfl];rfl
end
theorem zlX (m:Str) (r:List Str) (a b:Str):zle (m::r) a b=((r.any fun t=>decide (m=a/\t=b)) || zle r a b):=by
 unfold zle
 rw [ql]
 show ((r.map wrp).map (fun t=>(wrp m,t))++prS (r.map wrp)).any _=_
 rw [List.any_append,qm,List.any_map]
 rfl
def Bef (ms:List Str) (n:Nat) (a b:Str):Prop:=∃ k,k < n/\a∈ms.take k/\ms[k]?=some b
theorem zhj {a b:Str}:∀ {ms:List Str},zle ms a b=true↔Bef ms ms.length a b
 | []=>by
  refine ⟨fun z=>(by cases z),fun ⟨k,hk,_⟩=>(by simp at hk)⟩
 | m::r=>by
  rw [zlX,Bool.or_eq_true,zhj (ms:=r)]
  constructor
  ·rintro (h | ⟨k,hk,h1,h2⟩)
   ·obtain ⟨t,ht,e⟩:=List.any_eq_true.mp h
    obtain ⟨rfl,rfl⟩:=of_decide_eq_true e
    obtain ⟨k,hk,e⟩:=List.getElem_of_mem ht
    exact ⟨k+1,by simpa using hk,by simp,by rw [qc,qB hk,e]⟩
   ·exact ⟨k+1,by simpa using hk,by rw [List.take_succ_cons];exact qg _ h1,by rw [qc];exact h2⟩
  ·rintro ⟨k,hk,h1,h2⟩
   cases k with
   | zero=>simp at h1
   | succ k =>
    rw [List.take_succ_cons] at h1
    rw [qc] at h2
    rcases List.mem_cons.mp h1 with e | h1
    ·left
     exact List.any_eq_true.mpr ⟨b,qO h2,qR ⟨e.symm,rfl⟩⟩
    ·exact .inr ⟨k,by simpa using hk,h1,h2⟩
section
variable {bs:List BenchT}
noncomputable def dPr (p:Str×Str):D:=.tup [.str p.1,.str p.2]
def AhL (ls:List LinkT) (a b:Str):Prop:=∃ l∈ls,l.a=a/\l.b=b
def AhJ (js:List JobT) (a b:Str):Prop:=∃ j∈js,j.od=true/\zle j.ms a b=true
theorem zjd {a b:Str} :(zgg js ls a b).isSome=true↔AhL ls a b\/AhJ js a b:=by
 unfold zgg ztw AhL AhJ
 cases q:ls.find? fun l=>decide (l.a=a/\l.b=b) with
 | some l =>
  have h1:=List.mem_of_find?_eq_some q
  have h2:=List.find?_some q
  simp only [decide_eq_true_eq] at h2
  exact ⟨fun _=>.inl ⟨l,h1,h2⟩,fun _=>rfl⟩
 | none =>
  have hn:=List.find?_eq_none.mp q
  by_cases hj:(js.any fun j=>j.od && zle j.ms a b)=true
  ·obtain ⟨j,h1,h2⟩:=List.any_eq_true.mp hj
   rw [Bool.and_eq_true] at h2
   exact ⟨fun _=>.inr ⟨j,h1,h2⟩,fun _=>by show (if _ then _ else _:Option Int).isSome=true;rw [qV hj];rfl⟩
  ·refine ⟨fun z=>?_,?_⟩
   ·have z:(if (js.any fun j=>j.od && zle j.ms a b)=true then some (0:Int) else none).isSome=true:=z
    rw [qW hj] at z;cases z
   ·rintro (⟨l,h1,h2⟩ | ⟨j,h1,h2,h3⟩)
    ·exact absurd (qR h2) (hn l h1)
    ·exact absurd (List.any_eq_true.mpr ⟨j,h1,by rw [h2,h3];rfl⟩) hj
theorem zrm (ls:List LinkT) (a b c:Option Slot):zbr (zbS 3 (zaq (zau 0) (zaq (zau 1) (zaq (zau 2) zbN)))) tT (zbJ (szF (zac (vSh 0) (zac (vSh 1) zai)))) (ls.map zbu) [a,b,c]=some ((ls.map fun l=>(l.a,l.b)).map dPr):=by
 induction ls generalizing a b c with
 | nil=>rfl
 | cons l r ih =>
  have e:zbr (zbS 3 (zaq (zau 0) (zaq (zau 1) (zaq (zau 2) zbN)))) tT (zbJ (szF (zac (vSh 0) (zac (vSh 1) zai)))) ((l::r).map zbu) [a,b,c]=(zbr (zbS 3 (zaq (zau 0) (zaq (zau 1) (zaq (zau 2) zbN)))) tT (zbJ (szF (zac (vSh 0) (zac (vSh 1) zai)))) (r.map zbu) [oS (.str l.a),oS (.str l.b),oS (.int l.g)]).map (dPr (l.a,l.b)::·):=rfl
  rw [e,ih]
  rfl
theorem zrk (ms os:List Str) (k:Nat) (m:Str) (hm:ms[k]?=some m) (a:Option Slot):zbr (zau 0) tT (zbJ (szF (zac (vSh 0) (zac (b2 ixD (vSh 1) (vSh 2)) zai)))) (os.map D.str) [a,oS (.lst (ms.map D.str)),oS (.int k)]=some ((os.map fun o=>(o,m)).map dPr):=by
 induction os generalizing a with
 | nil=>rfl
 | cons o r ih =>
  have ix:b2 ixD (vSh 1) (vSh 2) [oS (.str o),oS (.lst (ms.map D.str)),oS (.int k)]=some (.str m):=by
   show ixD (.lst (ms.map D.str)) (.int (k:Int))=_
   rw [ixL,qj,hm];rfl
  have t2:=zfQ (f:=vSh 0) (g:=b2 ixD (vSh 1) (vSh 2)) (ρ:=[oS (.str o),oS (.lst (ms.map D.str)),oS (.int k)]) (x:=.str o) rfl ix
  have e:zbr (zau 0) tT (zbJ (szF (zac (vSh 0) (zac (b2 ixD (vSh 1) (vSh 2)) zai)))) ((o::r).map D.str) [a,oS (.lst (ms.map D.str)),oS (.int k)]=(zbJ (szF (zac (vSh 0) (zac (b2 ixD (vSh 1) (vSh 2)) zai))) [oS (.str o),oS (.lst (ms.map D.str)),oS (.int k)]).bind fun d=>(zbr (zau 0) tT (zbJ (szF (zac (vSh 0) (zac (b2 ixD (vSh 1) (vSh 2)) zai)))) (r.map D.str) [oS (.str o),oS (.lst (ms.map D.str)),oS (.int k)]).map (d::·):=rfl
  rw [e,t2,ih]
  rfl
abbrev hE (P:D) (ps:List (Str×Str)) (a b c d e f:Option Slot):zaI:=[oS P,oS (.lst (ps.map dPr)),a,b,c,d,e,f]
theorem zrx (g:Good bs ss js us ls ks h) (j2:js.length<=2) (s8:ss.length<=8) (l3:ls.length<=100):Wp (zc0 [zcL bs ss js us ls ks h]) fun d=>∃ ps:List (Str×Str),d=.lst (ps.map dPr)/\ps.length<=1000/\∀ a b,(a,b)∈ps↔(zgg js ls a b).isSome=true:=by
 unfold zc0
 have c1:zbb (zaw (itF (b2 ixD (vSh 0) (vC (.int 4)))) (zbS 3 (zaq (zau 0) (zaq (zau 1) (zaq (zau 2) zbN)))) tT (zbJ (szF (zac (vSh 0) (zac (vSh 1) zai)))) [none,none,none]) [oS (zcL bs ss js us ls ks h),none,none,none,none,none,none,none]=some (.lst ((ls.map fun l=>(l.a,l.b)).map dPr)):=by
  refine zgR ?_
  unfold zaw
  show (if (ls.map zbu).length<=sizeLine then zbr _ _ _ (ls.map zbu) [none,none,none] else none)=_
  rw [qV (by rw [qe];unfold sizeLine;omega),zrm]
 refine zeT (zbp (zbP c1 (zcz (zdU (fun i ρ=>i<=2/\∃ (ps:List (Str×Str)) (a b c d e f:Option Slot),ρ=hE (zcL bs ss js us ls ks h) ps a b c d e f/\ps.length<=100+i*64/\∀ x y,(x,y)∈ps↔AhL ls x y\/AhJ (js.take i) x y) (zbP (a:=js.map zbE) rfl ⟨?_,?_,?_⟩)))))
 ·refine ⟨by omega,_,none,none,none,none,none,none,rfl,by rw [qe];omega,fun x y=>?_⟩
  simp only [List.mem_map,AhL,AhJ,List.take_zero,Prod.mk.injEq]
  constructor
  ·rintro ⟨l,h1,h2⟩;exact .inl ⟨l,h1,h2⟩
  ·rintro (⟨l,h1,h2⟩ | ⟨j,h1,_⟩)
   ·exact ⟨l,h1,h2⟩
   ·cases h1
 ·rintro i x ρ hx ⟨hi,ps,a,b,c,d,e,f,rfl,pl,pi⟩
  rw [qj] at hx
  obtain ⟨j,hj,rfl⟩:=oMd hx
  have hjm:=qO hj
  have gj:=g.j j hjm
  have ml:j.ms.length<=8:=by have:=gj.ln;rw [qe] at this;omega
  have hi2:i < 2:=by have:=(List.getElem?_eq_some_iff.mp hj).1;omega
  have ahs:∀ x y,AhJ (js.take (i+1)) x y↔AhJ (js.take i) x y\/(j.od=true/\zle j.ms x y=true):=by
   intro x y
   unfold AhJ
   rw [List.take_succ,hj]
   constructor
   ·rintro ⟨t,h1,h2⟩
    rcases List.mem_append.mp h1 with h1 | h1
    ·exact .inl ⟨t,h1,h2⟩
    ·obtain rfl:t=j:=by simpa using h1
     exact .inr h2
   ·rintro (⟨t,h1,h2⟩ | h2)
    ·exact ⟨t,List.mem_append_left _ h1,h2⟩
    ·exact ⟨j,qP _ (by simp),h2⟩
  refine zbP rfl (zfq (zdu (zax rfl ⟨_,rfl,fun ho=>?_,fun ho=>?_⟩)))
  ·show Wp (zcS _ _ _ (hE (zcL bs ss js us ls ks h) ps (oS (.str j.nm)) (oS (.int j.ea)) (oS (.int j.du)) (oS (.bl j.od)) (oS (.lst (j.ms.map D.str))) f)) _
   refine zdU (fun k ρ=>k<=j.ms.length/\∃ (ps':List (Str×Str)) (f:Option Slot),ρ=hE (zcL bs ss js us ls ks h) ps' (oS (.str j.nm)) (oS (.int j.ea)) (oS (.int j.du)) (oS (.bl j.od)) (oS (.lst (j.ms.map D.str))) f/\ps'.length<=ps.length+k*8/\∀ x y,(x,y)∈ps'↔(x,y)∈ps\/Bef j.ms k x y) (zg3 (zan (zfa (zan (zax rfl (zaX (zli (zaX ⟨_,rfl,by omega,by rw [qe];omega,?_,?_,?_⟩))))))))
   ·exact ⟨Nat.zero_le _,ps,f,rfl,by omega,fun x y=>⟨.inl,fun z=>z.elim id fun ⟨k,hk,_⟩=>by omega⟩⟩
   ·rintro k x ρ hx ⟨_,ps',f',rfl,pl',pi'⟩
    obtain ⟨hk,rfl⟩:=zew hx
    have hk:k < j.ms.length:=by simpa using hk
    have c2:zbb (zaw (itF (slF (vSh 6) pN (pS (vSh 7)))) (zau 0) tT (zbJ (szF (zac (vSh 0) (zac (b2 ixD (vSh 1) (vSh 2)) zai)))) [none,some 6,some 7]) (hE (zcL bs ss js us ls ks h) ps' (oS (.str j.nm)) (oS (.int j.ea)) (oS (.int j.du)) (oS (.bl j.od)) (oS (.lst (j.ms.map D.str))) (oS (.int k)))=some (.lst (((j.ms.take k).map fun o=>(o,j.ms[k])).map dPr)):=by
     refine zgR ?_
     have i0:itF (slF (vSh 6) pN (pS (vSh 7))) (hE (zcL bs ss js us ls ks h) ps' (oS (.str j.nm)) (oS (.int j.ea)) (oS (.int j.du)) (oS (.bl j.od)) (oS (.lst (j.ms.map D.str))) (oS (.int k)))=some ((j.ms.take k).map D.str):=by
      unfold itF
      rw [zuG (d:=(k:Int)) rfl rfl (by omega),Int.toNat_natCast,← List.map_take]
      rfl
     unfold zaw
     rw [i0]
     show (if ((j.ms.take k).map D.str).length<=sizeLine then zbr _ _ _ ((j.ms.take k).map D.str) [none,oS (.lst (j.ms.map D.str)),oS (.int k)] else none)=_
     rw [qV (by rw [qe,qC];unfold sizeLine;omega),zrk j.ms (j.ms.take k) k j.ms[k] (qB hk)]
    refine zbP rfl (zfe (w_2 (zax rfl (zbP c2 (zbP (zry ?_) ⟨rfl,hk,ps'++(j.ms.take k).map fun o=>(o,j.ms[k]),_,by rw [← List.map_append];rfl,?_,fun x y=>?_⟩)))))
    ·simp only [qe,qC];unfold sizeLine;omega
    ·rw [qi,qe,qC];omega
    ·rw [List.mem_append,pi']
     constructor
     ·rintro ((z | ⟨t,ht,h1,h2⟩) | z)
      ·exact .inl z
      ·exact .inr ⟨t,by omega,h1,h2⟩
      ·obtain ⟨o,ho,e⟩:=List.mem_map.mp z
       cases e
       exact .inr ⟨k,by omega,ho,qB hk⟩
     ·rintro (z | ⟨t,ht,h1,h2⟩)
      ·exact .inl (.inl z)
      ·by_cases e:t=k
       ·subst e
        rw [qB hk] at h2
        cases h2
        exact .inr (qU (f:=fun o=>(o,j.ms[t])) h1)
       ·exact .inl (.inr ⟨t,by omega,h1,h2⟩)
   ·rintro ρ ⟨_,ps',f',rfl,pl',pi'⟩
    simp only [qe,qT,Int.toNat_natCast] at pl' pi'
    refine ⟨rfl,by omega,ps',_,_,_,_,_,_,rfl,by omega,fun x y=>?_⟩
    rw [pi',pi,ahs,zhj]
    constructor
    ·rintro ((z | z) | z)
     ·exact .inl z
     ·exact .inr (.inl z)
     ·exact .inr (.inr ⟨ho,z⟩)
    ·rintro (z | z | ⟨_,z⟩)
     ·exact .inl (.inl z)
     ·exact .inl (.inr z)
     ·exact .inr z
  ·refine zes ⟨rfl,by omega,ps,_,_,_,_,_,_,rfl,by omega,fun x y=>?_⟩
   rw [pi,ahs]
   constructor
   ·rintro (z | z)
    ·exact .inl z
    ·exact .inr (.inl z)
   ·rintro (z | z | ⟨z,_⟩)
    ·exact .inl z
    ·exact .inr z
    ·rw [ho] at z;cases z
 ·rintro ρ ⟨_,ps,a,b,c,d,e,f,rfl,pl,pi⟩
  refine ⟨rfl,zer (zax rfl ⟨_,rfl,ps,rfl,?_,fun x y=>?_⟩)⟩
  ·rw [qe] at pl;omega
  ·rw [pi,zjd,qe,List.take_length]
end
theorem zq2 {ns:List Str} (h:∀ x∈ns,zay x=true):eqA (.lst (ns.map D.str)) (.lst [])=some (.bl ns.isEmpty):=by
 have e0:eqA (.lst (ns.map D.str)) (.lst [])=zq1 (.lst (ns.map D.str)) (.lst []):=rfl
 have s1:=zfX h
 have s2:SeqAt.shaped (.list [])=true:=by simp [SeqAt.shaped,PyData.canLay0,PyData.canLayAll0,PyData.depth,PyData.depthAll]
 have p1:pdD (.lst (ns.map D.str))=some (.list (ns.map PyData.str)):=by simp [pdD,zeU]
 have p2:pdD (.lst [])=some (.list []):=by simp [pdD,zgt]
 have q:PyData.eqv (.list (ns.map PyData.str)) (.list [])=ns.isEmpty:=by
  cases ns <;> simp [PyData.eqv,PyData.eqvAll]
 rw [e0]
 unfold zq1 eqX
 rw [p1,p2,qa,qa,qV ⟨s1,s2⟩,q]
 rfl
theorem zhm {ns:List Str} (hx:zay x=true) (hn:∀ y∈ns,zay y=true):zcf (.str x) (.lst (ns.map D.str))=some (.bl (!decide (x∈ns))):=by
 have sh:SeqAt.shaped (.str x)=true:=by simp [SeqAt.shaped,PyData.canLay0,zfE hx,PyData.depth]
 simp only [zcf,inX,pdD,zeU,qd,qa,sh,zdM hn,and_self,if_true,zhM]
section
variable {bs:List BenchT}
def zi7 (ps:List (Str×Str)) (R:List Str) (m:Str):List Str:=(ps.filter fun p=>decide (p.2=m) && !decide (p.1∈R)).map (·.1)
def dN:Option (Int×Str)->D
 | none=>.non
 | some b=>.tup [.int b.1,.str b.2]
def nxB (js:List JobT) (h:Int) (r:Str) (ps:List (Str×Str)) (R:List Str) (b:Option (Int×Str)) (s:StepT):Option (Int×Str) :=
 if s.nm∈R then b else if (zi7 ps R s.nm).isEmpty=true then (match b with
  | none=>some (zbz js h r s,s.nm)
  | some q=>if zbz js h r s < q.1 then some (zbz js h r s,s.nm) else b) else b
theorem zmZ {R:List Str} {s:StepT} (hR:∀ x∈R,zay x=true):∀ (ps:List (Str×Str)),(∀ p∈ps,zay p.1=true)->∀ (a b:Option Slot),zbr (zbS 2 (zaq (zau 0) (zaq (zau 1) zbN))) (zhR (toB (b2 eqA (vSh 1) (b2 ixD (vSh 3) (vC (.int 0))))) (toB (b2 zcf (vSh 0) (vSh 2)))) (vSh 0) (ps.map dPr) [a,b,oS (.lst (R.map D.str)),oS (zaH s)]=some ((zi7 ps R s.nm).map D.str)
 | [],_,_,_=>rfl
 | p::r,hp,a,b=>by
  have ih:=zmZ (s:=s) hR r (fun q hq=>hp q (qg _ hq)) (oS (.str p.1)) (oS (.str p.2))
  have t:zhR (toB (b2 eqA (vSh 1) (b2 ixD (vSh 3) (vC (.int 0))))) (toB (b2 zcf (vSh 0) (vSh 2))) [oS (.str p.1),oS (.str p.2),oS (.lst (R.map D.str)),oS (zaH s)]=some (decide (p.2=s.nm) && !decide (p.1∈R)):=by
   unfold zhR
   show (some (decide (p.2=s.nm))).bind _=_
   rw [qa]
   by_cases e:p.2=s.nm
   ·rw [qR e]
    show (Option.bind (zcf (.str p.1) (.lst (R.map D.str))) _)=_
    rw [zhm (hp p qf) hR]
    rfl
   ·rw [qM e];rfl
  have e:zbr (zbS 2 (zaq (zau 0) (zaq (zau 1) zbN))) (zhR (toB (b2 eqA (vSh 1) (b2 ixD (vSh 3) (vC (.int 0))))) (toB (b2 zcf (vSh 0) (vSh 2)))) (vSh 0) ((p::r).map dPr) [a,b,oS (.lst (R.map D.str)),oS (zaH s)]=(zhR (toB (b2 eqA (vSh 1) (b2 ixD (vSh 3) (vC (.int 0))))) (toB (b2 zcf (vSh 0) (vSh 2))) [oS (.str p.1),oS (.str p.2),oS (.lst (R.map D.str)),oS (zaH s)]).bind fun c=>if c=true then (zbr (zbS 2 (zaq (zau 0) (zaq (zau 1) zbN))) (zhR (toB (b2 eqA (vSh 1) (b2 ixD (vSh 3) (vC (.int 0))))) (toB (b2 zcf (vSh 0) (vSh 2)))) (vSh 0) (r.map dPr) [oS (.str p.1),oS (.str p.2),oS (.lst (R.map D.str)),oS (zaH s)]).map (D.str p.1::·) else zbr (zbS 2 (zaq (zau 0) (zaq (zau 1) zbN))) (zhR (toB (b2 eqA (vSh 1) (b2 ixD (vSh 3) (vC (.int 0))))) (toB (b2 zcf (vSh 0) (vSh 2)))) (vSh 0) (r.map dPr) [oS (.str p.1),oS (.str p.2),oS (.lst (R.map D.str)),oS (zaH s)]:=rfl
  rw [e,t,qa,ih]
  unfold zi7
  cases q:(decide (p.2=s.nm) && !decide (p.1∈R)) with
  | true=>rw [List.filter_cons_of_pos (by exact q),qV rfl];rfl
  | false=>rw [List.filter_cons_of_neg (by rw [q];exact qq),qW qq]
abbrev nE (P:D) (ps:List (Str×Str)) (r:Str) (R:List Str) (b:Option (Int×Str)) (x y z:Option Slot):zaI:=[oS P,oS (.lst (ps.map dPr)),oS (.str r),oS (.lst (R.map D.str)),oS (dN b),x,y,z]
theorem zs0 (g:Good bs ss js us ls ks h) (hr:r∈zdy) {ps:List (Str×Str)} (pl:ps.length<=1000) (hp:∀ p∈ps,zay p.1=true) (hR:∀ x∈R,zay x=true):Wp (zbx [zcL bs ss js us ls ks h,.lst (ps.map dPr),.str r,.lst (R.map D.str)]) fun d=>d=dN (ss.foldl (nxB js h r ps R) none):=by
 unfold zbx
 refine zeT (zbp (w_c (zcz (zdU (fun i ρ=>∃ x y z,ρ=nE (zcL bs ss js us ls ks h) ps r R ((ss.take i).foldl (nxB js h r ps R) none) x y z) (zbP (a:=ss.map zaH) rfl ⟨⟨none,none,none,rfl⟩,?_,?_⟩)))))
 ·rintro i x ρ hx ⟨x0,y0,z0,rfl⟩
  rw [qj] at hx
  obtain ⟨s,hj,rfl⟩:=oMd hx
  have hs:=qO hj
  have tk:(ss.take (i+1)).foldl (nxB js h r ps R) none=nxB js h r ps R ((ss.take i).foldl (nxB js h r ps R) none) s:=by
   rw [List.take_succ,hj,List.foldl_append];rfl
  generalize hb:(ss.take i).foldl (nxB js h r ps R) none=b at tk ⊢
  refine zbP rfl (zfq (zdu (w_2 (w_2 (zax rfl (w_c (zbP (a:=.str s.nm) rfl (zax rfl (zbP (zhm (g.s s hs).nm hR) ⟨_,rfl,fun hc=>?_,fun hc=>?_⟩)))))))))
  ·have hc:s.nm∉R:=by simpa using hc
   have ck:zbb (zaw (itF (vSh 1)) (zbS 2 (zaq (zau 0) (zaq (zau 1) zbN))) (zhR (toB (b2 eqA (vSh 1) (b2 ixD (vSh 3) (vC (.int 0))))) (toB (b2 zcf (vSh 0) (vSh 2)))) (vSh 0) [none,none,some 3,some 5]) (nE (zcL bs ss js us ls ks h) ps r R b (oS (zaH s)) y0 z0)=some (.lst ((zi7 ps R s.nm).map D.str)):=by
    refine zgR ?_
    unfold zaw
    show (if (ps.map dPr).length<=sizeLine then zbr _ _ _ (ps.map dPr) [none,none,oS (.lst (R.map D.str)),oS (zaH s)] else none)=_
    rw [qV (by rw [qe];unfold sizeLine;omega),zmZ hR ps hp]
   have ln:∀ x∈zi7 ps R s.nm,zay x=true:=by
    intro x hx
    obtain ⟨p,h1,rfl⟩:=List.mem_map.mp hx
    exact hp p (List.mem_filter.mp h1).1
   have skip:∀ (hh:nxB js h r ps R b s=b) (x y z:Option Slot),(fun q:Fl×zaI=>q.1=.nx/\∃ x y z,q.2=nE (zcL bs ss js us ls ks h) ps r R ((ss.take (i+1)).foldl (nxB js h r ps R) none) x y z) (.nx,nE (zcL bs ss js us ls ks h) ps r R b x y z):=fun hh x y z=>⟨rfl,x,y,z,by rw [tk,hh]⟩
   refine zbp (zbP ck (zbp (zfa (zan (zax rfl (zan (zax rfl (zan (zax rfl (zaX ((zoc g hs hr).imp fun d e=>?_)))))))))))
   subst e
   refine zfq (zrV (zdu (w_2 (zax rfl (zbP (a:=.lst []) rfl (zbP (zq2 ln) ⟨_,rfl,?_⟩))))))
   by_cases el:(zi7 ps R s.nm).isEmpty=true
   ·rw [qV el]
    have st:Wp (orT (toB (b2 isD (vSh 4) (vC .non))) (toB (b2 ltD (vSh 7) (b2 ixD (vSh 4) (vC (.int 0))))) (nE (zcL bs ss js us ls ks h) ps r R b (oS (zaH s)) (oS (.lst ((zi7 ps R s.nm).map D.str))) (oS (.int (zbz js h r s))))) fun c=>(c=true->nxB js h r ps R b s=some (zbz js h r s,s.nm))/\(c=false->nxB js h r ps R b s=b):=by
     unfold nxB
     rw [qW hc,qV el]
     cases b with
     | none=>exact ⟨true,rfl,fun _=>rfl,fun z=>by cases z⟩
     | some q =>
      refine ⟨decide (zbz js h r s < q.1),rfl,fun z=>?_,fun z=>?_⟩
      ·exact qV (of_decide_eq_true z)
      ·exact qW (of_decide_eq_false z)
    refine st.imp fun c ⟨k1,k2⟩=>⟨fun z=>?_,fun z=>?_⟩
    ·exact zfe (zeP (zan (zax rfl (zan (w_2 (zax rfl (w_c (zbP (a:=.str s.nm) rfl (zaX ⟨by simp,rfl,_,_,_,by rw [tk,k1 z];rfl⟩)))))))))
    ·exact zes (skip (k2 z) _ _ _)
   ·rw [qW el]
    refine ⟨fun z=>(by cases z),fun _=>zes (skip ?_ _ _ _)⟩
    unfold nxB
    rw [qW hc,qW el]
  ·have hc:s.nm∈R:=by simpa using hc
   refine zes ⟨rfl,oS (zaH s),y0,z0,?_⟩
   rw [tk]
   unfold nxB
   rw [qV hc]
   rfl
 ·rintro ρ ⟨x,y,z,rfl⟩
  refine ⟨rfl,zer (zax rfl ⟨_,rfl,?_⟩)⟩
  rw [qe,List.take_length]
end
section
variable {bs:List BenchT}
def grd (N:List Str->Option (Int×Str)):Nat->List Str->Option (List Str)
 | 0,R=>some R
 | n+1,R=>match N R with
  | none=>none
  | some b=>grd N n (R++[b.2])
def dR:Option (List Str)->D
 | none=>.non
 | some R=>.lst (R.map D.str)
abbrev NX (js:List JobT) (h:Int) (r:Str) (ps:List (Str×Str)) (ss:List StepT) (R:List Str):Option (Int×Str):=ss.foldl (nxB js h r ps R) none
theorem zjV {r:Str} {ps:List (Str×Str)} {R:List Str} {b:Int×Str}:∀ {ss:List StepT} {c:Option (Int×Str)},ss.foldl (nxB js h r ps R) c=some b->c=some b\/(∃ s∈ss,s.nm=b.2/\s.nm∉R)
 | [],c,e=>.inl e
 | s::r',c,e=>by
  rcases zjV (ss:=r') e with e | ⟨t,ht,q⟩
  ·unfold nxB at e
   split at e
   ·exact .inl e
   ·rename_i hn
    have hit:∀ x,some (x,s.nm)=some b->∃ t∈s::r',t.nm=b.2/\t.nm∉R:=fun x z=>⟨s,qf,by rw [← qG z],hn⟩
    split at e
    ·split at e
     ·exact .inr (hit _ e)
     ·split at e
      ·exact .inr (hit _ e)
      ·exact .inl e
    ·exact .inl e
  ·exact .inr ⟨t,qg _ ht,q⟩
abbrev uuE (P:D) (r:Str) (ps:List (Str×Str)) (R:List Str) (a b:Option Slot):zaI:=[oS P,oS (.str r),oS (.lst (ps.map dPr)),some (.own (R.map D.str)),a,b]
theorem zkj (g:Good bs ss js us ls ks h) {r:Str} (hr:r∈zdy) {ps:List (Str×Str)} (pl:ps.length<=1000) (hp:∀ p∈ps,zay p.1=true):∀ (xs:List D) (R:List Str) (a b:Option Slot),(∀ x∈R,zay x=true)->R.length+xs.length<=1000->Wp (zfI (zau 4) (zar (zbq 5 (bw2 3 (cF zbx (zac (vSh 0) (zac (vSh 2) (zac (vSh 1) (zac (vSh 3) zai))))))) (zar (sIf (toB (b2 isD (vSh 5) (vC .non))) (zaJ (vC .non)) zbd) (zek 3 (b2 ixD (vSh 5) (vC (.int 1)))))) xs (uuE (zcL bs ss js us ls ks h) r ps R a b)) fun q=>match grd (NX js h r ps ss) xs.length R with
  | none=>q.1=.rt .non
  | some R'=>q.1=.nx/\∃ a b,q.2=uuE (zcL bs ss js us ls ks h) r ps R' a b
 | [],R,a,b,_,_=>⟨_,rfl,rfl,a,b,rfl⟩
 | x::xs,R,a,b,hR,hl=>by
  unfold zfI
  have nx:=zs0 g hr pl hp hR
  obtain ⟨d,e1,e2⟩:=nx
  have bw:bw2 3 (cF zbx (zac (vSh 0) (zac (vSh 2) (zac (vSh 1) (zac (vSh 3) zai))))) (uuE (zcL bs ss js us ls ks h) r ps R (oS x) b)=some d:=by
   unfold bw2
   show (zbx [zcL bs ss js us ls ks h,.lst (ps.map dPr),.str r,.lst (R.map D.str)]).bind _=_
   rw [e1,qa,qV]
   rw [e2]
   cases ss.foldl (nxB js h r ps R) none <;> rfl
  show Wp (Option.bind (zar (zbq 5 _) _ (uuE (zcL bs ss js us ls ks h) r ps R (oS x) b)) _) _
  have hd:d=dN (NX js h r ps ss R):=e2
  cases q:NX js h r ps ss R with
  | none =>
   rw [q] at hd
   subst hd
   refine ⟨(.rt .non,uuE (zcL bs ss js us ls ks h) r ps R (oS x) (oS .non)),?_,?_⟩
   ·have:zar (zbq 5 (bw2 3 (cF zbx (zac (vSh 0) (zac (vSh 2) (zac (vSh 1) (zac (vSh 3) zai))))))) (zar (sIf (toB (b2 isD (vSh 5) (vC .non))) (zaJ (vC .non)) zbd) (zek 3 (b2 ixD (vSh 5) (vC (.int 1))))) (uuE (zcL bs ss js us ls ks h) r ps R (oS x) b)=some (.rt .non,uuE (zcL bs ss js us ls ks h) r ps R (oS x) (oS .non)):=by
     rw [zfd bw];rfl
    rw [this];rfl
   ·show (match grd (NX js h r ps ss) (xs.length+1) R with | none=>_ | some R'=>_)
    unfold grd
    rw [q]
  | some t =>
   rw [q] at hd
   subst hd
   obtain ⟨s,hs,es,_⟩:=(zjV q).resolve_left (by intro z;cases z)
   have hR':∀ y∈R++[t.2],zay y=true:=fun y hy=>by
    rcases List.mem_append.mp hy with hy | hy
    ·exact hR y hy
    ·rw [List.mem_singleton.mp hy,← es];exact (g.s s hs).nm
   have st:zar (zbq 5 (bw2 3 (cF zbx (zac (vSh 0) (zac (vSh 2) (zac (vSh 1) (zac (vSh 3) zai))))))) (zar (sIf (toB (b2 isD (vSh 5) (vC .non))) (zaJ (vC .non)) zbd) (zek 3 (b2 ixD (vSh 5) (vC (.int 1))))) (uuE (zcL bs ss js us ls ks h) r ps R (oS x) b)=some (.nx,uuE (zcL bs ss js us ls ks h) r ps (R++[t.2]) (oS x) (oS (dN (some t)))):=by
    rw [zfd bw,zbD (show toB (b2 isD (vSh 5) (vC .non)) _=some false from rfl)]
    obtain ⟨z,e3,e4⟩:=zet (m:=D.str) (xs:=R) (ρ:=uuE (zcL bs ss js us ls ks h) r ps R (oS x) (oS (dN (some t)))) (j:=3) (f:=b2 ixD (vSh 5) (vC (.int 1))) (R:=fun q=>q=(.nx,uuE (zcL bs ss js us ls ks h) r ps (R++[t.2]) (oS x) (oS (dN (some t))))) t.2 rfl (by omega) ⟨_,rfl,rfl,rfl⟩
    rw [← e4];exact e3
   have ih:=zkj g hr pl hp xs (R++[t.2]) (oS x) (oS (dN (some t))) hR' (by rw [qi];simp at hl ⊢;omega)
   rw [st]
   show Wp (zfI _ _ xs _) _
   have gq:grd (NX js h r ps ss) (x::xs).length R=grd (NX js h r ps ss) xs.length (R++[t.2]):=by
    show grd _ (xs.length+1) R=_
    conv=>lhs;unfold grd
    rw [q]
   rw [gq]
   exact ih
theorem zs6 (g:Good bs ss js us ls ks h) (j2:js.length<=2) (s8:ss.length<=8) (hr:r∈zdy):∃ ps:List (Str×Str),(∀ a b,(a,b)∈ps↔(zgg js ls a b).isSome=true)/\Wp (zcN [zcL bs ss js us ls ks h,.str r]) fun d=>d=dR (grd (NX js h r ps ss) ss.length []):=by
 obtain ⟨_,e,ps,rfl,pl,pi⟩:=zrx g j2 s8 g.ll
 refine ⟨ps,pi,?_⟩
 have hp:∀ p∈ps,zay p.1=true:=by
  intro p hm
  have:=zjd.mp ((pi p.1 p.2).mp hm)
  have mem:p.1∈ss.map (·.nm):=by
   rcases this with ⟨l,hl,e,_⟩ | ⟨j,hj,_,ho⟩
   ·rw [← e];exact (g.l l hl).a
   ·obtain ⟨k,_,h1,_⟩:=zhj.mp ho
    exact (g.j j hj).ms _ (List.mem_of_mem_take h1)
  obtain ⟨s,hs,e⟩:=List.mem_map.mp mem
  rw [← e];exact (g.s s hs).nm
 unfold zcN
 refine zeT (zbp (zdv rfl (zbP e (zdZ ?_))))
 show Wp (zar _ _ (uuE (zcL bs ss js us ls ks h) r ps [] none none)) _
 have it:itR ziK (zac (cF zcT (zac (b2 ixD (vSh 0) (vC (.int 1))) zai)) zai) (uuE (zcL bs ss js us ls ks h) r ps [] none none)=some ((List.range ss.length).map fun i:Nat=>D.int (0+i)):=by
  have l1:cF zcT (zac (b2 ixD (vSh 0) (vC (.int 1))) zai) (uuE (zcL bs ss js us ls ks h) r ps [] none none)=some (.int ((ss.map zaH).length:Nat)):=rfl
  refine zpj (zaA l1 za7) ?_
  rw [zlE (by rw [qe];omega),qe,Int.toNat_natCast]
 obtain ⟨q,e1,e2⟩:=zkj g hr pl hp ((List.range ss.length).map fun i:Nat=>D.int (0+i)) [] none none (fun _ z=>nomatch z) (by simp;omega)
 rw [qe,qT] at e2
 refine zfz ⟨q,(zgV it).trans e1,?_⟩
 obtain ⟨fl,ρ'⟩:=q
 cases gq:grd (NX js h r ps ss) ss.length [] with
 | none =>
  rw [gq] at e2
  have e2:fl=.rt .non:=e2
  subst e2
  exact ⟨_,rfl,_,rfl,rfl⟩
 | some R' =>
  rw [gq] at e2
  obtain ⟨e3,a,b,e4⟩:=e2
  have e3:fl=.nx:=e3
  have e4:ρ'=_:=e4
  subst e3
  subst e4
  exact zfr (ds:=R'.map D.str) rfl (zer (zax rfl ⟨_,rfl,rfl⟩))
end
section
variable {bs:List BenchT}
def pk (js:List JobT) (h:Int) (r:Str) (b:Option (Int×Str)) (s:StepT):Option (Int×Str):=match b with
 | none=>some (zbz js h r s,s.nm)
 | some q=>if zbz js h r s < q.1 then some (zbz js h r s,s.nm) else b
def frS (ps:List (Str×Str)) (R:List Str) (s:StepT):Bool:=!decide (s.nm∈R) && (zi7 ps R s.nm).isEmpty
theorem zqs {r:Str} {ps:List (Str×Str)} {R:List Str}:∀ (ss:List StepT) (c:Option (Int×Str)),ss.foldl (nxB js h r ps R) c=(ss.filter (frS ps R)).foldl (pk js h r) c
 | [],c=>rfl
 | s::t,c=>by
  rw [List.foldl_cons,zqs t]
  unfold nxB
  by_cases h1:s.nm∈R
  ·rw [qV h1,List.filter_cons_of_neg (by simp [frS,h1])]
  ·by_cases h2:(zi7 ps R s.nm).isEmpty=true
   ·rw [qW h1,qV h2,List.filter_cons_of_pos (by simp [frS,h1,h2]),List.foldl_cons]
    rfl
   ·rw [qW h1,qW h2,List.filter_cons_of_neg (by simp [frS,h1];simpa using h2)]
theorem zlM {r:Str} (F:List StepT):∀ k (hk:k < F.length),∃ (ha:argBest (btL (F.map (zbz js h r))) k < F.length),(F.take (k+1)).foldl (pk js h r) none=some (zbz js h r F[argBest (btL (F.map (zbz js h r))) k],F[argBest (btL (F.map (zbz js h r))) k].nm)
 | 0,hk=>⟨hk,by
   rw [List.take_succ,qB hk]
   rfl⟩
 | k+1,hk=>by
  obtain ⟨ha,e⟩:=zlM F k (by omega)
  have gd:∀ i (hi:i < F.length),(F.map (zbz js h r)).getD i 0=zbz js h r F[i]:=fun i hi=>by
   rw [List.getD_eq_getElem?_getD,qj,qB hi];rfl
  have tk:(F.take (k+1+1)).foldl (pk js h r) none=pk js h r ((F.take (k+1)).foldl (pk js h r) none) F[k+1]:=by
   rw [List.take_succ (i:=k+1),qB hk,List.foldl_append];rfl
  by_cases hb:btL (F.map (zbz js h r)) (k+1) (argBest (btL (F.map (zbz js h r))) k)=true
  ·have ea:argBest (btL (F.map (zbz js h r))) (k+1)=k+1:=by simp only [argBest,hb,if_true]
   have hb':=of_decide_eq_true hb
   rw [gd _ hk,gd _ ha] at hb'
   refine ⟨by rw [ea];exact hk,?_⟩
   rw [tk,e]
   simp only [ea]
   exact qV hb'
  ·have hbf:btL (F.map (zbz js h r)) (k+1) (argBest (btL (F.map (zbz js h r))) k)=false:=by simpa using hb
   have ea:argBest (btL (F.map (zbz js h r))) (k+1)=argBest (btL (F.map (zbz js h r))) k:=by simp only [argBest,hbf,qp,if_false]
   have hb':=of_decide_eq_false hbf
   rw [gd _ hk,gd _ ha] at hb'
   refine ⟨by rw [ea];exact ha,?_⟩
   rw [tk,e]
   simp only [ea]
   exact qW hb'
theorem zqt {ps:List (Str×Str)} (hf:ss.filter (frS ps R)=[]):NX js h r ps ss R=none:=by
 unfold NX;rw [zqs,hf];rfl
theorem zqr {ps:List (Str×Str)} {F:List StepT} (hF:ss.filter (frS ps R)=F) (hf:F≠[]):∃ b,NX js h r ps ss R=some b/\b.2=(F.map (·.nm)).getD (argBest (btL (F.map (zbz js h r))) ((F.map (zbz js h r)).length - 1)) "":=by
 have hl:0 < F.length:=List.length_pos_iff.mpr hf
 obtain ⟨ha,e⟩:=zlM (js:=js) (h:=h) (r:=r) F (F.length - 1) (by omega)
 rw [show F.length - 1+1=F.length by omega,List.take_length] at e
 refine ⟨_,by unfold NX;rw [zqs,hF];exact e,?_⟩
 rw [qe,List.getD_eq_getElem?_getD,qj,qB ha]
 rfl
def zca (ss:List StepT) (R:List Str):List Str:=(ss.map (·.nm)).filter fun x=>!decide (x∈R)
def zd5 (js:List JobT) (ls:List LinkT) (ss:List StepT) (R:List Str):List Str:=(((ss.map (·.nm)).flatMap (ziJ js ls (ss.map (·.nm)))).filter fun t=>decide (t.1∈zca ss R)).map (·.2.1)
theorem zns (g:Good bs ss js us ls ks h) (hm:m∈ss.map (·.nm)):m∈zd5 js ls ss R↔∃ a,a∉R/\(zgg js ls a m).isSome=true:=by
 unfold zd5
 constructor
 ·intro hx
  obtain ⟨t,ht,e⟩:=List.mem_map.mp hx
  obtain ⟨h1,h2⟩:=List.mem_filter.mp ht
  obtain ⟨a,ha,h3⟩:=List.mem_flatMap.mp h1
  unfold ziJ at h3
  obtain ⟨b,hb,h4⟩:=List.mem_filterMap.mp h3
  obtain ⟨q,hq,h5⟩:=oMd h4
  subst h5
  have h2:=of_decide_eq_true h2
  have h6:=(List.mem_filter.mp h2).2
  simp only at e
  subst e
  exact ⟨a,by simpa using h6,by rw [hq];rfl⟩
 ·rintro ⟨a,h1,h2⟩
  have an:a∈ss.map (·.nm):=by
   rcases zjd.mp h2 with ⟨l,hl,e,_⟩ | ⟨j,hj,_,ho⟩
   ·rw [← e];exact (g.l l hl).a
   ·obtain ⟨k,_,h1,_⟩:=zhj.mp ho
    exact (g.j j hj).ms _ (List.mem_of_mem_take h1)
  obtain ⟨q,hq⟩:=Option.isSome_iff_exists.mp h2
  refine List.mem_map.mpr ⟨(a,m,q),List.mem_filter.mpr ⟨List.mem_flatMap.mpr ⟨a,an,?_⟩,qR ?_⟩,rfl⟩
  ·unfold ziJ
   exact List.mem_filterMap.mpr ⟨m,hm,by rw [hq];rfl⟩
  ·exact List.mem_filter.mpr ⟨an,by simpa using h1⟩
theorem zqZ (g:Good bs ss js us ls ks h) {ps:List (Str×Str)} (pi:∀ a b,(a,b)∈ps↔(zgg js ls a b).isSome=true) (R:List Str):(zca ss R).filter (fun x=>!decide (x∈zd5 js ls ss R))=(ss.filter (frS ps R)).map (·.nm):=by
 unfold zca
 rw [List.filter_filter,List.filter_map]
 congr 1
 refine List.filter_congr fun s hs=>?_
 have hm:s.nm∈ss.map (·.nm):=qU hs
 have wi:=zns g (R:=R) hm
 have le:(zi7 ps R s.nm).isEmpty=true↔¬ ∃ a,a∉R/\(zgg js ls a s.nm).isSome=true:=by
  rw [List.isEmpty_iff]
  unfold zi7
  constructor
  ·rintro e ⟨a,h1,h2⟩
   have:a∈(ps.filter fun p=>decide (p.2=s.nm) && !decide (p.1∈R)).map (·.1):=List.mem_map.mpr ⟨(a,s.nm),List.mem_filter.mpr ⟨(pi a s.nm).mpr h2,by simp [h1]⟩,rfl⟩
   rw [e] at this
   cases this
  ·intro hn
   rw [List.map_eq_nil_iff,List.filter_eq_nil_iff]
   intro p hp hc
   simp only [Bool.and_eq_true,decide_eq_true_eq,Bool.not_eq_true',decide_eq_false_iff_not] at hc
   exact hn ⟨p.1,hc.2,by rw [← hc.1];exact (pi p.1 p.2).mp hp⟩
 show (!decide (s.nm∈zd5 js ls ss R) && !decide (s.nm∈R))=(!decide (s.nm∈R) && (zi7 ps R s.nm).isEmpty)
 by_cases h1:s.nm∈R
 ·simp [h1]
 ·by_cases h2:s.nm∈zd5 js ls ss R
  ·have:(zi7 ps R s.nm).isEmpty=false:=by
    cases q:(zi7 ps R s.nm).isEmpty with
    | false=>rfl
    | true=>exact absurd (wi.mp h2) (le.mp q)
   simp [h1,h2,this]
  ·have:(zi7 ps R s.nm).isEmpty=true:=le.mpr fun z=>h2 (wi.mpr z)
   simp [h1,h2,this]
theorem zih (nd:(ss.map (·.nm)).Nodup) (R:List Str) (x:Str):(zca ss R).erase x=zca ss (R++[x]):=by
 unfold zca
 have nf:((ss.map (·.nm)).filter fun x=>!decide (x∈R)).Nodup:=List.Pairwise.filter _ nd
 rw [List.Nodup.erase_eq_filter nf,List.filter_filter]
 refine List.filter_congr fun y _=>?_
 by_cases h1:y∈R <;> by_cases h2:y=x <;> simp [h1,h2]
end
section
variable {bs:List BenchT}
abbrev zgu (js:List JobT) (ls:List LinkT) (ss:List StepT):List GT:=(ss.map (·.nm)).flatMap (ziJ js ls (ss.map (·.nm)))
def kvR (js:List JobT) (h:Int) (r:Str) (ss:List StepT):List (Key×D):=ss.map fun s=>(.inr s.nm,.int (zbz js h r s))
abbrev wrE (S:D) (r:Str) (os:List GT) (L:List Str) (kv:List (Key×D)) (R:List Str) (a b c:Option Slot):zaI:=[oS S,oS (.str r),oS (.lst (os.map dGp)),some (.own (L.map D.str)),oS (.dk kv),some (.own (R.map D.str)),a,b,c]
theorem zmE (l:List Str):(l.map D.str).all fl2=true:=by
 rw [List.all_eq_true]
 intro x hx
 obtain ⟨y,_,rfl⟩:=List.mem_map.mp hx
 rfl
theorem zmX {L:List Str} (hL:∀ x∈L,zay x=true):∀ (os:List GT),(∀ t∈os,zay t.1=true)->∀ (a b c:Option Slot),zbr (zbS 3 (zaq (zau 0) (zaq (zau 1) (zaq (zau 2) zbN)))) (toB (b2 zjb (vSh 0) (vSh 3))) (vSh 1) (os.map dGp) [a,b,c,oS (.lst (L.map D.str))]=some (((os.filter fun t=>decide (t.1∈L)).map (·.2.1)).map D.str)
 | [],_,_,_,_=>rfl
 | t::r,ho,a,b,c=>by
  have ih:=zmX hL r (fun q hq=>ho q (qg _ hq)) (oS (.str t.1)) (oS (.str t.2.1)) (oS (.int t.2.2))
  have tt:toB (b2 zjb (vSh 0) (vSh 3)) [oS (.str t.1),oS (.str t.2.1),oS (.int t.2.2),oS (.lst (L.map D.str))]=some (decide (t.1∈L)):=zbF (zc8 rfl rfl (zja (ho t qf) hL))
  have e:zbr (zbS 3 (zaq (zau 0) (zaq (zau 1) (zaq (zau 2) zbN)))) (toB (b2 zjb (vSh 0) (vSh 3))) (vSh 1) ((t::r).map dGp) [a,b,c,oS (.lst (L.map D.str))]=(toB (b2 zjb (vSh 0) (vSh 3)) [oS (.str t.1),oS (.str t.2.1),oS (.int t.2.2),oS (.lst (L.map D.str))]).bind fun q=>if q=true then (zbr (zbS 3 (zaq (zau 0) (zaq (zau 1) (zaq (zau 2) zbN)))) (toB (b2 zjb (vSh 0) (vSh 3))) (vSh 1) (r.map dGp) [oS (.str t.1),oS (.str t.2.1),oS (.int t.2.2),oS (.lst (L.map D.str))]).map (D.str t.2.1::·) else zbr (zbS 3 (zaq (zau 0) (zaq (zau 1) (zaq (zau 2) zbN)))) (toB (b2 zjb (vSh 0) (vSh 3))) (vSh 1) (r.map dGp) [oS (.str t.1),oS (.str t.2.1),oS (.int t.2.2),oS (.lst (L.map D.str))]:=rfl
  rw [e,tt,qa,ih]
  by_cases q:t.1∈L
  ·rw [qR q,List.filter_cons_of_pos (by exact qR q),qV rfl];rfl
  ·rw [qM q,List.filter_cons_of_neg (by simp [q]),qW qq]
theorem zm0 {W:List Str} (hW:∀ x∈W,zay x=true):∀ (L:List Str),(∀ x∈L,zay x=true)->∀ (a:Option Slot),zbr (zau 0) (toB (b2 zcf (vSh 0) (vSh 1))) (vSh 0) (L.map D.str) [a,oS (.lst (W.map D.str))]=some ((L.filter fun x=>!decide (x∈W)).map D.str)
 | [],_,_=>rfl
 | x::r,ho,a=>by
  have ih:=zm0 hW r (fun q hq=>ho q (qg _ hq)) (oS (.str x))
  have tt:toB (b2 zcf (vSh 0) (vSh 1)) [oS (.str x),oS (.lst (W.map D.str))]=some (!decide (x∈W)):=zbF (zc8 rfl rfl (zhm (ho x qf) hW))
  have e:zbr (zau 0) (toB (b2 zcf (vSh 0) (vSh 1))) (vSh 0) ((x::r).map D.str) [a,oS (.lst (W.map D.str))]=(toB (b2 zcf (vSh 0) (vSh 1)) [oS (.str x),oS (.lst (W.map D.str))]).bind fun q=>if q=true then (zbr (zau 0) (toB (b2 zcf (vSh 0) (vSh 1))) (vSh 0) (r.map D.str) [oS (.str x),oS (.lst (W.map D.str))]).map (D.str x::·) else zbr (zau 0) (toB (b2 zcf (vSh 0) (vSh 1))) (vSh 0) (r.map D.str) [oS (.str x),oS (.lst (W.map D.str))]:=rfl
  rw [e,tt,qa,ih]
  by_cases q:x∈W
  ·rw [qR q,List.filter_cons_of_neg (by simp [q])];rfl
  ·rw [qM q,List.filter_cons_of_pos (by simp [q])];rfl
theorem zg7:∀ gs:List Str,zfT (gs.map D.str)=some gs
 | []=>rfl
 | x::r=>by
  show (zfT (r.map D.str)).map _=_
  rw [zg7 r];rfl
theorem zs7 (nd:(ss.map (·.nm)).Nodup) {s:StepT} (hs:s∈ss):zdY (kvR js h r ss) (.inr s.nm)=some (.int (zbz js h r s)):=zg5 (nm:=fun s:StepT=>s.nm) (f:=fun s=>.int (zbz js h r s)) nd hs
theorem zo5 (nd:(ss.map (·.nm)).Nodup) {r:Str}:∀ (F:List StepT),(∀ s∈F,s∈ss)->rkL (kvR js h r ss) (F.map (·.nm))=some (F.map (zbz js h r))
 | [],_=>rfl
 | s::t,hF=>by
  have ih:=zo5 nd (r:=r) t fun q hq=>hF q (qg _ hq)
  show (match zdY (kvR js h r ss) (.inr s.nm) with | some (.int n)=>(rkL (kvR js h r ss) (t.map fun s:StepT=>s.nm)).map (n::·) | _=>none)=_
  rw [zs7 nd (hF s qf),ih]
  rfl
theorem zs4 (nd:(ss.map (·.nm)).Nodup) {F:List StepT} (hF:∀ s∈F,s∈ss) (hf:F≠[]):zl9 (.dk (kvR js h r ss)) (.lst ((F.map (·.nm)).map D.str))=some (.str ((F.map (·.nm)).getD (argBest (btL (F.map (zbz js h r))) ((F.map (zbz js h r)).length - 1)) "")):=by
 show (zfT _).bind _=_
 rw [zg7,qa,zo5 nd F hF,qa,qW (by intro z;exact hf (List.map_eq_nil_iff.mp z))]
end
section
variable {bs:List BenchT}
def wT:FT:=bwT 3 (toB (b2 gtD (cF zcT (zac (vSh 3) zai)) (vC (.int 0))))
def wB:FS:=zar (zdV 6 (bwA 3 (zaw (itF (vSh 2)) (zbS 3 (zaq (zau 0) (zaq (zau 1) (zaq (zau 2) zbN)))) (toB (b2 zjb (vSh 0) (vSh 3))) (vSh 1) [none,none,none,some 3]))) (zeN 6 (zar (zdV 7 (bwA 3 (zaw (itF (vSh 3)) (zau 0) (toB (b2 zcf (vSh 0) (vSh 1))) (vSh 0) [none,some 6]))) (zar (sIf (bwT 7 (toB (b2 eqD (cF zcT (zac (vSh 7) zai)) (vC (.int 0))))) (zaJ (vC .non)) zbd) (zeN 7 (zar (zbq 8 (b2 zl9 (vSh 4) (vSh 7))) (zar (zek 5 (vSh 8)) (zsg 3 (vSh 8))))))))
theorem zqI (g:Good bs ss js us ls ks h) :∀ x∈zca ss R,zay x=true:=fun x hx=>by
 obtain ⟨s,hs,e⟩:=List.mem_map.mp (List.mem_filter.mp hx).1
 rw [← e];exact (g.s s hs).nm
theorem ztX (g:Good bs ss js us ls ks h) (s8:ss.length<=8) {ps:List (Str×Str)} (pi:∀ a b,(a,b)∈ps↔(zgg js ls a b).isSome=true) (hR:R.length<=100) {a b c:Option Slot} :Wp (wB (wrE (zav bs ss js us ls ks h) r (zgu js ls ss) (zca ss R) (kvR js h r ss) R a b c)) fun q=>match NX js h r ps ss R with
  | none=>q.1=.rt .non
  | some t=>q.1=.nx/\t.2∈zca ss R/\∃ a b c,q.2=wrE (zav bs ss js us ls ks h) r (zgu js ls ss) (zca ss (R++[t.2])) (kvR js h r ss) (R++[t.2]) a b c:=by
 have lnb:=zqI g (R:=R)
 have onb:∀ t∈zgu js ls ss,zay t.1=true:=by
  intro t ht
  obtain ⟨x,hx,h1⟩:=List.mem_flatMap.mp ht
  unfold ziJ at h1
  obtain ⟨y,_,h2⟩:=List.mem_filterMap.mp h1
  obtain ⟨q,_,rfl⟩:=oMd h2
  obtain ⟨s,hs,e⟩:=List.mem_map.mp hx
  show zay x=true
  rw [← e];exact (g.s s hs).nm
 have ol:(zgu js ls ss).length<=64:=by
  have:=zhf js ls (ss.map (·.nm)) (ss.map (·.nm))
  rw [qe] at this
  exact qL this (Nat.mul_le_mul s8 s8)
 have ll:(zca ss R).length<=8:=by
  have:=List.length_filter_le (fun x=>!decide (x∈R)) (ss.map (·.nm))
  rw [qe] at this
  unfold zca
  omega
 have wnb:∀ x∈zd5 js ls ss R,zay x=true:=by
  intro x hx
  unfold zd5 at hx
  obtain ⟨t,ht,rfl⟩:=List.mem_map.mp hx
  obtain ⟨z,hz,h1⟩:=List.mem_flatMap.mp (List.mem_filter.mp ht).1
  unfold ziJ at h1
  obtain ⟨y,hy,h2⟩:=List.mem_filterMap.mp h1
  obtain ⟨q,_,rfl⟩:=oMd h2
  obtain ⟨s,hs,e⟩:=List.mem_map.mp hy
  show zay y=true
  rw [← e];exact (g.s s hs).nm
 have c1:bwA 3 (zaw (itF (vSh 2)) (zbS 3 (zaq (zau 0) (zaq (zau 1) (zaq (zau 2) zbN)))) (toB (b2 zjb (vSh 0) (vSh 3))) (vSh 1) [none,none,none,some 3]) (wrE (zav bs ss js us ls ks h) r (zgu js ls ss) (zca ss R) (kvR js h r ss) R a b c)=some ((zd5 js ls ss R).map D.str):=by
  unfold bwA zaw
  show (if ((zgu js ls ss).map dGp).length<=sizeLine then zbr _ _ _ ((zgu js ls ss).map dGp) [none,none,none,oS (.lst ((zca ss R).map D.str))] else none).bind _=_
  rw [qV (by rw [qe];unfold sizeLine;omega),zmX lnb (zgu js ls ss) onb,qa,qV (zmE _)]
  rfl
 have c2:bwA 3 (zaw (itF (vSh 3)) (zau 0) (toB (b2 zcf (vSh 0) (vSh 1))) (vSh 0) [none,some 6]) (wrE (zav bs ss js us ls ks h) r (zgu js ls ss) (zca ss R) (kvR js h r ss) R (oS (.lst ((zd5 js ls ss R).map D.str))) b c)=some (((ss.filter (frS ps R)).map (·.nm)).map D.str):=by
  unfold bwA zaw
  show (if ((zca ss R).map D.str).length<=sizeLine then zbr _ _ _ ((zca ss R).map D.str) [none,oS (.lst ((zd5 js ls ss R).map D.str))] else none).bind _=_
  rw [qV (by rw [qe];unfold sizeLine;omega),zm0 wnb (zca ss R) lnb,qa,qV (zmE _),zqZ g pi]
 have fsub:∀ s∈ss.filter (frS ps R),s∈ss:=fun s hs=>(List.mem_filter.mp hs).1
 generalize hF:ss.filter (frS ps R)=F at c2 fsub
 refine zkG (zbP c1 (zfr (ds:=(zd5 js ls ss R).map D.str) rfl (zkG (zbP c2 ?_))))
 have tst:bwT 7 (toB (b2 eqD (cF zcT (zac (vSh 7) zai)) (vC (.int 0)))) ((wrE (zav bs ss js us ls ks h) r (zgu js ls ss) (zca ss R) (kvR js h r ss) R (oS (.lst ((zd5 js ls ss R).map D.str))) b c).set 7 (some (.own ((F.map (·.nm)).map D.str))))=some (decide ((((F.map (·.nm)).map D.str).length:Int)=0)):=zoS rfl rfl
 show Wp (zar _ _ ((wrE (zav bs ss js us ls ks h) r (zgu js ls ss) (zca ss R) (kvR js h r ss) R (oS (.lst ((zd5 js ls ss R).map D.str))) b c).set 7 (some (.own ((F.map (·.nm)).map D.str))))) _
 refine zhe (zbP tst ?_)
 by_cases hf:F=[]
 ·subst hf
  rw [zqt hF,qV (by rfl)]
  exact ⟨_,rfl,rfl⟩
 ·have lf:F.length≠0:=fun z=>hf (List.length_eq_zero_iff.mp z)
  rw [qW (by simp only [qe,decide_eq_true_eq];omega)]
  obtain ⟨t,e1,e2⟩:=zqr (js:=js) (h:=h) (r:=r) hF hf
  rw [e1]
  refine zfr (ds:=(F.map (·.nm)).map D.str) rfl (zbp (w_2 (zax rfl (zax rfl (zbP (zs4 g.sn fsub hf) ?_)))))
  rw [← e2]
  have tm:t.2∈zca ss R:=by
   obtain ⟨s,hs,es,hn⟩:=(zjV e1).resolve_left (by intro z;cases z)
   rw [← es]
   exact List.mem_filter.mpr ⟨qU hs,by simpa using hn⟩
  refine zcz (zet (m:=D.str) (xs:=R) t.2 rfl (by omega) (zax rfl ⟨rfl,rfl,?_⟩))
  have rem:zsg 3 (vSh 8) (wrE (zav bs ss js us ls ks h) r (zgu js ls ss) (zca ss R) (kvR js h r ss) (R++[t.2]) (oS (.lst ((zd5 js ls ss R).map D.str))) (oS (.lst ((F.map (·.nm)).map D.str))) (oS (.str t.2)))=some (.nx,wrE (zav bs ss js us ls ks h) r (zgu js ls ss) (zca ss (R++[t.2])) (kvR js h r ss) (R++[t.2]) (oS (.lst ((zd5 js ls ss R).map D.str))) (oS (.lst ((F.map (·.nm)).map D.str))) (oS (.str t.2))):=by
   show (zfT ((zca ss R).map D.str)).bind _=_
   rw [zg7,qa,qV tm,zih g.sn]
   rfl
  exact ⟨_,rem,rfl,tm,_,_,_,rfl⟩
theorem zlh (g:Good bs ss js us ls ks h) (s8:ss.length<=8) {r:Str} {ps:List (Str×Str)} (pi:∀ a b,(a,b)∈ps↔(zgg js ls a b).isSome=true):∀ (m:Nat) (R:List Str) (n:Nat) (a b c:Option Slot),(zca ss R).length=n->n < m->R.length+n<=50->Wp (whL wT wB m (wrE (zav bs ss js us ls ks h) r (zgu js ls ss) (zca ss R) (kvR js h r ss) R a b c)) fun q=>match grd (NX js h r ps ss) n R with
  | none=>q.1=.rt .non
  | some R'=>q.1=.nx/\∃ a b c L,q.2=wrE (zav bs ss js us ls ks h) r (zgu js ls ss) L (kvR js h r ss) R' a b c
 | 0,_,_,_,_,_,_,h2,_=>absurd h2 (Nat.not_lt_zero _)
 | m+1,R,n,a,b,c,h1,h2,h3=>by
  have t:wT (wrE (zav bs ss js us ls ks h) r (zgu js ls ss) (zca ss R) (kvR js h r ss) R a b c)=some (decide ((0:Int) < ((zca ss R).map D.str).length)):=zoS rfl rfl
  unfold whL
  refine zfz (zbP t ?_)
  rw [qe,h1]
  cases n with
  | zero =>
   rw [qW (by decide)]
   exact ⟨_,rfl,rfl,a,b,c,_,rfl⟩
  | succ n =>
   rw [qV (qR (by omega))]
   refine zfz ((ztX g s8 pi (r:=r) (R:=R) (by omega)).imp fun q hq=>?_)
   obtain ⟨fl,ρ'⟩:=q
   unfold grd
   cases e:NX js h r ps ss R with
   | none =>
    rw [e] at hq
    have hq:fl=.rt .non:=hq
    subst hq
    exact ⟨_,rfl,rfl⟩
   | some t =>
    rw [e] at hq
    obtain ⟨h4,tm,a',b',c',h5⟩:=hq
    have h4:fl=.nx:=h4
    have h5:ρ'=_:=h5
    subst h4
    subst h5
    have ll:(zca ss (R++[t.2])).length=n:=by
     rw [← zih g.sn,List.length_erase_of_mem tm,h1];rfl
    exact zlh g s8 pi m (R++[t.2]) n a' b' c' ll (by omega) (by rw [qi];simp;omega)
end
def Sm:Nat->PyData->Prop
 | _,.int _=>True
 | _,.bool _=>True
 | _,.str x=>zay x=true
 | n+1,.list l=>∀ x∈l,Sm n x
 | n+1,.tuple l=>∀ x∈l,Sm n x
 | _,_=>False
theorem zjy:∀ {l:List PyData},(∀ x∈l,PyData.canLay0 x=true)->PyData.canLayAll0 l=true
 | [],_=>by simp [PyData.canLayAll0]
 | x::l,h=>by
  simp only [PyData.canLayAll0,h x qf,zjy fun y hy=>h y (qg _ hy),Bool.and_self]
theorem zhN {n:Nat}:∀ {l:List PyData},(∀ x∈l,PyData.depth x<=n)->PyData.depthAll l<=n
 | [],_=>by simp [PyData.depthAll]
 | x::l,h=>by
  have h1:=h x qf
  have h2:=zhN fun y hy=>h y (qg _ hy)
  simp only [PyData.depthAll]
  omega
theorem zjz:∀ {l:List PyData},(∀ x∈l,PyData.eqv x x=true)->PyData.eqvAll l l=true
 | [],_=>by simp [PyData.eqvAll]
 | x::l,h=>by
  simp only [PyData.eqvAll,h x qf,zjz fun y hy=>h y (qg _ hy),Bool.and_self]
theorem zhW:∀ (n:Nat) (p:PyData),Sm n p->PyData.canLay0 p=true/\PyData.depth p<=n/\PyData.eqv p p=true
 | n,.int i,_=>by simp [PyData.canLay0,PyData.depth,PyData.eqv]
 | n,.bool i,_=>by simp [PyData.canLay0,PyData.depth,PyData.eqv]
 | n,.str x,h=>by
  have h:zay x=true:=by cases n <;> exact h
  simp [PyData.canLay0,PyData.depth,PyData.eqv,zfE h]
 | n+1,.list l,h=>by
  have h:∀ x∈l,Sm n x:=h
  refine ⟨?_,?_,?_⟩
  ·simp only [PyData.canLay0];exact zjy fun x hx=>(zhW n x (h x hx)).1
  ·simp only [PyData.depth];have:=zhN fun x hx=>(zhW n x (h x hx)).2.1;omega
  ·simp only [PyData.eqv];exact zjz fun x hx=>(zhW n x (h x hx)).2.2
 | n+1,.tuple l,h=>by
  have h:∀ x∈l,Sm n x:=h
  refine ⟨?_,?_,?_⟩
  ·simp only [PyData.canLay0];exact zjy fun x hx=>(zhW n x (h x hx)).1
  ·simp only [PyData.depth];have:=zhN fun x hx=>(zhW n x (h x hx)).2.1;omega
  ·simp only [PyData.eqv];exact zjz fun x hx=>(zhW n x (h x hx)).2.2
 | 0,.list l,h=>by exact h.elim
 | 0,.tuple l,h=>by exact h.elim
 | 0,.none,h=>by exact h.elim
 | n+1,.none,h=>by exact h.elim
 | 0,.dict _,h=>by exact h.elim
 | n+1,.dict _,h=>by exact h.elim
theorem zqx {x y:D} {p:PyData} (h0:neD x y=none) (hx:pdD x=some p) (hy:pdD y=some p) (hs:Sm 8 p):neA x y=some (.bl false):=by
 obtain ⟨h1,h2,h3⟩:=zhW 8 p hs
 have sh:SeqAt.shaped p=true:=by
  show (p.canLay0 && decide (p.depth<=64))=true
  rw [h1,qR (by omega)];rfl
 have e0:neA x y=zqy x y:=by unfold neA orG;rw [h0]
 rw [e0]
 unfold zqy eqX
 rw [hx,hy,qa,qa,qV ⟨sh,sh⟩,h3]
 rfl
theorem zgO {α:Type} {f:α->D} {g:α->PyData} (h:∀ x,pdD (f x)=some (g x)):∀ xs:List α,zgt (xs.map f)=some (xs.map g)
 | []=>rfl
 | x::xs=>by
  rw [ql,ql,zgt,h x,qa,zgO h xs]
  rfl
theorem zia {l:List D} {ps:List PyData} (h:zgt l=some ps):pdD (.lst l)=some (.list ps):=by rw [pdD,h];rfl
theorem zuT {l:List D} {ps:List PyData} (h:zgt l=some ps):pdD (.tup l)=some (.tuple ps):=by rw [pdD,h];rfl
theorem zi1 {l:List D} {p:PyData} {ps:List PyData} (h1:pdD d=some p) (h:zgt l=some ps):zgt (d::l)=some (p::ps):=by rw [zgt,h1,qa,h];rfl
theorem zsL:zgt []=some []:=rfl
theorem zuh (i:Str):pdD (.str i)=some (.str i):=rfl
def pW (w:Str×Int):PyData:=.tuple [.str w.1,.int w.2]
def zuU (b:StepT):PyData:=.tuple [.str b.nm,.str b.kd,.list (b.ws.map pW)]
theorem zv5 (x:Str×Int):pdD (dW x)=some (pW x):=rfl
theorem zlU (b:StepT):pdD (zaH b)=some (zuU b):=zuT (zi1 (zuh _) (zi1 (zuh _) (zi1 (zia (zgO zv5 _)) zsL)))
theorem zls {g:α->PyData} {xs:List α} (h:∀ x∈xs,Sm n (g x)):Sm (n+1) (.list (xs.map g)):=fun y hy=>by
 obtain ⟨x,hx,rfl⟩:=List.mem_map.mp hy
 exact h x hx
theorem zuE {a b:PyData} (h1:Sm n a) (h2:Sm n b):Sm (n+1) (.tuple [a,b]):=fun y hy=>by
 simp only [qK,qI,or_false] at hy
 rcases hy with rfl | rfl <;> assumption
theorem zuD {a b c:PyData} (h1:Sm n a) (h2:Sm n b) (h3:Sm n c):Sm (n+1) (.tuple [a,b,c]):=fun y hy=>by
 simp only [qK,qI,or_false] at hy
 rcases hy with rfl | rfl | rfl <;> assumption
theorem zvW (n:Nat) (i:Int):Sm (n+1) (.int i):=trivial
theorem zuc (h:zay x=true):Sm (n+1) (.str x):=h
theorem zq0 {x y:D} {p:PyData} (h0:eqD x y=none) (hx:pdD x=some p) (hy:pdD y=some p) (hs:Sm 8 p):eqA x y=some (.bl true):=by
 obtain ⟨h1,h2,h3⟩:=zhW 8 p hs
 have sh:SeqAt.shaped p=true:=by
  show (p.canLay0 && decide (p.depth<=64))=true
  rw [h1,qR (by omega)];rfl
 have e0:eqA x y=zq1 x y:=by unfold eqA orG;rw [h0]
 rw [e0]
 unfold zq1 eqX
 rw [hx,hy,qa,qa,qV ⟨sh,sh⟩,h3]
 rfl
section
variable {bs:List BenchT}
theorem zky (g:Good bs ss js us ls ks h):eqA (.lst (ss.map zaH)) (.lst (ss.map zaH))=some (.bl true):=by
 have bn:∀ x∈bs.map (·.nm),zay x=true:=fun x hx=>by
  obtain ⟨b,hb,e⟩:=List.mem_map.mp hx
  rw [← e];exact (g.b b hb).nm
 exact zq0 rfl (zia (zgO zlU ss)) (zia (zgO zlU ss)) (zls fun b hb=>zuD (zuc (g.s b hb).nm) (zuc (g.s b hb).kd) (zls fun x hx=>zuE (zuc (bn _ ((g.s b hb).ws x hx).1)) (zvW _ _)))
theorem zjL (nb:∀ x∈R,zay x=true):neA (.lst (R.map D.str)) (.lst (R.map D.str))=some (.bl false):=zqx rfl (zia (zgO zuh R)) (zia (zgO zuh R)) (zls (n:=7) fun x hx=>zuc (nb x hx))
theorem zqB (g:Good bs ss js us ls ks h):zaO [zav bs ss js us ls ks h]=some ((ss.map (·.nm)).map D.str):=by
 unfold zaO
 have e:=zjY (f:=zaH) (nm:=fun s:StepT=>s.nm) (xs:=ss) (fo:=zkT "Shop" "steps" (vSh 0)) (ρ:=[oS (zav bs ss js us ls ks h)]) (fv:=[none]) (fun x=>⟨_,rfl⟩) (zfh (bs:=bs) (ss:=ss) (js:=js) (us:=us) (ls:=ls) (ks:=ks) (h:=h) 1 rfl rfl) (szN g.sl.2 (by decide)) rfl
 obtain ⟨l,e1,e2⟩:=oMd e
 unfold zsi znL
 show (Option.map _ (zaw _ _ _ _ _ [oS (zav bs ss js us ls ks h)])).bind _=_
 rw [e1]
 cases e2
 rfl
theorem zpW (g:Good bs ss js us ls ks h):zb7 [zav bs ss js us ls ks h]=some (.lst (ss.map zaH)):=by
 have hb:(bs.map (·.nm)).length<=40:=by rw [qe];have:=g.bl;omega
 have hp:Pl 8 (.lst (ss.map zaH)):=zdr (by have:=g.sl;omega) fun x hx=>zlJ (n:=3) (g.s x hx)
 exact za1 [oS (zav bs ss js us ls ks h)] rfl (zaZ (zcc (zaA (zfh 1 rfl rfl) za7) (zdC hp)))
theorem zpl (g:Good bs ss js us ls ks h) {r:Str} {ps:List (Str×Str)}:∀ (n:Nat) (R R':List Str),(∀ x∈R,zay x=true)->grd (NX js h r ps ss) n R=some R'->∀ x∈R',zay x=true
 | 0,R,R',hR,e=>by cases e;exact hR
 | n+1,R,R',hR,e=>by
  unfold grd at e
  cases q:NX js h r ps ss R with
  | none=>rw [q] at e;cases e
  | some t =>
   rw [q] at e
   refine zpl g n (R++[t.2]) R' (fun y hy=>?_) e
   obtain ⟨s,hs,es,_⟩:=(zjV q).resolve_left (by intro z;cases z)
   rcases List.mem_append.mp hy with hy | hy
   ·exact hR y hy
   ·rw [List.mem_singleton.mp hy,← es];exact (g.s s hs).nm
end
section
variable {bs:List BenchT}
theorem zmY (g:Good bs ss js us ls ks h) {r:Str} (hr:r∈zdy):∀ (xs:List StepT),(∀ s∈xs,s∈ss)->∀ (a:Option Slot),zbr (zau 0) tT (zbJ (szF (zac (vSh 0) (zac (cF zbs (zac (vSh 1) (zac (vSh 2) (zac (vSh 0) zai)))) zai)))) ((xs.map (·.nm)).map D.str) [a,oS (zav bs ss js us ls ks h),oS (.str r)]=some (xs.map fun s=>.tup [.str s.nm,.int (zbz js h r s)])
 | [],_,_=>rfl
 | s::t,hx,a=>by
  have ih:=zmY g hr t (fun q hq=>hx q (qg _ hq)) (oS (.str s.nm))
  have t2:=zfQ (f:=vSh 0) (g:=cF zbs (zac (vSh 1) (zac (vSh 2) (zac (vSh 0) zai)))) (ρ:=[oS (.str s.nm),oS (zav bs ss js us ls ks h),oS (.str r)]) (x:=.str s.nm) rfl (zcc (zaA rfl (zaA rfl (zaA rfl za7))) (zpY g (hx s qf) hr))
  have e:zbr (zau 0) tT (zbJ (szF (zac (vSh 0) (zac (cF zbs (zac (vSh 1) (zac (vSh 2) (zac (vSh 0) zai)))) zai)))) (((s::t).map (·.nm)).map D.str) [a,oS (zav bs ss js us ls ks h),oS (.str r)]=(zbJ (szF (zac (vSh 0) (zac (cF zbs (zac (vSh 1) (zac (vSh 2) (zac (vSh 0) zai)))) zai))) [oS (.str s.nm),oS (zav bs ss js us ls ks h),oS (.str r)]).bind fun d=>(zbr (zau 0) tT (zbJ (szF (zac (vSh 0) (zac (cF zbs (zac (vSh 1) (zac (vSh 2) (zac (vSh 0) zai)))) zai)))) ((t.map (·.nm)).map D.str) [oS (.str s.nm),oS (zav bs ss js us ls ks h),oS (.str r)]).map (d::·):=rfl
  rw [e,t2,ih]
  rfl
theorem zsj (g:Good bs ss js us ls ks h) (s8:ss.length<=8) (hr:r∈zdy) {ps:List (Str×Str)} (pi:∀ a b,(a,b)∈ps↔(zgg js ls a b).isSome=true):zba [zav bs ss js us ls ks h,.str r]=some (dR (grd (NX js h r ps ss) ss.length [])):=by
 unfold zba
 have key:Wp (zar (zbq 2 (cF zcu (zac (vSh 0) zai))) (zar (zdV 3 (zmb "Shop" "step_names" zaO (vSh 0) zai)) (zar (zbq 4 (bw2 3 (cF zd0 (zac (zbb (zaw (itF (vSh 3)) (zau 0) tT (zbJ (szF (zac (vSh 0) (zac (cF zbs (zac (vSh 1) (zac (vSh 2) (zac (vSh 0) zai)))) zai)))) [none,some 0,some 1])) zai)))) (zar (zdV 5 (szF zai)) (zar (whL wT wB 50) (znK 5))))) [oS (zav bs ss js us ls ks h),oS (.str r),none,none,none,none,none,none,none]) fun q=>match grd (NX js h r ps ss) ss.length [] with
   | none=>q.1=.rt .non
   | some R'=>q.1=.ow (R'.map D.str):=by
  refine zbp (zdv rfl (zbP (zom g) ?_))
  have mo:zmb "Shop" "step_names" zaO (vSh 0) zai [oS (zav bs ss js us ls ks h),oS (.str r),oS (.lst ((zgu js ls ss).map dGp)),none,none,none,none,none,none]=some ((ss.map (·.nm)).map D.str):=by
   have hno:(zpn bs ss js us ls ks h).lookup ("step_names":Str)=none:=zeX (by rw [zgh];decide +kernel)
   show (if ("Shop":Str)="Shop"/\(zpn bs ss js us ls ks h).lookup ("step_names":Str)=none then zaO [zav bs ss js us ls ks h] else none)=_
   rw [qV ⟨rfl,hno⟩,zqB g]
  refine zkG (zbP mo ?_)
  have dk:bw2 3 (cF zd0 (zac (zbb (zaw (itF (vSh 3)) (zau 0) tT (zbJ (szF (zac (vSh 0) (zac (cF zbs (zac (vSh 1) (zac (vSh 2) (zac (vSh 0) zai)))) zai)))) [none,some 0,some 1])) zai)) [oS (zav bs ss js us ls ks h),oS (.str r),oS (.lst ((zgu js ls ss).map dGp)),some (.own ((ss.map (·.nm)).map D.str)),none,none,none,none,none]=some (.dk (kvR js h r ss)):=by
   have c0:zbb (zaw (itF (vSh 3)) (zau 0) tT (zbJ (szF (zac (vSh 0) (zac (cF zbs (zac (vSh 1) (zac (vSh 2) (zac (vSh 0) zai)))) zai)))) [none,some 0,some 1]) [oS (zav bs ss js us ls ks h),oS (.str r),oS (.lst ((zgu js ls ss).map dGp)),oS (.lst ((ss.map (·.nm)).map D.str)),none,none,none,none,none]=some (.lst (ss.map fun s=>.tup [.str s.nm,.int (zbz js h r s)])):=by
    refine zgR ?_
    unfold zaw
    show (if ((ss.map (·.nm)).map D.str).length<=sizeLine then zbr _ _ _ ((ss.map (·.nm)).map D.str) [none,oS (zav bs ss js us ls ks h),oS (.str r)] else none)=_
    rw [qV (by simp only [qe];unfold sizeLine;omega),zmY g hr ss fun _ z=>z]
   have kn:((kvR js h r ss).map (·.1)).Nodup:=by
    unfold kvR
    rw [qm]
    have:=List.Pairwise.map (S:=fun a b:Key=>a≠b) (Sum.inr:Str->Key) (fun a b hab z=>hab (Sum.inr.inj z)) g.sn
    rw [qm] at this
    exact this
   have dd:cF zd0 (zac (zbb (zaw (itF (vSh 3)) (zau 0) tT (zbJ (szF (zac (vSh 0) (zac (cF zbs (zac (vSh 1) (zac (vSh 2) (zac (vSh 0) zai)))) zai)))) [none,some 0,some 1])) zai) [oS (zav bs ss js us ls ks h),oS (.str r),oS (.lst ((zgu js ls ss).map dGp)),oS (.lst ((ss.map (·.nm)).map D.str)),none,none,none,none,none]=some (.dk (kvR js h r ss)):=by
    refine zcc (zaA c0 za7) ?_
    show (if _ then _ else _)=_
    rw [qV (by rw [qe];omega),zeV (nm:=fun s:StepT=>s.nm) (f:=fun s=>.int (zbz js h r s)),qd]
    exact congrArg (fun z=>some (D.dk z)) (zeW kn)
   unfold bw2
   show (cF zd0 _ [oS (zav bs ss js us ls ks h),oS (.str r),oS (.lst ((zgu js ls ss).map dGp)),oS (.lst ((ss.map (·.nm)).map D.str)),none,none,none,none,none]).bind _=_
   rw [dd,qa,qV]
   show ((kvR js h r ss).map (·.2)).all zio=true
   rw [List.all_eq_true]
   intro x hx
   obtain ⟨y,hy,rfl⟩:=List.mem_map.mp hx
   obtain ⟨s,_,rfl⟩:=List.mem_map.mp hy
   rfl
  refine zbp (zbP dk (zdZ ?_))
  have l0:zca ss []=ss.map (·.nm):=by
   unfold zca
   exact List.filter_eq_self.mpr fun x _=>rfl
  show Wp (zar _ _ (wrE (zav bs ss js us ls ks h) r (zgu js ls ss) (ss.map (·.nm)) (kvR js h r ss) [] none none none)) _
  have wh:=zlh g s8 pi (r:=r) 50 [] ss.length none none none (by rw [l0,qe]) (by omega) (by simp;omega)
  rw [l0] at wh
  obtain ⟨⟨fl,ρ'⟩,e1,e2⟩:=wh
  refine zfz ⟨_,e1,?_⟩
  cases gq:grd (NX js h r ps ss) ss.length [] with
  | none =>
   rw [gq] at e2
   have e2:fl=.rt .non:=e2
   subst e2
   exact ⟨_,rfl,rfl⟩
  | some R' =>
   rw [gq] at e2
   obtain ⟨e3,a,b,c,L,e4⟩:=e2
   have e3:fl=.nx:=e3
   have e4:ρ'=_:=e4
   subst e3
   subst e4
   exact ⟨_,rfl,rfl⟩
 obtain ⟨⟨fl,ρ'⟩,e1,e2⟩:=key
 show (Option.bind (zar _ _ [oS (zav bs ss js us ls ks h),oS (.str r),none,none,none,none,none,none,none]) _)=_
 refine Eq.trans (congrArg (fun z=>Option.bind z _) e1) ?_
 cases gq:grd (NX js h r ps ss) ss.length [] with
 | none =>
  rw [gq] at e2
  have e2:fl=.rt .non:=e2
  subst e2
  rfl
 | some R' =>
  rw [gq] at e2
  have e2:fl=.ow (R'.map D.str):=e2
  subst e2
  rfl
end
section
variable {bs:List BenchT}
abbrev qE (ns:List Int) (P S:D) (a b c:Option Slot):zaI:=[oS (.scr ns),oS P,oS S,a,b,c]
theorem zr1 (g:Good bs ss js us ls ks h) (j2:js.length<=2) (s8:ss.length<=8) (hr:r∈zdy) {b c:Option Slot} :Wp ((zar (zbq 4 (cF zcN (zac (vSh 1) (zac (vSh 3) zai)))) (zar (zrE 5 (cF zba (zac (vSh 2) (zac (vSh 3) zai)))) (sIf (toB (b2 isD (vSh 4) (vC .non))) (sIf (toB (b2 zgc (vSh 5) (vC .non))) (zaJ (vC (.bl false))) zbd) (zar (sIf (bwT 5 (orT (zbR (toB (cF zeZ (zac (vSh 5) (zac (vC (.ty "list")) zai))))) (toB (b2 neA (vSh 5) (vSh 4))))) (zaJ (vC (.bl false))) zbd) (zar (zek 5 (vC (.str "more"))) (sIf (toB (b2 neA (ovE (cF zba (zac (vSh 2) (zac (vSh 3) zai)))) (vSh 4))) (zaJ (vC (.bl false))) zbd)))))) (qE ns (zcL bs ss js us ls ks h) (zav bs ss js us ls ks h) (oS (.str r)) b c)) fun q=>q.1=.nx/\∃ b c,q.2=qE ns (zcL bs ss js us ls ks h) (zav bs ss js us ls ks h) (oS (.str r)) b c:=by
 obtain ⟨ps,pi,d,e1,e2⟩:=zs6 g j2 s8 hr
 have e3:=zsj g s8 hr pi
 refine zbp (zdv rfl (zbP e1 ?_))
 cases gq:grd (NX js h r ps ss) ss.length [] with
 | none =>
  rw [gq] at e2 e3
  subst e2
  have ov:zrE 5 (cF zba (zac (vSh 2) (zac (vSh 3) zai))) (qE ns (zcL bs ss js us ls ks h) (zav bs ss js us ls ks h) (oS (.str r)) (oS .non) c)=some (.nx,qE ns (zcL bs ss js us ls ks h) (zav bs ss js us ls ks h) (oS (.str r)) (oS .non) (oS .non)):=by
   show (Option.bind (zba [zav bs ss js us ls ks h,.str r]) _)=_
   rw [e3];rfl
  refine zcz (zbP ov ⟨rfl,?_⟩)
  exact ⟨(.nx,qE ns (zcL bs ss js us ls ks h) (zav bs ss js us ls ks h) (oS (.str r)) (oS .non) (oS .non)),rfl,rfl,_,_,rfl⟩
 | some R =>
  have nb:=zpl g ss.length [] R (fun _ z=>nomatch z) gq
  rw [gq] at e2 e3
  subst e2
  have ov:zrE 5 (cF zba (zac (vSh 2) (zac (vSh 3) zai))) (qE ns (zcL bs ss js us ls ks h) (zav bs ss js us ls ks h) (oS (.str r)) (oS (.lst (R.map D.str))) c)=some (.nx,qE ns (zcL bs ss js us ls ks h) (zav bs ss js us ls ks h) (oS (.str r)) (oS (.lst (R.map D.str))) (some (.own (R.map D.str)))):=by
   show (Option.bind (zba [zav bs ss js us ls ks h,.str r]) _)=_
   rw [e3];rfl
  have rl:R.length<=1000:=by
   have gl:∀ (n:Nat) (Q R':List Str),grd (NX js h r ps ss) n Q=some R'->R'.length=Q.length+n:=by
    intro n
    induction n with
    | zero=>intro Q R' e;cases e;rfl
    | succ n ih =>
     intro Q R' e
     unfold grd at e
     split at e
     ·cases e
     ·have:=ih _ _ e
      rw [qi] at this
      simp at this
      omega
   have:=gl _ _ _ gq
   simp at this
   omega
  refine zcz (zbP ov ⟨rfl,?_⟩)
  have nt:sIf (toB (b2 isD (vSh 4) (vC .non))) (sIf (toB (b2 zgc (vSh 5) (vC .non))) (zaJ (vC (.bl false))) zbd) (zar (sIf (bwT 5 (orT (zbR (toB (cF zeZ (zac (vSh 5) (zac (vC (.ty "list")) zai))))) (toB (b2 neA (vSh 5) (vSh 4))))) (zaJ (vC (.bl false))) zbd) (zar (zek 5 (vC (.str "more"))) (sIf (toB (b2 neA (ovE (cF zba (zac (vSh 2) (zac (vSh 3) zai)))) (vSh 4))) (zaJ (vC (.bl false))) zbd))) (qE ns (zcL bs ss js us ls ks h) (zav bs ss js us ls ks h) (oS (.str r)) (oS (.lst (R.map D.str))) (some (.own (R.map D.str))))=(zar (sIf (bwT 5 (orT (zbR (toB (cF zeZ (zac (vSh 5) (zac (vC (.ty "list")) zai))))) (toB (b2 neA (vSh 5) (vSh 4))))) (zaJ (vC (.bl false))) zbd) (zar (zek 5 (vC (.str "more"))) (sIf (toB (b2 neA (ovE (cF zba (zac (vSh 2) (zac (vSh 3) zai)))) (vSh 4))) (zaJ (vC (.bl false))) zbd))) (qE ns (zcL bs ss js us ls ks h) (zav bs ss js us ls ks h) (oS (.str r)) (oS (.lst (R.map D.str))) (some (.own (R.map D.str)))):=zqR rfl
  show Wp (sIf _ _ _ (qE ns (zcL bs ss js us ls ks h) (zav bs ss js us ls ks h) (oS (.str r)) (oS (.lst (R.map D.str))) (some (.own (R.map D.str))))) _
  rw [nt]
  have t1:bwT 5 (orT (zbR (toB (cF zeZ (zac (vSh 5) (zac (vC (.ty "list")) zai))))) (toB (b2 neA (vSh 5) (vSh 4)))) (qE ns (zcL bs ss js us ls ks h) (zav bs ss js us ls ks h) (oS (.str r)) (oS (.lst (R.map D.str))) (some (.own (R.map D.str))))=some false:=by
   refine zoS rfl ?_
   unfold orT
   show (Option.bind (some false) _)=_
   rw [qa,qW qq]
   exact zbF (zc8 rfl rfl (zjL nb))
  rw [zbD t1]
  refine zcz (zet (m:=D.str) (xs:=R) "more" rfl rl (w_c ⟨rfl,rfl,?_⟩))
  have t2:toB (b2 neA (ovE (cF zba (zac (vSh 2) (zac (vSh 3) zai)))) (vSh 4)) (qE ns (zcL bs ss js us ls ks h) (zav bs ss js us ls ks h) (oS (.str r)) (oS (.lst (R.map D.str))) (some (.own ((R++[("more":Str)]).map D.str))))=some false:=by
   refine zbF (zc8 (x:=.lst (R.map D.str)) ?_ rfl (zjL nb))
   unfold ovE
   show (Option.bind (zba [zav bs ss js us ls ks h,.str r]) _)=_
   rw [e3];rfl
  refine ⟨(.nx,qE ns (zcL bs ss js us ls ks h) (zav bs ss js us ls ks h) (oS (.str r)) (oS (.lst (R.map D.str))) (some (.own ((R++[("more":Str)]).map D.str)))),?_,rfl,_,_,rfl⟩
  exact (zqR t2).trans rfl
theorem zoi (ns:List Int) (hns:ns.length<=63):zt3 [.scr ns]=some (.bl true):=by
 obtain ⟨_,e0,bs,ss,js,us,ls,ks,h,rfl,g,s8,j2⟩:=zqk ns
 have ml:(js.flatMap (·.ms)).length<=300:=by
  have:∀ js:List JobT,(∀ j∈js,j.ms.length<=8)->(js.flatMap (·.ms)).length<=js.length*8:=by
   intro js
   induction js with
   | nil=>intro _;simp
   | cons j r ih =>
    intro hj
    rw [List.flatMap_cons,qi,qh]
    have:=ih fun x hx=>hj x (qg _ hx)
    have:=hj j qf
    omega
  have:=this js fun j hj=>by
   have:=(g.j j hj).ln
   rw [qe] at this
   omega
  omega
 have e1:=zpS g ml
 unfold zt3
 have key:Wp (zar (zbq 1 (cF zcy (zac (vSh 0) (zac (vC (.int 8)) zai)))) (zar (zbq 2 (cF zdn (zac (vSh 1) zai))) (zar (zcS (itF (zbb (szF (zac (vC (.str "told")) (zac (vC (.str "long")) (zac (vC (.str "due")) (zac (vC (.str "slack")) zai))))))) (zau 3) (zar (zbq 4 (cF zcN (zac (vSh 1) (zac (vSh 3) zai)))) (zar (zrE 5 (cF zba (zac (vSh 2) (zac (vSh 3) zai)))) (sIf (toB (b2 isD (vSh 4) (vC .non))) (sIf (toB (b2 zgc (vSh 5) (vC .non))) (zaJ (vC (.bl false))) zbd) (zar (sIf (bwT 5 (orT (zbR (toB (cF zeZ (zac (vSh 5) (zac (vC (.ty "list")) zai))))) (toB (b2 neA (vSh 5) (vSh 4))))) (zaJ (vC (.bl false))) zbd) (zar (zek 5 (vC (.str "more"))) (sIf (toB (b2 neA (ovE (cF zba (zac (vSh 2) (zac (vSh 3) zai)))) (vSh 4))) (zaJ (vC (.bl false))) zbd))))))) (zaJ (b2 eqA (zdW "Shop" "step_rows" zb7 (vSh 2) zai) (b2 ixD (vSh 1) (vC (.int 1))))))) [oS (.scr ns),none,none,none,none,none]) fun q=>q.1=.rt (.bl true):=by
  refine zbp (zdv rfl (zbP e0 (zbp (zdv rfl (zbP e1 ?_)))))
  refine zcz (zdU (fun i ρ=>∃ a b c,ρ=qE ns (zcL bs ss js us ls ks h) (zav bs ss js us ls ks h) a b c) (zbP (a:=zdy.map D.str) rfl ⟨⟨none,none,none,rfl⟩,?_,?_⟩))
  ·rintro i x ρ hx ⟨a,b,c,rfl⟩
   obtain ⟨r,hr,rfl⟩:=ziR hx
   exact zbP rfl ((zr1 g j2 s8 (qO hr)).imp fun q ⟨e,b,c,e2⟩=>⟨e,_,b,c,e2⟩)
  ·rintro ρ ⟨a,b,c,rfl⟩
   exact ⟨rfl,zer (zbP (zc8 (zea (by decide +kernel) rfl za7 (zpW g)) (x:=.lst (ss.map zaH)) (y:=.lst (ss.map zaH)) rfl (zky g)) rfl)⟩
 obtain ⟨⟨fl,ρ'⟩,k1,k2⟩:=key
 have k2:fl=.rt (.bl true):=k2
 subst k2
 show (Option.bind (zar _ _ [oS (.scr ns),none,none,none,none,none]) _)=_
 exact Eq.trans (congrArg (fun z=>Option.bind z _) k1) rfl
end
def zpO (K:PySem.W.Frag):Sp:=fun vs H Q _=>∃ (a:Addr) (ns:List Int) (H1:Hp),vs=[.ref a]/\H1 59=none/\H=upd H1 59 (.tbl #[])/\SqL K H1 a (ns.map V.int)/\ns.length<=63/\∀ H',Q (.bl true) H'
theorem all_mk {l:PySem.W.OpenLaw} {h:Heap} {fa:Addr} (X:K.In h) (G:h.Ns mainGlobals mg) (hfa:mg "law"=some (.ref fa))
  (aC_Shop:PySem.W.nsIn K mainGlobals "Shop"=some (some (.ref C_Shop)))
  (pg_Shop:PySem.W.plainGet K C_Shop Str.empty=true) (hd_Shop:PySem.W.hasDictIn K C_Shop=true) (po_Shop:PySem.W.plainOver K C_Shop=true) (sa_Shop:PySem.W.findIn K (.ref C_Shop) "__setattr__"=some (some (.builtin "object.__setattr__"))) (mk_Shop:PySem.W.makesIn K C_Shop=true) (kc_Shop:PySem.W.keepIn K (.ref C_Shop)=true)
  (n0_Shop:PySem.W.findIn K (.ref C_Shop) "benches"=some none)
  (n1_Shop:PySem.W.findIn K (.ref C_Shop) "steps"=some none)
  (n2_Shop:PySem.W.findIn K (.ref C_Shop) "jobs"=some none)
  (n3_Shop:PySem.W.findIn K (.ref C_Shop) "setups"=some none)
  (n4_Shop:PySem.W.findIn K (.ref C_Shop) "links"=some none)
  (n5_Shop:PySem.W.findIn K (.ref C_Shop) "stocks"=some none)
  (n6_Shop:PySem.W.findIn K (.ref C_Shop) "horizon"=some none)
  (n7_Shop:PySem.W.findIn K (.ref C_Shop) "bench_by_name"=some none)
  (n8_Shop:PySem.W.findIn K (.ref C_Shop) "step_by_name"=some none)
  (n9_Shop:PySem.W.findIn K (.ref C_Shop) "setup_by_names"=some none)
  (n10_Shop:PySem.W.findIn K (.ref C_Shop) "job_by_step"=some none)
  {cc:Addr} (a55:PySem.W.nsIn K mainGlobals "row_by"=some (some (.ref f55))) (l55:K.lookup f55=some ⟨oc55,od55,.func (PySem.W.fnOf "row_by" "row_by" (zbW (top 9)) (zaV (top 9)) (zah (top 9)) .none kV55 dc55 pm55 an55 (.ref cc) ct55),sl55⟩) (c55:PySem.W.codeIn K (.ref cc) "row_by"=true) (k55:PySem.W.keepIn K (.ref f55)=true) (hd:PySem.W.codeHdIn K cc 59=true) (hq:K.lookup 59=none)
  (a57:PySem.W.nsIn K mainGlobals "law"=some (some (.ref f57))) (l57:K.lookup f57=some ⟨oc57,od57,.func (PySem.W.fnOf "law" "law" (zbW (top 72)) (zaV (top 72)) (zah (top 72)) .none kV57 dc57 pm57 an57 cd57 ct57),sl57⟩) (c57:PySem.W.codeIn K cd57 "law"=true) (k57:PySem.W.keepIn K (.ref f57)=true)
  (V:Vd K mg C_Shop)
 : ∃ (fd:FuncData) (c:Addr),PySem.W.codeHdIn K c 59=true/\K.lookup 59=none/\(∀ (s:Shared) (v:Value),BindsTo s fd ⟨[v],[]⟩ [("_law_script",v)])/\∀ base:Heap,K.In base->base.Ns mainGlobals mg->base.BuiltinsAt mg 59->FnOk l.prog w K mg base CX0 13 fa fd ["_law_script"] (zpO K):=by
 have e:=hfa.symm.trans (PySem.W.mg_of X G a57)
 have e2:=Value.ref.inj (qG e)
 subst e2
 have O_Shop:ClsOk (Gam C_Shop) K mg "Shop" C_Shop:=⟨by unfold Gam;rfl,⟨pg_Shop,hd_Shop,po_Shop,sa_Shop⟩,PySem.W.mg_of X G aC_Shop,mk_Shop,kc_Shop⟩
 have cf_Shop:CF (Gam C_Shop) K "Shop" znj:=O_Shop.cf (List.forall_mem_cons.mpr ⟨n0_Shop,(List.forall_mem_cons.mpr ⟨n1_Shop,(List.forall_mem_cons.mpr ⟨n2_Shop,(List.forall_mem_cons.mpr ⟨n3_Shop,(List.forall_mem_cons.mpr ⟨n4_Shop,(List.forall_mem_cons.mpr ⟨n5_Shop,(List.forall_mem_cons.mpr ⟨n6_Shop,(List.forall_mem_cons.mpr ⟨n7_Shop,(List.forall_mem_cons.mpr ⟨n8_Shop,(List.forall_mem_cons.mpr ⟨n9_Shop,(List.forall_mem_cons.mpr ⟨n10_Shop,(List.forall_mem_nil _)⟩)⟩)⟩)⟩)⟩)⟩)⟩)⟩)⟩)⟩)⟩)
 have V:Vw K mg C_Shop:={ V with O_Shop,cf_Shop }
 refine ⟨PySem.W.fnOf "law" "law" (zbW (top 72)) (zaV (top 72)) (zah (top 72)) .none kV57 dc57 pm57 an57 cd57 ct57,cc,hd,hq,fun s v=>.of_eq rfl,fun base KB _ HB=>?_⟩
 have C_row_by:CalJ (Gam C_Shop) l.prog w K mg base (zkv 59) "row_by" 2 12 zba:=⟨f55,_,["shop","rule"],okJ (k:=11) l55 c55 zcv ztj (zk8 V (PySem.W.codeHd_of_K KB hd) HB f55),PySem.W.mg_of X G a55,k55,.all (fun us hl=>match us,hl with | [_,_],_=>rfl)⟩
 have ok:=okJ (k:=12) l57 c57 zgJ ztj (zrr (P:=l.prog) (w:=w) (base:=base) V C_row_by fa _)
 refine ok.imp fun vs H Q E hq=>?_
 obtain ⟨a,ns,H1,rfl,h0,rfl,hS,hlen,k⟩:=hq
 exact ⟨H1,T0 59,[.scr ns],.bl true,.inl rfl,zuB h0,zpM,.cons (.scr hS) .nil,rfl,zoi ns hlen,fun G' H' T' _ _=>k H'⟩
theorem walk {l:PySem.W.OpenLaw} {d:DefRec} {K:Params->PySem.W.Frag} (hn:l.most=some 63) (hdf:d.params.defaults=[])
  (hY:∀ (w:World) (h:Heap),YP w h->(K w.params).In h/\h.get? 59=some (PySem.W.tabObj #[]))
  (F:∀ (w:World) (mg:Str->Option Value) (fa:Addr) (h:Heap),(K w.params).In h->h.Ns mainGlobals mg->mg d.name=some (.ref fa) ->
   ∃ (fd:FuncData) (c:Addr),PySem.W.codeHdIn (K w.params) c 59=true/\(K w.params).lookup 59=none/\(∀ (s:Shared) (u:Value),BindsTo s fd ⟨[u],[]⟩ [("_law_script",u)])/\∀ base:Heap,(K w.params).In base->base.Ns mainGlobals mg->base.BuiltinsAt mg 59->FnOk l.prog w (K w.params) mg base CX0 13 fa fd ["_law_script"] (zpO (K w.params))) :
  PySem.W.WalkO q loose XP YP l.row.toRowW d [] (fun f vs=>PySem.call f vs) :=
 L2.walk_ofJ (n:=63) (k:=13) (x:="_law_script") (Q:=59) (sp:=fun w=>zpO (K w.params)) hn (by decide) hdf ⟨rfl,by decide,by decide⟩ hY F (fun _ H a ns hl h0 hS=>⟨a,ns,H,rfl,h0,rfl,hS,hl,fun _=>rfl⟩)
end Law
end L2
def PySem.W.Fast.tw18223311387215532842:Unit:=()
def PySem.W.Fast.tw10429215688112117019:Unit:=()
def PySem.W.Fast.tw15533076386736530868:Unit:=()
def PySem.W.Fast.tw17276800024745860918:Unit:=()
def PySem.W.Fast.tw9484207793913340557:Unit:=()
def PySem.W.Fast.tw13494705967763323166:Unit:=()
def PySem.W.Fast.tw7103773561703127968:Unit:=()
def PySem.W.Fast.tw8585090855446781649:Unit:=()
def PySem.W.Fast.tw12267919467332251018:Unit:=()
def PySem.W.Fast.tw16332116024026265958:Unit:=()
def PySem.W.Fast.tw9639187912427913843:Unit:=()
def PySem.W.Fast.tw15603827081897452326:Unit:=()
def PySem.W.Fast.tw2454825084819036244:Unit:=()
def PySem.W.Fast.tw11191280561580028699:Unit:=()
def PySem.W.Fast.tw5464297478266094642:Unit:=()
def PySem.W.Fast.tw12368402237183247167:Unit:=()
def PySem.W.Fast.tw6127033001069566723:Unit:=()
def PySem.W.Fast.tw6322649404281001114:Unit:=()
def PySem.W.Fast.tw3034324767238391402:Unit:=()
def PySem.W.Fast.tw8523141554004819954:Unit:=()
def PySem.W.Fast.tw17489168105133106884:Unit:=()
def PySem.W.Fast.tw13741924419848153006:Unit:=()
def PySem.W.Fast.tw15282718051404289128:Unit:=()
def PySem.W.Fast.tw6349919870084526442:Unit:=()
def PySem.W.Fast.tw14880349802721876891:Unit:=()
def PySem.W.Fast.tw15693275507681619072:Unit:=()
def PySem.W.Fast.tw10236405388031660454:Unit:=()
def PySem.W.Fast.tw11266661282436677715:Unit:=()
def PySem.W.Fast.tw7306687428677120999:Unit:=()
def PySem.W.Fast.tw16616889764130905336:Unit:=()
def PySem.W.Fast.tw10462678439395189258:Unit:=()
def PySem.W.Fast.tw11971926728509407548:Unit:=()
def PySem.W.Fast.tw14848855215834756380:Unit:=()
def PySem.W.Fast.tw4926698051868543545:Unit:=()
def PySem.W.Fast.tw12988007731665367977:Unit:=()
def PySem.W.Fast.tw11873699083544096988:Unit:=()
def PySem.W.Fast.tw10234874415117040263:Unit:=()
def PySem.W.Fast.tw16147670213624899361:Unit:=()
def PySem.W.Fast.tw17727497873454363931:Unit:=()
def PySem.W.Fast.tw13646069895277789011:Unit:=()
def PySem.W.Fast.tw4036691990965023540:Unit:=()
def PySem.W.Fast.tw17826669511742511082:Unit:=()
def PySem.W.Fast.tw5662053511579156412:Unit:=()
def PySem.W.Fast.tw9795449450625501075:Unit:=()
def PySem.W.Fast.tw14052278470696182450:Unit:=()
def PySem.W.Fast.tw15686314476685495206:Unit:=()
def PySem.W.Fast.tw8233111827419922129:Unit:=()
def PySem.W.Fast.tw15461474384346090825:Unit:=()
def PySem.W.Fast.tw10004204368876325777:Unit:=()
def PySem.W.Fast.tw2563993995954668030:Unit:=()
def PySem.W.Fast.tw8220990434791764098:Unit:=()
def PySem.W.Fast.tw3557300950401182657:Unit:=()
def PySem.W.Fast.tw7049252216649838455:Unit:=()
def PySem.W.Fast.tw7484476071141898663:Unit:=()
def PySem.W.Fast.tw5665044707387299522:Unit:=()
def PySem.W.Fast.tw447639585270780228:Unit:=()
def PySem.W.Fast.tw9105749827321213118:Unit:=()
def PySem.W.Fast.tw9961239403071764840:Unit:=()
def PySem.W.Fast.tw3710653468519821954:Unit:=()
def PySem.W.Fast.tw11712900236344413051:Unit:=()
open PySem PySem.W PyProof.Rows L2
set_option maxRecDepth 100000 in
set_option maxHeartbeats 0 in
theorem PySem.Challenge.cw_shopbound_k68_rows_by_rules_holds : PySem.Challenge.rw_shopbound_k68_rows_by_rules.Holds := by
 w_on;o_law;k_head;(case hw=>w_witness2)
 k_fill
 refine Law.walk (l:=PySem.Challenge.rw_shopbound_k68_rows_by_rules) rfl rfl (fun w h Y=>⟨PySem.W.km_in_of Y,PySem.W.km_tabs_of Y 59 (qf)⟩) ?F
 case F =>
  intro w mg fa h KX G hmg
  refine' Law.all_mk KX G hmg ?aC_Shop ?pg_Shop ?hd_Shop ?po_Shop ?sa_Shop ?mk_Shop ?kc_Shop ?n0_Shop ?n1_Shop ?n2_Shop ?n3_Shop ?n4_Shop ?n5_Shop ?n6_Shop ?n7_Shop ?n8_Shop ?n9_Shop ?n10_Shop ?a55 ?l55 ?c55 ?k55 ?hd ?hq ?a57 ?l57 ?c57 ?k57 ?V
  (case aC_Shop=>k_is)
  (case pg_Shop=>k_is)
  (case hd_Shop=>k_is)
  (case po_Shop=>k_is)
  (case sa_Shop=>k_is)
  (case mk_Shop=>k_is)
  (case kc_Shop=>k_is)
  (case n0_Shop=>k_is)
  (case n1_Shop=>k_is)
  (case n2_Shop=>k_is)
  (case n3_Shop=>k_is)
  (case n4_Shop=>k_is)
  (case n5_Shop=>k_is)
  (case n6_Shop=>k_is)
  (case n7_Shop=>k_is)
  (case n8_Shop=>k_is)
  (case n9_Shop=>k_is)
  (case n10_Shop=>k_is)
  (case a55=>k_is)
  (case l55=>k_is)
  (case c55=>k_is)
  (case k55=>k_is)
  (case hd=>first | k_is | kernel_rfl)
  (case hq=>first | k_is | kernel_rfl)
  (case a57=>k_is)
  (case l57=>k_is)
  (case c57=>k_is)
  (case k57=>k_is)
  (case V=>constructor;all_goals first | (refine' Dfn.mk' KX G ?a ?l ?c ?k;(case a=>k_is);(case l=>k_is);(case c=>k_is);(case k=>k_is)) | (refine' DfnM.mk' ?a ?i ?l ?c ?k;(case a=>k_is);(case i=>k_is);(case l=>k_is);(case c=>k_is);(case k=>k_is)) | (refine' PySem.W.mg_none_of KX G ?a;(case a=>k_is)) | (refine' Law.tkI_of KX G ?a;(case a=>k_is)))
end
end
