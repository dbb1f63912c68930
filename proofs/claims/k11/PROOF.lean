import PyProof.Rows.All
import Wide.All
import OpenK.AllK
import Wide.FinOn
import Lean
import PyProof.EqAt
import PyProof.EqKinds
import PyProof.TupleCall
import KE.KDictOf
import PyProof.AttrMiss
import PyProof.IsiH_list
import PySem.SetOps
import KE.KEqDict
import KE.KItemsList
import KE.KDictSum
import KE.KRevSl
import PyProof.Rows.SortStr
import PyProof.Rows.SortWalk
import PyProof.DictWalks
import PyProof.StrLawsTight
import KE.KIntText
import PyProof.Rows.StrIntSpec
import PyProof.StrLawsJoin
import KE.KTryMore
import PyProof.NsDelKeeps
import PyProof.ExcAttrAll.ValueError
import PyProof.StrReplace2
import PyProof.ReprStr
import PyProof.Rows.RuleU_int
import KE.RegKIsAll
import KE.RegKTryMore
import PyProof.InstStoreFacts
import PyProof.ExcInit
import KE.KMinBuiltin
import PyProof.MinMaxWalk
import PyProof.Rows.CallKwBuiltin
import PyProof.WalkInts
import PySem.Challenge.RW_shopbound_k11_shops_written
set_option Elab.async false
set_option linter.all false
set_option maxRecDepth 100000
theorem oBd {α:Type u} {β:Type v} {o:Option α} {f:α->Option β} {b:β} (h:o.bind f=some b):∃ a,o=some a/\f a=some b:=Option.bind_eq_some_iff.mp h
theorem oMd {α:Type u} {β:Type v} {o:Option α} {f:α->β} {b:β} (h:o.map f=some b):∃ a,o=some a/\f a=b:=Option.map_eq_some_iff.mp h
noncomputable section
section
open PySem PySem.Spec PyProof.Rows
def qa:=@Option.bind_some
def qb:=@List.getElem?_cons_zero
def qc:=@List.getElem?_cons_succ
def qd:=@Option.map_some
def qe:=@List.length_map
def qf:=@List.mem_cons_self
def qg:=@List.mem_cons_of_mem
def qh:=@List.length_cons
def qi:=@List.length_append
def qj:=@List.getElem?_map
def qk:=@List.length_nil
def ql:=@List.map_cons
def qm:=@List.map_map
def qo:=@List.cons_append
def qp:=@Bool.false_eq_true
def qq:=@Bool.false_ne_true
def qr:=@Heap.get?_push_of_some
def qt:=@Heap.lt_size
def qu:=@Nat.le_refl
def qv:=@wpAny_bind
def qw:=@List.getElem?_append_left
def qx:=@wpAny_pure
def qy:=@List.size_toArray
def qz:=@Nat.ne_of_lt
def qA:=@List.getElem?_eq_getElem
def qB:=@List.length_take
def qC:=@Nat.lt_of_lt_of_le
def qD:=@Heap.get?_push_size
def qE:=@Option.some.inj
def qF:=@Array.getElem?_toList
def qG:=@List.not_mem_nil
def qH:=@List.getElem?_append_right
def qI:=@List.mem_cons
def qJ:=@Nat.le_trans
def qK:=@decide_eq_false
def qL:=@List.map_nil
def qM:=@List.mem_of_getElem?
def qN:=@List.mem_append_right
def qO:=@List.nil_append
def qP:=@decide_eq_true
def qQ:=@wpAny_holding
def qR:=@List.length_range
def qS:=@Int.emod_lt_of_pos
def qT:=@List.length_singleton
def qU:=@Int.emod_nonneg
def qV:=@if_pos
def qW:=@if_neg
end
section
namespace L2
open PySem PySem.Spec PyProof.Rows
abbrev Key:=Sum Int Str
def zls:Key->Value->Bool
 | .inl k,v=>Value.isInt k v
 | .inr x,v=>Value.isStrOf x v
def zvz (w:World):Key->Int
 | .inl k=>hashInt k
 | .inr x=>hashStr w x
theorem zbG:∀ {k:Key} {v:Value},zls k v=true->(∃ i t,k=Sum.inl i/\v=Value.int i t)\/(∃ x t,k=Sum.inr x/\v=Value.str x t)
 | .inl i,v,h=>by
  obtain ⟨t,e⟩:=Value.isInt_shape (k:=i) (v:=v) h
  exact .inl ⟨i,t,rfl,e⟩
 | .inr x,v,h=>by
  obtain ⟨t,e⟩:=Value.isStrOf_shape (x:=x) (v:=v) h
  exact .inr ⟨x,t,rfl,e⟩
theorem zmC (i:Int) (t:Tok):zls (.inl i) (.int i t)=true:=by simp [zls,Value.isInt]
theorem zmB (x:Str) (t:Tok):zls (.inr x) (.str x t)=true:=by simp [zls,Value.isStrOf]
theorem zsN (a b:Int):decide ((Sum.inl a:Key)=Sum.inl b)=(a==b):=by
 by_cases e:a=b
 ·subst e;simp
 ·have h:¬ (Sum.inl a:Key)=Sum.inl b:=fun q=>e (Sum.inl.inj q)
  rw [qK h]
  exact (beq_eq_false_iff_ne.mpr e).symm
theorem zsK (a b:Str):decide ((Sum.inr a:Key)=Sum.inr b)=decide (a=b):=by
 by_cases e:a=b
 ·subst e;simp
 ·have h:¬ (Sum.inr a:Key)=Sum.inr b:=fun q=>e (Sum.inr.inj q)
  rw [qK h,qK e]
theorem zsM (a:Int) (b:Str):decide ((Sum.inl a:Key)=Sum.inr b)=false:=qK (fun q=>nomatch q)
theorem zsL (a:Str) (b:Int):decide ((Sum.inr a:Key)=Sum.inl b)=false:=qK (fun q=>nomatch q)
def zbo (prog:Program) (w:World):PySem.KeyKind prog w Key where
 is:=zls
 hash:=zvz w
 inj:=fun v a b ha hb=>by
  rcases zbG ha with ⟨i,t,rfl,rfl⟩ | ⟨x,t,rfl,rfl⟩
  ·rcases zbG hb with ⟨j,u,rfl,e⟩ | ⟨y,u,rfl,e⟩
   ·injection e with e1 _;rw [e1]
   ·exact nomatch e
  ·rcases zbG hb with ⟨j,u,rfl,e⟩ | ⟨y,u,rfl,e⟩
   ·exact nomatch e
   ·injection e with e1 _;rw [e1]
 byValue:=fun k v h=>by
  rcases zbG h with ⟨i,t,rfl,rfl⟩ | ⟨x,t,rfl,rfl⟩ <;> rfl
 pyHash:=fun hv h=>by
  rcases zbG hv with ⟨i,t,rfl,rfl⟩ | ⟨x,t,rfl,rfl⟩
  ·exact wpAny_pyHash_int h
  ·exact wpAny_pyHash_str h
 eqBool:=fun hu hv h=>by
  rcases zbG hu with ⟨i,t,rfl,rfl⟩ | ⟨x,t,rfl,rfl⟩
  ·rcases zbG hv with ⟨j,u,rfl,rfl⟩ | ⟨y,u,rfl,rfl⟩
   ·rw [zsN] at h;exact wpAny_eqBool_int h
   ·rw [zsM] at h;exact SeqAt.EqAt.int_str i t y u _ _ _ _ h
  ·rcases zbG hv with ⟨j,u,rfl,rfl⟩ | ⟨y,u,rfl,rfl⟩
   ·rw [zsL] at h;exact SeqAt.EqAt.str_int x t j u _ _ _ _ h
   ·rw [zsK] at h;exact wpAny_eqBool_str h
 «strs»:=fun k x t v h=>by
  rcases zbG h with ⟨i,u,rfl,e⟩ | ⟨y,u,rfl,e⟩
  ·exact nomatch e
  ·injection e with e1 _
   subst e1
   cases v <;> rfl
theorem zj6 (prog:Program) (w:World) (i:Int) (t:Tok):(zbo prog w).is (.inl i) (.int i t)=true:=zmC i t
theorem zj5 (prog:Program) (w:World) (x:Str) (t:Tok):(zbo prog w).is (.inr x) (.str x t)=true:=zmB x t
end L2
namespace L2
open PySem PySem.Spec PyProof.Rows
inductive V where
 | non | bl (b:Bool) | int (i:Int) | str (x:Str) | byt (b:Array UInt8) | flt (b:UInt64) | ref (a:Addr) | ty (n:String)
 deriving DecidableEq
def zcF:V->Value->Prop
 | .non,u=>u=Value.none
 | .bl b,u=>u=Value.bool b
 | .int i,u=>∃ t,u=Value.int i t
 | .str x,u=>∃ t,u=Value.str x t
 | .byt b,u=>∃ t,u=Value.bytes b t
 | .flt b,u=>∃ t,u=Value.float b t
 | .ref a,u=>u=Value.ref a
 | .ty n,u=>u=Value.type n
abbrev zbX:List V->List Value->Prop:=Paired zcF
theorem zbX.length {xs:List V} {us:List Value} (r:zbX xs us):xs.length=us.length:=Paired.length r
theorem zbX.get:∀ {xs:List V} {us:List Value} {i:Nat} {x:V},zbX xs us->xs[i]?=some x->∃ u,us[i]?=some u/\zcF x u
 | _,_,_,_,.nil,e=>by simp at e
 | _,_,0,_,.cons r _,e=>by simp at e;subst e;exact ⟨_,rfl,r⟩
 | _,_,i+1,x,.cons _ t,e=>by
  obtain ⟨u,h1,h2⟩:=zbX.get (i:=i) (x:=x) t (by simpa using e)
  exact ⟨u,by simpa using h1,h2⟩
theorem zbX.append:∀ {xs ys:List V} {us ws:List Value},zbX xs us->zbX ys ws->zbX (xs++ys) (us++ws)
 | _,_,_,_,.nil,s=>s
 | _,_,_,_,.cons r t,s=>.cons r (zbX.append t s)
theorem zbX.take:∀ {xs:List V} {us:List Value} (n:Nat),zbX xs us->zbX (xs.take n) (us.take n)
 | _,_,0,_=>.nil
 | _,_,_+1,.nil=>.nil
 | _,_,n+1,.cons r t=>.cons r (zbX.take n t)
theorem zbX.drop:∀ {xs:List V} {us:List Value} (n:Nat),zbX xs us->zbX (xs.drop n) (us.drop n)
 | _,_,0,r=>r
 | _,_,_+1,.nil=>.nil
 | _,_,n+1,.cons _ t=>zbX.drop n t
def zlD:Option V->Option Value->Prop
 | some v,some u=>zcF v u
 | none,none=>True
 | _,_=>False
def KV {κ:Type}:List (κ×V)->List (κ×Value)->Prop:=Paired fun (p:κ×V) (q:κ×Value)=>p.1=q.1/\zcF p.2 q.2
def kV:Key->V
 | .inl i=>.int i
 | .inr x=>.str x
inductive HO where
 | lst (xs:List V)
 | tup (xs:List V)
 | dK (kvs:List (Key×V)) | dT (kvs:List (List Key×V))
 | set (S:Int->Bool) (n:Nat)
 | ins (C dx:Addr) (fs:List (Str×V))
 | own (x:Addr)
 | xd (fs:List (Str×V))
 | met (f x:Addr)
 | rng (lo hi:Int)
 | frz (o:Obj) (u:HO)
 | tbl (ps:Array Value)
 | ext (φ:Heap->Prop)
abbrev Hp:=Addr->Option HO
def upd (H:Hp) (a:Addr) (o:HO):Hp:=fun b=>if b=a then some o else H b
theorem zaL {H:Hp} {a:Addr} {o:HO}:upd H a o a=some o:=by unfold upd;rw [qV rfl]
theorem zaz {H:Hp} {a b:Addr} {o:HO} (h:b≠a):upd H a o b=H b:=by unfold upd;rw [qW h]
theorem zhy {H:Hp} {a b:Addr} {o u:HO} (h:H a=some o) (h':H b=some u) (d:o≠u):a≠b:=by
 intro e;subst e;rw [h] at h';exact d (qE h')
theorem zau {H:Hp} {a b:Addr} {o:HO} (h:H a=some o) (h':H b=none):a≠b:=by
 intro e;subst e;rw [h] at h';cases h'
section
variable (P:Program) (w:World)
def zcU (H:Hp) (h:Heap) (a:Addr):HO->Prop
 | .lst xs=>xs.length<=sizeLine/\∃ (its:List Value) (n:Nat),zbX xs its/\h.get? a=some { cls:=.type "list",data:=.seq its.toArray n }
 | .tup xs=>xs.length<=sizeLine/\∃ its:List Value,zbX xs its/\IsTup h a its.toArray
 | .dK kvs=>kvs.length<=sizeLine/\(a==sysModules)=false/\∃ vs,KV kvs vs/\h.DictOf (zbo P w) a vs
 | .dT kvs=>kvs.length<=sizeLine/\(a==sysModules)=false/\∃ xs:List (List Key×Addr×Value),
   Paired (fun (p:List Key×V) (q:List Key×Addr×Value)=>p.1=q.1/\H q.2.1=some (.tup (p.1.map kV))/\zcF p.2 q.2.2) kvs xs /\
   ∃ o es ep,h.get? a=some o/\o.ExactDict/\o.data=.dict es ep/\es.toList=xs.map (entryOfKey (tupleKind (zbo P w)))/\(xs.map (·.1)).Nodup
 | .set S n=>h.SetOf (intKind P w) a S n
 | .ins C dx fs=>H dx=some (.own a)/\fs.length<=1000/\dx≠a/\h.get? a=some (PySem.W.instObj C dx) /\
   ∃ mA,h.Ns1 dx mA/\(∀ f,zlD (fs.lookup f) (mA f))/\PySem.Within mA (fs.map (·.1))
 | .own _=>∃ o,h.get? a=some o
 | .xd fs=>∃ mA,h.Ns1 a mA/\∀ f,zlD (fs.lookup f) (mA f)
 | .rng lo hi=>∃ t u v,h.get? a=some { cls:=.type "range",data:=.fields #[.int lo t,.int hi u,.int 1 v] }
 | .frz o u=>h.get? a=some o/\zcU H h a u
 | .tbl ps=>h.get? a=some { cls:=.none,data:=.fields ps }
 | .met f x=>h.get? a=some (PySem.W.methodObj (.ref f) (.ref x))
 | .ext φ=>φ h/\(∃ o,h.get? a=some o)/\∀ h1 h2:Heap,φ h1->(∀ o,h1.get? a=some o->h2.get? a=some o)->φ h2
def HOk (H:Hp) (h:Heap):Prop:=∀ a o,H a=some o->zcU P w H h a o
end
section
variable {P:Program} {w:World} {H H':Hp} {h h':Heap} {a:Addr} {o:HO}
theorem zcU.lt (x:zcU P w H h a o):a < h.objs.size:=by
 cases o with
 | lst xs=>obtain ⟨_,_,_,_,e⟩:=x;exact qt e
 | tup xs=>obtain ⟨_,_,_,p⟩:=x;exact p.lt
 | dK kvs=>obtain ⟨_,_,_,_,o,_,_,e,_⟩:=x;exact qt e
 | dT kvs=>obtain ⟨_,_,_,_,o,_,_,e,_⟩:=x;exact qt e
 | set S n=>obtain ⟨o,_,_,_,e,_⟩:=x;exact qt e
 | ins C dx fs=>obtain ⟨_,_,_,e,_⟩:=x;exact qt e
 | own y=>obtain ⟨_,e⟩:=x;exact qt e
 | xd fs=>obtain ⟨_,⟨_,_,_,e,_⟩,_⟩:=x;exact qt e
 | rng lo hi=>obtain ⟨_,_,_,e⟩:=x;exact qt e
 | frz ob u=>obtain ⟨e,_⟩:=x;exact qt e
 | tbl ps=>exact qt (show h.get? a=some _ from x)
 | met f y=>exact qt (show h.get? a=some _ from x)
 | ext φ=>obtain ⟨_,⟨_,e⟩,_⟩:=x;exact qt e
theorem Paired.mapP {α β:Type} {F G:α->β->Prop}:∀ {l₁:List α} {l₂:List β},Paired F l₁ l₂->(∀ a b,F a b->G a b)->Paired G l₁ l₂
 | _,_,.nil,_=>.nil
 | _,_,.cons r t,f=>.cons (f _ _ r) (Paired.mapP t f)
theorem zcU.stay (x:zcU P w H h a o) (k:∀ b u,(b=a\/H b=some (.own a))->h.get? b=some u->h'.get? b=some u)
  (ho:∀ b,H b=some (.own a)->H' b=some (.own a)) (ht:∀ b xs,H b=some (.tup xs)->H' b=some (.tup xs)):zcU P w H' h' a o:=by
 induction o with
 | lst xs=>obtain ⟨z,its,n,r,e⟩:=x;exact ⟨z,its,n,r,k _ _ (.inl rfl) e⟩
 | tup xs=>obtain ⟨z,its,r,ob,e,c⟩:=x;exact ⟨z,its,r,ob,k _ _ (.inl rfl) e,c⟩
 | dK kvs=>obtain ⟨z,y,vs,r,ob,es,ep,e,c⟩:=x;exact ⟨z,y,vs,r,ob,es,ep,k _ _ (.inl rfl) e,c⟩
 | dT kvs =>
  obtain ⟨z,y,xs,r,ob,es,ep,e,c⟩:=x
  exact ⟨z,y,xs,Paired.mapP r fun p q z=>⟨z.1,ht _ _ z.2.1,z.2.2⟩,ob,es,ep,k _ _ (.inl rfl) e,c⟩
 | set S n=>obtain ⟨ob,es,ep,t,e,c⟩:=x;exact ⟨ob,es,ep,t,k _ _ (.inl rfl) e,c⟩
 | ins C dx fs =>
  obtain ⟨d,z,ne,e,mA,⟨od,es,ep,e2,c⟩,r⟩:=x
  exact ⟨ho _ d,z,ne,k _ _ (.inl rfl) e,mA,⟨od,es,ep,k _ _ (.inr d) e2,c⟩,r⟩
 | own y=>obtain ⟨ob,e⟩:=x;exact ⟨ob,k _ _ (.inl rfl) e⟩
 | xd fs=>obtain ⟨mA,⟨od,es,ep,e,c⟩,r⟩:=x;exact ⟨mA,⟨od,es,ep,k _ _ (.inl rfl) e,c⟩,r⟩
 | rng lo hi=>obtain ⟨t,u,v,e⟩:=x;exact ⟨t,u,v,k _ _ (.inl rfl) e⟩
 | frz ob u ih=>obtain ⟨e,q⟩:=x;exact ⟨k _ _ (.inl rfl) e,ih q⟩
 | tbl ps =>
  have e:h.get? a=some { cls:=.none,data:=.fields ps }:=x
  show h'.get? a=some { cls:=.none,data:=.fields ps }
  exact k a _ (.inl rfl) e
 | met f y =>
  have e:h.get? a=some (PySem.W.methodObj (.ref f) (.ref y)):=x
  show h'.get? a=some (PySem.W.methodObj (.ref f) (.ref y))
  exact k a _ (.inl rfl) e
 | ext φ=>obtain ⟨p,⟨o,e⟩,st⟩:=x;exact ⟨st _ _ p fun o q=>k _ _ (.inl rfl) q,⟨o,k _ _ (.inl rfl) e⟩,st⟩
theorem HOk.lt (x:HOk P w H h) (e:H a=some o):a < h.objs.size:=(x a o e).lt
theorem HOk.fresh (x:HOk P w H h) (e:h.objs.size<=a):H a=none:=by
 cases q:H a with
 | none=>rfl
 | some u=>exact absurd (qC (x.lt q) e) (Nat.lt_irrefl _)
theorem HOk.kept (x:HOk P w H h) (k:∀ b u,h.get? b=some u->h'.get? b=some u):HOk P w H h':=fun a o e =>
 (x a o e).stay (fun b u _ q=>k b u q) (fun _ q=>q) fun _ _ q=>q
theorem HOk.laid (x:HOk P w H h) (k:∀ b u,h.get? b=some u->h'.get? b=some u) (hp:h.objs.size<=a) (new:zcU P w (upd H a o) h' a o):HOk P w (upd H a o) h':=fun b u e=>by
 have hn:=x.fresh hp
 by_cases hb:b=a
 ·subst hb;rw [zaL] at e;cases e;exact new
 ·rw [zaz hb] at e
  exact (x b u e).stay (fun c v _ q=>k c v q) (fun c q=>by rw [zaz (zau q hn)];exact q) fun c xs q=>by rw [zaz (zau q hn)];exact q
end
def Rd (H:Hp) (a:Addr) (u:HO):Prop:=H a=some u\/∃ o,H a=some (.frz o u)
theorem Rd.ok {P:Program} {w:World} {H:Hp} {h:Heap} {a:Addr} {u:HO} (r:Rd H a u) (x:HOk P w H h):zcU P w H h a u:=by
 rcases r with r | ⟨o,r⟩
 ·exact x a u r
 ·obtain ⟨_,q⟩:=x a _ r
  exact q
def Mut:Option HO->Prop
 | some (.lst _)=>True
 | some (.dK _)=>True
 | some (.dT _)=>True
 | some (.set _ _)=>True
 | some (.ins _ _ _)=>True
 | some (.ext _)=>True
 | _=>False
section
variable {P:Program} {w:World} {H:Hp} {h h':Heap} {x e:Addr} {o':HO}
theorem HOk.write (ok:HOk P w H h) (mu:Mut (H x)) (he:e=x\/H e=some (.own x)) (k:∀ b u,b≠e->h.get? b=some u->h'.get? b=some u) (heo:∃ u,h'.get? e=some u)
  (new:zcU P w (upd H x o') h' x o'):HOk P w (upd H x o') h':=fun b u q=>by
 have nown:∀ c y,H c=some (.own y)->c≠x:=fun c y r z=>by subst z;rw [r] at mu;exact mu
 have ntup:∀ c xs,H c=some (.tup xs)->c≠x:=fun c xs r z=>by subst z;rw [r] at mu;exact mu
 by_cases hb:b=x
 ·subst hb;rw [zaL] at q;cases q;exact new
 ·rw [zaz hb] at q
  by_cases hbe:b=e
  ·have q':H b=some (.own x):=by
    rcases he with z | z
    ·exact absurd (hbe.trans z) hb
    ·rw [hbe];exact z
   rw [q] at q';cases q'
   obtain ⟨v,hv⟩:=heo
   exact ⟨v,by rw [hbe];exact hv⟩
  ·refine (ok b u q).stay (fun c v hc r=>k c v ?_ r) (fun c r=>by rw [zaz (nown c b r)];exact r) fun c xs r=>by rw [zaz (ntup c xs r)];exact r
   rcases hc with rfl | hc
   ·exact hbe
   ·rintro rfl
    rcases he with z | z
    ·exact nown c b hc z
    ·rw [hc] at z;cases z;exact hb rfl
end
structure Un (fs ex:List Addr) (H H':Hp) (h h':Heap):Prop where
 keep:∀ b o,h.get? b=some o->H b=none->b∉fs->b∉ex->h'.get? b=some o
 slot:∀ b o,h.get? b=some o->H b=none->b∈fs->b∉ex->∃ sl,h'.get? b=some { o with slots:=sl }
 free:∀ b o,h.get? b=some o->H b=none->b∉ex->H' b=none
 there:∀ b o,h.get? b=some o->b∉ex->∃ o',h'.get? b=some o'
 tups:∀ b xs,H b=some (.tup xs)->H' b=some (.tup xs)
 frzs:∀ b o u,H b=some (.frz o u)->H' b=some (.frz o u)
 tbls:∀ b ps,H b=some (.tbl ps)->∃ more,H' b=some (.tbl (ps++more))
section
variable {fs fs' ex ex':List Addr} {H H1 H2:Hp} {h h1 h2 h':Heap} {a x e:Addr} {o:HO}
theorem Un.any (u:Un fs ex H H1 h h1) {b:Addr} {ob:Obj} (q:h.get? b=some ob) (n:H b=none) (hx:b∉ex):∃ sl,h1.get? b=some { ob with slots:=sl }:=by
 by_cases hb:b∈fs
 ·exact u.slot b ob q n hb hx
 ·exact ⟨ob.slots,u.keep b ob q n hb hx⟩
theorem Un.kept (k:∀ b u,h.get? b=some u->h'.get? b=some u):Un fs ex H H h h' :=
 ⟨fun b ob q _ _ _=>k b ob q,fun b ob q _ _ _=>⟨ob.slots,k b ob q⟩,fun _ _ _ n _=>n,fun b ob q _=>⟨ob,k b ob q⟩,fun _ _ q=>q,fun _ _ _ q=>q,fun _ ps q=>⟨#[],by rw [q];simp⟩⟩
theorem Un.refl:Un fs ex H H h h:=Un.kept fun _ _ q=>q
theorem Un.laid (k:∀ b u,h.get? b=some u->h'.get? b=some u) (hp:h.objs.size<=a) (hn:H a=none):Un fs ex H (upd H a o) h h' where
 keep:=fun b u q _ _ _=>k b u q
 slot:=fun b u q _ _ _=>⟨u.slots,k b u q⟩
 free:=fun b u q n _=>by rw [zaz (qz (qC (qt q) hp))];exact n
 there:=fun b u q _=>⟨u,k b u q⟩
 tups:=fun b xs q=>by rw [zaz (zau q hn)];exact q
 frzs:=fun b u xs q=>by rw [zaz (zau q hn)];exact q
 tbls:=fun b ps q=>⟨#[],by rw [zaz (zau q hn),q];simp⟩
theorem Un.write (mu:Mut (H x)) (he:e=x\/H e=some (.own x)) (k:∀ b u,b≠e->h.get? b=some u->h'.get? b=some u) (heo:∃ u,h'.get? e=some u):Un fs ex H (upd H x o) h h':=by
 have hx:∀ b,H b=none->b≠x:=fun b n z=>by subst z;rw [n] at mu;exact mu
 have hb:∀ b,H b=none->b≠e:=fun b n z=>by
  subst z
  rcases he with r | r
  ·exact hx b n r
  ·rw [n] at r;cases r
 have hm:∀ b u,H b=some u->¬ Mut (some u)->b≠x:=fun b u q nm z=>by subst z;rw [q] at mu;exact nm mu
 refine ⟨fun b u q n _ _=>k b u (hb b n) q,fun b u q n _ _=>⟨u.slots,k b u (hb b n) q⟩,fun b u q n _=>by rw [zaz (hx b n)];exact n,fun b u q _=>?_,
  fun b xs q=>by rw [zaz (hm b _ q fun z=>z)];exact q,fun b u xs q=>by rw [zaz (hm b _ q fun z=>z)];exact q,fun b ps q=>⟨#[],by rw [zaz (hm b _ q fun z=>z),q];simp⟩⟩
 by_cases hbe:b=e
 ·subst hbe;exact heo
 ·exact ⟨u,k b u hbe q⟩
end
def trk (h:Heap) (H:Hp):List Addr:=(List.range h.objs.size).filter fun a=>(H a).isSome
def zom (h:Heap) (H:Hp):Heap:=PySem.W.hideAll h (trk h H)
theorem zmK (h:Heap) (H:Hp):(zom h H).objs.size=h.objs.size:=PySem.W.hideAll_size _ _
theorem zol {h:Heap} {H:Hp} {b:Addr} {o:Obj} (e:h.get? b=some o) (n:H b=none):(zom h H).get? b=some o :=
 PySem.W.hideAll_get _ e fun hm=>by
  have q:(H b).isSome=true:=(List.mem_filter.mp hm).2
  rw [n] at q;simp at q
theorem zqk {h:Heap} {H:Hp} {b:Addr} {o:Obj} (e:(zom h H).get? b=some o):h.get? b=some o/\H b=none:=by
 have e':h.get? b=some o:=PySem.W.of_hideAll (trk h H) e
 refine ⟨e',?_⟩
 cases q:H b with
 | none=>rfl
 | some x =>
  have hm:b∈trk h H:=List.mem_filter.mpr ⟨List.mem_range.mpr (qt e'),by simp [q]⟩
  have z:(zom h H).get? b=none:=PySem.W.hideAll_none (trk h H) hm
  rw [z] at e;cases e
def zrc (g h:Heap) (L:Addr):List (Addr×Obj):=(List.range h.objs.size).filterMap fun a=>if a=L\/(g.get? a).isSome=true then none else (h.get? a).map fun o=>(a,o)
def zcx (g h:Heap) (L d:Addr):List (Addr×Obj):=(zrc g h L).filter fun p=>decide (p.1≠d)
end L2
namespace L2
open PySem PySem.Spec PyProof.Rows
structure Mod (K:PySem.W.Frag) (mg:Str->Option Value) (base:Heap):Prop where
 kin:K.In base
 glob:base.Ns mainGlobals mg
 blt:∃ mb,base.Ns builtinsNs mb/\∀ x:Str,x≠"__name__"->mb x=bootBuiltins x
 nolimit:base.NoLimit
structure Cx where
 prog:Program
 w:World
 K:PySem.W.Frag
 mg:Str->Option Value
 base:Heap
 A:Around
 N:List Str
 s₀:Shared
 H₀:Hp
 env:Env
 outer:List Env
 stack:List Env
 ex:List Addr
 fn:Str->Bool
 calm:Bool
 pn:List (Addr×Obj)
 xe:Value->Shared->Prop
def frs (l:List Env):List Addr:=l.filterMap (·.frame)
abbrev Cx.fs (X:Cx):List Addr:=frs X.outer
def Vis (sc:Scope) (x:Str):Prop:=sc.names.lookup x=some .local\/sc.names.lookup x=some .cell\/sc.names.lookup x=some .free
def Loc (sc:Scope) (x:Str):Prop:=sc.names.lookup x=some .local\/sc.names.lookup x=some .cell
def zvJ (env:Env) (h:Heap) (m:Str->Option Value) (x:Str) (u:Value):Prop :=
 (env.kindOf x=some .local/\m x=some u)\/((env.kindOf x=some .cell\/env.kindOf x=some .free)/\∃ c,env.cells.lookup x=some c/\h.IsCell c (some u))
structure Cx.Ok (X:Cx):Prop where
 mod:Mod X.K X.mg X.base
 kind:X.env.scope.kind=.function
 glob:X.env.globals=mainGlobals
 blt:X.env.builtins=builtinsNs
 above:X.s₀.heap.objs.size<=X.env.locals
 inj:∀ x y c,X.env.cells.lookup x=some c->X.env.cells.lookup y=some c->x=y
 has:∀ x,(X.env.kindOf x=some .cell\/X.env.kindOf x=some .free)->∃ c,X.env.cells.lookup x=some c
 cab:∀ x c,X.fn x=true->X.env.cells.lookup x=some c->X.s₀.heap.objs.size<=c
 hd:X.calm=true->X.A.handled=none
 frames:X.A.frames=some X.stack
 stk:X.stack=X.outer\/(X.stack=X.env::X.outer/\X.env.frame=some X.env.locals)
 exf:∀ b∈X.ex,b≠X.env.locals/\∀ x c,X.env.cells.lookup x=some c->c≠b
 bs:∀ b o,X.base.get? b=some o->X.s₀.heap.get? b=some o/\X.H₀ b=none
 bsz:X.base.objs.size<=X.s₀.heap.objs.size
 noex:∀ b o,X.base.get? b=some o->b∉X.ex
 exfs:∀ b∈X.ex,b∉X.fs
 funs:X.s₀.heap.FunFrames X.base X.outer
 frf:∀ b∈X.fs,X.H₀ b=none
structure Inv (X:Cx) (pins:List (Addr×Obj)) (σ:List (Option V)) (H:Hp) (s:Shared):Prop where
 ok:X.Ok
 os:s.os=X.s₀.os
 bare:AllBare s.gens
 base:Un X.fs X.ex X.H₀ H X.s₀.heap s.heap
 loc:∃ m,s.heap.Ns X.env.locals m/\∀ (i:Nat) (x:Str) (v:V),X.N[i]?=some x->σ[i]?=some (some v)->Vis X.env.scope x->∃ u,zcF v u/\zvJ X.env s.heap m x u
 cell:∀ x c,X.env.cells.lookup x=some c->∃ v,s.heap.IsCell c v
 free:H X.env.locals=none
 freeC:∀ x c,X.env.cells.lookup x=some c->H c=none
 pin:∀ p∈X.pn++pins,s.heap.get? p.1=some p.2/\H p.1=none/\p.1≠X.env.locals/\p.1∉X.fs/\∀ v,p.2.data≠.cell v
 hok:HOk X.prog X.w H s.heap
 len:σ.length=X.N.length
section
variable {X:Cx} {pins:List (Addr×Obj)} {σ:List (Option V)} {H H':Hp} {s:Shared} {h':Heap}
theorem Cx.Ok.nofr (ok:X.Ok) {b:Addr} {o:Obj} (e:X.base.get? b=some o):b∉X.fs:=fun hb=>by
 have:=(ok.funs.mem hb).1
 rw [e] at this;cases this
theorem Inv.bs (I:Inv X pins σ H s):∀ b o,X.base.get? b=some o->s.heap.get? b=some o/\H b=none:=fun b o e =>
 ⟨I.base.keep b o (I.ok.bs b o e).1 (I.ok.bs b o e).2 (I.ok.nofr e) (I.ok.noex b o e),I.base.free b o (I.ok.bs b o e).1 (I.ok.bs b o e).2 (I.ok.noex b o e)⟩
theorem Inv.bk (I:Inv X pins σ H s):∀ b o,X.base.get? b=some o->s.heap.get? b=some o:=fun b o e=>(I.bs b o e).1
theorem Inv.mod (I:Inv X pins σ H s):Mod X.K X.mg X.base:=I.ok.mod
theorem Inv.kIn (I:Inv X pins σ H s):X.K.In s.heap:=I.ok.mod.kin.keeps I.bk
theorem Inv.lt (I:Inv X pins σ H s):X.env.locals < s.heap.objs.size:=let ⟨_,hn,_⟩:=I.loc;hn.lt
theorem Inv.sz (I:Inv X pins σ H s):X.s₀.heap.objs.size<=s.heap.objs.size:=qJ I.ok.above (Nat.le_of_lt I.lt)
theorem Inv.nofs (I:Inv X pins σ H s) {a:Addr} (h:s.heap.objs.size<=a):a∉X.fs:=fun hb=>by
 obtain ⟨_,o,ho,_⟩:=I.ok.funs.mem hb
 exact absurd (qC (qt ho) (qJ I.sz h)) (Nat.lt_irrefl _)
theorem Inv.cne (I:Inv X pins σ H s):∀ x c,X.env.cells.lookup x=some c->c≠X.env.locals:=fun x c e z=>by
 obtain ⟨v,o,ho,hd⟩:=I.cell x c e
 obtain ⟨m,⟨o',es,ep,ho',hd',_⟩,_⟩:=I.loc
 rw [z,ho'] at ho;cases ho;rw [hd'] at hd;cases hd
theorem Inv.funs (I:Inv X pins σ H s):s.heap.FunFrames X.base X.outer:=by
 have all:∀ (l:List Env),(∀ b∈frs l,b∈X.fs)->X.s₀.heap.FunFrames X.base l->s.heap.FunFrames X.base l:=by
  intro l
  induction l with
  | nil=>intro _ _;trivial
  | cons env r ih =>
   intro hs hl
   obtain ⟨hk,⟨L,o,hf,hn,ho,hd⟩,hr⟩:=hl
   have hL:L∈X.fs:=hs L (by unfold frs;rw [List.filterMap_cons,hf];exact qf)
   obtain ⟨sl,e⟩:=I.base.slot L o ho (I.ok.frf L hL) hL fun z=>I.ok.exfs L z hL
   exact ⟨hk,⟨L,_,hf,hn,e,hd⟩,ih (fun b hb=>hs b (by unfold frs;rw [List.filterMap_cons,hf];exact qg _ hb)) hr⟩
 exact all X.outer (fun _ hb=>hb) I.ok.funs
theorem Inv.stack (I:Inv X pins σ H s):s.heap.FunFrames X.base X.stack:=by
 rcases I.ok.stk with e | ⟨e,hf⟩
 ·rw [e];exact I.funs
 ·rw [e]
  obtain ⟨m,hn,_⟩:=I.loc
  refine .cons (by rw [I.ok.kind];decide) hf hn ?_ I.funs
  exact Heap.get?_none_of_le (qJ I.ok.bsz I.ok.above)
theorem Inv.stkSub (I:Inv X pins σ H s):∀ b∈frs X.stack,b∈X.env.locals::X.fs:=fun b hb=>by
 rcases I.ok.stk with e | ⟨e,hf⟩
 ·rw [e] at hb;exact qg _ hb
 ·rw [e] at hb
  unfold frs at hb
  rw [List.filterMap_cons,hf] at hb
  exact hb
theorem Inv.stkFree (I:Inv X pins σ H s):∀ b∈frs X.stack,H b=none:=fun b hb=>by
 rcases List.mem_cons.mp (I.stkSub b hb) with e | hb
 ·rw [e];exact I.free
 ·obtain ⟨_,o,ho,_⟩:=I.ok.funs.mem hb
  exact I.base.free b o ho (I.ok.frf b hb) fun z=>I.ok.exfs b z hb
theorem Inv.step {g':Array GenState} {t':Nat} {d':Drawn} {ch:List Addr} (I:Inv X pins σ H s)
  (hch:∀ b∈ch,(b∈X.ex\/X.s₀.heap.objs.size<=b)/\b≠X.env.locals/\(∀ x c,X.env.cells.lookup x=some c->c≠b)/\∀ p∈X.pn++pins,p.1≠b)
  (keep:∀ b o,b≠X.env.locals->b∉X.fs->b∉ch->s.heap.get? b=some o->H b=none->h'.get? b=some o)
  (slot:∀ b o,b≠X.env.locals->b∈X.fs->b∉ch->s.heap.get? b=some o->H b=none->∃ sl,h'.get? b=some { o with slots:=sl }) (free:∀ b o,b∉ch->s.heap.get? b=some o->H b=none->H' b=none)
  (there:∀ b o,b∉ch->s.heap.get? b=some o->∃ o',h'.get? b=some o')
  (tups:∀ b xs,H b=some (.tup xs)->H' b=some (.tup xs)) (frzs:∀ b o u,H b=some (.frz o u)->H' b=some (.frz o u)) (tbls:∀ b ps,H b=some (.tbl ps)->∃ more,H' b=some (.tbl (ps++more)))
  (ns:∀ m,s.heap.Ns X.env.locals m->h'.Ns X.env.locals m) (hok:HOk X.prog X.w H' h') (hg:AllBare g') :
  Inv X pins σ H' { s with heap:=h',gens:=g',drawn:=d',toks:=t' }:=by
 have neL:∀ b o,X.s₀.heap.get? b=some o->b≠X.env.locals:=fun b o e=>qz (qC (qt e) I.ok.above)
 have neC:∀ b o,X.s₀.heap.get? b=some o->b∉X.ex->b∉ch:=fun b o e hx hb=>by
  rcases (hch b hb).1 with z | z
  ·exact hx z
  ·exact absurd (qC (qt e) z) (Nat.lt_irrefl _)
 have cellK:∀ x c,X.env.cells.lookup x=some c->∀ v,s.heap.IsCell c v->h'.IsCell c v:=fun x c e v ⟨o,ho,hd⟩=>by
  have nch:c∉ch:=fun z=>(hch c z).2.2.1 x c e rfl
  by_cases hc:c∈X.fs
  ·obtain ⟨sl,q⟩:=slot c o (I.cne x c e) hc nch ho (I.freeC x c e)
   exact ⟨_,q,hd⟩
  ·exact ⟨o,keep c o (I.cne x c e) hc nch ho (I.freeC x c e),hd⟩
 refine ⟨I.ok,I.os,hg,⟨fun b o e n hb hx=>?_,fun b o e n hb hx=>?_,fun b o e n hx=>?_,fun b o e hx=>?_,fun b xs e=>tups b xs (I.base.tups b xs e),fun b o xs e=>frzs b o xs (I.base.frzs b o xs e),fun b ps e=>?_⟩,?_,fun x c e=>?_,?_,fun x c e=>?_,fun p hp=>?_,hok,I.len⟩
 ·exact keep b o (neL b o e) hb (neC b o e hx) (I.base.keep b o e n hb hx) (I.base.free b o e n hx)
 ·obtain ⟨sl,e1⟩:=I.base.slot b o e n hb hx
  obtain ⟨sl',e2⟩:=slot b _ (neL b o e) hb (neC b o e hx) e1 (I.base.free b o e n hx)
  exact ⟨sl',e2⟩
 ·obtain ⟨o',e1⟩:=I.base.there b o e hx
  exact free b o' (neC b o e hx) e1 (I.base.free b o e n hx)
 ·obtain ⟨o',e1⟩:=I.base.there b o e hx
  exact there b o' (neC b o e hx) e1
 ·obtain ⟨m1,e1⟩:=I.base.tbls b ps e
  obtain ⟨m2,e2⟩:=tbls b _ e1
  exact ⟨m1++m2,by rw [e2,Array.append_assoc]⟩
 ·obtain ⟨m,hn,hl⟩:=I.loc
  refine ⟨m,ns m hn,fun i x v e1 e2 e3=>?_⟩
  obtain ⟨u,r,l⟩:=hl i x v e1 e2 e3
  refine ⟨u,r,?_⟩
  rcases l with l | ⟨k,c,e,z⟩
  ·exact .inl l
  ·exact .inr ⟨k,c,e,cellK x c e _ z⟩
 ·obtain ⟨v,z⟩:=I.cell x c e
  exact ⟨v,cellK x c e v z⟩
 ·obtain ⟨m,⟨o,_,_,ho,_⟩,_⟩:=I.loc
  exact free _ o (fun z=>(hch _ z).2.1 rfl) ho I.free
 ·obtain ⟨v,o,ho,hd⟩:=I.cell x c e
  exact free c o (fun z=>(hch c z).2.2.1 x c e rfl) ho (I.freeC x c e)
 ·obtain ⟨e,n,ne,nf,d⟩:=I.pin p hp
  have nch:p.1∉ch:=fun z=>(hch p.1 z).2.2.2 p hp rfl
  exact ⟨keep p.1 p.2 ne nf nch e n,free p.1 p.2 nch e n,ne,nf,d⟩
theorem Inv.un {t':Nat} (I:Inv X pins σ H s) (u:Un X.fs [] H H' s.heap h') (hok:HOk X.prog X.w H' h'):Inv X pins σ H' { s with heap:=h',toks:=t' }:=by
 obtain ⟨m,⟨o,es,ep,ho,r⟩,_⟩:=id I.loc
 obtain ⟨sl,hL⟩:=u.any ho I.free (by simp)
 exact I.step (g':=s.gens) (d':=s.drawn) (ch:=[]) (fun _ z=>nomatch z) (fun b o _ hb _ e n=>u.keep b o e n hb (by simp)) (fun b o _ hb _ e n=>u.slot b o e n hb (by simp)) (fun b o _ e n=>u.free b o e n (by simp)) (fun b o _ e=>u.there b o e (by simp)) u.tups u.frzs u.tbls (fun m' hm=>by
  obtain ⟨o',es',ep',ho',r'⟩:=hm
  rw [ho] at ho';cases ho'
  exact ⟨_,es',ep',hL,r'⟩) hok I.bare
theorem Inv.call {g':Array GenState} {t':Nat} {d':Drawn} {ch:List Addr} (I:Inv X pins σ H s) (u:Un (frs X.stack) ch H H' s.heap h') (hok:HOk X.prog X.w H' h') (hg:AllBare g')
  (hch:∀ b∈ch,(b∈X.ex\/X.s₀.heap.objs.size<=b)/\b≠X.env.locals/\(∀ x c,X.env.cells.lookup x=some c->c≠b)/\∀ p∈X.pn++pins,p.1≠b) :
  Inv X pins σ H' { s with heap:=h',gens:=g',drawn:=d',toks:=t' }:=by
 obtain ⟨m,⟨o,es,ep,ho,r⟩,_⟩:=id I.loc
 obtain ⟨sl,hL⟩:=u.any ho I.free fun z=>(hch _ z).2.1 rfl
 exact I.step (ch:=ch) hch (fun b o hL hb hc e n=>u.keep b o e n (fun z=>(List.mem_cons.mp (I.stkSub b z)).elim hL hb) hc) (fun b o _ _ hc e n=>u.any e n hc) (fun b o hc e n=>u.free b o e n hc) (fun b o hc e=>u.there b o e hc) u.tups u.frzs u.tbls (fun m' hm=>by
  obtain ⟨o',es',ep',ho',r'⟩:=hm
  rw [ho] at ho';cases ho'
  exact ⟨_,es',ep',hL,r'⟩) hok hg
theorem Inv.turned {t':Nat} {it:Addr} (I:Inv X pins σ H s) (k:∀ b o,b≠it->s.heap.get? b=some o->h'.get? b=some o) (hn:H it=none) (hL:it≠X.env.locals)
  (h1:it∈X.ex\/X.s₀.heap.objs.size<=it) (h2:∀ x c,X.env.cells.lookup x=some c->c≠it) (h3:∀ p∈X.pn++pins,p.1≠it):Inv X pins σ H { s with heap:=h',toks:=t' }:=by
 have nit:∀ b u,H b=some u->b≠it:=fun b u e z=>by rw [z,hn] at e;cases e
 refine I.step (g':=s.gens) (d':=s.drawn) (ch:=[it]) (fun b hb=>?_) (fun b o _ _ hc e _=>k b o (fun z=>hc (by simp [z])) e) (fun b o _ _ hc e _=>⟨o.slots,k b o (fun z=>hc (by simp [z])) e⟩) (fun _ _ _ _ n=>n)
  (fun b o hc e=>⟨o,k b o (fun z=>hc (by simp [z])) e⟩) (fun _ _ e=>e) (fun _ _ _ e=>e) (fun b ps e=>⟨#[],by rw [e];simp⟩) (fun m hm=>?_) (fun b u e=>?_) I.bare
 ·have e:b=it:=by simpa using hb
  subst e
  exact ⟨h1,hL,h2,h3⟩
 ·obtain ⟨o,es,ep,ho,r⟩:=hm
  exact ⟨o,es,ep,k _ o (Ne.symm hL) ho,r⟩
 ·refine (I.hok b u e).stay (fun c v hc q=>k c v ?_ q) (fun _ q=>q) fun _ _ q=>q
  rcases hc with z | z
  ·rw [z];exact nit b u e
  ·exact nit c _ z
theorem Inv.tok (I:Inv X pins σ H s) (t:Nat):Inv X pins σ H { s with toks:=t }:=I.un (h':=s.heap) (t':=t) Un.refl I.hok
theorem Inv.kept {t':Nat} (I:Inv X pins σ H s) (k:∀ b u,s.heap.get? b=some u->h'.get? b=some u):Inv X pins σ H { s with heap:=h',toks:=t' }:=I.un (Un.kept k) (I.hok.kept k)
theorem Inv.laid {a:Addr} {o:HO} {t':Nat} (I:Inv X pins σ H s) (k:∀ b u,s.heap.get? b=some u->h'.get? b=some u) (hp:s.heap.objs.size<=a) (new:zcU X.prog X.w (upd H a o) h' a o) :
  Inv X pins σ (upd H a o) { s with heap:=h',toks:=t' }:=I.un (Un.laid k hp (I.hok.fresh hp)) (I.hok.laid k hp new)
theorem Inv.write {x e:Addr} {o:HO} {t':Nat} (I:Inv X pins σ H s) (mu:Mut (H x)) (he:e=x\/H e=some (.own x)) (k:∀ b u,b≠e->s.heap.get? b=some u->h'.get? b=some u) (heo:∃ u,h'.get? e=some u)
  (new:zcU X.prog X.w (upd H x o) h' x o):Inv X pins σ (upd H x o) { s with heap:=h',toks:=t' }:=I.un (Un.write mu he k heo) (I.hok.write mu he k heo new)
theorem Inv.pins_of {pins':List (Addr×Obj)} (I:Inv X pins σ H s) (h:∀ p∈pins',s.heap.get? p.1=some p.2/\H p.1=none/\p.1≠X.env.locals/\p.1∉X.fs/\∀ v,p.2.data≠.cell v):Inv X pins' σ H s :=
 ⟨I.ok,I.os,I.bare,I.base,I.loc,I.cell,I.free,I.freeC,fun p hp=>(List.mem_append.mp hp).elim (fun z=>I.pin p (List.mem_append_left _ z)) (h p),I.hok,I.len⟩
theorem zkH {N:List Str} (hN:N.Nodup) {i j:Nat} {x:Str} (a:N[i]?=some x) (b:N[j]?=some x):i=j:=by
 obtain ⟨h1,e1⟩:=List.getElem?_eq_some_iff.mp a
 obtain ⟨h2,e2⟩:=List.getElem?_eq_some_iff.mp b
 exact (List.getElem_inj hN).mp (e1.trans e2.symm)
theorem zi0 {M:Model} {A:Around} {E:Value->Shared->Prop} {i:Nat} {x:Str} {v:V} {u:Value} {Q:Unit->Shared->Prop} (I:Inv X pins σ H s) (hN:X.N.Nodup) (hi:X.N[i]?=some x) (hx:Loc X.env.scope x) (r:zcF v u)
  (h:∀ s',Inv X pins (σ.set i (some v)) H s'->(∃ a,Heap.SameBut a s.heap s'.heap/\(a=X.env.locals\/X.env.cells.lookup x=some a))->Q () s') (hf:X.fn x=true\/X.env.scope.names.lookup x=some .local:=by first | exact .inl rfl | exact .inr rfl | assumption):wpAny M A (storeName X.env x u) Q E s:=by
 obtain ⟨m,hn,hl⟩:=id I.loc
 have hcls:(X.env.scope.kind==.class || (X.env.scope.kind==.module && X.env.locals != X.env.globals))=false:=by rw [I.ok.kind];rfl
 have hiσ:i < σ.length:=by rw [I.len];exact (List.getElem?_eq_some_iff.mp hi).1
 have cne:=I.cne
 have tracked:∀ {a:Addr} {h':Heap},(∃ o,s.heap.get? a=some o/\H a=none)->Heap.SameBut a s.heap h'->HOk X.prog X.w H h':=fun {a h'} ha hs b ob e=>by
  obtain ⟨_,_,hfree⟩:=ha
  refine (I.hok b ob e).stay (fun c w' hc q=>(hs.2 c ?_).trans q) (fun _ q=>q) fun _ _ q=>q
  rintro rfl
  rcases hc with rfl | hc
  ·rw [hfree] at e;cases e
  ·rw [hfree] at hc;cases hc
 rcases hx with hk | hk
 ·refine wpAny_storeName_local hk hn (fun h' hn' hs=>?_) hcls
  obtain ⟨oL,_,_,hoL,_⟩:=id hn
  refine h _ ⟨I.ok,I.os,I.bare,⟨fun b o e n hb hx=>?_,fun b o e n hb hx=>?_,I.base.free,fun b o e hx=>?_,I.base.tups,I.base.frzs,I.base.tbls⟩,⟨_,hn',fun j y v' e1 e2 e3=>?_⟩,fun y c e=>?_,I.free,I.freeC,fun p hp=>?_,tracked ⟨oL,hoL,I.free⟩ hs,by simpa using I.len⟩ ⟨_,hs,.inl rfl⟩
  ·exact (hs.2 b (qz (qC (qt e) I.ok.above))).trans (I.base.keep b o e n hb hx)
  ·obtain ⟨sl,e1⟩:=I.base.slot b o e n hb hx
   exact ⟨sl,(hs.2 b (qz (qC (qt e) I.ok.above))).trans e1⟩
  ·obtain ⟨o',e1⟩:=I.base.there b o e hx
   exact ⟨o',(hs.2 b (qz (qC (qt e) I.ok.above))).trans e1⟩
  ·by_cases hj:j=i
   ·subst hj
    rw [hi] at e1;cases e1
    rw [List.getElem?_set_self hiσ] at e2
    cases e2
    exact ⟨u,r,.inl ⟨hk,by simp⟩⟩
   ·rw [List.getElem?_set_ne (Ne.symm hj)] at e2
    obtain ⟨u',r',q⟩:=hl j y v' e1 e2 e3
    refine ⟨u',r',?_⟩
    rcases q with ⟨k,e⟩ | ⟨k,c,e,z⟩
    ·refine .inl ⟨k,?_⟩
     have:y≠x:=fun e=>hj (zkH hN e1 (e▸hi))
     simp [this,e]
    ·exact .inr ⟨k,c,e,z.sameBut hs (cne y c e)⟩
  ·obtain ⟨w',z⟩:=I.cell y c e
   exact ⟨w',z.sameBut hs (cne y c e)⟩
  ·obtain ⟨e,n,ne,nf,d⟩:=I.pin p hp
   exact ⟨(hs.2 p.1 ne).trans e,n,ne,nf,d⟩
 ·have hfn:X.fn x=true:=by
   rcases hf with z | z
   ·exact z
   ·rw [z] at hk;cases hk
  obtain ⟨c,hc⟩:=I.ok.has x (.inl hk)
  obtain ⟨w',z⟩:=I.cell x c hc
  refine wpAny_storeName_cell I.ok.kind hk hc z (fun h' hc' hs=>?_)
  obtain ⟨oc,hoc,hocd⟩:=id z
  refine h { s with heap:=h' } ⟨I.ok,I.os,I.bare,⟨fun b o e n hb hx=>?_,fun b o e n hb hx=>?_,I.base.free,fun b o e hx=>?_,I.base.tups,I.base.frzs,I.base.tbls⟩,⟨m,hn.sameBut hs (Ne.symm (cne x c hc)),fun j y v' e1 e2 e3=>?_⟩,fun y c' e=>?_,I.free,I.freeC,fun p hp=>?_,tracked ⟨oc,hoc,I.freeC x c hc⟩ hs,by simpa using I.len⟩ ⟨c,hs,.inr hc⟩
  ·exact (hs.2 b (qz (qC (qt e) (I.ok.cab x c hfn hc)))).trans (I.base.keep b o e n hb hx)
  ·obtain ⟨sl,e1⟩:=I.base.slot b o e n hb hx
   exact ⟨sl,(hs.2 b (qz (qC (qt e) (I.ok.cab x c hfn hc)))).trans e1⟩
  ·obtain ⟨o',e1⟩:=I.base.there b o e hx
   exact ⟨o',(hs.2 b (qz (qC (qt e) (I.ok.cab x c hfn hc)))).trans e1⟩
  ·by_cases hj:j=i
   ·subst hj
    rw [hi] at e1;cases e1
    rw [List.getElem?_set_self hiσ] at e2
    cases e2
    exact ⟨u,r,.inr ⟨.inl hk,c,hc,hc'⟩⟩
   ·rw [List.getElem?_set_ne (Ne.symm hj)] at e2
    obtain ⟨u',r',q⟩:=hl j y v' e1 e2 e3
    refine ⟨u',r',?_⟩
    rcases q with q | ⟨k,c',e,z'⟩
    ·exact .inl q
    ·refine .inr ⟨k,c',e,z'.sameBut hs ?_⟩
     rintro rfl
     exact hj (zkH hN e1 (I.ok.inj _ _ _ e hc▸hi))
  ·by_cases hcc:c'=c
   ·subst hcc;exact ⟨_,hc'⟩
   ·obtain ⟨w2,z2⟩:=I.cell y c' e
    exact ⟨w2,z2.sameBut hs hcc⟩
  ·obtain ⟨e,n,ne,nf,d⟩:=I.pin p hp
   refine ⟨(hs.2 p.1 ?_).trans e,n,ne,nf,d⟩
   intro q
   rw [q,hoc] at e
   have q':oc=p.2:=qE e
   exact d w' (by rw [← q'];exact hocd)
theorem zks {M:Model} {A:Around} {E:Value->Shared->Prop} {i:Nat} {x:Str} {v:V} {u:Value} {Q:Unit->Shared->Prop} (I:Inv X pins σ H s) (hN:X.N.Nodup) (hi:X.N[i]?=some x) (hx:Loc X.env.scope x) (r:zcF v u)
  (h:∀ s',Inv X pins (σ.set i (some v)) H s'->Q () s') (hf:X.fn x=true\/X.env.scope.names.lookup x=some .local:=by first | exact .inl rfl | exact .inr rfl | assumption):wpAny M A (storeName X.env x u) Q E s :=
 zi0 I hN hi hx r (fun s' I' _=>h s' I') hf
theorem Inv.call' {s':Shared} {ch:List Addr} (I:Inv X pins σ H s) (ho:s'.os=s.os) (u:Un (frs X.stack) ch H H' s.heap s'.heap) (hok:HOk X.prog X.w H' s'.heap) (hg:AllBare s'.gens)
  (hch:∀ b∈ch,(b∈X.ex\/X.s₀.heap.objs.size<=b)/\b≠X.env.locals/\(∀ x c,X.env.cells.lookup x=some c->c≠b)/\∀ p∈X.pn++pins,p.1≠b):Inv X pins σ H' s':=by
 obtain ⟨h',g',d',t',o'⟩:=s'
 have e:o'=s.os:=ho
 subst e
 exact I.call (g':=g') (t':=t') (d':=d') u hok hg hch
end
abbrev XK:=Value->Option Addr->Hp->Prop
abbrev St:=List (Option V)
abbrev VK:=V->Hp->Prop
abbrev TE:=St->Hp->VK->Prop
abbrev TT:=St->Hp->(Bool->Hp->Prop)->Prop
abbrev TA:=St->Hp->(List V->Hp->Prop)->Prop
structure Ends where
 nx:St->Hp->Prop
 rt:VK
 bk:St->Hp->Prop:=fun _ _=>False
 ct:St->Hp->Prop:=fun _ _=>False
abbrev TS:=Ends->St->Hp->Prop
def EP (X:Cx) (pins:List (Addr×Obj)) (σ:St) (Q:VK) (u:Value) (s':Shared):Prop:=∃ v H',Inv X pins σ H' s'/\zcF v u/\Q v H'
def TP (X:Cx) (pins:List (Addr×Obj)) (σ:St) (Q:Bool->Hp->Prop) (b:Bool) (s':Shared):Prop:=∃ H',Inv X pins σ H' s'/\Q b H'
def AP (X:Cx) (pins:List (Addr×Obj)) (σ:St) (Q:List V->Hp->Prop) (us:List Value) (s':Shared):Prop:=∃ vs H',Inv X pins σ H' s'/\zbX vs us/\Q vs H'
def SP (X:Cx) (pins:List (Addr×Obj)) (D:Ends) (f:Flow) (s':Shared):Prop :=
 match f with
 | .next=>∃ σ' H',Inv X pins σ' H' s'/\D.nx σ' H'
 | .brk=>∃ σ' H',Inv X pins σ' H' s'/\D.bk σ' H'
 | .cont=>∃ σ' H',Inv X pins σ' H' s'/\D.ct σ' H'
 | .ret u=>∃ v σ' H',Inv X pins σ' H' s'/\zcF v u/\D.rt v H'
def PE (X:Cx) (e:Expr) (t:TE):Prop :=
 ∀ (pins:List (Addr×Obj)) (s:Shared) (σ:St) (H:Hp) (Q:VK),Inv X pins σ H s->t σ H Q->wpAny (model X.prog X.w) X.A (eval e X.env) (EP X pins σ Q) X.xe s
def PT (X:Cx) (e:Expr) (t:TT):Prop :=
 ∀ (pins:List (Addr×Obj)) (s:Shared) (σ:St) (H:Hp) (Q:Bool->Hp->Prop),Inv X pins σ H s->t σ H Q->wpAny (model X.prog X.w) X.A (isTrue e X.env (eval e X.env)) (TP X pins σ Q) X.xe s
def PW (X:Cx) (e:Expr) (t:TT):Prop :=
 ∀ (whole:Sem Value) (pins:List (Addr×Obj)) (s:Shared) (σ:St) (H:Hp) (Q:Bool->Hp->Prop),Inv X pins σ H s->t σ H Q->wpAny (model X.prog X.w) X.A (isTrue e X.env whole) (TP X pins σ Q) X.xe s
theorem PW.pt {X:Cx} {e:Expr} {t:TT} (h:PW X e t):PT X e t:=h _
def PA (X:Cx) (es:List Expr) (t:TA):Prop :=
 ∀ (pos:Pos) (pins:List (Addr×Obj)) (s:Shared) (σ:St) (H:Hp) (Q:List V->Hp->Prop),Inv X pins σ H s->t σ H Q->wpAny (model X.prog X.w) X.A (spliced (backTo pos (starEach es X.env))) (AP X pins σ Q) X.xe s
def PS (X:Cx) (st:Stmt) (t:TS):Prop :=
 ∀ (pins:List (Addr×Obj)) (s:Shared) (σ:St) (H:Hp) (D:Ends),Inv X pins σ H s->t D σ H->wpAny (model X.prog X.w) X.A (exec st X.env) (SP X pins D) X.xe s
def PSs (X:Cx) (st:List Stmt) (t:TS):Prop :=
 ∀ (pins:List (Addr×Obj)) (s:Shared) (σ:St) (H:Hp) (D:Ends),Inv X pins σ H s->t D σ H->wpAny (model X.prog X.w) X.A (execs st X.env) (SP X pins D) X.xe s
theorem thn {α:Type} {t:Sem α} {Q Q':α->Shared->Prop} {M:Model} {A:Around} {E:Value->Shared->Prop} {s:Shared} (h:wpAny M A t Q E s) (hQ:∀ a s,Q a s->Q' a s):wpAny M A t Q' E s:=wpAny_mono h hQ fun _ _ x=>x
end L2
namespace L2
open PySem PySem.Spec PyProof.Rows
section
variable {X:Cx}
theorem bin {a b:Expr} {ta tb:TE} (ha:PE X a ta) (hb:PE X b tb) {pins:List (Addr×Obj)} {s:Shared} {σ:St} {H:Hp} {R:V->V->Hp->Prop} (I:Inv X pins σ H s) (h:ta σ H fun x H1=>tb σ H1 fun y H2=>R x y H2)
  {α:Type} {Q:α->Shared->Prop} {f:Value->Value->Sem α}
  (hf:∀ v u s2 x y H2,Inv X pins σ H2 s2->zcF x v->zcF y u->R x y H2->wpAny (model X.prog X.w) X.A (f v u) Q X.xe s2) :
  wpAny (model X.prog X.w) X.A (eval a X.env) (fun v s₁=>wpAny (model X.prog X.w) X.A (eval b X.env) (fun u s₂=>wpAny (model X.prog X.w) X.A (f v u) Q X.xe s₂) X.xe s₁) X.xe s:=by
 refine thn (ha pins s σ H _ I h) fun v s1 ⟨x,H1,I1,r1,q1⟩=>?_
 refine thn (hb pins s1 σ H1 _ I1 q1) fun u s2 ⟨y,H2,I2,r2,q2⟩=>?_
 exact hf v u s2 x y H2 I2 r1 r2 q2
def zvg (i:Nat):TE:=fun σ H Q=>∃ v,σ[i]?=some (some v)/\Q v H
def tC (v:V):TE:=fun _ H Q=>Q v H
theorem zgg {i:Nat} {x:Str} {pos:Pos} (hN:X.N[i]?=some x) (hv:Vis X.env.scope x) (hd:(x==("__debug__":Str))=false:=by decide) (hcd:(x==("__classdict__":Str))=false:=by decide):PE X (.Name x pos) (zvg i):=by
 intro pins s σ H Q I h
 obtain ⟨v,e,h⟩:=h
 obtain ⟨m,hn,hl⟩:=I.loc
 obtain ⟨u,r,l⟩:=hl i x v hN e hv
 have fin:EP X pins σ Q u s:=⟨v,H,I,r,h⟩
 rcases l with ⟨hk,hm⟩ | ⟨hk,c,hc,hcell⟩
 ·exact wpAny_Name (wpAny_loadName_local I.ok.kind hk hn hm fin) hd
 ·rcases hk with hk | hk
  ·exact wpAny_Name (wpAny_loadName_cell I.ok.kind hk hc hcell fin) hd
  ·exact wpAny_Name (wpAny_loadName_free I.ok.kind hk hc hcell fin hcd) hd
theorem zoY {i j pos}:PE X (.Constant (.int i) j pos) (tC (.int i)):=fun _ _ _ H _ I h=>wpAny_Constant_int ⟨.int i,H,I.tok _,⟨_,rfl⟩,h⟩
theorem zt4 {b j pos}:PE X (.Constant (.bool b) j pos) (tC (.bl b)):=fun _ _ _ H _ I h=>Constant_bool ⟨.bl b,H,I,rfl,h⟩
theorem zsh {j pos}:PE X (.Constant .none j pos) (tC .non):=fun _ _ _ H _ I h=>Constant_none ⟨.non,H,I,rfl,h⟩
theorem zoX {x j pos}:PE X (.Constant (.str x) j pos) (tC (.str x)):=fun _ _ _ H _ I h=>Calls.Constant_str ⟨.str x,H,I.tok _,⟨_,rfl⟩,h⟩
def Gl (X:Cx) (x:Str):Prop:=X.env.kindOf x=some .globalImplicit
theorem zj7 {E:Value->Shared->Prop} {pins:List (Addr×Obj)} {s:Shared} {σ:St} {H:Hp} {x:Str} {u:Value} {pos:Pos} {Q:Value->Shared->Prop} (I:Inv X pins σ H s) (hg:Gl X x) (hm:X.mg x=some u) (h:Q u s)
  (hd:(x==("__debug__":Str))=false:=by decide):wpAny (model X.prog X.w) X.A (eval (.Name x pos) X.env) Q E s :=
 Calls.Name_function_global I.ok.kind hg (Calls.loadGlobal_global (by rw [I.ok.glob];exact I.mod.glob.keeps I.bk) hm h) hd
theorem zhU {E:Value->Shared->Prop} {pins:List (Addr×Obj)} {s:Shared} {σ:St} {H:Hp} {x:Str} {u:Value} {pos:Pos} {Q:Value->Shared->Prop} (I:Inv X pins σ H s) (hg:Gl X x) (hm:X.mg x=none) (hv:bootBuiltins x=some u) (h:Q u s)
  (hn:x≠"__name__":=by decide) (hd:(x==("__debug__":Str))=false:=by decide):wpAny (model X.prog X.w) X.A (eval (.Name x pos) X.env) Q E s:=by
 obtain ⟨mb,h1,h2⟩:=I.mod.blt
 exact Calls.Name_function_global I.ok.kind hg (Calls.loadGlobal_builtin (by rw [I.ok.glob];exact I.mod.glob.keeps I.bk) hm (by rw [I.ok.blt];exact h1.keeps I.bk) ((h2 x hn).trans hv) h) hd
theorem zqa {x:Str} {v:V} {u:Value} {pos:Pos} (hg:Gl X x) (hm:X.mg x=some u) (r:zcF v u) (hd:(x==("__debug__":Str))=false:=by decide):PE X (.Name x pos) (tC v) :=
 fun _ _ _ H _ I h=>zj7 I hg hm ⟨v,H,I,r,h⟩ hd
theorem zqd {x:Str} {v:V} {u:Value} {pos:Pos} (hg:Gl X x) (hm:X.mg x=none) (hv:bootBuiltins x=some u) (r:zcF v u) (hn:x≠"__name__":=by decide) (hd:(x==("__debug__":Str))=false:=by decide):PE X (.Name x pos) (tC v) :=
 fun _ _ _ H _ I h=>zhU I hg hm hv ⟨v,H,I,r,h⟩ hn hd
variable {a b:Expr} {ta tb:TE} {pos:Pos}
def PC (X:Cx) (op:CmpOp) (a b:Expr) (t:TE):Prop :=
 ∀ (pins:List (Addr×Obj)) (s:Shared) (σ:St) (H:Hp) (Q:VK),Inv X pins σ H s->t σ H Q ->
  wpAny (model X.prog X.w) X.A (eval a X.env) (fun v s₁=>wpAny (model X.prog X.w) X.A (eval b X.env) (fun u s₂=>wpAny (model X.prog X.w) X.A (compareOp op v u) (EP X pins σ Q) X.xe s₂) X.xe s₁) X.xe s
theorem zn5 (b:Expr) {op:CmpOp} (h:op≠.In) (h2:op≠.NotIn):behindInMarks op b=false:=by
 have e1:(op==CmpOp.In)=false:=by cases op <;> first | rfl | exact absurd rfl h
 have e2:(op==CmpOp.NotIn)=false:=by cases op <;> first | rfl | exact absurd rfl h2
 cases b <;> simp [behindInMarks,e1,e2]
def tB (t:TE):TT:=fun σ H Q=>t σ H fun x H1=>∃ c,x=.bl c/\Q c H1
theorem zuT {op:CmpOp} {t:TE} (h:PC X op a b t) (h1:behindInMarks op b=false:=by first | exact zn5 _ (by decide) (by decide) | rfl):PT X (.Compare a [op] [b] pos) (tB t):=by
 intro pins s σ H Q I hw
 refine wpAny_isTrue_Compare1 (thn (h pins s σ H _ I hw) fun v s1 h1=>thn h1 fun u s2 h2=>thn h2 fun c s3 ⟨x,H1,I1,r1,q1⟩=>?_) h1
 obtain ⟨d,rfl,q⟩:=q1
 cases r1
 exact wpAny_truthy_bool ⟨H1,I1,q⟩
theorem zr2 {e:Expr} {t:TE} (h:PE X e t) (he:∀ whole,isTrue e X.env whole=(do let v ← whole;standAt e.pos;holding [v] (truthy v)):=by intro _;rfl):PT X e (tB t):=by
 intro pins s σ H Q I hw
 refine isTrue_plain (thn (h pins s σ H _ I hw) fun v s1 ⟨x,H1,I1,r1,q1⟩=>?_) (he _)
 obtain ⟨d,rfl,q⟩:=q1
 cases r1
 exact wpAny_truthy_bool ⟨H1,I1,q⟩
variable {tA tB':TT} {zcx:List Expr}
def zvp (t u:TT):TT:=fun σ H Q=>t σ H fun c H1=>if c=true then u σ H1 Q else Q false H1
def tOr (t u:TT):TT:=fun σ H Q=>t σ H fun c H1=>if c=true then Q true H1 else u σ H1 Q
def zvl (t:TT):TT:=fun σ H Q=>t σ H fun c H1=>Q (!c) H1
theorem zpW (ha:PT X a tA):PW X (.BoolOp .And [a] pos) tA:=by
 intro wh pins s σ H Q I h
 refine isTrue_and (thn (ha pins s σ H Q I h) fun c s1 e=>?_)
 cases c with
 | true=>exact isTrue_and_nil e
 | false=>exact e
theorem zrZ (ha:PT X a tA):PW X (.BoolOp .Or [a] pos) tA:=by
 intro wh pins s σ H Q I h
 refine isTrue_or (thn (ha pins s σ H Q I h) fun c s1 e=>?_)
 cases c with
 | false=>exact isTrue_or_nil e
 | true=>exact e
theorem zr0 (ha:PT X a tA) (hb:PW X (.BoolOp .And (b::zcx) pos) tB'):PW X (.BoolOp .And (a::b::zcx) pos) (zvp tA tB'):=by
 intro wh pins s σ H Q I h
 refine isTrue_and (thn (ha pins s σ H _ I h) fun c s1 ⟨H1,I1,q1⟩=>?_)
 cases c with
 | true=>exact hb wh pins s1 σ H1 Q I1 q1
 | false=>exact ⟨H1,I1,q1⟩
theorem ztX (ha:PT X a tA) (hb:PW X (.BoolOp .Or (b::zcx) pos) tB'):PW X (.BoolOp .Or (a::b::zcx) pos) (tOr tA tB'):=by
 intro wh pins s σ H Q I h
 refine isTrue_or (thn (ha pins s σ H _ I h) fun c s1 ⟨H1,I1,q1⟩=>?_)
 cases c with
 | true=>exact ⟨H1,I1,q1⟩
 | false=>exact hb wh pins s1 σ H1 Q I1 q1
theorem zr3 (ha:PT X a tA):PT X (.UnaryOp .Not a pos) (zvl tA):=by
 intro pins s σ H Q I h
 exact isTrue_not (ha pins s σ H (fun c H1=>Q (!c) H1) I h)
def ztL (ta tb:TE):TE:=fun σ H Q=>ta σ H fun x H1=>∃ c,x=.bl c/\if c=true then tb σ H1 Q else Q (.bl false) H1
def zvk (ta tb:TE):TE:=fun σ H Q=>ta σ H fun x H1=>∃ c,x=.bl c/\if c=true then Q (.bl true) H1 else tb σ H1 Q
def ztF (ta:TE):TE:=fun σ H Q=>ta σ H fun x H1=>∃ c,x=.bl c/\Q (.bl (!c)) H1
theorem zsf {op} {t:TE} (h:PE X a t):PE X (.BoolOp op [a] pos) t:=fun pins s σ H Q I hw=>BoolOp_one (h pins s σ H Q I hw)
theorem zsj (ha:PE X a ta) (hb:PE X (.BoolOp .And (b::zcx) pos) tb):PE X (.BoolOp .And (a::b::zcx) pos) (ztL ta tb):=by
 intro pins s σ H Q I h
 refine BoolOp_and (thn (ha pins s σ H _ I h) fun v s1 ⟨x,H1,I1,r1,q1⟩=>?_)
 obtain ⟨c,rfl,q1⟩:=q1
 cases r1
 refine wpAny_truthy_bool ?_
 cases c with
 | true=>exact hb pins s1 σ H1 Q I1 q1
 | false=>exact ⟨.bl false,H1,I1,rfl,q1⟩
theorem zt1 (ha:PE X a ta) (hb:PE X (.BoolOp .Or (b::zcx) pos) tb):PE X (.BoolOp .Or (a::b::zcx) pos) (zvk ta tb):=by
 intro pins s σ H Q I h
 refine BoolOp_or (thn (ha pins s σ H _ I h) fun v s1 ⟨x,H1,I1,r1,q1⟩=>?_)
 obtain ⟨c,rfl,q1⟩:=q1
 cases r1
 refine wpAny_truthy_bool ?_
 cases c with
 | false=>exact hb pins s1 σ H1 Q I1 q1
 | true=>exact ⟨.bl true,H1,I1,rfl,q1⟩
theorem zsg (ha:PE X a ta):PE X (.UnaryOp .Not a pos) (ztF ta):=by
 intro pins s σ H Q I h
 refine UnaryOp_ (thn (ha pins s σ H _ I h) fun v s1 ⟨x,H1,I1,r1,q1⟩=>?_)
 obtain ⟨c,rfl,q1⟩:=q1
 cases r1
 exact not_of (wpAny_truthy_bool ⟨.bl (!c),H1,I1,rfl,q1⟩)
def tIf (t:TT) (ta tb:TE):TE:=fun σ H Q=>t σ H fun c H1=>if c=true then ta σ H1 Q else tb σ H1 Q
theorem znW {c:Expr} (hc:PT X c tA) (ha:PE X a ta) (hb:PE X b tb):PE X (.IfExp c a b pos) (tIf tA ta tb):=by
 intro pins s σ H Q I h
 refine wpAny_IfExp (thn (hc pins s σ H _ I h) fun d s1 ⟨H1,I1,q1⟩=>?_)
 cases d with
 | true=>exact ha pins s1 σ H1 Q I1 q1
 | false=>exact hb pins s1 σ H1 Q I1 q1
end
end L2
namespace L2
open PySem PySem.Spec PyProof.Rows
def SqL (K:PySem.W.Frag) (H:Hp) (a:Addr) (xs:List V):Prop :=
 Rd H a (.lst xs) \/
  ∃ (o:Obj) (its:Array Value) (n:Nat),K.lookup a=some o/\o.cls=.type "list"/\o.dict=none/\o.data=.seq its n/\its.size<=sizeLine/\zbX xs its.toList
def SqT (K:PySem.W.Frag) (H:Hp) (a:Addr) (xs:List V):Prop :=
 Rd H a (.tup xs) \/
  ∃ (o:Obj) (its:Array Value) (n:Nat),K.lookup a=some o/\o.cls=.type "tuple"/\o.data=.seq its n/\its.size<=sizeLine/\zbX xs its.toList
def zvF:Value->Option V
 | .none=>some .non
 | .bool b=>some (.bl b)
 | .int i _=>some (.int i)
 | .str x _=>some (.str x)
 | .bytes b _=>some (.byt b)
 | .float b _=>some (.flt b)
 | .ref a=>some (.ref a)
 | .type n=>some (.ty n)
 | _=>none
theorem zcF.abs {x:V} {u:Value} (r:zcF x u):zvF u=some x:=by
 cases x with
 | non=>cases r;rfl
 | bl _=>cases r;rfl
 | int _=>obtain ⟨t,rfl⟩:=r;rfl
 | str _=>obtain ⟨t,rfl⟩:=r;rfl
 | byt _=>obtain ⟨t,rfl⟩:=r;rfl
 | flt _=>obtain ⟨t,rfl⟩:=r;rfl
 | ref _=>cases r;rfl
 | ty _=>cases r;rfl
theorem zcF.inj {x y:V} {u:Value} (r:zcF x u) (q:zcF y u):x=y:=qE (r.abs.symm.trans q.abs)
theorem zbX.inj:∀ {xs ys:List V} {us:List Value},zbX xs us->zbX ys us->xs=ys
 | _,_,_,.nil,.nil=>rfl
 | _,_,_,.cons r t,.cons r' t'=>by rw [r.inj r',zbX.inj t t']
section
variable {X:Cx} {pins:List (Addr×Obj)} {σ:St} {H:Hp} {s:Shared} {a:Addr} {xs ys:List V}
theorem Inv.list (I:Inv X pins σ H s) (h:SqL X.K H a xs):∃ its:List Value,zbX xs its/\PlainL s.heap a its.toArray/\xs.length<=sizeLine:=by
 rcases h with h | ⟨o,its,n,hk,hc,hd,hs,hz,r⟩
 ·obtain ⟨z,its,n,r,e⟩:=h.ok I.hok
  exact ⟨its,r,⟨_,n,e,rfl,rfl,rfl⟩,z⟩
 ·refine ⟨its.toList,r,⟨o,n,I.kIn a o hk,hc,hd,by simpa using hs⟩,?_⟩
  have e:=r.length
  simp only [Array.length_toList] at e
  omega
theorem Inv.tuple (I:Inv X pins σ H s) (h:SqT X.K H a xs):∃ its:List Value,zbX xs its/\IsTup s.heap a its.toArray/\xs.length<=sizeLine:=by
 rcases h with h | ⟨o,its,n,hk,hc,hs,hz,r⟩
 ·obtain ⟨z,its,r,p⟩:=h.ok I.hok
  exact ⟨its,r,p,z⟩
 ·refine ⟨its.toList,r,⟨o,I.kIn a o hk,hc,n,by simpa using hs⟩,?_⟩
  have e:=r.length
  simp only [Array.length_toList] at e
  omega
theorem Inv.list_inj (I:Inv X pins σ H s) (h:SqL X.K H a xs) (h':SqL X.K H a ys):xs=ys:=by
 obtain ⟨its,r,⟨o,n,e,_,_,d⟩,_⟩:=I.list h
 obtain ⟨its',r',⟨o',n',e',_,_,d'⟩,_⟩:=I.list h'
 rw [e] at e';cases e'
 rw [d] at d'
 injection d' with d1 _
 have:its=its':=by simpa using congrArg Array.toList d1
 subst this
 exact r.inj r'
theorem Inv.tuple_inj (I:Inv X pins σ H s) (h:SqT X.K H a xs) (h':SqT X.K H a ys):xs=ys:=by
 obtain ⟨its,r,⟨o,e,_,n,d⟩,_⟩:=I.tuple h
 obtain ⟨its',r',⟨o',e',_,n',d'⟩,_⟩:=I.tuple h'
 rw [e] at e';cases e'
 rw [d] at d'
 injection d' with d1 _
 have:its=its':=by simpa using congrArg Array.toList d1
 subst this
 exact r.inj r'
end
abbrev Cx.wish (X:Cx) (E:Value->Shared->Prop):Cx:={ X with xe:=E }
abbrev Cx.nox (X:Cx):Cx:=X.wish fun _ _=>False
theorem Cx.Ok.wish {X:Cx} (ok:X.Ok) (E:Value->Shared->Prop):(X.wish E).Ok :=
 ⟨ok.mod,ok.kind,ok.glob,ok.blt,ok.above,ok.inj,ok.has,ok.cab,ok.hd,ok.frames,ok.stk,ok.exf,ok.bs,ok.bsz,ok.noex,ok.exfs,ok.funs,ok.frf⟩
theorem Cx.Ok.unwish {X:Cx} {E:Value->Shared->Prop} (ok:(X.wish E).Ok):X.Ok :=
 ⟨ok.mod,ok.kind,ok.glob,ok.blt,ok.above,ok.inj,ok.has,ok.cab,ok.hd,ok.frames,ok.stk,ok.exf,ok.bs,ok.bsz,ok.noex,ok.exfs,ok.funs,ok.frf⟩
section
variable {X:Cx} {pins:List (Addr×Obj)} {σ:St} {H:Hp} {s:Shared} {E:Value->Shared->Prop}
theorem Inv.wish (I:Inv X pins σ H s) (E:Value->Shared->Prop):Inv (X.wish E) pins σ H s:=⟨I.ok.wish E,I.os,I.bare,I.base,I.loc,I.cell,I.free,I.freeC,I.pin,I.hok,I.len⟩
theorem Inv.unwish (I:Inv (X.wish E) pins σ H s):Inv X pins σ H s:=⟨I.ok.unwish,I.os,I.bare,I.base,I.loc,I.cell,I.free,I.freeC,I.pin,I.hok,I.len⟩
theorem SP.unwish {D:Ends} {f:Flow} {s':Shared} (h:SP (X.wish E) pins D f s'):SP X pins D f s':=by
 cases f with
 | next=>obtain ⟨σ',H',I,q⟩:=h;exact ⟨σ',H',I.unwish,q⟩
 | brk=>obtain ⟨σ',H',I,q⟩:=h;exact ⟨σ',H',I.unwish,q⟩
 | cont=>obtain ⟨σ',H',I,q⟩:=h;exact ⟨σ',H',I.unwish,q⟩
 | ret u=>obtain ⟨v,σ',H',I,r,q⟩:=h;exact ⟨v,σ',H',I.unwish,r,q⟩
theorem PSs.nox {st:List Stmt} {t:TS} (h:PSs X.nox st t):PSs X st t:=fun pins s σ H D I hw =>
 wpAny_mono (h pins s σ H D (I.wish _) hw) (fun _ _ q=>q.unwish) fun _ _ z=>False.elim z
end
section
variable {X:Cx} {st:Stmt} {zcx:List Stmt} {t u:TS} {e:Expr} {te:TE} {pos:Pos}
def ztH:TS:=fun D σ H=>D.nx σ H
def zvi (t u:TS):TS:=fun D σ H=>t { D with nx:=u D } σ H
theorem zp1:PSs X [] ztH:=fun _ _ σ H _ I h=>wpAny_execs_nil ⟨σ,H,I,h⟩
theorem znR (h1:PS X st t) (h2:PSs X zcx u):PSs X (st::zcx) (zvi t u):=by
 intro pins s σ H D I h
 refine wpAny_execs_cons (thn (h1 pins s σ H { D with nx:=u D } I h) fun f s1 q=>?_)
 cases f with
 | next =>
  obtain ⟨σ',H',I',q⟩:=q
  exact h2 pins s1 σ' H' D I' q
 | ret v=>exact q
 | brk=>exact q
 | cont=>exact q
theorem zp0 (h1:PS X st t):PSs X [st] t:=by
 intro pins s σ H D I h
 refine wpAny_execs_cons (thn (h1 pins s σ H D I h) fun f s1 q=>?_)
 cases f with
 | next=>exact wpAny_execs_nil q
 | ret v=>exact q
 | brk=>exact q
 | cont=>exact q
theorem Inv.quiet {pins:List (Addr×Obj)} {σ:St} {H:Hp} {s:Shared} (I:Inv X pins σ H s):interactive X.env=false:=by simp [interactive,I.ok.kind]
def ztJ (te:TE):TS:=fun D σ H=>te σ H fun _ H1=>D.nx σ H1
theorem zj0 (he:PE X e te) (hs:swapsWith e none pos.line X.env=pure false:=by rfl):PS X (.Expr e pos) (ztJ te):=by
 intro pins s σ H D I h
 exact wpAny_Expr_any (thn (he pins s σ H _ I h) fun v s1 ⟨x,H1,I1,r1,q1⟩=>⟨σ,H1,I1,q1⟩) I.quiet hs
def zvj (te:TE):TS:=fun D σ H=>te σ H D.rt
theorem zr5 (he:PE X e te):PS X (.Return (some e) pos) (zvj te):=by
 intro pins s σ H D I h
 exact wpAny_Return_some (thn (he pins s σ H _ I h) fun v s1 ⟨x,H1,I1,r1,q1⟩=>⟨x,σ,H1,I1,r1,q1⟩)
def zvm (c:TT) (t u:TS):TS:=fun D σ H=>c σ H fun b H1=>if b=true then t D σ H1 else u D σ H1
theorem ztY {c:Expr} {a b:List Stmt} {tc:TT} (hc:PT X c tc) (ha:PSs X a t) (hb:PSs X b u):PS X (.If c a b pos) (zvm tc t u):=by
 intro pins s σ H D I h
 refine wpAny_If (thn (hc pins s σ H _ I h) fun d s1 ⟨H1,I1,q1⟩=>?_)
 cases d with
 | true=>exact ha pins s1 σ H1 D I1 q1
 | false=>exact hb pins s1 σ H1 D I1 q1
end
abbrev TG:=V->St->Hp->(St->Hp->Prop)->Prop
abbrev TGs:=List V->St->Hp->(St->Hp->Prop)->Prop
def PG (X:Cx) (target:Expr) (t:TG):Prop :=
 ∀ (pins:List (Addr×Obj)) (s:Shared) (σ:St) (H:Hp) (v:V) (u:Value) (Q:St->Hp->Prop),Inv X pins σ H s->zcF v u->t v σ H Q ->
  wpAny (model X.prog X.w) X.A (assign target X.env u) (fun _ s'=>∃ σ' H',Inv X pins σ' H' s'/\Q σ' H') X.xe s
def PGs (X:Cx) (ts:List Expr) (t:TGs):Prop :=
 ∀ (pins:List (Addr×Obj)) (s:Shared) (σ:St) (H:Hp) (vs:List V) (us:List Value) (Q:St->Hp->Prop),Inv X pins σ H s->zbX vs us->t vs σ H Q ->
  wpAny (model X.prog X.w) X.A (assignInOrder ((assignEach ts X.env).map (·.2)) us) (fun _ s'=>∃ σ' H',Inv X pins σ' H' s'/\Q σ' H') X.xe s
section
variable {X:Cx} {pos:Pos}
def zlv (i:Nat):TG:=fun v σ H Q=>Q (σ.set i (some v)) H
theorem zp7 {i:Nat} {x:Str} (hN:X.N.Nodup) (hi:X.N[i]?=some x) (hx:Loc X.env.scope x) (hf:X.fn x=true\/X.env.scope.names.lookup x=some .local:=by first | exact .inl rfl | exact .inr rfl | assumption):PG X (.Name x pos) (zlv i):=by
 intro pins s σ H v u Q I r h
 exact wpAny_assign_Name (zks I hN hi hx r (fun s' I'=>⟨_,H,I',h⟩) hf)
def zvC:TGs:=fun vs σ H Q=>vs=[]/\Q σ H
def zug (t:TG) (u:TGs):TGs:=fun vs σ H Q=>∃ v r,vs=v::r/\t v σ H fun σ' H'=>u r σ' H' Q
theorem zp6:PGs X [] zvC:=by
 intro pins s σ H vs us Q I r h
 obtain ⟨e,h⟩:=h
 subst e
 cases r
 exact assignInOrder_nil ⟨σ,H,I,h⟩
theorem znT {e:Expr} {es:List Expr} {t:TG} {u:TGs} (h1:PG X e t) (h2:PGs X es u)
  (hs:(assignEach (e::es) X.env).map (·.2)=assign e X.env::(assignEach es X.env).map (·.2):=by rfl):PGs X (e::es) (zug t u):=by
 intro pins s σ H vs us Q I r h
 obtain ⟨v,vr,e1,h⟩:=h
 subst e1
 cases r with
 | cons r rr =>
  rw [hs]
  refine assignInOrder_cons (thn (h1 pins s σ H _ _ _ I r h) fun _ s1 ⟨σ1,H1,I1,q1⟩=>?_)
  exact h2 pins s1 σ1 H1 _ _ Q I1 rr q1
def zvB (K:PySem.W.Frag) (n:Nat) (t:TGs):TG:=fun v σ H Q=>∃ a xs,v=.ref a/\SqT K H a xs/\xs.length=n/\t xs σ H Q
theorem zsc {es:List Expr} {k:Nat} {t:TGs} {n:Nat} (hc:X.calm=true) (h:PGs X es t)
  (hn:(assignEach es X.env).length=n:=by rfl) (hst:(assignEach es X.env).findIdx? (·.1)=none:=by rfl):PG X (.Tuple es k pos) (zvB X.K n t):=by
 intro pins s σ H v u Q I r hw
 obtain ⟨a,xs,e1,hq,hl,hw⟩:=hw
 subst e1
 cases r
 obtain ⟨its,rv,ht,hz⟩:=I.tuple hq
 refine assign_Tuple_tuple (I.ok.hd hc) ht (by simp [hn,← hl,rv.length]) hst fun h' hx=>?_
 have I1:Inv X pins σ H { s with heap:=h' }:=I.kept (t':=s.toks) fun b o e=>hx b o (qz (qt e)) e
 exact h pins _ σ H xs _ Q I1 (by simpa using rv) hw
def zrg (te:TE) (g:TG):TS:=fun D σ H=>te σ H fun x H1=>g x σ H1 D.nx
theorem zr8 {tg e:Expr} {te:TE} {g:TG} (he:PE X e te) (hg:PG X tg g) (hs:swapsWithSole [tg] e pos.line X.env=pure false:=by rfl) (hw:swappedStores [tg] e X.env=pure none:=by rfl)
  (h1:(assignEach [tg] X.env).map (·.2)=[assign tg X.env]:=by rfl):PS X (.Assign [tg] e pos) (zrg te g):=by
 intro pins s σ H D I h
 refine wpAny_Assign_stores (thn (he pins s σ H _ I h) fun v s1 ⟨x,H1,I1,r1,q1⟩=>?_) hs hw
 rw [h1]
 exact thn (hg pins s1 σ H1 x v _ I1 r1 q1) fun _ s2 q=>q
theorem zl7 {i:Nat} {x:Str} {e:Expr} {te:TE} {pos':Pos} (hN:X.N.Nodup) (hi:X.N[i]?=some x) (hx:Loc X.env.scope x) (he:PE X e te) (hs:swapsWith e (some (.Name x pos')) pos.line X.env=pure false:=by rfl) (hf:X.fn x=true\/X.env.scope.names.lookup x=some .local:=by first | exact .inl rfl | exact .inr rfl | assumption) :
  PS X (.Assign [.Name x pos'] e pos) (zrg te (zlv i)):=by
 intro pins s σ H D I h
 refine wpAny_Assign_Name (thn (he pins s σ H _ I h) fun v s1 ⟨y,H1,I1,r1,q1⟩=>?_) hs
 exact zks I1 hN hi hx r1 (fun s2 I2=>⟨_,H1,I2,q1⟩) hf
end
section
variable {X:Cx} {pos:Pos}
end
structure It where
 go:Nat->Hp->Prop
 yld:Nat->Hp->V->Hp->Prop
 stop:Nat->Hp->Prop
def zlE (X:Cx) (pins:List (Addr×Obj)) (H:Hp) (b:Addr):Prop :=
 H b=none/\b≠X.env.locals/\b∉X.fs/\(b∈X.ex\/X.s₀.heap.objs.size<=b)/\(∀ x c,X.env.cells.lookup x=some c->c≠b)/\∀ p∈X.pn++pins,p.1≠b
theorem Inv.fpOk {X:Cx} {pins:List (Addr×Obj)} {σ:St} {H H':Hp} {s:Shared} {b:Addr} (I:Inv X pins σ H s) (hb:s.heap.objs.size<=b) (hn:H' b=none):zlE X pins H' b:=by
 refine ⟨hn,Nat.ne_of_gt (qC I.lt hb),I.nofs hb,.inr (qJ I.sz hb),fun x c e z=>?_,fun p hp z=>?_⟩
 ·obtain ⟨v,q⟩:=I.cell x c e
  exact absurd (qC q.lt (by rw [z];exact hb)) (Nat.lt_irrefl _)
 ·exact absurd (qC (qt (I.pin p hp).1) (by rw [z];exact hb)) (Nat.lt_irrefl _)
structure Turn (P:Program) (w:World) (K:PySem.W.Frag) (tg:Expr) (J:It) (fp:List Addr) (it:Addr) (tn:Nat->Heap->Prop):Prop where
 mem:it∈fp
 obj:∀ i h,tn i h->∀ b∈fp,∃ o,h.get? b=some o/\∀ v,o.data≠.cell v
 keep:∀ i h h',tn i h->(∀ b∈fp,∀ o,h.get? b=some o->h'.get? b=some o)->tn i h'
 item:∀ (X:Cx),X.prog=P->X.w=w->X.K=K->X.calm=true->∀ (i:Nat) (pins:List (Addr×Obj)) (s:Shared) (σ:St) (H:Hp) (E:Value->Shared->Prop),Inv X pins σ H s->(∀ b∈fp,zlE X pins H b)->tn i s.heap->J.go i H ->
  wpAny (model P w) X.A (pyNext (.ref it)) (fun r s1=>∃ u,r=some u /\
   wpAny (model P w) X.A (letOwnedTupleGo tg (.ref it) u) (fun _ s2=>∃ x H',Inv X pins σ H' s2/\zcF x u/\J.yld i H x H'/\tn (i+1) s2.heap/\∀ b∈fp,H' b=none) E s1) E s
 done:∀ (X:Cx),X.prog=P->X.w=w->X.K=K->X.calm=true->∀ (i:Nat) (pins:List (Addr×Obj)) (s:Shared) (σ:St) (H:Hp) (E:Value->Shared->Prop),Inv X pins σ H s->(∀ b∈fp,zlE X pins H b)->tn i s.heap->J.stop i H ->
  wpAny (model P w) X.A (pyNext (.ref it)) (fun r s1=>r=none/\Inv X pins σ H s1) E s
 self:∀ (A:Around) (i:Nat) (s:Shared) (Q:Value->Shared->Prop) (E:Value->Shared->Prop),tn i s.heap->Q (.ref it) s->wpAny (model P w) A (pyIter (.ref it)) Q E s
abbrev TI:=St->Hp->(It->Hp->Prop)->Prop
def PIE (X:Cx) (pins:List (Addr×Obj)) (σ:St) (tg:Expr) (R:It->Hp->Prop) (itv:Value) (s2:Shared):Prop :=
 ∃ (it:Addr) (fp:List Addr) (tn:Nat->Heap->Prop) (J:It) (H':Hp),itv=.ref it/\Inv X pins σ H' s2/\Turn X.prog X.w X.K tg J fp it tn/\tn 0 s2.heap/\(∀ b∈fp,zlE X pins H' b)/\R J H'
def PI (X:Cx) (tg iter:Expr) (wi:TI):Prop :=
 ∀ (pins:List (Addr×Obj)) (s:Shared) (σ:St) (H:Hp) (R:It->Hp->Prop),Inv X pins σ H s->wi σ H R ->
  wpAny (model X.prog X.w) X.A (eval iter X.env) (fun v s1=>wpAny (model X.prog X.w) X.A (pyIter v) (PIE X pins σ tg R) X.xe s1) X.xe s
theorem zqN {M:Model} {A:Around} {E:Value->Shared->Prop} {s:Shared} {tg:Expr} {it:Addr} {u:Value} {o:Obj} {n:String} {vs:Array Value} {Q:Unit->Shared->Prop} (ho:s.heap.get? it=some o) (hc:o.cls=.type n) (hd:o.data=.fields vs)
  (hn:["enumerate","zip","dict_itemiterator","dict_reverseitemiterator","odict_iterator","itertools.zip_longest","itertools.pairwise"].contains n=false) (hQ:Q () s):wpAny M A (letOwnedTupleGo tg (.ref it) u) Q E s:=by
 unfold letOwnedTupleGo
 cases tg <;> first
  | exact qx hQ
  | (cases u <;> first
    | exact qx hQ
    | (refine qv (wpAny_load ho ?_);rw [hc,hd];show wpAny M A (if (["enumerate","zip","dict_itemiterator","dict_reverseitemiterator","odict_iterator","itertools.zip_longest","itertools.pairwise"].contains n && vs[0]?==some (rawInt _))=true then _ else _) Q E s;rw [qW (by intro h;rw [hn,Bool.false_and] at h;cases h)];exact qx hQ))
def Itl (K:PySem.W.Frag) (a:Addr):It :=
 ⟨fun i H=>∃ xs x,SqL K H a xs/\xs[i]?=some x,fun i H x H'=>H'=H/\∀ xs,SqL K H a xs->xs[i]?=some x,fun i H=>∃ xs,SqL K H a xs/\xs.length<=i⟩
def Itt (K:PySem.W.Frag) (a:Addr):It :=
 ⟨fun i H=>∃ xs x,SqT K H a xs/\xs[i]?=some x,fun i H x H'=>H'=H/\∀ xs,SqT K H a xs->xs[i]?=some x,fun i H=>∃ xs,SqT K H a xs/\xs.length<=i⟩
def Itr (lo:Int) (n:Nat):It:=⟨fun i _=>i < n,fun i H x H'=>H'=H/\x=.int (lo+i),fun i _=>n<=i⟩
theorem zlM {P:Program} {w:World} {K:PySem.W.Frag} {tg:Expr} (a it:Addr):Turn P w K tg (Itl K a) [it] it (fun i h=>h.IsListIter it a i) where
 mem:=by simp
 obj:=fun i h st b hb=>by
  have e:b=it:=by simpa using hb
  subst e
  obtain ⟨o,e,c,d⟩:=st
  exact ⟨o,e,fun v z=>by rw [d] at z;cases z⟩
 keep:=fun i h h' st k=>st.at fun o e=>k it (by simp) o e
 item:=by
  intro X hP hw hK hc i pins s σ H E I hf st hg
  subst hP hw hK
  obtain ⟨xs,x,hq,hx⟩:=hg
  obtain ⟨its,rv,p,hz⟩:=I.list hq
  obtain ⟨u,hu,ru⟩:=rv.get hx
  obtain ⟨f0,f1,f2,f3,f4,f5⟩:=hf it (by simp)
  refine wpAny_pyNext_list_item st p.isList (x:=u) (by simpa using hu) fun h' st' sb=>?_
  have I1:Inv X pins σ H { s with heap:=h' }:=I.turned (t':=s.toks) (fun b o hb e=>(sb.2 b hb).trans e) f0 f1 f3 f4 f5
  obtain ⟨o,e,c,d⟩:=id st'
  exact ⟨u,rfl,zqN (s:={ s with heap:=h' }) e c d (by decide) ⟨x,H,I1,ru,⟨rfl,fun ys hy=>by rw [I.list_inj hy hq];exact hx⟩,st',fun b hb=>(hf b hb).1⟩⟩
 done:=by
  intro X hP hw hK hc i pins s σ H E I hf st hg
  subst hP hw hK
  obtain ⟨xs,hq,hx⟩:=hg
  obtain ⟨its,rv,p,hz⟩:=I.list hq
  obtain ⟨f0,f1,f2,f3,f4,f5⟩:=hf it (by simp)
  have hl:=rv.length
  exact wpAny_pyNext_list_end (I.ok.hd hc) st p.isList (by simp;omega) fun h' eb=>⟨rfl,I.turned (t':=s.toks) (fun b o hb e=>eb b o hb e) f0 f1 f3 f4 f5⟩
 self:=fun _ _ _ _ _ st h=>wpAny_pyIter_listiter st h
theorem zla {P:Program} {w:World} {K:PySem.W.Frag} {tg:Expr} (a it:Addr):Turn P w K tg (Itt K a) [it] it (fun i h=>h.IsTupleIter it a i) where
 mem:=by simp
 obj:=fun i h st b hb=>by
  have e:b=it:=by simpa using hb
  subst e
  obtain ⟨o,e,c,d⟩:=st
  exact ⟨o,e,fun v z=>by rw [d] at z;cases z⟩
 keep:=fun i h h' st k=>st.at fun o e=>k it (by simp) o e
 item:=by
  intro X hP hw hK hc i pins s σ H E I hf st hg
  subst hP hw hK
  obtain ⟨xs,x,hq,hx⟩:=hg
  obtain ⟨its,rv,p,hz⟩:=I.tuple hq
  obtain ⟨u,hu,ru⟩:=rv.get hx
  obtain ⟨f0,f1,f2,f3,f4,f5⟩:=hf it (by simp)
  refine wpAny_pyNext_tuple_item st (show s.heap.IsTuple a its.toArray from p) (x:=u) (by simpa using hu) fun h' st' sb=>?_
  have I1:Inv X pins σ H { s with heap:=h' }:=I.turned (t':=s.toks) (fun b o hb e=>(sb.2 b hb).trans e) f0 f1 f3 f4 f5
  obtain ⟨o,e,c,d⟩:=id st'
  exact ⟨u,rfl,zqN (s:={ s with heap:=h' }) e c d (by decide) ⟨x,H,I1,ru,⟨rfl,fun ys hy=>by rw [I.tuple_inj hy hq];exact hx⟩,st',fun b hb=>(hf b hb).1⟩⟩
 done:=by
  intro X hP hw hK hc i pins s σ H E I hf st hg
  subst hP hw hK
  obtain ⟨xs,hq,hx⟩:=hg
  obtain ⟨its,rv,p,hz⟩:=I.tuple hq
  obtain ⟨f0,f1,f2,f3,f4,f5⟩:=hf it (by simp)
  have hl:=rv.length
  exact wpAny_pyNext_tuple_end (I.ok.hd hc) st (show s.heap.IsTuple a its.toArray from p) (by simp;omega) fun h' eb=>⟨rfl,I.turned (t':=s.toks) (fun b o hb e=>eb b o hb e) f0 f1 f3 f4 f5⟩
 self:=fun _ _ _ _ _ st h=>wpAny_pyIter_tupleiter st h
theorem zlb {P:Program} {w:World} {K:PySem.W.Frag} {tg:Expr} (it:Addr) (lo:Int) (n:Nat):Turn P w K tg (Itr lo n) [it] it (fun i h=>IsRangeIter h it (lo+(i:Nat)*1) ((n:Int) - (i:Nat)) 1) where
 mem:=by simp
 obj:=fun i h st b hb=>by
  have e:b=it:=by simpa using hb
  subst e
  exact ⟨_,st,fun v z=>by
   have z':Data.fields _=Data.cell v:=z
   cases z'⟩
 keep:=fun i h h' st k=>k it (by simp) _ st
 item:=by
  intro X hP hw hK hc i pins s σ H E I hf st hg
  subst hP hw hK
  obtain ⟨f0,f1,f2,f3,f4,f5⟩:=hf it (by simp)
  have W:=Walks.range (prog:=X.prog) (w:=X.w) (I.ok.hd hc) it lo 1 n
  refine W.item i s _ _ hg st fun v h' tk hv st' kk=>?_
  obtain ⟨t,rfl⟩:=hv
  have I1:Inv X pins σ H { s with heap:=h',toks:=tk }:=I.turned (fun b o hb e=>kk b o (by simpa using hb) e) f0 f1 f3 f4 f5
  refine ⟨_,rfl,zqN (s:={ s with heap:=h',toks:=tk }) (n:="range_iterator") st' rfl rfl (by decide) ⟨.int (lo+i),H,I1,⟨t,?_⟩,⟨rfl,rfl⟩,st',fun b hb=>(hf b hb).1⟩⟩
  rw [Int.mul_one]
 done:=by
  intro X hP hw hK hc i pins s σ H E I hf st hg
  subst hP hw hK
  obtain ⟨f0,f1,f2,f3,f4,f5⟩:=hf it (by simp)
  exact wpAny_pyNext_range_end (I.ok.hd hc) st (by have:n<=i:=hg;omega) fun h' eb=>⟨rfl,I.turned (t':=s.toks) (fun b o hb e=>eb b o hb e) f0 f1 f3 f4 f5⟩
 self:=fun _ _ _ _ _ st h=>wpAny_pyIter_rangeiter st h
end L2
namespace L2
open PySem PySem.Spec PyProof.Rows
section
variable {X:Cx} {tg:Expr}
theorem zkz {pins:List (Addr×Obj)} {σ:St} {H:Hp} {s:Shared} {R:It->Hp->Prop} {E:Value->Shared->Prop} {lo hi:Int} {t u v:Tok} {tk:Nat} (I:Inv X pins σ H s) (h1 : -(2 ^ 62)<=lo) (h2:lo < 2 ^ 62) (h3 : -(2 ^ 62)<=hi) (h4:hi < 2 ^ 62)
  (q:R (Itr lo (hi - lo).toNat) H):wpAny (model X.prog X.w) X.A (pyIter (.ref s.heap.objs.size)) (PIE X pins σ tg R) E { s with heap:=s.heap.push { cls:=.type "range",data:=.fields #[.int lo t,.int hi u,.int 1 v] },toks:=tk }:=by
 refine wpAny_pyIter_range (IsRange.new ..) (small_one h1 h2 h3 h4) ?_
 have I1:Inv X pins σ H { s with heap:=s.heap.push { cls:=.type "range",data:=.fields #[.int lo t,.int hi u,.int 1 v] },toks:=tk }:=I.kept fun b o e=>qr _ e
 refine ⟨(s.heap.push { cls:=.type "range",data:=.fields #[.int lo t,.int hi u,.int 1 v] }).objs.size,[(s.heap.push { cls:=.type "range",data:=.fields #[.int lo t,.int hi u,.int 1 v] }).objs.size],_,_,H,rfl,
  I1.kept (t':=tk) fun b o e=>qr _ e,zlb _ lo (hi - lo).toNat,?_,fun b hb=>?_,q⟩
 ·have e1:lo+((0:Nat):Int)*1=lo:=by simp
  have e2:(((hi - lo).toNat:Nat):Int) - ((0:Nat):Int)=Builtin.Range.rangeSize lo hi 1:=by rw [rangeSize_one];split <;> omega
  show IsRangeIter _ _ (lo+((0:Nat):Int)*1) ((((hi - lo).toNat:Nat):Int) - ((0:Nat):Int)) 1
  rw [e1,e2]
  exact qD _ rfl
 ·have e:b=(s.heap.push { cls:=.type "range",data:=.fields #[.int lo t,.int hi u,.int 1 v] }).objs.size:=by simpa using hb
  subst e
  exact I1.fpOk (qu _) (I1.hok.fresh (qu _))
def zue (ta:TA):TI:=fun σ H R=>ta σ H fun vs H1=>∃ j:Int,vs=[.int j] /\ -(2 ^ 62)<=j/\j < 2 ^ 62/\R (Itr 0 j.toNat) H1
def zud (ta:TA):TI:=fun σ H R=>ta σ H fun vs H1=>∃ i j:Int,vs=[.int i,.int j]/\(-(2 ^ 62)<=i/\i < 2 ^ 62 /\ -(2 ^ 62)<=j/\j < 2 ^ 62)/\R (Itr i (j - i).toNat) H1
theorem zmb {a:Expr} {ta:TA} {p pos:Pos} (hg:Gl X "range") (hm:X.mg "range"=none) (ha:PA X [a] ta) (hs:starEach [a] X.env=[(false,eval a X.env)]:=by rfl):PI X tg (.Call (.Name "range" p) [a] [] pos) (zue ta):=by
 intro pins s σ H R I h
 refine Call_ (zhU I hg hm boot_range (PyProof.Rows.callWith_type1 (thn (ha pos pins s σ H _ I h) fun us s1 ⟨vs,H1,I1,r1,q1⟩=>?_) hs rfl))
 obtain ⟨j,e,q1,q2,q⟩:=q1
 subst e
 cases r1 with
 | cons r rr =>
  cases rr
  obtain ⟨t,rfl⟩:=r
  exact call_range_1 (zkz I1 (by omega) (by omega) q1 q2 (by simpa using q))
theorem zma {a b:Expr} {ta:TA} {p pos:Pos} (hg:Gl X "range") (hm:X.mg "range"=none) (ha:PA X [a,b] ta) (hs:starEach [a,b] X.env=[(false,eval a X.env),(false,eval b X.env)]:=by rfl) (hs2:starEach [b] X.env=[(false,eval b X.env)]:=by rfl) :
  PI X tg (.Call (.Name "range" p) [a,b] [] pos) (zud ta):=by
 intro pins s σ H R I h
 refine Call_ (zhU I hg hm boot_range (PyProof.Rows.callWith_type1 (thn (ha pos pins s σ H _ I h) fun us s1 ⟨vs,H1,I1,r1,q1⟩=>?_) (by rw [hs,hs2]) (by rw [hs2];rfl)))
 obtain ⟨i,j,e,⟨q1,q2,q3,q4⟩,q⟩:=q1
 subst e
 cases r1 with
 | cons r rr =>
  cases rr with
  | cons r' rr =>
   cases rr
   obtain ⟨t,rfl⟩:=r
   obtain ⟨t',rfl⟩:=r'
   exact call_range_2 (zkz I1 q1 q2 q3 q4 q)
def zvn (wi:TI) (g:TG) (tb:TS):TS:=fun D σ H=>wi σ H fun J H1=>∃ W:Nat->Nat->St->Hp->Prop,(∃ m,W 0 m σ H1)/\∀ i m σ H,W i m σ H ->
 (J.stop i H/\D.nx σ H)\/(J.go i H/\∃ N:St->Hp->Prop,(∀ σ' H',N σ' H'->∃ m',m' < m/\W (i+1) m' σ' H')/\∀ x H',J.yld i H x H'->g x σ H' fun σ2 H2=>tb { D with nx:=N,ct:=N,bk:=D.nx } σ2 H2)
def zjb (fp:List Addr) (h:Heap):List (Addr×Obj):=fp.filterMap fun b=>(h.get? b).map fun o=>(b,o)
theorem zeL {fp:List Addr} {h:Heap} {b:Addr} {o:Obj} (hb:b∈fp) (e:h.get? b=some o):(b,o)∈zjb fp h:=List.mem_filterMap.mpr ⟨b,hb,by rw [e];rfl⟩
theorem zml {fp:List Addr} {h:Heap} {p:Addr×Obj} (hp:p∈zjb fp h):p.1∈fp/\h.get? p.1=some p.2:=by
 obtain ⟨b,hb,e⟩:=List.mem_filterMap.mp hp
 cases q:h.get? b with
 | none=>rw [q] at e;cases e
 | some o =>
  rw [q] at e
  have e':(b,o)=p:=qE e
  subst e'
  exact ⟨hb,q⟩
theorem Inv.pinned {pins:List (Addr×Obj)} {σ:St} {H:Hp} {s:Shared} {fp:List Addr} (I:Inv X pins σ H s) (hf:∀ b∈fp,zlE X pins H b) (ho:∀ b∈fp,∃ o,s.heap.get? b=some o/\∀ v,o.data≠.cell v):Inv X (pins++zjb fp s.heap) σ H s :=
 I.pins_of fun p hp=>(List.mem_append.mp hp).elim (fun z=>I.pin p (qN _ z)) fun z=>by
  obtain ⟨hb,e⟩:=zml z
  obtain ⟨f0,f1,f2,_⟩:=hf p.1 hb
  obtain ⟨o,e',d⟩:=ho p.1 hb
  rw [e] at e';cases e'
  exact ⟨e,f0,f1,f2,d⟩
theorem Inv.unpinned {pins pl:List (Addr×Obj)} {σ:St} {H:Hp} {s:Shared} (I:Inv X (pins++pl) σ H s):Inv X pins σ H s:=I.pins_of fun p hp=>I.pin p (qN _ (List.mem_append_left _ hp))
theorem zr7 {iter:Expr} {body:List Stmt} {wi:TI} {g:TG} {tb:TS} {pos:Pos} (hp:PassesOwn (model X.prog X.w) X.A X.env X.xe) (hc:X.calm=true) (hi:PI X tg iter wi) (hg:PG X tg g) (hb:PSs X body tb)
  (hs:∀ x,foldedSetIterable iter X.env x=pure x:=by intro _;rfl):PS X (.For tg iter body [] pos) (zvn wi g tb):=by
 intro pins s σ H D I h
 refine wpAny_For (thn (hi pins s σ H _ I h) fun v s1 h1=>thn h1 fun itv s2 h2=>?_) hs
 obtain ⟨it,fp,tn,J,H2,e,I2,T,st2,f2,W,⟨m0,w0⟩,turn⟩:=h2
 subst e
 have stat:∀ {H':Hp},(∀ b∈fp,H' b=none)->∀ b∈fp,zlE X pins H' b:=fun hn b hb=>⟨hn b hb,(f2 b hb).2⟩
 refine codeAny_forLoop_any (fun n s'=>∃ i σ' H',Inv X pins σ' H' s'/\tn i s'.heap/\(∀ b∈fp,H' b=none)/\W i n σ' H') ?_ m0 ⟨0,σ,H2,I2,st2,fun b hb=>(f2 b hb).1,w0⟩
 rintro n s3 ⟨i,σ3,H3,I3,st3,fr3,w3⟩
 rcases turn i n σ3 H3 w3 with ⟨stop,qn⟩ | ⟨go,N,hN,step⟩
 ·refine wpAny_passesOwn hp (thn (T.done X rfl rfl rfl hc i pins s3 σ3 H3 X.xe I3 (stat fr3) st3 stop) fun r s4 ⟨hr,I4⟩=>?_)
  subst hr
  exact wpAny_execs_nil ⟨σ3,H3,I4,qn⟩
 ·refine wpAny_passesOwn hp (thn (T.item X rfl rfl rfl hc i pins s3 σ3 H3 X.xe I3 (stat fr3) st3 go) fun r s4 ⟨u,hr,h4⟩=>?_)
  subst hr
  refine wpAny_passesOwn hp (thn h4 fun _ s5 ⟨x,H5,I5,r5,y5,st5,fr5⟩=>?_)
  have I5':=I5.pinned (stat fr5) (T.obj _ _ st5)
  refine wpAny_passesOwn hp (thn (hg _ s5 σ3 H5 x u _ I5' r5 (step x H5 y5)) fun _ s6 ⟨σ6,H6,I6,q6⟩=>?_)
  refine wpAny_passesOwn hp (thn (hb _ s6 σ6 H6 _ I6 q6) fun f s7 q7=>?_)
  have again:∀ {σ7:St} {H7:Hp},Inv X (pins++zjb fp s5.heap) σ7 H7 s7->N σ7 H7->∃ m,m < n/\∃ i σ' H',Inv X pins σ' H' s7/\tn i s7.heap/\(∀ b∈fp,H' b=none)/\W i m σ' H':=fun {σ7 H7} I7 n7=>by
   obtain ⟨m',hm,w7⟩:=hN σ7 H7 n7
   refine ⟨m',hm,i+1,σ7,H7,I7.unpinned,T.keep _ _ _ st5 fun b hb o e=>(I7.pin (b,o) (qN _ (qN _ (zeL hb e)))).1,fun b hb=>?_,w7⟩
   obtain ⟨o,e,d⟩:=T.obj _ _ st5 b hb
   exact (I7.pin (b,o) (qN _ (qN _ (zeL hb e)))).2.1
  cases f with
  | next=>obtain ⟨σ7,H7,I7,n7⟩:=q7;exact again I7 n7
  | cont=>obtain ⟨σ7,H7,I7,n7⟩:=q7;exact again I7 n7
  | brk=>obtain ⟨σ7,H7,I7,q7⟩:=q7;exact ⟨σ7,H7,I7.unpinned,q7⟩
  | ret v=>obtain ⟨x7,σ7,H7,I7,r7,q7⟩:=q7;exact ⟨x7,σ7,H7,I7.unpinned,r7,q7⟩
end
end L2
namespace L2
open PySem PySem.Spec PyProof.Rows
abbrev R2:=V->V->Hp->VK->Prop
def OpR (X:Cx) (f:Value->Value->Sem Value) (r:R2):Prop :=
 ∀ (pins:List (Addr×Obj)) (s:Shared) (σ:St) (H:Hp) (x y:V) (v u:Value) (Q:VK),Inv X pins σ H s->zcF x v->zcF y u->r x y H Q ->
  wpAny (model X.prog X.w) X.A (f v u) (EP X pins σ Q) X.xe s
def UnR (X:Cx) (f:Value->Sem Value) (r:V->Hp->VK->Prop):Prop :=
 ∀ (pins:List (Addr×Obj)) (s:Shared) (σ:St) (H:Hp) (x:V) (v:Value) (Q:VK),Inv X pins σ H s->zcF x v->r x H Q ->
  wpAny (model X.prog X.w) X.A (f v) (EP X pins σ Q) X.xe s
def zfK (X:Cx) (f:Value) (r:List V->Hp->VK->Prop):Prop :=
 ∀ (pins:List (Addr×Obj)) (s:Shared) (σ:St) (H:Hp) (xs:List V) (us:List Value) (Q:VK),Inv X pins σ H s->zbX xs us->r xs H Q ->
  wpAny (model X.prog X.w) X.A (call f us) (EP X pins σ Q) X.xe s
def zvH (X:Cx) (r:V->Hp->(Bool->Hp->Prop)->Prop):Prop :=
 ∀ (pins:List (Addr×Obj)) (s:Shared) (σ:St) (H:Hp) (x:V) (v:Value) (Q:Bool->Hp->Prop),Inv X pins σ H s->zcF x v->r x H Q ->
  wpAny (model X.prog X.w) X.A (truthy v) (TP X pins σ Q) X.xe s
def tOp (r:R2) (ta tb:TE):TE:=fun σ H Q=>ta σ H fun x H1=>tb σ H1 fun y H2=>r x y H2 Q
def tUn (r:V->Hp->VK->Prop) (ta:TE):TE:=fun σ H Q=>ta σ H fun x H1=>r x H1 Q
def rI (C:Int->Int->Prop) (g:Int->Int->V):R2:=fun x y H Q=>∃ i j,x=.int i/\y=.int j/\C i j/\Q (g i j) H
def rI0 (g:Int->Int->V):R2:=fun x y H Q=>∃ i j,x=.int i/\y=.int j/\Q (g i j) H
def rU (g:Int->V):V->Hp->VK->Prop:=fun x H Q=>∃ i,x=.int i/\Q (g i) H
section
variable {X:Cx} {a b c:Expr} {ta tb tc:TE} {pos:Pos}
theorem zuu (ha:PE X a ta) (hb:PE X b tb) {pins:List (Addr×Obj)} {s:Shared} {σ:St} {H:Hp} {R:V->V->Hp->Prop} (I:Inv X pins σ H s)
  (h:ta σ H fun x H1=>tb σ H1 fun y H2=>R x y H2) {Q:Value->Shared->Prop} {f:Value->Value->Sem Value}
  (hf:∀ v u s2 x y H2,Inv X pins σ H2 s2->zcF x v->zcF y u->R x y H2->wpAny (model X.prog X.w) X.A (f v u) Q X.xe s2) :
  wpAny (model X.prog X.w) X.A (eval a X.env) (fun v s₁=>wpAny (model X.prog X.w) X.A (eval b X.env) (fun u s₂=>wpAny (model X.prog X.w) X.A (f v u) Q X.xe s₂) X.xe s₁) X.xe s:=by
 refine thn (ha pins s σ H _ I h) fun v s1 ⟨x,H1,I1,r1,q1⟩=>?_
 refine thn (hb pins s1 σ H1 _ I1 q1) fun u s2 ⟨y,H2,I2,r2,q2⟩=>?_
 exact hf v u s2 x y H2 I2 r1 r2 q2
theorem zt2 {op:Operator} {r:R2} (ho:OpR X (binaryOp op) r) (ha:PE X a ta) (hb:PE X b tb):PE X (.BinOp a op b pos) (tOp r ta tb):=by
 intro pins s σ H Q I h
 exact wpAny_BinOp (zuu ha hb I h fun v u s2 x y H2 I2 rx ry q=>ho pins s2 σ H2 x y v u Q I2 rx ry q)
theorem zt0 {op:UnaryOp} {r:V->Hp->VK->Prop} (ho:UnR X (unaryOp op) r) (ha:PE X a ta):PE X (.UnaryOp op a pos) (tUn r ta):=by
 intro pins s σ H Q I h
 exact UnaryOp_ (thn (ha pins s σ H _ I h) fun v s1 ⟨x,H1,I1,r1,q1⟩=>ho pins s1 σ H1 x v Q I1 r1 q1)
theorem opI {f:Value->Value->Sem Value} {C:Int->Int->Prop} {g:Int->Int->Int}
  (rule:∀ (i j:Int) (t u:Tok) (s:Shared) (Q:Value->Shared->Prop) (E:Value->Shared->Prop),C i j->Q (.int (g i j) s.toks) { s with toks:=s.toks+1 }->wpAny (model X.prog X.w) X.A (f (.int i t) (.int j u)) Q E s) :
  OpR X f (rI C fun i j=>.int (g i j)):=by
 intro pins s σ H x y v u Q I rx ry h
 obtain ⟨i,j,rfl,rfl,hc,q⟩:=h
 obtain ⟨t,rfl⟩:=rx
 obtain ⟨t',rfl⟩:=ry
 exact rule i j t t' s _ _ hc ⟨.int (g i j),H,I.tok _,⟨_,rfl⟩,q⟩
theorem zuU {f:Value->Value->Sem Value} {g:Int->Int->Int}
  (rule:∀ (i j:Int) (t u:Tok) (s:Shared) (Q:Value->Shared->Prop) (E:Value->Shared->Prop),Q (.int (g i j) s.toks) { s with toks:=s.toks+1 }->wpAny (model X.prog X.w) X.A (f (.int i t) (.int j u)) Q E s) :
  OpR X f (rI0 fun i j=>.int (g i j)):=by
 intro pins s σ H x y v u Q I rx ry h
 obtain ⟨i,j,rfl,rfl,q⟩:=h
 obtain ⟨t,rfl⟩:=rx
 obtain ⟨t',rfl⟩:=ry
 exact rule i j t t' s _ _ ⟨.int (g i j),H,I.tok _,⟨_,rfl⟩,q⟩
theorem zub {f:Value->Value->Sem Value} {g:Int->Int->Bool}
  (rule:∀ (i j:Int) (t u:Tok) (s:Shared) (Q:Value->Shared->Prop) (E:Value->Shared->Prop),Q (.bool (g i j)) s->wpAny (model X.prog X.w) X.A (f (.int i t) (.int j u)) Q E s) :
  OpR X f (rI0 fun i j=>.bl (g i j)):=by
 intro pins s σ H x y v u Q I rx ry h
 obtain ⟨i,j,rfl,rfl,q⟩:=h
 obtain ⟨t,rfl⟩:=rx
 obtain ⟨t',rfl⟩:=ry
 exact rule i j t t' s _ _ ⟨.bl (g i j),H,I,rfl,q⟩
def zvN (i j:Int):Prop:=0 < j/\j < 1073741824
def zvM (i j:Int):Prop:=0<=j/\j<=1000000/\i.natAbs < 2 ^ 64
def ztC (i j:Int):Prop:=(-(2 ^ 64) < i/\i < 2 ^ 64)\/(-(2 ^ 64) < j/\j < 2 ^ 64)
theorem ztC.ok {i j:Int} (h:ztC i j):IntMulOk i j:=by
 rcases h with ⟨h1,h2⟩ | ⟨h1,h2⟩
 ·exact .of_left (intBits_le_64 h1 h2)
 ·exact .of_right (intBits_le_64 h1 h2)
theorem zk9 (k:Nat):(0:Int)<=2 ^ k:=by
 rw [two_pow_cast]
 exact Int.natCast_nonneg _
theorem zsy:OpR X (binaryOp .Add) (rI0 fun i j=>.int (i+j)):=zuU fun _ _ _ _ _ _ _ q=>add_int q
theorem zso:OpR X (binaryOp .Sub) (rI0 fun i j=>.int (i - j)):=zuU fun _ _ _ _ _ _ _ q=>sub_int q
theorem zst:OpR X (binaryOp .Mult) (rI ztC fun i j=>.int (i*j)):=opI fun _ _ _ _ _ _ _ hc q=>mul_int q hc.ok
theorem zqh:OpR X (binaryOp .FloorDiv) (rI zvN fun i j=>.int (i / j)):=opI fun i j _ _ _ _ _ hc q=>by
 have h1:(0:Int) < j:=hc.1
 have h2:j < 1073741824:=hc.2
 exact floordiv_int (by omega) (by rw [Int.fdiv_eq_ediv_of_nonneg i (by omega)];exact q) (.inl (PyProof.noPylong_small (by omega)))
theorem zsu:OpR X (binaryOp .Mod) (rI (fun _ j=>0 < j) fun i j=>.int (i % j)):=opI fun i j _ _ _ _ _ hc q=>by
 have h1:(0:Int) < j:=hc
 exact mod_int' (by omega) (by rw [Int.fmod_eq_emod_of_nonneg i (by omega)];exact q)
theorem zsr:OpR X (binaryOp .Pow) (rI zvM fun i j=>.int (i ^ j.toNat)):=opI fun _ _ _ _ _ _ _ hc q=>pow_int_small hc.1 hc.2.1 hc.2.2 q
theorem zsp:OpR X (binaryOp .RShift) (rI (fun _ j=>0<=j) fun i j=>.int (i / 2 ^ j.toNat)):=opI fun i j _ _ _ _ _ hc q =>
 rshift_int hc (by rw [Int.fdiv_eq_ediv_of_nonneg i (zk9 _)];exact q)
theorem unI {f:Value->Sem Value} {g:Int->Int}
  (rule:∀ (i:Int) (t:Tok) (s:Shared) (Q:Value->Shared->Prop) (E:Value->Shared->Prop),Q (.int (g i) s.toks) { s with toks:=s.toks+1 }->wpAny (model X.prog X.w) X.A (f (.int i t)) Q E s) :
  UnR X f (rU fun i=>.int (g i)):=by
 intro pins s σ H x v Q I rx h
 obtain ⟨i,rfl,q⟩:=h
 obtain ⟨t,rfl⟩:=rx
 exact rule i t s _ _ ⟨.int (g i),H,I.tok _,⟨_,rfl⟩,q⟩
theorem zrt:UnR X (unaryOp .USub) (rU fun i=>.int (-i)):=unI fun _ _ _ _ _ q=>neg_int q
end
def ztP:V->V->Bool
 | .non,.non=>true | .non,.int _=>true | .int _,.non=>true | .non,.bl _=>true | .bl _,.non=>true | .non,.str _=>true | .str _,.non=>true
 | .int _,.int _=>true | .bl _,.bl _=>true | .str _,.str _=>true | .byt _,.byt _=>true
 | .int _,.str _=>true | .str _,.int _=>true | .bl _,.str _=>true | .str _,.bl _=>true
 | _,_=>false
def rEq:R2:=fun x y H Q=>ztP x y=true/\Q (.bl (decide (x=y))) H
def rNe:R2:=fun x y H Q=>ztP x y=true/\Q (.bl (!decide (x=y))) H
theorem zm4 {i j:Int}:decide (V.int i=V.int j)=(i==j):=by
 rw [Bool.eq_iff_iff]
 simp
theorem zpi {i j:Bool}:decide (V.bl i=V.bl j)=(i==j):=by
 rw [Bool.eq_iff_iff]
 simp
theorem zm3 {i j:Str}:decide (V.str i=V.str j)=(i==j):=by
 rw [Bool.eq_iff_iff]
 simp
theorem zm5 {i j:Array UInt8}:decide (V.byt i=V.byt j)=(i.toList==j.toList):=by
 rw [Bool.eq_iff_iff]
 cases i
 cases j
 simp
section
variable {X:Cx} {a b c:Expr} {ta tb tc:TE} {pos:Pos}
theorem zbq {pins:List (Addr×Obj)} {σ:St} {H:Hp} {s:Shared} {Q:VK} {k k':Bool} (I:Inv X pins σ H s) (q:Q (.bl k) H) (e:k=k'):EP X pins σ Q (.bool k') s:=by
 subst e
 exact ⟨.bl k,H,I,rfl,q⟩
theorem zua:OpR X (compareOp .Eq) rEq:=by
 intro pins s σ H x y v u Q I rx ry h
 obtain ⟨hs,q⟩:=h
 cases x with
 | non =>
  cases rx
  cases y with
  | non=>cases ry;exact PySem.EqNone.eq_none_none (zbq I q (by simp))
  | bl j=>cases ry;exact PySem.EqNone.eq_none_bool (zbq I q (by simp))
  | int j=>obtain ⟨t',rfl⟩:=ry;exact PySem.EqNone.eq_none_int (zbq I q (by simp))
  | str j=>obtain ⟨t',rfl⟩:=ry;exact PySem.EqNone.eq_none_str (zbq I q (by simp))
  | _=>exact absurd (show false=true from hs) qq
 | bl i =>
  cases rx
  cases y with
  | non=>cases ry;exact PySem.EqNone.eq_bool_none (zbq I q (by simp))
  | bl j=>cases ry;exact eq_bool (zbq I q zpi)
  | str j=>obtain ⟨t',rfl⟩:=ry;exact PySem.EqMixed.eq_bool_str (zbq I q (by simp))
  | _=>exact absurd (show false=true from hs) qq
 | int i =>
  obtain ⟨t,rfl⟩:=rx
  cases y with
  | non=>cases ry;exact PySem.EqNone.eq_int_none (zbq I q (by simp))
  | int j=>obtain ⟨t',rfl⟩:=ry;exact eq_int (zbq I q zm4)
  | str j=>obtain ⟨t',rfl⟩:=ry;exact PySem.EqMixed.eq_int_str (zbq I q (by simp))
  | _=>exact absurd (show false=true from hs) qq
 | str i =>
  obtain ⟨t,rfl⟩:=rx
  cases y with
  | non=>cases ry;exact PySem.EqNone.eq_str_none (zbq I q (by simp))
  | bl j=>cases ry;exact PySem.EqMixed.eq_str_bool (zbq I q (by simp))
  | int j=>obtain ⟨t',rfl⟩:=ry;exact PySem.EqMixed.eq_str_int (zbq I q (by simp))
  | str j=>obtain ⟨t',rfl⟩:=ry;exact eq_str (zbq I q zm3)
  | _=>exact absurd (show false=true from hs) qq
 | byt i =>
  obtain ⟨t,rfl⟩:=rx
  cases y with
  | byt j=>obtain ⟨t',rfl⟩:=ry;exact PySem.W.eq_bytes (zbq I q zm5)
  | _=>exact absurd (show false=true from hs) qq
 | _=>cases y <;> exact absurd (show false=true from hs) qq
theorem zt6:OpR X (compareOp .NotEq) rNe:=by
 intro pins s σ H x y v u Q I rx ry h
 obtain ⟨hs,q⟩:=h
 cases x with
 | non =>
  cases rx
  cases y with
  | non=>cases ry;exact PySem.EqNone.ne_none_none (zbq I q (by simp))
  | bl j=>cases ry;exact PySem.EqNone.ne_none_bool (zbq I q (by simp))
  | int j=>obtain ⟨t',rfl⟩:=ry;exact PySem.EqNone.ne_none_int (zbq I q (by simp))
  | str j=>obtain ⟨t',rfl⟩:=ry;exact PySem.EqNone.ne_none_str (zbq I q (by simp))
  | _=>exact absurd (show false=true from hs) qq
 | bl i =>
  cases rx
  cases y with
  | non=>cases ry;exact PySem.EqNone.ne_bool_none (zbq I q (by simp))
  | bl j=>cases ry;exact ne_bool (zbq I q (congrArg not zpi))
  | str j=>obtain ⟨t',rfl⟩:=ry;exact PySem.EqMixed.ne_bool_str (zbq I q (by simp))
  | _=>exact absurd (show false=true from hs) qq
 | int i =>
  obtain ⟨t,rfl⟩:=rx
  cases y with
  | non=>cases ry;exact PySem.EqNone.ne_int_none (zbq I q (by simp))
  | int j=>obtain ⟨t',rfl⟩:=ry;exact ne_int (zbq I q (congrArg not zm4))
  | str j=>obtain ⟨t',rfl⟩:=ry;exact PySem.EqMixed.ne_int_str (zbq I q (by simp))
  | _=>exact absurd (show false=true from hs) qq
 | str i =>
  obtain ⟨t,rfl⟩:=rx
  cases y with
  | non=>cases ry;exact PySem.EqNone.ne_str_none (zbq I q (by simp))
  | bl j=>cases ry;exact PySem.EqMixed.ne_str_bool (zbq I q (by simp))
  | int j=>obtain ⟨t',rfl⟩:=ry;exact PySem.EqMixed.ne_str_int (zbq I q (by simp))
  | str j=>obtain ⟨t',rfl⟩:=ry;exact ne_str (zbq I q (congrArg not zm3))
  | _=>exact absurd (show false=true from hs) qq
 | byt i =>
  obtain ⟨t,rfl⟩:=rx
  cases y with
  | byt j=>obtain ⟨t',rfl⟩:=ry;exact PySem.W.ne_bytes (zbq I q (congrArg not zm5))
  | _=>exact absurd (show false=true from hs) qq
 | _=>cases y <;> exact absurd (show false=true from hs) qq
theorem zt7:OpR X (compareOp .Lt) (rI0 fun i j=>.bl (decide (i < j))):=zub fun _ _ _ _ _ _ _ q=>lt_int q
theorem zt8:OpR X (compareOp .LtE) (rI0 fun i j=>.bl (decide (i<=j))):=zub fun _ _ _ _ _ _ _ q=>le_int q
theorem zt9:OpR X (compareOp .Gt) (rI0 fun i j=>.bl (decide (j < i))):=zub fun _ _ _ _ _ _ _ q=>gt_int q
theorem zmj:OpR X (compareOp .Lt) (fun x y H Q=>∃ i j,x=.str i/\y=.str j/\Q (.bl (decide (i.cps.toList < j.cps.toList))) H):=by
 intro pins s σ H x y v u Q I rx ry h
 obtain ⟨i,j,rfl,rfl,q⟩:=h
 obtain ⟨t,rfl⟩:=rx
 obtain ⟨t',rfl⟩:=ry
 exact lt_str (zbq I q rfl)
theorem zqe:OpR X (compareOp .IsNot) (fun x y H Q=>y=.non/\Q (.bl (!decide (x=.non))) H):=by
 intro pins s σ H x y v u Q I rx ry h
 obtain ⟨rfl,q⟩:=h
 cases ry
 refine isnot_none_gen (zbq I q ?_)
 cases x <;> first
  | (cases rx;rfl)
  | (obtain ⟨t,rfl⟩:=rx;rfl)
theorem OpR.or {f:Value->Value->Sem Value} {r r':R2} (h:OpR X f r) (h':OpR X f r'):OpR X f (fun x y H Q=>r x y H Q\/r' x y H Q):=by
 intro pins s σ H x y v u Q I rx ry q
 rcases q with q | q
 ·exact h pins s σ H x y v u Q I rx ry q
 ·exact h' pins s σ H x y v u Q I rx ry q
theorem zbZ (b:Expr) {op:CmpOp} (h:op≠.In:=by decide) (h2:op≠.NotIn:=by decide):behindInMarks op b=false:=by
 have e1:(op==CmpOp.In)=false:=by cases op <;> first | rfl | exact absurd rfl h
 have e2:(op==CmpOp.NotIn)=false:=by cases op <;> first | rfl | exact absurd rfl h2
 cases b <;> simp [behindInMarks,e1,e2]
theorem zqb {op:CmpOp} {r:R2} (ho:OpR X (compareOp op) r) (ha:PE X a ta) (hb:PE X b tb) (hm:behindInMarks op b=false):PE X (.Compare a [op] [b] pos) (tOp r ta tb):=by
 intro pins s σ H Q I h
 exact wpAny_Compare1 (zuu ha hb I h fun v u s2 x y H2 I2 rx ry q=>ho pins s2 σ H2 x y v u Q I2 rx ry q) hm
def zrw (t:TE):TT:=fun σ H Q=>t σ H fun x H'=>∃ k,x=.bl k/\Q k H'
theorem zpZ {op:CmpOp} {r:R2} (ho:OpR X (compareOp op) r) (ha:PE X a ta) (hb:PE X b tb) (hm:behindInMarks op b=false):PT X (.Compare a [op] [b] pos) (zrw (tOp r ta tb)):=by
 intro pins s σ H Q I h
 refine wpAny_isTrue_Compare1 (thn (ha pins s σ H _ I h) fun v s1 ⟨x,H1,I1,r1,q1⟩=>thn (hb pins s1 σ H1 _ I1 q1) fun u s2 ⟨y,H2,I2,r2,q2⟩ =>
  thn (ho pins s2 σ H2 x y v u _ I2 r1 r2 q2) fun c s3 ⟨z,H3,I3,r3,k,e,q3⟩=>?_) hm
 subst e
 cases r3
 exact wpAny_truthy_bool ⟨H3,I3,q3⟩
def zlQ (r r':R2) (ta tb tc:TE):TE:=fun σ H Q=>ta σ H fun x H1=>tb σ H1 fun y H2=>r x y H2 fun z H3=>∃ k,z=.bl k /\
 (if k=true then tc σ H3 fun w' H4=>r' y w' H4 Q else Q (.bl false) H3)
theorem znY {op op':CmpOp} {r r':R2} (ho:OpR X (compareOp op) r) (ho':OpR X (compareOp op') r') (ha:PE X a ta) (hb:PE X b tb) (hc:PE X c tc)
  (hm:lastMarks [op,op'] [b,c]=false:=by with_unfolding_all rfl):PE X (.Compare a [op,op'] [b,c] pos) (zlQ r r' ta tb tc):=by
 intro pins s σ H Q I h
 refine Compare_chain (thn (ha pins s σ H _ I h) fun v s1 ⟨x,H1,I1,r1,q1⟩=>chain_link (thn (hb pins s1 σ H1 _ I1 q1) fun u s2 ⟨y,H2,I2,r2,q2⟩ =>
  thn (ho pins s2 σ H2 x y v u _ I2 r1 r2 q2) fun d s3 ⟨z,H3,I3,r3,k,e,q3⟩=>?_)) hm
 subst e
 cases r3
 refine wpAny_truthy_bool ?_
 cases k with
 | false=>exact ite_ff ⟨.bl false,H3,I3,rfl,q3⟩
 | true=>exact ite_tt (chain_last (thn (hc pins s3 σ H3 _ I3 q3) fun w' s4 ⟨z',H4,I4,r4,q4⟩=>ho' pins s4 σ H4 y z' u w' Q I4 r2 r4 q4))
theorem znQ {op op':CmpOp} {r r':R2} (ho:OpR X (compareOp op) r) (ho':OpR X (compareOp op') r') (ha:PE X a ta) (hb:PE X b tb) (hc:PE X c tc)
  (hm:lastMarks [op,op'] [b,c]=false:=by with_unfolding_all rfl):PT X (.Compare a [op,op'] [b,c] pos) (zrw (zlQ r r' ta tb tc)):=by
 intro pins s σ H Q I h
 refine isTrue_chain (thn (ha pins s σ H _ I h) fun v s1 ⟨x,H1,I1,r1,q1⟩=>test_link (thn (hb pins s1 σ H1 _ I1 q1) fun u s2 ⟨y,H2,I2,r2,q2⟩ =>
  thn (ho pins s2 σ H2 x y v u _ I2 r1 r2 q2) fun d s3 ⟨z,H3,I3,r3,k,e,q3⟩=>?_)) hm
 subst e
 cases r3
 refine wpAny_truthy_bool ?_
 cases k with
 | false =>
  obtain ⟨k',e',q'⟩:=q3
  cases e'
  exact ite_ff ⟨H3,I3,q'⟩
 | true =>
  refine ite_tt (test_last (thn (hc pins s3 σ H3 _ I3 q3) fun w' s4 ⟨z',H4,I4,r4,q4⟩=>thn (ho' pins s4 σ H4 y z' u w' _ I4 r2 r4 q4) fun d' s5 ⟨z2,H5,I5,r5,k2,e2,q5⟩=>?_))
  subst e2
  cases r5
  exact wpAny_truthy_bool ⟨H5,I5,q5⟩
def zvG (K:PySem.W.Frag) (x:V) (H:Hp) (k:Bool):Prop :=
 match x with
 | .non=>k=false
 | .bl b=>k=b
 | .int i=>k=(i != 0)
 | .str y=>y.length<=sizeLine/\k=((y.length:Int) != 0)
 | .byt y=>y.size<=sizeLine/\k=((y.size:Int) != 0)
 | .ref p=>(∃ xs,SqL K H p xs/\k=!xs.isEmpty)\/(∃ xs,SqT K H p xs/\k=!xs.isEmpty)\/∃ kvs,H p=some (.dK kvs)/\k=!kvs.isEmpty
 | _=>False
theorem zlt {κ:Type} {kvs:List (κ×V)} {vs:List (κ×Value)} (r:KV kvs vs):(!vs.isEmpty)=!kvs.isEmpty:=by
 cases r <;> rfl
theorem zhV {xs:List V} {its:List Value} (r:zbX xs its):(!its.toArray.isEmpty)=!xs.isEmpty:=by
 cases r <;> simp
theorem zjh:(sizeLine:Nat) < 2 ^ 63:=by rw [sizeLine_eq];decide
theorem zuK:zvH X (fun x H Q=>∃ k,zvG X.K x H k/\Q k H):=by
 intro pins s σ H x v Q I rx h
 obtain ⟨k,e,q⟩:=h
 have hl:=zjh
 have hs:sizeLine=16777216:=sizeLine_eq
 cases x with
 | non =>
  cases rx
  have e':k=false:=e
  subst e'
  exact truthy_none ⟨H,I,q⟩
 | bl b =>
  cases rx
  have e':k=b:=e
  subst e'
  exact wpAny_truthy_bool ⟨H,I,q⟩
 | int i =>
  obtain ⟨t,rfl⟩:=rx
  have e':k=(i != 0):=e
  subst e'
  exact PySem.P.truthy_int ⟨H,I,q⟩
 | str y =>
  obtain ⟨t,rfl⟩:=rx
  obtain ⟨hy,e'⟩:y.length<=sizeLine/\k=((y.length:Int) != 0):=e
  subst e'
  exact PySem.P.truthy_str (by omega) ⟨H,I.tok _,q⟩
 | byt y =>
  obtain ⟨t,rfl⟩:=rx
  obtain ⟨hy,e'⟩:y.size<=sizeLine/\k=((y.size:Int) != 0):=e
  subst e'
  exact PySem.W.truthy_bytes (by omega) ⟨H,I.tok _,q⟩
 | ref p =>
  cases rx
  have e':(∃ xs,SqL X.K H p xs/\k=!xs.isEmpty)\/(∃ xs,SqT X.K H p xs/\k=!xs.isEmpty)\/∃ kvs,H p=some (.dK kvs)/\k=!kvs.isEmpty:=e
  rcases e' with ⟨xs,hx,e'⟩ | ⟨xs,hx,e'⟩ | ⟨kvs,hx,e'⟩
  ·subst e'
   obtain ⟨its,r,pl,hz⟩:=I.list hx
   have hlen:=r.length
   exact wpAny_truthy_list pl.isList (by simp only [qy];omega) ⟨H,I.tok _,by rw [zhV r];exact q⟩
  ·subst e'
   obtain ⟨its,r,pl,hz⟩:=I.tuple hx
   have hlen:=r.length
   exact truthy_tuple pl (by simp only [qy];omega) ⟨H,I.tok _,by rw [zhV r];exact q⟩
  ·subst e'
   obtain ⟨hz,hS,vs,r,m⟩:kvs.length<=sizeLine/\(p==sysModules)=false/\∃ vs,KV kvs vs/\s.heap.DictOf (zbo X.prog X.w) p vs:=I.hok p _ hx
   have hlen:kvs.length=vs.length:=Paired.length r
   exact wpAny_truthy_dict hS m (by omega) ⟨H,I.tok _,by rw [zlt r];exact q⟩
 | _=>exact (show False from e).elim
theorem zll:OpR X (binaryOp .Add) (fun x y H Q=>∃ i j,x=.str i/\y=.str j/\i.length+j.length<=sizeLine/\Q (.str (i++j)) H):=by
 intro pins s σ H x y v u Q I rx ry h
 obtain ⟨i,j,rfl,rfl,hz,q⟩:=h
 obtain ⟨t,rfl⟩:=rx
 obtain ⟨t',rfl⟩:=ry
 exact add_str (fun t' tk=>⟨.str (i++j),H,I.tok _,⟨_,rfl⟩,q⟩) hz
theorem zfL {x:V} {us:List Value} (r:zbX [x] us):∃ u,us=[u]/\zcF x u:=by
 cases r with
 | cons r1 r2=>cases r2;exact ⟨_,rfl,r1⟩
theorem zrr {x y:V} {us:List Value} (r:zbX [x,y] us):∃ u w',us=[u,w']/\zcF x u/\zcF y w':=by
 cases r with
 | cons r1 r2 =>
  cases r2 with
  | cons r3 r4=>cases r4;exact ⟨_,_,rfl,r1,r3⟩
theorem zng (hc:X.calm=true):zfK X (.builtin "min") (fun xs H Q=>∃ i j,xs=[.int i,.int j]/\Q (.int (if j < i then j else i)) H):=by
 intro pins s σ H xs us Q I r h
 obtain ⟨i,j,rfl,q⟩:=h
 obtain ⟨u,w',rfl,⟨t,rfl⟩,⟨t',rfl⟩⟩:=zrr r
 refine min_two_ints (I.ok.hd hc) fun h' tk k=>⟨_,H,I.kept k,?_,q⟩
 by_cases hj:j < i
 ·rw [qV hj,qV hj];exact ⟨_,rfl⟩
 ·rw [qW hj,qW hj];exact ⟨_,rfl⟩
theorem znh:zfK X (.type "int") (fun xs H Q=>(∃ i,xs=[.int i]/\Q (.int i) H)\/∃ k,xs=[.bl k]/\Q (.int (if k then 1 else 0)) H):=by
 intro pins s σ H xs us Q I r h
 rcases h with ⟨i,rfl,q⟩ | ⟨k,rfl,q⟩
 ·obtain ⟨u,rfl,t,rfl⟩:=zfL r
  exact call_int_int ⟨.int i,H,I,⟨_,rfl⟩,q⟩
 ·obtain ⟨u,rfl,r1⟩:=zfL r
  cases r1
  exact call_int_bool ⟨.int (if k then 1 else 0),H,I.tok _,⟨_,rfl⟩,q⟩
theorem zjt:zfK X (.type "str") (fun xs H Q=>∃ i,xs=[.int i]/\i.natAbs.log2 < 1920/\Q (.str (toString i)) H):=by
 intro pins s σ H xs us Q I r h
 obtain ⟨i,rfl,hz,q⟩:=h
 obtain ⟨u,rfl,t,rfl⟩:=zfL r
 exact PySem.P.str_of_int hz ⟨.str _,H,I.tok _,⟨_,rfl⟩,q⟩
def zvK (K:PySem.W.Frag) (x:V) (H:Hp) (n:Nat):Prop :=
 match x with
 | .str y=>y.length<=sizeLine/\n=y.length
 | .byt y=>y.size<=sizeLine/\n=y.size
 | .ref p=>(∃ xs,SqL K H p xs/\n=xs.length)\/∃ xs,SqT K H p xs/\n=xs.length
 | _=>False
theorem zoF:zfK X (.builtin "len") (fun xs H Q=>∃ x n,xs=[x]/\zvK X.K x H n/\Q (.int n) H):=by
 intro pins s σ H xs us Q I r h
 obtain ⟨x,n,rfl,e,q⟩:=h
 obtain ⟨u,rfl,rx⟩:=zfL r
 have hl:=zjh
 have hs:sizeLine=16777216:=sizeLine_eq
 cases x with
 | str y =>
  obtain ⟨t,rfl⟩:=rx
  obtain ⟨hy,e'⟩:y.length<=sizeLine/\n=y.length:=e
  subst e'
  exact len_str (by omega) ⟨.int _,H,I.tok _,⟨_,rfl⟩,q⟩
 | byt y =>
  obtain ⟨t,rfl⟩:=rx
  obtain ⟨hy,e'⟩:y.size<=sizeLine/\n=y.size:=e
  subst e'
  exact PySem.W.len_bytes (by omega) ⟨.int _,H,I.tok _,⟨_,rfl⟩,q⟩
 | ref p =>
  cases rx
  have e':(∃ xs,SqL X.K H p xs/\n=xs.length)\/∃ xs,SqT X.K H p xs/\n=xs.length:=e
  rcases e' with ⟨xs,hx,e'⟩ | ⟨xs,hx,e'⟩
  ·subst e'
   obtain ⟨its,r',pl,hz⟩:=I.list hx
   have hlen:=r'.length
   exact Calls.call_len_list pl.isList (by simp only [qy];omega) ⟨.int xs.length,H,I.tok _,⟨_,by simp only [qy];rw [hlen]⟩,q⟩
  ·subst e'
   obtain ⟨its,r',pl,hz⟩:=I.tuple hx
   have hlen:=r'.length
   exact len_tuple pl (by simp only [qy];omega) ⟨.int xs.length,H,I.tok _,⟨_,by simp only [qy];rw [hlen]⟩,q⟩
 | _=>exact (show False from e).elim
end
end L2
namespace L2
open PySem PySem.Spec PyProof.Rows
structure ObjM (h:Heap) (x dx C:Addr) (mA:Str->Option Value):Prop where
 obj:h.get? x=some (PySem.W.instObj C dx)
 ns:h.Ns1 dx mA
 ne:dx≠x
theorem zmu {h:Heap} {dx:Addr} {mA:Str->Option Value} (n:h.Ns1 dx mA):∃ od,h.get? dx=some od/\∀ name,PySem.W.lookIn name od=some (mA name):=by
 obtain ⟨o,es,ep,ho,hd,hk,_,hm⟩:=n
 refine ⟨o,ho,fun name=>?_⟩
 have e:=hm name
 unfold nsFind findBy at e
 rw [← Array.find?_toList] at e
 unfold PySem.W.lookIn
 rw [hd]
 dsimp only
 split
 ·rename_i y q
  rw [q] at e
  exact congrArg some e
 ·rename_i q
  rw [q] at e
  have a:es.toList.any (·.refKey)=false:=by
   rw [List.any_eq_false]
   intro y hy
   obtain ⟨z,t,hkey⟩:=hk y (Array.mem_toList_iff.mp hy)
   simp [DictEntry.refKey,hkey]
  have a':¬ es.toList.any (·.refKey)=true:=by rw [a];exact qq
  rw [qW a']
  exact congrArg some e
theorem ObjM.look {h:Heap} {x dx C:Addr} {mA:Str->Option Value} (I:ObjM h x dx C mA):∃ od,PySem.W.InstAt h x (PySem.W.instObj C dx) C (some od)/\∀ name,PySem.W.lookIn name od=some (mA name) :=
 let ⟨od,ho,hl⟩:=zmu I.ns
 ⟨od,⟨I.obj,rfl,rfl,ho⟩,hl⟩
section
variable {prog:Program} {w:World} {A:Around} {E:Value->Shared->Prop} {s:Shared} {K:PySem.W.Frag} {x dx C f:Addr} {mA:Str->Option Value} {name:Str} {v:Value}
theorem zqP {expr:Bool} {Q:Value->Shared->Prop} (X:K.In s.heap) (I:ObjM s.heap x dx C mA) (hg:PySem.W.plainGet K C name=true) (hh:PySem.W.hasDictIn K C=true)
  (ha:PySem.W.findIn K (.ref C) name=some none) (hv:mA name=some v) (hv':PySem.W.handedIn v=true) (h:Q v { s with toks:=s.toks+1 }) :
  wpAny (model prog w) A (getAttr (.ref x) name expr) Q E s:=by
 obtain ⟨od,J,hl⟩:=I.look
 exact PySem.W.get_value X J (PySem.W.plainGet_of hg).1 (PySem.W.findObj_own hh ha rfl (by rw [hl,hv])) hv' h
theorem zon {pl:Sem Bool} {Q:Value×List Value->Shared->Prop} (X:K.In s.heap) (I:ObjM s.heap x dx C mA) (hg:PySem.W.plainGet K C name=true)
  (hf:PySem.W.findIn K (.ref C) name=some (some (.ref f))) (ht:PySem.W.isFn K (.ref f)=true) (hv:mA name=none) (h:Q (.ref f,[.ref x]) s) :
  wpAny (model prog w) A (getMethod (.ref x) name pl) Q E s:=by
 obtain ⟨od,J,hl⟩:=I.look
 exact PySem.W.method_fn X J (PySem.W.plainGet_of hg).1 (PySem.W.plainGet_of hg).2 hf (beq_iff_eq.mp ht) (by show (PySem.W.lookIn name od).map (·.isSome)=some false;rw [hl,hv];rfl) h
theorem zpP {ns:List Str} {Q:Unit->Shared->Prop} (X:K.In s.heap) (I:ObjM s.heap x dx C mA)
  (hs:PySem.W.findIn K (.ref C) "__setattr__"=some (some (.builtin "object.__setattr__"))) (hp:PySem.W.plainOver K C=true) (ht:PySem.W.takerIn K C name=some none) (hh:PySem.W.hasDictIn K C=true)
  (hw:PySem.Within mA ns) (hsz:ns.length<=sizeLine)
  (h:∀ h',ObjM h' x dx C (fun y=>if y=name then some v else mA y)->Heap.SameBut dx s.heap h'->Q () { s with heap:=h',toks:=s.toks+2 }) :
  wpAny (model prog w) A (setAttr (.ref x) name v) Q E s:=by
 obtain ⟨od,J,hl⟩:=I.look
 refine PySem.W.set_plain X J hs (PySem.W.osa_open (s:={ s with toks:=s.toks+1 }) (r:=none) X J hp ht fun b=>?_)
 obtain ⟨cd,hc,hd'⟩:=PySem.W.any_some hh
 have hx:s.heap.get? x=some ⟨.ref C,some dx,.plain,#[]⟩:=I.obj
 refine qv (qx (qv (qv (wpAny_loadPart hx (qv (PySem.W.Looks.here (s:={ s with toks:=s.toks+1 }) (PySem.W.looks_clsIn X hc) ?_))))))
 rw [hd']
 refine qx (a:=some dx) (qv (qx (qv ?_)))
 refine wpAny_nsSet1 (s:={ s with toks:=s.toks+1 }) I.ns fun h' hn2 hs2=>?_
 obtain ⟨oD,esD,epD,hoD,hdD,hcD⟩:=hn2.count (PySem.Within.cons name v hw)
 refine qv (wpAny_lookBehind hoD (by rw [hdD];exact pastItsLine_dict (qJ hcD (by rw [qh];omega))) ?_)
 exact qx (h _ ⟨(hs2.2 _ (Ne.symm I.ne)).trans I.obj,hn2,I.ne⟩ hs2)
theorem zn6 {R:Result->Shared->Prop} {vs:List Value} {kw:List (Str×Value)} (X:K.In s.heap) (hm:PySem.W.makesIn K C=true)
  (hi:PySem.W.findIn K (.ref C) "__init__"=some (some (.ref f))) (hf:PySem.W.typeIn K (.ref f)=some (.type "function"))
  (h:codeAny (model prog w) (A.under (.builtin "type.__call__" ⟨.ref C::vs,kw⟩)) (.call (.ref f) ⟨.ref (s.heap.objs.size+1)::vs,kw⟩) (PySem.W.InitBack (s.heap.objs.size+1) R)
   { s with heap:=(s.heap.push PySem.W.emptyDict).push (PySem.W.instObj C s.heap.objs.size) }) :
  codeAny (model prog w) A (.call (.ref C) ⟨vs,kw⟩) R s:=by
 obtain ⟨hh,g,d,t,os⟩:=s
 exact PySem.W.make_core (PySem.W.makes_of X hm) (PySem.W.looks_findIn X hi) (fun self=>PySem.W.bind_fn X self hf) (.inl rfl) h
end
def ziX (f:Str) (v:V):List (Str×V)->List (Str×V)
 | []=>[(f,v)]
 | (g,x)::r=>if g=f then (g,v)::r else (g,x)::ziX f v r
theorem zgT (f g:Str) (v:V):∀ fs:List (Str×V),(ziX f v fs).lookup g=if g=f then some v else fs.lookup g
 | []=>by
  show List.lookup g [(f,v)]=_
  by_cases h:g=f
  ·have hb:(g==f)=true:=beq_iff_eq.mpr h
   simp only [List.lookup,hb,qV h]
  ·have hb:(g==f)=false:=beq_eq_false_iff_ne.mpr h
   simp only [List.lookup,hb,qW h]
 | (k,x)::r=>by
  have ih:=zgT f g v r
  rw [show ziX f v ((k,x)::r)=(if k=f then (k,v)::r else (k,x)::ziX f v r) from rfl]
  by_cases hk:k=f
  ·rw [qV hk]
   by_cases h:g=k
   ·have hb:(g==k)=true:=beq_iff_eq.mpr h
    simp only [List.lookup,hb,qV (h.trans hk)]
   ·have hb:(g==k)=false:=beq_eq_false_iff_ne.mpr h
    simp only [List.lookup,hb,qW (fun e:g=f=>h (e.trans hk.symm))]
  ·rw [qW hk]
   by_cases h:g=k
   ·have hb:(g==k)=true:=beq_iff_eq.mpr h
    simp only [List.lookup,hb,qW (fun e:g=f=>hk (h.symm.trans e))]
   ·have hb:(g==k)=false:=beq_eq_false_iff_ne.mpr h
    simp only [List.lookup,hb]
    exact ih
theorem zgY (f:Str) (v:V):∀ fs:List (Str×V),f∈(ziX f v fs).map (·.1)/\∀ g,g∈fs.map (·.1)->g∈(ziX f v fs).map (·.1)
 | []=>⟨by simp [ziX],fun g h=>by simp at h⟩
 | (k,x)::r=>by
  obtain ⟨i1,i2⟩:=zgY f v r
  rw [show ziX f v ((k,x)::r)=(if k=f then (k,v)::r else (k,x)::ziX f v r) from rfl]
  by_cases hk:k=f
  ·rw [qV hk]
   subst hk
   exact ⟨by simp,fun g h=>by simpa using h⟩
  ·rw [qW hk]
   refine ⟨?_,fun g h=>?_⟩
   ·rw [ql]
    exact qg _ i1
   ·rw [ql] at h ⊢
    rcases List.mem_cons.mp h with e | e
    ·exact List.mem_cons.mpr (.inl e)
    ·exact qg _ (i2 g e)
theorem zgX (f:Str) (v:V):∀ fs:List (Str×V),(ziX f v fs).length<=fs.length+1
 | []=>by simp [ziX]
 | (k,x)::r=>by
  have ih:=zgX f v r
  rw [show ziX f v ((k,x)::r)=(if k=f then (k,v)::r else (k,x)::ziX f v r) from rfl]
  by_cases hk:k=f
  ·rw [qV hk,qh,qh];omega
  ·rw [qW hk,qh,qh];omega
theorem zlD.some_of {v:V} {o:Option Value} (r:zlD (some v) o):∃ u,o=some u/\zcF v u:=by
 cases o with
 | none=>exact (show False from r).elim
 | some u=>exact ⟨u,rfl,r⟩
theorem zlD.none_of {o:Option Value} (r:zlD none o):o=none:=by
 cases o with
 | none=>rfl
 | some u=>exact (show False from r).elim
theorem zmL {v:V} {u:Value} (r:zcF v u):PySem.W.handedIn u=true:=by
 cases v with
 | non=>cases (show u=Value.none from r);rfl
 | bl b=>cases (show u=Value.bool b from r);rfl
 | int i=>obtain ⟨t,e⟩:=(show ∃ t,u=Value.int i t from r);cases e;rfl
 | str x=>obtain ⟨t,e⟩:=(show ∃ t,u=Value.str x t from r);cases e;rfl
 | byt b=>obtain ⟨t,e⟩:=(show ∃ t,u=Value.bytes b t from r);cases e;rfl
 | flt b=>obtain ⟨t,e⟩:=(show ∃ t,u=Value.float b t from r);cases e;rfl
 | ref a=>cases (show u=Value.ref a from r);rfl
 | ty n=>cases (show u=Value.type n from r);rfl
section
variable {P:Program} {w:World} {H H':Hp} {h h':Heap} {a C dx:Addr} {fs fs':List (Str×V)}
theorem ziu (hok:HOk P w H h) (e:H a=some (.ins C dx fs)):∃ mA,ObjM h a dx C mA/\(∀ f,zlD (fs.lookup f) (mA f))/\PySem.Within mA (fs.map (·.1))/\fs.length<=1000/\H dx=some (.own a):=by
 obtain ⟨d,z,ne,ob,mA,n,r,q⟩:=(show zcU P w H h a (.ins C dx fs) from hok a _ e)
 exact ⟨mA,⟨ob,n,ne⟩,r,q,z,d⟩
end
structure Cls (K:PySem.W.Frag) (C:Addr):Prop where
 pg:PySem.W.plainGet K C Str.empty=true
 hd:PySem.W.hasDictIn K C=true
 po:PySem.W.plainOver K C=true
 sa:PySem.W.findIn K (.ref C) "__setattr__"=some (some (.builtin "object.__setattr__"))
theorem Cls.get {K:PySem.W.Frag} {C:Addr} (c:Cls K C) (f:Str):PySem.W.plainGet K C f=true:=c.pg
def zeY (K:PySem.W.Frag) (C:Addr) (f:Str):Prop:=PySem.W.findIn K (.ref C) f=some none
theorem zeY.taker {K:PySem.W.Frag} {C:Addr} {f:Str} (n:zeY K C f):PySem.W.takerIn K C f=some none:=by
 unfold PySem.W.takerIn
 rw [show PySem.W.findIn K (.ref C) f=some none from n]
 rfl
structure Con (K:PySem.W.Frag) (C:Addr) (f:Str) (v:V) (u:Value):Prop where
 at_:PySem.W.findIn K (.ref C) f=some (some u)
 rel:zcF v u
 get:PySem.W.specialIn K u "__get__"=some none
 cp:PySem.W.copiedNames.contains f=false
structure Meth (K:PySem.W.Frag) (C:Addr) (m:Str) (f:Addr):Prop where
 at_:PySem.W.findIn K (.ref C) m=some (some (.ref f))
 fn:PySem.W.isFn K (.ref f)=true
 kp:PySem.W.keepIn K (.ref f)=true
section
variable {X:Cx} {pins:List (Addr×Obj)} {σ:St} {H:Hp} {s:Shared} {a C dx:Addr} {fs:List (Str×V)} {f:Str} {v:V} {A:Around} {E:Value->Shared->Prop}
theorem zlu {b:Bool} {Q:Value->Shared->Prop} (I:Inv X pins σ H s) (e:H a=some (.ins C dx fs)) (c:Cls X.K C) (n:zeY X.K C f) (l:fs.lookup f=some v)
  (h:∀ u s',Inv X pins σ H s'->zcF v u->Q u s'):wpAny (model X.prog X.w) A (getAttr (.ref a) f b) Q E s:=by
 obtain ⟨mA,O,r,_,_,_⟩:=ziu I.hok e
 obtain ⟨u,hu,ru⟩:=zlD.some_of (v:=v) (o:=mA f) (by rw [← l];exact r f)
 exact zqP I.kIn O (c.get f) c.hd n hu (zmL ru) (h u _ (I.tok _) ru)
theorem zf0 {m:Str} {g:Addr} {pl:Sem Bool} {Q:Value×List Value->Shared->Prop} (I:Inv X pins σ H s) (e:H a=some (.ins C dx fs)) (c:Cls X.K C) (k:Meth X.K C m g) (l:fs.lookup m=none)
  (h:Q (.ref g,[.ref a]) s):wpAny (model X.prog X.w) A (getMethod (.ref a) m pl) Q E s:=by
 obtain ⟨mA,O,r,_,_,_⟩:=ziu I.hok e
 have hn:mA m=none:=zlD.none_of (by rw [← l];exact r m)
 exact zon I.kIn O (c.get m) k.at_ k.fn hn h
theorem zlc {y:V} {u:Value} {Q:Unit->Shared->Prop} (I:Inv X pins σ H s) (e:H a=some (.ins C dx fs)) (c:Cls X.K C) (n:zeY X.K C f) (hl:fs.length < 1000) (ry:zcF y u)
  (h:∀ s',Inv X pins σ (upd H a (.ins C dx (ziX f y fs))) s'->Q () s'):wpAny (model X.prog X.w) A (setAttr (.ref a) f u) Q E s:=by
 obtain ⟨mA,O,r,wi,_,ho⟩:=ziu I.hok e
 have hz:(fs.map (·.1)).length<=sizeLine:=by rw [qe,sizeLine_eq];omega
 refine zpP I.kIn O c.sa c.po n.taker c.hd wi hz fun h' O' sb=>h _ ?_
 have hd:∃ o,h'.get? dx=some o:=let ⟨o,_,_,e',_⟩:=O'.ns;⟨o,e'⟩
 refine I.write (x:=a) (e:=dx) (by rw [e];exact True.intro) (.inr ho) (fun b q hb z=>(sb.2 b hb).trans z) hd ?_
 refine ⟨by rw [zaz O.ne];exact ho,?_,O.ne,O'.obj,_,O'.ns,fun g=>?_,fun g hg=>?_⟩
 ·have:=zgX f y fs;omega
 ·show zlD ((ziX f y fs).lookup g) (if g=f then some u else mA g)
  rw [zgT]
  by_cases q:g=f
  ·rw [qV q,qV q];exact ry
  ·rw [qW q,qW q];exact r g
 ·by_cases q:g=f
  ·rw [q];exact (zgY f y fs).1
  ·refine (zgY f y fs).2 g (wi g fun z=>hg ?_)
   show (if g=f then some u else mA g)=none
   rw [qW q];exact z
theorem Inv.made (I:Inv X pins σ H s):Inv X pins σ (upd (upd H s.heap.objs.size (.own (s.heap.objs.size+1))) (s.heap.objs.size+1) (.ins C s.heap.objs.size []))
  { s with heap:=(s.heap.push PySem.W.emptyDict).push (PySem.W.instObj C s.heap.objs.size) }:=by
 have e1:(s.heap.push PySem.W.emptyDict).get? s.heap.objs.size=some PySem.W.emptyDict:=qD s.heap rfl
 have e2:((s.heap.push PySem.W.emptyDict).push (PySem.W.instObj C s.heap.objs.size)).get? (s.heap.objs.size+1)=some (PySem.W.instObj C s.heap.objs.size):=by
  have:=qD (s.heap.push PySem.W.emptyDict) (o:=PySem.W.instObj C s.heap.objs.size) rfl
  rwa [Heap.size_push] at this
 have e3:(s.heap.push PySem.W.emptyDict).Ns s.heap.objs.size (fun _=>none):=⟨PySem.W.emptyDict,#[],_,e1,rfl,(fun e he=>absurd he (by simp)),fun _=>rfl⟩
 have I1:=I.laid (a:=s.heap.objs.size) (o:=.own (s.heap.objs.size+1)) (h':=s.heap.push PySem.W.emptyDict) (t':=s.toks) (fun b u q=>qr _ q) (qu _) ⟨_,e1⟩
 refine I1.laid (a:=s.heap.objs.size+1) (o:=.ins C s.heap.objs.size []) (t':=s.toks) (fun b u q=>qr _ q) (Nat.le_of_eq (Heap.size_push _ _)) ?_
 have ne:s.heap.objs.size≠s.heap.objs.size+1:=qz (Nat.lt_succ_self _)
 refine ⟨by rw [zaz ne,zaL],Nat.zero_le _,ne,e2,fun _=>none,(Heap.Ns1.of_empty e3).at fun o q=>qr _ q,fun _=>True.intro,fun y hy=>absurd rfl hy⟩
theorem zq9 {prog:Program} {w:World} {env:Env} {e:Expr} {f:Str} {pos:Pos} {s:Shared} {Q:Value->Shared->Prop} (hb:attributeBase e f env (eval e env)=eval e env)
  (h:wpAny (model prog w) A (eval e env) (fun o s₁=>wpAny (model prog w) A (getAttr o f true) Q E s₁) E s):wpAny (model prog w) A (eval (.Attribute e f pos) env) Q E s :=
 Attribute_any_ h (by rw [arm_eval_Attribute,hb])
end
def zvo (K:PySem.W.Frag) (ta:TE) (f:Str):TE:=fun σ H Q=>ta σ H fun x H1=>∃ a C dx fs v,x=.ref a/\H1 a=some (.ins C dx fs)/\Cls K C/\zeY K C f/\fs.lookup f=some v/\Q v H1
def zvu (K:PySem.W.Frag) (ta tv:TE) (f:Str):TS:=fun D σ H=>tv σ H fun y H1=>ta σ H1 fun x H2=>∃ a C dx fs,x=.ref a/\H2 a=some (.ins C dx fs)/\Cls K C/\zeY K C f/\fs.length < 1000 /\
 D.nx σ (upd H2 a (.ins C dx (ziX f y fs)))
section
variable {X:Cx} {o e value:Expr} {f:Str} {pos pos' tpos:Pos} {ta tv:TE}
theorem zmd (he:PE X e ta) (hb:attributeBase e f X.env (eval e X.env)=eval e X.env):PE X (.Attribute e f pos) (zvo X.K ta f):=by
 intro pins s σ H Q I h
 refine zq9 hb (thn (he pins s σ H _ I h) fun u s1 ⟨x,H1,I1,rx,a,C,dx,fs,v,ex,ea,c,n,l,q⟩=>?_)
 subst ex
 obtain rfl:u=Value.ref a:=rx
 exact zlu I1 ea c n l fun u' s2 I2 ru=>⟨v,H1,I2,ru,q⟩
theorem zoU (ha:PE X o ta) (hv:PE X value tv) (hs:swapsWith value (some (.Attribute o f pos')) pos.line X.env=pure false):PS X (.Assign [.Attribute o f pos'] value pos) (zvu X.K ta tv f):=by
 intro pins s σ H D I h
 refine plainObj_wpAny_Assign_Attribute (thn (hv pins s σ H _ I h) fun u s1 ⟨y,H1,I1,ry,q⟩=>thn (ha pins s1 σ H1 _ I1 q) fun ov s2 ⟨x,H2,I2,rx,a,C,dx,fs,ex,ea,c,n,l,q2⟩=>?_) hs
 subst ex
 obtain rfl:ov=Value.ref a:=rx
 exact zlc I2 ea c n l ry fun s3 I3=>⟨σ,_,I3,q2⟩
theorem zqs {pl:Sem Bool} {m:Str} {apos:Pos} {args:List Expr} {pins:List (Addr×Obj)} {s:Shared} {σ:St} {H:Hp} {Q:Value->Shared->Prop} {te:TE} (he:PE X e te) (I:Inv X pins σ H s)
  (h:te σ H fun x H1=>∃ a C dx fs g,x=.ref a/\H1 a=some (.ins C dx fs)/\Cls X.K C/\Meth X.K C m g/\fs.lookup m=none /\
   ∀ s1,Inv X pins σ H1 s1->wpAny (model X.prog X.w) X.A (callWith pos (.ref g) [.ref a] (backTo pos (starEach args X.env)) (backToKw pos (keywordEach [] X.env))) Q X.xe s1)
  (ht:eval (.Call (.Attribute e m apos) args [] pos) X.env=(do
   let ov ← eval e X.env
   standAt apos.atName
   let (f,first) ← holding [ov] (getMethod ov m pl)
   callWith pos f first (backTo pos (starEach args X.env)) (backToKw pos (keywordEach [] X.env)))) :
  wpAny (model X.prog X.w) X.A (eval (.Call (.Attribute e m apos) args [] pos) X.env) Q X.xe s:=by
 refine PySem.W.methodCall_KW (pl:=pl) (thn (he pins s σ H _ I h) fun u s1 ⟨x,H1,I1,rx,a,C,dx,fs,g,ex,ea,c,k,l,q⟩=>?_) ht
 subst ex
 obtain rfl:u=Value.ref a:=rx
 exact zf0 I1 ea c k l (q s1 I1)
end
section
variable {X:Cx} {pins:List (Addr×Obj)} {σ:St} {H:Hp} {s:Shared} {A:Around} {E:Value->Shared->Prop} {Q:Value->Shared->Prop} {c:Value} {b:Bool}
inductive TyOf (K:PySem.W.Frag) (H:Hp):V->Value->Prop where
 | non:TyOf K H .non (.type "NoneType")
 | bl (x:Bool):TyOf K H (.bl x) (.type "bool")
 | int (i:Int):TyOf K H (.int i) (.type "int")
 | str (x:Str):TyOf K H (.str x) (.type "str")
 | flt (x:UInt64):TyOf K H (.flt x) (.type "float")
 | lst {a:Addr} {xs:List V} (e:H a=some (.lst xs)):TyOf K H (.ref a) (.type "list")
 | frz {a:Addr} {o:Obj} {xs:List V} (e:H a=some (.frz o (.lst xs))):TyOf K H (.ref a) (.type "list")
 | tup {a:Addr} {xs:List V} (e:H a=some (.tup xs)):TyOf K H (.ref a) (.type "tuple")
 | dK {a:Addr} {kvs:List (Key×V)} (e:H a=some (.dK kvs)):TyOf K H (.ref a) (.type "dict")
 | dT {a:Addr} {kvs:List (List Key×V)} (e:H a=some (.dT kvs)):TyOf K H (.ref a) (.type "dict")
 | ins {a C dx:Addr} {fs:List (Str×V)} (e:H a=some (.ins C dx fs)) (cl:Cls K C) (ha:PySem.W.findIn K (.ref C) "__class__"=some (some (.builtin "object.__class__")))
   (hn:PySem.W.specialIn K (.builtin "object.__class__") "__get__"=some (some (.builtin "getset_descriptor.__get__"))) (htk:PySem.W.takesIn K (.builtin "object.__class__")=some true)
   (hm:PySem.W.mroIn K C (.type "object")=some true):TyOf K H (.ref a) (.ref C)
theorem zmG {x:V} {u t:Value} (I:Inv X pins σ H s) (rx:zcF x u) (ty:TyOf X.K H x t) (e:PySem.W.kitOne X.K t c=some b) (h:∀ tk,Q (.bool b) { s with toks:=tk }) :
  wpAny (model X.prog X.w) A (call (.builtin "isinstance") [u,c]) Q E s:=by
 cases ty with
 | non=>cases (show u=Value.none from rx);exact PySem.W.kia_one PySem.W.kitx_none I.kIn True.intro e (fun z=>nomatch z) h
 | bl y=>cases (show u=Value.bool y from rx);exact PySem.W.kia_one PySem.W.kitx_bool I.kIn True.intro e (fun z=>nomatch z) h
 | int i=>obtain ⟨t,q⟩:=(show ∃ t,u=Value.int i t from rx);cases q;exact PySem.W.kia_one PySem.W.kitx_int I.kIn True.intro e (fun z=>nomatch z) h
 | str y=>obtain ⟨t,q⟩:=(show ∃ t,u=Value.str y t from rx);cases q;exact PySem.W.kia_one PySem.W.kitx_str I.kIn True.intro e (fun z=>nomatch z) h
 | flt y=>obtain ⟨t,q⟩:=(show ∃ t,u=Value.float y t from rx);cases q;exact PySem.W.kia_one PySem.W.kitx_float I.kIn True.intro e (fun z=>nomatch z) h
 | @lst a xs ea =>
  cases (show u=Value.ref a from rx)
  obtain ⟨_,_,n,_,h1⟩:=(show zcU X.prog X.w H s.heap a (.lst xs) from I.hok a _ ea)
  exact PySem.W.kia_one PySem.W.kitx_list I.kIn ⟨_,h1,rfl⟩ e (fun z=>nomatch z) h
 | @frz a ob xs ea =>
  cases (show u=Value.ref a from rx)
  obtain ⟨_,_,_,n,_,h1⟩:=(show zcU X.prog X.w H s.heap a (.frz ob (.lst xs)) from I.hok a _ ea)
  exact PySem.W.kia_one PySem.W.kitx_list I.kIn ⟨_,h1,rfl⟩ e (fun z=>nomatch z) h
 | @tup a xs ea =>
  cases (show u=Value.ref a from rx)
  obtain ⟨_,_,_,p⟩:=(show zcU X.prog X.w H s.heap a (.tup xs) from I.hok a _ ea)
  obtain ⟨o,h1,h2,_⟩:=p
  exact PySem.W.kia_one PySem.W.kitx_tuple I.kIn ⟨o,h1,h2⟩ e (fun z=>nomatch z) h
 | @dK a kvs ea =>
  cases (show u=Value.ref a from rx)
  obtain ⟨_,_,vs,_,p⟩:=(show zcU X.prog X.w H s.heap a (.dK kvs) from I.hok a _ ea)
  obtain ⟨o,es,ep,h1,h2,_⟩:=p
  exact PySem.W.kia_one PySem.W.kitx_dict I.kIn ⟨o,h1,h2.1⟩ e (fun z=>nomatch z) h
 | @dT a kvs ea =>
  cases (show u=Value.ref a from rx)
  obtain ⟨_,_,xs,_,o,es,ep,h1,h2,_⟩:=(show zcU X.prog X.w H s.heap a (.dT kvs) from I.hok a _ ea)
  exact PySem.W.kia_one PySem.W.kitx_dict I.kIn ⟨o,h1,h2.1⟩ e (fun z=>nomatch z) h
 | @ins a C dx fs ea cl ha hn htk hm =>
  cases (show u=Value.ref a from rx)
  obtain ⟨mA,O,_⟩:=ziu I.hok ea
  obtain ⟨od,J,_⟩:=O.look
  exact PySem.W.kia_one (PySem.W.kitx_own (cl.get _) cl.hd ha hn htk hm) I.kIn J e (fun z=>nomatch z) h
end
end L2
namespace L2
open PySem PySem.Spec PyProof.Rows
structure Room (k:Nat) (A:Around):Prop where
 hd:A.handled=none
 dp:A.depth+3*k+5 < recursionLimit
 un:A.units+16*k+200 < cLine
theorem Room.mono {j k:Nat} {A:Around} (r:Room k A) (h:j<=k):Room j A:=⟨r.hd,by have:=r.dp;omega,by have:=r.un;omega⟩
theorem Room.deeper {k:Nat} {A:Around} (r:Room (k+1) A) (env:Env):Room k (A.deeper env) :=
 ⟨r.hd,by have:=r.dp;show A.depth+1+3*k+5 < _;omega,by have:=r.un;show A.units+3+16*k+200 < _;omega⟩
theorem zlo {A:Around} {C:Addr} {us:List Value} {kw:List (Str×Value)}:(A.under (.builtin "type.__call__" ⟨.ref C::us,kw⟩)).depth=A.depth+1:=by
 first | rfl | simp [Around.under,Code.weight,Code.isCreation,Code.isGuard,Code.isCaller,Code.frames,Code.isFrame,guardIds]
theorem zln {A:Around} {C:Addr} {us:List Value} {kw:List (Str×Value)}:(A.under (.builtin "type.__call__" ⟨.ref C::us,kw⟩)).units=A.units+1:=by
 first | rfl | simp [Around.under,Code.cUnits,Code.frames,Code.isFrame]
theorem Room.make {k:Nat} {A:Around} (r:Room (k+1) A) (C:Addr) (us:List Value) (kw:List (Str×Value)):Room k (A.under (.builtin "type.__call__" ⟨.ref C::us,kw⟩)) :=
 ⟨r.hd,by have:=r.dp;rw [zlo];omega,by have:=r.un;rw [zln];omega⟩
theorem Room.depth {k:Nat} {A:Around} (r:Room k A):A.depth < recursionLimit:=by have:=r.dp;omega
def ztG:TA:=fun _ H Q=>Q [] H
def zpC (ta:TE) (tr:TA):TA:=fun σ H Q=>ta σ H fun x H1=>tr σ H1 fun xs H2=>Q (x::xs) H2
section
variable {X:Cx} {e:Expr} {es:List Expr} {te:TE} {t:TA} {pos:Pos}
theorem zfy:PA X [] ztG:=fun _ _ _ _ H Q I h=>Calls.spliced_nil ⟨[],H,I,.nil,h⟩
theorem zd0 (ha:PE X e te) (hr:PA X es t) (hs:starEach (e::es) X.env=(false,eval e X.env)::starEach es X.env:=by rfl):PA X (e::es) (zpC te t):=by
 intro pos pins s σ H Q I h
 rw [hs]
 show wpAny _ _ (spliced ((false,eval e X.env)::backTo pos (starEach es X.env))) _ _ s
 refine Calls.spliced_cons (thn (ha pins s σ H _ I h) fun u s1 ⟨x,H1,I1,r1,q1⟩=>?_)
 exact thn (hr pos pins s1 σ H1 _ I1 q1) fun us s2 ⟨xs,H2,I2,r2,q2⟩=>⟨x::xs,H2,I2,.cons r1 r2,q2⟩
def zvh (t:TA):TE:=fun σ H Q=>t σ H fun xs H1=>xs.length<=sizeLine/\∀ p,H1 p=none->Q (.ref p) (upd H1 p (.tup xs))
def zuL (t:TA):TE:=fun σ H Q=>t σ H fun xs H1=>xs.length<=sizeLine/\∀ p,H1 p=none->Q (.ref p) (upd H1 p (.lst xs))
theorem zse {x1} (h:PA X es t):PE X (.Tuple es x1 pos) (zvh t):=by
 intro pins s σ H Q I hq
 refine wpAny_Tuple_spliced (thn (h pos pins s σ H _ I hq) fun us s1 ⟨xs,H1,I1,r,z,q⟩=>⟨by rw [← r.length];exact z,?_⟩)
 have hf:H1 s1.heap.objs.size=none:=I1.hok.fresh (qu _)
 refine ⟨.ref s1.heap.objs.size,upd H1 s1.heap.objs.size (.tup xs),I1.laid (t':=s1.toks) (fun b u e=>qr _ e) (qu _) ?_,rfl,q _ hf⟩
 exact ⟨z,us,r,⟨_,qD _ rfl,rfl,_,rfl⟩⟩
theorem zmc (h:PA X es t):PE X (.List es pos) (zuL t):=by
 intro pins s σ H Q I hq
 refine wpAny_List_spliced (thn (h pos pins s σ H _ I hq) fun us s1 ⟨xs,H1,I1,r,z,q⟩=>⟨by rw [← r.length];exact z,?_⟩)
 have hf:H1 s1.heap.objs.size=none:=I1.hok.fresh (qu _)
 refine ⟨.ref s1.heap.objs.size,upd H1 s1.heap.objs.size (.lst xs),I1.laid (t':=s1.toks) (fun b u e=>qr _ e) (qu _) ?_,rfl,q _ hf⟩
 exact ⟨z,us,0,r,qD _ rfl⟩
end
abbrev Sp:=List V->Hp->VK->XK->Prop
abbrev CXT:=List Env->Hp->Shared->XK->Value->Shared->Prop
structure Env0 (P:Program) (w:World) (K:PySem.W.Frag) (mg:Str->Option Value) (base:Heap) (A:Around) (outer:List Env) (s:Shared) (H:Hp):Prop where
 frames:A.frames=some outer
 mod:Mod K mg base
 bs:∀ b o,base.get? b=some o->s.heap.get? b=some o/\H b=none
 bsz:base.objs.size<=s.heap.objs.size
 funs:s.heap.FunFrames base outer
 frf:∀ b∈frs outer,H b=none
 hok:HOk P w H s.heap
 bare:AllBare s.gens
def CE (outer:List Env) (P:Program) (w:World) (H:Hp) (s:Shared) (Q:VK) (u:Value) (s':Shared):Prop :=
 ∃ v H',s'.os=s.os/\AllBare s'.gens/\Un (frs outer) [] H H' s.heap s'.heap/\HOk P w H' s'.heap/\zcF v u/\Q v H'
def CR (CX:CXT) (outer:List Env) (P:Program) (w:World) (H:Hp) (s:Shared) (Q:VK) (E:XK) (r:Result) (s':Shared):Prop :=
 match r with
 | .ok (.ret u)=>CE outer P w H s Q u s'
 | .ok _=>False
 | .error e=>CX outer H s E e s'
structure FnOk (P:Program) (w:World) (K:PySem.W.Frag) (mg:Str->Option Value) (base:Heap) (CX:CXT) (k:Nat) (f:Addr) (fd:FuncData) (ps:List Str) (sp:Sp):Prop where
 len:∀ vs H Q E,sp vs H Q E->vs.length=ps.length
 run:∀ (A:Around) (outer:List Env) (s:Shared) (H:Hp) (args:Args) (us:List Value) (vs:List V) (Q:VK) (E:XK),Room k A->Env0 P w K mg base A outer s H->BindsTo s fd args (ps.zip us)->zbX vs us->sp vs H Q E ->
  codeAny (model P w) A (.call (.ref f) args) (CR CX outer P w H s Q E) s
theorem FnOk.imp {P:Program} {w:World} {K:PySem.W.Frag} {mg:Str->Option Value} {base:Heap} {CX:CXT} {k:Nat} {f:Addr} {fd:FuncData} {ps:List Str} {sp sp':Sp} (F:FnOk P w K mg base CX k f fd ps sp)
  (h:∀ vs H Q E,sp' vs H Q E->sp vs H Q E):FnOk P w K mg base CX k f fd ps sp' :=
 ⟨fun vs H Q E q=>F.len vs H Q E (h _ _ _ _ q),fun A outer s H args us vs Q E hr he hb hv hs=>F.run A outer s H args us vs Q E hr he hb hv (h _ _ _ _ hs)⟩
theorem Env0.make {P:Program} {w:World} {K:PySem.W.Frag} {mg:Str->Option Value} {base:Heap} {A:Around} {outer:List Env} {s:Shared} {H:Hp} (e:Env0 P w K mg base A outer s H) (C:Addr) (us:List Value) (kw:List (Str×Value)) :
  Env0 P w K mg base (A.under (.builtin "type.__call__" ⟨.ref C::us,kw⟩)) outer s H:=⟨by first | exact e.frames | (simpa [Around.under,Code.envs,Code.isFrame,pushEnvs] using e.frames),e.mod,e.bs,e.bsz,e.funs,e.frf,e.hok,e.bare⟩
section
variable {X:Cx} {pins:List (Addr×Obj)} {σ:St} {H:Hp} {s s':Shared}
theorem Inv.env0 (I:Inv X pins σ H s):Env0 X.prog X.w X.K X.mg X.base X.A X.stack s H :=
 ⟨I.ok.frames,I.ok.mod,I.bs,qJ I.ok.bsz I.sz,I.stack,I.stkFree,I.hok,I.bare⟩
theorem Inv.after {Q:VK} {u:Value} (I:Inv X pins σ H s) (h:CE X.stack X.prog X.w H s Q u s'):EP X pins σ Q u s':=by
 obtain ⟨v,H',os,bare,un,hok,r,q⟩:=h
 obtain ⟨hh,g,d,t,os'⟩:=s'
 obtain rfl:os'=s.os:=os
 exact ⟨v,H',I.call (h':=hh) (g':=g) (d':=d) (t':=t) (ch:=[]) un hok bare (fun b z=>absurd z (by simp)),r,q⟩
end
def ztK (sp:Sp) (dvs:List V) (E:XK) (t:TA):TE:=fun σ H Q=>t σ H fun vs H1=>sp (vs++dvs) H1 Q E
def zrx (C:Addr) (m:Str) (sp:Sp) (dvs:List V) (E:XK) (ta:TE) (t:TA):TE:=fun σ H Q=>ta σ H fun x H1=>∃ a dx fs,x=.ref a/\H1 a=some (.ins C dx fs)/\fs.lookup m=none /\
 t σ H1 fun vs H2=>sp (x::(vs++dvs)) H2 Q E
def ztI (C:Addr) (sp:Sp) (dvs:List V) (E:XK) (t:TA):TE:=fun σ H Q=>t σ H fun vs H1=>∀ x dx,H1 x=none->H1 dx=none->dx≠x ->
 sp (.ref x::(vs++dvs)) (upd (upd H1 dx (.own x)) x (.ins C dx [])) (fun v H2=>v=.non/\Q (.ref x) H2) E
def zdG (K:PySem.W.Frag) (fd:FuncData) (ps:List Str) (ds:List Value):Prop :=
 ∀ (s:Shared) (us:List Value),K.In s.heap->(us++ds).length=ps.length->BindsTo s fd ⟨us,[]⟩ (ps.zip (us++ds))
theorem zdG.all {K:PySem.W.Frag} {fd:FuncData} {ps:List Str} (h:∀ us:List Value,us.length=ps.length->bindArgs fd ⟨us,[]⟩=pure (ps.zip us)):zdG K fd ps []:=fun s us _ hl=>by
 rw [List.append_nil] at hl ⊢
 exact .of_eq (h us hl)
def zhl (CX:CXT) (X:Cx) (E:XK):Prop:=∀ (pins:List (Addr×Obj)) (σ:St) (H:Hp) (s:Shared) (e:Value) (s':Shared),Inv X pins σ H s->CX X.stack H s E e s'->X.xe e s'
section
variable {X:Cx} {CX:CXT} {k:Nat} {f C:Addr} {fd:FuncData} {ps:List Str} {sp:Sp} {dvs:List V} {ds:List Value} {E:XK} {x m:Str} {p pos apos:Pos} {e o:Expr} {es:List Expr} {ta:TE} {t:TA}
theorem zl5 {pins:List (Addr×Obj)} {σ:St} {H:Hp} {s:Shared} {Q:VK} {us:List Value} {vs:List V} (F:FnOk X.prog X.w X.K X.mg X.base CX k f fd ps sp) (hr:Room k X.A) (hb:zdG X.K fd ps ds) (hd:zbX dvs ds) (hx:zhl CX X E)
  (I:Inv X pins σ H s) (r:zbX vs us) (h:sp (vs++dvs) H Q E):wpAny (model X.prog X.w) X.A (call (.ref f) us) (EP X pins σ Q) X.xe s:=by
 have r2:zbX (vs++dvs) (us++ds):=r.append hd
 have hl:(us++ds).length=ps.length:=by rw [← r2.length];exact F.len _ _ _ _ h
 refine wpAny_call (codeAny_mono (F.run X.A X.stack s H ⟨us,[]⟩ (us++ds) (vs++dvs) Q E hr I.env0 (hb s us I.kIn hl) r2 h) fun r s' hq=>?_)
 cases r with
 | error e=>exact hx pins σ H s e s' I hq
 | ok fl =>
  cases fl with
  | ret u=>exact I.after hq
  | next=>exact False.elim hq
  | brk=>exact False.elim hq
  | cont=>exact False.elim hq
theorem zqc (F:FnOk X.prog X.w X.K X.mg X.base CX k f fd ps sp) (hr:Room k X.A) (hg:Gl X x) (hm:X.mg x=some (.ref f)) (hk:PySem.W.keepIn X.K (.ref f)=true) (hb:zdG X.K fd ps ds) (hd:zbX dvs ds) (hx:zhl CX X E)
  (ha:PA X (e::es) t) (hdb:(x==("__debug__":Str))=false:=by decide) (he:starEach (e::es) X.env=(false,eval e X.env)::starEach es X.env:=by rfl) (hpl:(backTo pos (starEach es X.env)).any (·.1)=false:=by rfl) :
  PE X (.Call (.Name x p) (e::es) [] pos) (ztK sp dvs E t):=by
 intro pins s σ H Q I h
 refine wpAny_Call_Name_kw (zj7 I hg hm ?_ hdb)
 refine PySem.W.callWith_K (h₀:=X.base) I.ok.mod.kin hk (thn (ha pos pins s σ H _ I h) fun us s1 ⟨vs,H1,I1,r,q⟩=>⟨I1.kIn,?_⟩) he hpl
 exact zl5 F hr hb hd hx I1 r q
theorem zp8 {pl:Sem Bool} (he:PE X o ta) (c:Cls X.K C) (hm:Meth X.K C m f) (F:FnOk X.prog X.w X.K X.mg X.base CX k f fd ps sp) (hr:Room k X.A) (hb:zdG X.K fd ps ds) (hd:zbX dvs ds) (hx:zhl CX X E) (ha:PA X (e::es) t)
  (hst:starEach (e::es) X.env=(false,eval e X.env)::starEach es X.env:=by rfl) (hpl:(backTo pos (starEach es X.env)).any (·.1)=false:=by rfl)
  (ht:eval (.Call (.Attribute o m apos) (e::es) [] pos) X.env=(do
   let ov ← eval o X.env
   standAt apos.atName
   let (f,first) ← holding [ov] (getMethod ov m pl)
   callWith pos f first (backTo pos (starEach (e::es) X.env)) (backToKw pos (keywordEach [] X.env))):=by rfl) :
  PE X (.Call (.Attribute o m apos) (e::es) [] pos) (zrx C m sp dvs E ta t):=by
 intro pins s σ H Q I h
 refine PySem.W.methodCall_KW (pl:=pl) (thn (he pins s σ H _ I h) fun u s1 ⟨x,H1,I1,rx,a,dx,fs,ex,ea,l,q⟩=>?_) ht
 subst ex
 obtain rfl:u=Value.ref a:=rx
 refine zf0 I1 ea c hm l ?_
 refine PySem.W.callWith_K (first:=[.ref a]) (h₀:=X.base) I.ok.mod.kin hm.kp (thn (ha pos pins s1 σ H1 _ I1 q) fun us s2 ⟨vs,H2,I2,r,q2⟩=>⟨I2.kIn,?_⟩) hst hpl
 exact zl5 (us:=.ref a::us) (vs:=.ref a::vs) F hr hb hd hx I2 (.cons rfl r) q2
theorem znV {pl:Sem Bool} (he:PE X o ta) (c:Cls X.K C) (hm:Meth X.K C m f) (F:FnOk X.prog X.w X.K X.mg X.base CX k f fd ps sp) (hr:Room k X.A) (hb:zdG X.K fd ps ds) (hd:zbX dvs ds) (hx:zhl CX X E)
  (ht:eval (.Call (.Attribute o m apos) [] [] pos) X.env=(do
   let ov ← eval o X.env
   standAt apos.atName
   let (f,first) ← holding [ov] (getMethod ov m pl)
   callWith pos f first (backTo pos (starEach [] X.env)) (backToKw pos (keywordEach [] X.env))):=by rfl) :
  PE X (.Call (.Attribute o m apos) [] [] pos) (zrx C m sp dvs E ta ztG):=by
 intro pins s σ H Q I h
 refine PySem.W.methodCall_KW (pl:=pl) (thn (he pins s σ H _ I h) fun u s1 ⟨x,H1,I1,rx,a,dx,fs,ex,ea,l,q⟩=>?_) ht
 subst ex
 obtain rfl:u=Value.ref a:=rx
 refine zf0 I1 ea c hm l ?_
 exact PySem.W.callWith_K0 (first:=[.ref a]) I1.kIn hm.kp (zl5 (us:=[.ref a]) (vs:=[.ref a]) F hr hb hd hx I1 (.cons rfl .nil) q)
structure Mk (K:PySem.W.Frag) (C f:Addr):Prop where
 makes:PySem.W.makesIn K C=true
 init:PySem.W.findIn K (.ref C) "__init__"=some (some (.ref f))
 fn:PySem.W.isFn K (.ref f)=true
 kp:PySem.W.keepIn K (.ref C)=true
theorem znM {pins:List (Addr×Obj)} {σ:St} {H:Hp} {s:Shared} {Q:VK} {us:List Value} {vs:List V} (M:Mk X.K C f) (F:FnOk X.prog X.w X.K X.mg X.base CX k f fd ps sp) (hr:Room (k+1) X.A) (hb:zdG X.K fd ps ds) (hd:zbX dvs ds)
  (hx:zhl CX X E) (I:Inv X pins σ H s) (r:zbX vs us)
  (h:∀ x dx,H x=none->H dx=none->dx≠x->sp (.ref x::(vs++dvs)) (upd (upd H dx (.own x)) x (.ins C dx [])) (fun v H2=>v=.non/\Q (.ref x) H2) E) :
  wpAny (model X.prog X.w) X.A (call (.ref C) us) (EP X pins σ Q) X.xe s:=by
 have hq:=h (s.heap.objs.size+1) s.heap.objs.size (I.hok.fresh (Nat.le_succ _)) (I.hok.fresh (qu _)) (qz (Nat.lt_succ_self _))
 have I2:=Inv.made (C:=C) I
 have r2:zbX (V.ref (s.heap.objs.size+1)::(vs++dvs)) (Value.ref (s.heap.objs.size+1)::(us++ds)):=.cons rfl (r.append hd)
 have hl:(Value.ref (s.heap.objs.size+1)::us++ds).length=ps.length:=by
  have e:=r2.length
  rw [F.len _ _ _ _ hq] at e
  exact e.symm
 refine wpAny_call (zn6 (f:=f) I.kIn M.makes M.init (beq_iff_eq.mp M.fn) (codeAny_mono (F.run _ X.stack _ _ ⟨Value.ref (s.heap.objs.size+1)::us,[]⟩ (Value.ref (s.heap.objs.size+1)::(us++ds)) _ _ E (hr.make C us [])
  (I2.env0.make C us []) (hb _ (Value.ref (s.heap.objs.size+1)::us) I2.kIn hl) r2 hq) fun r s' hq'=>?_))
 cases r with
 | error e=>exact hx pins σ _ _ e s' I2 hq'
 | ok fl =>
  cases fl with
  | ret u =>
   obtain ⟨v,H',I3,rv,ev,q3⟩:=I2.after hq'
   subst ev
   exact ⟨rv,⟨V.ref (s.heap.objs.size+1),H',I3,rfl,q3⟩⟩
  | next=>exact False.elim hq'
  | brk=>exact False.elim hq'
  | cont=>exact False.elim hq'
theorem zp9 (M:Mk X.K C f) (F:FnOk X.prog X.w X.K X.mg X.base CX k f fd ps sp) (hr:Room (k+1) X.A) (hg:Gl X x) (hm:X.mg x=some (.ref C)) (hb:zdG X.K fd ps ds) (hd:zbX dvs ds) (hx:zhl CX X E)
  (ha:PA X (e::es) t) (hdb:(x==("__debug__":Str))=false:=by decide) (he:starEach (e::es) X.env=(false,eval e X.env)::starEach es X.env:=by rfl) (hpl:(backTo pos (starEach es X.env)).any (·.1)=false:=by rfl) :
  PE X (.Call (.Name x p) (e::es) [] pos) (ztI C sp dvs E t):=by
 intro pins s σ H Q I h
 refine wpAny_Call_Name_kw (zj7 I hg hm ?_ hdb)
 refine PySem.W.callWith_K (h₀:=X.base) I.ok.mod.kin M.kp (thn (ha pos pins s σ H _ I h) fun us s1 ⟨vs,H1,I1,r,q⟩=>⟨I1.kIn,?_⟩) he hpl
 exact znM M F hr hb hd hx I1 r q
end
section
variable {X:Cx} {CX:CXT} {k:Nat} {f C:Addr} {fd:FuncData} {ps ks:List Str} {sp:Sp} {E:XK} {x m:Str} {p pos apos kpos:Pos} {e o:Expr} {es:List Expr} {kws:List Keyword} {te ta:TE} {t tk:TA} {nm:Option Str}
structure KBinds (K:PySem.W.Frag) (fd:FuncData) (ps ks:List Str) (g:List Value->List Value->List Value) (gV:List V->List V->List V):Prop where
 to:∀ (s:Shared) (us ws:List Value),K.In s.heap->(g us ws).length=ps.length->BindsTo s fd ⟨us,ks.zip ws⟩ (ps.zip (g us ws))
 rel:∀ {vs:List V} {us:List Value} {zs:List V} {ws:List Value},zbX vs us->zbX zs ws->zbX (gV vs zs) (g us ws)
variable {g:List Value->List Value->List Value} {gV:List V->List V->List V}
end
structure FnScope (N P:List Str) (sc:Scope):Prop where
 kind:sc.kind=.function
 co:sc.isCoroutine=false
 gen:sc.isGenerator=false
 nd:N.Nodup
 pre:N.take P.length=P
 par:∀ x∈P,sc.names.lookup x=some .local\/sc.names.lookup x=some .cell
 nofree:∀ y∈sc.names,y.2≠.free
theorem zjD {kindOf:Str->Option NameKind} {x:Str}:∀ {binds:List (Str×Value)} {m:Str->Option Value},(∀ v,(x,v)∉binds)->bindL kindOf binds m x=m x
 | [],_,_=>rfl
 | (n,v)::r,m,h=>by
  unfold bindL
  rw [zjD fun w hw=>h w (qg _ hw)]
  split
  ·have:x≠n:=by rintro rfl;exact h v qf
   simp [this]
  ·rfl
theorem zjF {kindOf:Str->Option NameKind} {x:Str}:∀ {binds:List (Str×Value)} {m:Str->Option Value},(∀ v,(x,v)∉binds)->bindC kindOf binds m x=m x
 | [],_,_=>rfl
 | (n,v)::r,m,h=>by
  unfold bindC
  rw [zjF fun w hw=>h w (qg _ hw)]
  split
  ·rfl
  ·have:x≠n:=by rintro rfl;exact h v qf
   simp [this]
theorem zjE {kindOf:Str->Option NameKind} {x:Str} {v:Value}:∀ {P:List Str} {vs:List Value} {i:Nat} {m:Str->Option Value},P.Nodup->P[i]?=some x->vs[i]?=some v->kindOf x=some .local ->
  bindL kindOf (P.zip vs) m x=some v
 | [],_,_,_,_,h,_,_=>by simp at h
 | _::_,[],_,_,_,_,h,_=>by simp at h
 | p::P,w::vs,0,m,nd,h1,h2,hk=>by
  simp at h1 h2;subst h1;subst h2
  show bindL kindOf ((p,w)::P.zip vs) m p=_
  unfold bindL
  rw [zjD fun v hv=>(List.nodup_cons.mp nd).1 (List.of_mem_zip hv).1,qV hk]
  simp
 | p::P,w::vs,i+1,m,nd,h1,h2,hk=>by
  show bindL kindOf ((p,w)::P.zip vs) m x=_
  unfold bindL
  exact zjE (i:=i) (List.nodup_cons.mp nd).2 (by simpa using h1) (by simpa using h2) hk
theorem zjG {kindOf:Str->Option NameKind} {x:Str} {v:Value}:∀ {P:List Str} {vs:List Value} {i:Nat} {m:Str->Option Value},P.Nodup->P[i]?=some x->vs[i]?=some v->kindOf x≠some .local ->
  bindC kindOf (P.zip vs) m x=some v
 | [],_,_,_,_,h,_,_=>by simp at h
 | _::_,[],_,_,_,_,h,_=>by simp at h
 | p::P,w::vs,0,m,nd,h1,h2,hk=>by
  simp at h1 h2;subst h1;subst h2
  show bindC kindOf ((p,w)::P.zip vs) m p=_
  unfold bindC
  rw [zjF fun v hv=>(List.nodup_cons.mp nd).1 (List.of_mem_zip hv).1,qW hk]
  simp
 | p::P,w::vs,i+1,m,nd,h1,h2,hk=>by
  show bindC kindOf ((p,w)::P.zip vs) m x=_
  unfold bindC
  exact zjG (i:=i) (List.nodup_cons.mp nd).2 (by simpa using h1) (by simpa using h2) hk
def zfs (N:List Str) (vs:List V):St:=vs.map some++List.replicate (N.length - vs.length) none
def zlH (CX:CXT) (P:Program) (w:World) (K:PySem.W.Frag) (mg:Str->Option Value) (base:Heap) (N:List Str) (qual:Str) (scope:Scope) (f:Addr) (cd:Value) (A:Around) (outer:List Env) (s:Shared) (H:Hp) (E:XK):Cx where
 prog:=P
 w:=w
 K:=K
 mg:=mg
 base:=base
 A:=A.deeper (envOfC qual scope s.heap.objs.size f cd)
 N:=N
 s₀:=s
 H₀:=H
 env:=envOfC qual scope s.heap.objs.size f cd
 outer:=outer
 stack:=envOfC qual scope s.heap.objs.size f cd::outer
 ex:=[]
 calm:=true
 fn:=fun _=>true
 pn:=[]
 xe:=fun e s'=>wpAny (model P w) (A.deeper (envOfC qual scope s.heap.objs.size f cd)) (leaving (envOfC qual scope s.heap.objs.size f cd) e) (fun _ s''=>CX outer H s E e s'') (fun e' s''=>CX outer H s E e' s'') s'
theorem zk4 {sc:Scope} {n:Nat} {x:Str} (h:sc.names.lookup x=some .cell):∃ c,(cellsFrom n sc.names []).lookup x=some c:=by
 have q:=PySem.W.cellsFrom_some sc.names n [] (.inl h)
 exact Option.isSome_iff_exists.mp q
theorem zmI {CX:CXT} {P:Program} {w:World} {K:PySem.W.Frag} {mg:Str->Option Value} {base:Heap} {N ps:List Str} {qual:Str} {scope:Scope} {f:Addr} {cd:Value} {A:Around} {outer:List Env} {s s1:Shared} {H:Hp} {E:XK} {us:List Value} {vs:List V}
  (S:FnScope N ps scope) (hd:A.handled=none) (e0:Env0 P w K mg base A outer s H) (hl:vs.length=ps.length) (r:zbX vs us)
  (x:InCallC s s.heap.objs.size (bindL (envOfC qual scope s.heap.objs.size f cd).kindOf (ps.zip us) fun _=>none) (cellsFrom (s.heap.objs.size+1) scope.names []) (bindC (envOfC qual scope s.heap.objs.size f cd).kindOf (ps.zip us) fun _=>none) s1) :
  Inv (zlH CX P w K mg base N qual scope f cd A outer s H E) [] (zfs N vs) H s1:=by
 have hpl:ps.length<=N.length:=by have:=congrArg List.length S.pre;rw [qB] at this;omega
 obtain ⟨h1,tk,rfl,hk⟩:=x.done
 have noA:∀ b:Addr,b∉(zlH CX P w K mg base N qual scope f cd A outer s H E).ex:=fun b z=>absurd (show b∈([]:List Addr) from z) (by simp)
 refine ⟨⟨e0.mod,S.kind,rfl,rfl,qu _,fun y z c h1 h2=>?_,fun y hy=>?_,fun y c _ h=>?_,fun _=>hd,Around.frames_deeper e0.frames,.inr ⟨rfl,rfl⟩,fun b z=>absurd z (noA b),e0.bs,e0.bsz,fun b _ _=>noA b,fun b z=>absurd z (noA b),e0.funs,e0.frf⟩,
  rfl,e0.bare,Un.kept hk,⟨_,x.toInCall.ns,fun i y v h1 h2 h3=>?_⟩,fun y c h=>⟨_,x.cell y c h⟩,e0.hok.fresh (qu _),fun y c h=>?_,fun p hp=>absurd (show p∈([]:List (Addr×Obj)) from hp) (by simp),e0.hok.kept hk,?_⟩
 ·exact name_of_addr x.apart (PySem.mem_of_lookup h1) (PySem.mem_of_lookup h2)
 ·have hy:scope.names.lookup y=some .cell\/scope.names.lookup y=some .free:=hy
  rcases hy with hy | hy
  ·exact zk4 hy
  ·exact absurd rfl (S.nofree _ (PySem.mem_of_lookup hy))
 ·exact Nat.le_of_lt (x.above y c (PySem.mem_of_lookup h))
 ·have hi:i < vs.length:=by
   unfold zfs at h2
   by_cases hi:i < vs.length
   ·exact hi
   ·rw [qH (by simpa using hi)] at h2
    rw [List.getElem?_replicate] at h2
    split at h2 <;> cases h2
  have ha:vs[i]?=some v:=by
   unfold zfs at h2
   rw [qw (by simpa using hi),qj] at h2
   cases e:vs[i]? with
   | none=>rw [e] at h2;cases h2
   | some a=>rw [e] at h2;cases h2;rfl
  obtain ⟨u,hu,rv⟩:=r.get ha
  have hp:ps[i]?=some y:=by
   rw [← S.pre,List.getElem?_take_of_lt (by omega)];exact h1
  have ndP:ps.Nodup:=by rw [← S.pre];exact S.nd.sublist (List.take_sublist _ _)
  refine ⟨u,rv,?_⟩
  rcases S.par y (qM hp) with k | k
  ·exact .inl ⟨k,zjE ndP hp hu k⟩
  ·obtain ⟨c,e⟩:=zk4 (n:=s.heap.objs.size+1) k
   refine .inr ⟨.inl k,c,e,?_⟩
   have q:=x.cell y c e
   rw [zjG ndP hp hu (by show scope.names.lookup y≠_;rw [k];decide)] at q
   exact q
 ·exact e0.hok.fresh (Nat.le_of_lt (x.above y c (PySem.mem_of_lookup h)))
 ·unfold zfs
  show _=N.length
  rw [qi,qe,List.length_replicate]
  omega
theorem zuh {CX:CXT} {P:Program} {w:World} {K:PySem.W.Frag} {mg:Str->Option Value} {base:Heap} {k:Nat} {f:Addr} {name qual:Str} {params:Arguments} {body:List Stmt} {scope:Scope} {dV kV doc pm cdv ct oc:Value} {an od:Option Addr}
  {osl:Array (Option Value)} {N ps:List Str} {sp:Sp} (lk:K.lookup f=some ⟨oc,od,.func (PySem.W.fnOf name qual params body scope dV kV doc pm an cdv ct),osl⟩) (hcd:PySem.W.codeIn K cdv qual=true) (S:FnScope N ps scope)
  (len:∀ vs H Q E,sp vs H Q E->vs.length=ps.length)
  (hbody:∀ (A:Around) (outer:List Env) (s:Shared) (H:Hp) (vs:List V) (Q:VK) (E:XK),Room k (A.deeper (envOfC qual scope s.heap.objs.size f cdv))->sp vs H Q E ->
   ∃ t,PSs (zlH CX P w K mg base N qual scope f cdv A outer s H E) body t/\t { nx:=fun _ H'=>Q .non H',rt:=Q } (zfs N vs) H) :
  FnOk P w K mg base CX (k+1) f (PySem.W.fnOf name qual params body scope dV kV doc pm an cdv ct) ps sp:=by
 refine ⟨len,fun A outer s H args us vs Q E hr e0 hb r hsp=>?_⟩
 have hl:=len _ _ _ _ hsp
 have KX:K.In s.heap:=e0.mod.kin.keeps fun b o e=>(e0.bs b o e).1
 have lim:s.heap.NoLimit:=e0.mod.nolimit.keeps fun b o e=>(e0.bs b o e).1
 have hkind:∀ y∈ps.zip us,scope.names.lookup y.1=some .local\/(scope.names.lookup y.1=some .cell/\((cellsFrom (s.heap.objs.size+1) scope.names []).lookup y.1).isSome=true):=fun ⟨n,v⟩ hy=>by
  rcases S.par n (List.of_mem_zip hy).1 with q | q
  ·exact .inl q
  ·exact .inr ⟨q,PySem.W.cellsFrom_some _ _ _ (.inl q)⟩
 refine codeAny_call_function hr.depth (KX _ _ lk) rfl S.co S.gen rfl (PySem.W.codeRec_of KX hcd) (hb _ _ _ _ ?_)
 refine wpAny_newFunctionEnv_cells S.kind hkind fun env he s1 x=>?_
 subst he
 refine ⟨lim.keeps x.toInCall.keep,codeAny_func ?_⟩
 obtain ⟨t,ht,hq⟩:=hbody A outer s H vs Q E (hr.deeper _) hsp
 have I:Inv (zlH CX P w K mg base N qual scope f cdv A outer s H E) [] (zfs N vs) H s1:=zmI S hr.hd e0 hl r x
 refine wpAny_mono (ht [] s1 (zfs N vs) H _ I hq) (fun fl s' hs=>?_) fun e s' hs=>hs
 have fin:∀ {σ':St} {H':Hp} {v:V} {u:Value},Inv (zlH CX P w K mg base N qual scope f cdv A outer s H E) [] σ' H' s'->zcF v u->Q v H'->CE outer P w H s Q u s' :=
  fun {σ' H' v u} J rv q=>⟨v,H',J.os,J.bare,J.base,J.hok,rv,q⟩
 cases fl with
 | ret u =>
  obtain ⟨v,σ',H',J,rv,q⟩:=hs
  exact fin J rv q
 | next =>
  obtain ⟨σ',H',J,q⟩:=hs
  exact fin (v:=V.non) (u:=Value.none) J rfl q
 | brk =>
  obtain ⟨_,_,_,q⟩:=hs
  exact False.elim q
 | cont =>
  obtain ⟨_,_,_,q⟩:=hs
  exact False.elim q
end L2
namespace L2
open PySem PySem.Spec PyProof.Rows
section
variable {X:Cx} {x:Str} {p pos:Pos} {e:Expr} {es:List Expr} {t:TA} {id T:String} {r:List V->Hp->VK->Prop}
def tCB (r:List V->Hp->VK->Prop) (t:TA):TE:=fun σ H Q=>t σ H fun vs H1=>r vs H1 Q
theorem zkC (hc:zfK X (.builtin id) r) (hg:Gl X x) (hm:X.mg x=none) (hv:bootBuiltins x=some (.builtin id)) (ha:PA X (e::es) t) (hn:x≠"__name__":=by decide) (hdb:(x==("__debug__":Str))=false:=by decide)
  (he:starEach (e::es) X.env=(false,eval e X.env)::starEach es X.env:=by rfl) (hpl:(backTo pos (starEach es X.env)).any (·.1)=false:=by rfl):PE X (.Call (.Name x p) (e::es) [] pos) (tCB r t):=by
 intro pins s σ H Q I h
 refine wpAny_Call_Name_kw (zhU I hg hm hv ?_ hn hdb)
 exact PyProof.Rows.callWith_builtin1 (thn (ha pos pins s σ H _ I h) fun us s1 ⟨vs,H1,I1,r1,q1⟩=>hc pins s1 σ H1 vs us Q I1 r1 q1) he hpl
theorem zjc (hc:zfK X (.type T) r) (hg:Gl X x) (hm:X.mg x=none) (hv:bootBuiltins x=some (.type T)) (ha:PA X (e::es) t) (hn:x≠"__name__":=by decide) (hdb:(x==("__debug__":Str))=false:=by decide)
  (he:starEach (e::es) X.env=(false,eval e X.env)::starEach es X.env:=by rfl) (hpl:(backTo pos (starEach es X.env)).any (·.1)=false:=by rfl):PE X (.Call (.Name x p) (e::es) [] pos) (tCB r t):=by
 intro pins s σ H Q I h
 refine wpAny_Call_Name_kw (zhU I hg hm hv ?_ hn hdb)
 exact PyProof.Rows.callWith_type1 (thn (ha pos pins s σ H _ I h) fun us s1 ⟨vs,H1,I1,r1,q1⟩=>hc pins s1 σ H1 vs us Q I1 r1 q1) he hpl
end
end L2
end
section
namespace HT
open PySem PyProof.Rows
section
open PySem.SeqAt
open PySem.AutoSeq1 (wpAny_loadPart')
open PySem.MeetsSeq PySem.MeetsSeq2 PySem.MeetsSeq3
end
section
variable {prog:Program} {w:World} {A:Around} {E:Value->Shared->Prop} {s:Shared}
theorem cat_tup {t b:Addr} {vs ws:List Value} {Q:Value->Shared->Prop} (ht:IsTup s.heap t vs.toArray) (hb:IsTup s.heap b ws.toArray) (hv:vs≠[])
  (h1:ws=[]->Q (.ref t) s) (h2:ws≠[]->Q (.ref s.heap.objs.size) { s with heap:=s.heap.push { cls:=.type "tuple",data:=.seq (vs++ws).toArray } })
  (hsz:vs.length+ws.length<=sizeLine):wpAny (model prog w) A (binaryOp .Add (.ref t) (.ref b)) Q E s:=by
 obtain ⟨⟨cls,dd,data,sl⟩,ho,hc,n,hd⟩:=id ht
 obtain ⟨⟨cls2,dd2,data2,sl2⟩,ho2,hc2,n2,hd2⟩:=id hb
 simp only at hc hd hc2 hd2
 subst hc hd hc2 hd2
 have e:vs.toArray++ws.toArray=(vs++ws).toArray:=by simp
 by_cases hw:ws=[]
 ·exact concat_meets ⟨_,ho,rfl⟩ ⟨_,ho2,rfl⟩ noFill_tuple_add seq_tuple_add PySem.F.slot_tuple_add PySem.F.entry_tuple_add (PySem.F.args_tuple_add_2 _ _)
   (tuple_addW1 t b vs.toArray ws.toArray n n2 dd dd2 sl sl2 (by simpa using hv) (by simp [hw])) ⟨ho,ho2,h1 hw⟩
 ·refine concat_meets ⟨_,ho,rfl⟩ ⟨_,ho2,rfl⟩ noFill_tuple_add seq_tuple_add PySem.F.slot_tuple_add PySem.F.entry_tuple_add (PySem.F.args_tuple_add_2 _ _)
   (tuple_addW2 t b vs.toArray ws.toArray n n2 dd dd2 sl sl2 (by simpa using hv) (by simpa using hw) (by rw [qy,qy];exact hsz)) ⟨ho,ho2,?_⟩
  rw [e]
  exact h2 hw
def sIx (n d:Nat):Option Int->Nat
 | none=>d
 | some v=>if v < 0 then (v+(n:Int)).toNat else min v.toNat n
theorem zrR (n d:Nat) (hd:d<=n) (o:Option Int):sIx n d o<=n:=by
 cases o with
 | none=>exact hd
 | some v =>
  show (if v < 0 then (v+(n:Int)).toNat else min v.toNat n)<=n
  by_cases hv:v < 0
  ·rw [qV hv];omega
  ·rw [qW hv];exact Nat.min_le_right _ _
theorem zne (v:Int) (n d:Nat):(if v < 0 then max (v+(n:Int)) 0 else min v (n:Int))=((sIx n d (some v):Nat):Int):=by
 show (if v < 0 then max (v+(n:Int)) 0 else min v (n:Int))=(((if v < 0 then (v+(n:Int)).toNat else min v.toNat n):Nat):Int)
 by_cases hv:v < 0
 ·simp only [qV hv];omega
 ·simp only [qW hv];omega
theorem zlC (lo hi:Option Int) (n:Nat):Builtin.Slice.sliceAdjust lo hi 1 (n:Int)=(((sIx n 0 lo:Nat):Int),((sIx n n hi:Nat):Int)):=by
 have h1:¬ ((1:Int) < 0):=by omega
 unfold Builtin.Slice.sliceAdjust
 simp only [h1,if_false]
 refine Prod.ext ?_ ?_
 ·cases lo with
  | none=>rfl
  | some v=>exact zne v n 0
 ·cases hi with
  | none=>rfl
  | some v=>exact zne v n n
theorem zlk (i j:Nat):Builtin.Slice.slicePlaces (i:Int) (j:Int) 1=j - i:=by
 unfold Builtin.Slice.slicePlaces
 have h1:(1:Int) > 0:=by omega
 simp only [h1,if_true,Int.ediv_one]
 split <;> omega
theorem zhL {v:Value} {o:Option Int} {Q:Option Int->Shared->Prop} (p:IsPart v o) (h:Q o s):wpAny (model prog w) A (Builtin.Slice.slicePartIndex v) Q E s:=by
 cases p with
 | none=>exact slicePart_none h
 | int i t=>exact slicePart_int h
theorem zgo {sl:Addr} {vl vu:Value} {lo hi:Option Int} {n:Nat} {Q:Int×Int×Nat->Shared->Prop} (hs:s.heap.IsSliceOf sl vl vu .none) (pl:IsPart vl lo) (pu:IsPart vu hi)
  (h:Q (((sIx n 0 lo:Nat):Int),1,sIx n n hi - sIx n 0 lo) s):wpAny (model prog w) A (Builtin.Slice.sliceApplied (.ref sl) (pure (n:Int))) Q E s:=by
 obtain ⟨os,hos,hcs,hds⟩:=id hs
 unfold Builtin.Slice.sliceApplied Builtin.Slice.sliceFields
 refine qv (qv (wpAny_field hos hds (x:=vl) rfl (qv (wpAny_field hos hds (x:=vu) rfl (qv (wpAny_field hos hds (x:=.none) rfl (qx ?_)))))))
 refine qv (slicePart_none ?_)
 show wpAny _ _ (if ((1:Int)==0)=true then _ else _) _ _ s
 rw [qW (by decide)]
 refine qv (zhL pl (qv (zhL pu (qv (qx ?_)))))
 show wpAny _ _ (match Builtin.Slice.sliceAdjust lo hi 1 (n:Int) with | (lo,hi)=>pure (lo,(1:Int),Builtin.Slice.slicePlaces lo hi 1)) _ _ s
 rw [zlC lo hi n]
 show wpAny _ _ (pure (((sIx n 0 lo:Nat):Int),(1:Int),Builtin.Slice.slicePlaces ((sIx n 0 lo:Nat):Int) ((sIx n n hi:Nat):Int) 1)) _ _ s
 rw [zlk]
 exact qx h
theorem znS (xs:Array Value) (i k:Nat):((List.range k).filterMap fun (m:Nat)=>xs[((i:Int)+(m:Int)*1).toNat]?).toArray=((xs.toList.drop i).take k).toArray:=by
 have e:(fun (m:Nat)=>xs[((i:Int)+(m:Int)*1).toNat]?)=fun m=>xs[i+m]?:=by
  funext m
  have:((i:Int)+(m:Int)*1).toNat=i+m:=by omega
  rw [this]
 rw [e]
 have:=pick_run xs i k
 rw [List.filterMap_map] at this
 have e2:((fun x=>xs[x]?) ∘ fun x=>i+x)=fun m=>xs[i+m]?:=rfl
 rw [e2] at this
 rw [this]
theorem getItem_tuple_cut {t sl:Addr} {items:Array Value} {vl vu:Value} {lo hi:Option Int} {Q:Value->Shared->Prop} (ht:IsTup s.heap t items) (hs:s.heap.IsSliceOf sl vl vu .none) (pl:IsPart vl lo) (pu:IsPart vu hi)
  (hw:¬ (sIx items.size 0 lo=0/\sIx items.size items.size hi=items.size))
  (h:Q (.ref s.heap.objs.size) { s with heap:=s.heap.push { cls:=.type "tuple",data:=.seq ((items.toList.drop (sIx items.size 0 lo)).take (sIx items.size items.size hi - sIx items.size 0 lo)).toArray } })
  (hsz:items.size<=sizeLine):wpAny (model prog w) A (getItem (.ref t) (.ref sl)) Q E s:=by
 have htake:sizeOk (.seq ((items.toList.drop (sIx items.size 0 lo)).take (sIx items.size items.size hi - sIx items.size 0 lo)).toArray):=by
  show ((items.toList.drop (sIx items.size 0 lo)).take (sIx items.size items.size hi - sIx items.size 0 lo)).toArray.size<=sizeLine
  rw [qy,qB,List.length_drop,Array.length_toList]
  omega
 have hj:sIx items.size items.size hi<=items.size:=zrR _ _ (qu _) hi
 obtain ⟨os,hos,hcs,hds⟩:=id hs
 have hTs:s.TypeIs (.ref sl) "slice":=⟨os,hos,hcs⟩
 unfold getItem
 try with_reducible refine qQ ?_
 first | refine qv (qx ?_) | skip
 refine qv (wpAny_sequenceKey ht.typeIs (by decide) ?_)
 refine qv (wpAny_callSpecial?_slot (name:=Str.ofString "__getitem__") ht.typeIs PyProof.Rows.slot_tuple_getitem
  (wpAny_call_entry PyProof.Rows.slot_tuple_getitem ht.typeIs entry_tuple_getitem ?_ (args_tuple_getitem _ _)))
 show wpAny _ _ (Builtin.Tuple.tupleItemsOf (.ref t) >>= _) _ _ s
 refine qv (tupleItemsOf_ ht ?_)
 refine qv (wpAny_typeOf hTs ?_)
 rw [qV (by decide)]
 refine qv (zgo hs pl pu ?_)
 have hno:¬ ((((sIx items.size 0 lo:Nat):Int)==0 && (1:Int)==1 && (sIx items.size items.size hi - sIx items.size 0 lo)==items.size)=true):=by
  intro q
  rw [Bool.and_eq_true,Bool.and_eq_true] at q
  have q1:((sIx items.size 0 lo:Nat):Int)=0:=eq_of_beq q.1.1
  have q2:sIx items.size items.size hi - sIx items.size 0 lo=items.size:=eq_of_beq q.2
  exact hw ⟨by omega,by omega⟩
 show wpAny _ _ (if (((sIx items.size 0 lo:Nat):Int)==0 && (1:Int)==1 && (sIx items.size items.size hi - sIx items.size 0 lo)==items.size)=true then _ else _) _ _ s
 rw [qW hno,znS]
 first
  | exact qv (m:=Builtin.Tuple.tupleExact _) (wpAny_newObj_type (qx ⟨_,rfl,qx h⟩) htake)
  | exact qv (m:=Builtin.Tuple.tupleExact _) (wpAny_newObj_type (qv (qx (qx ⟨_,rfl,qx h⟩))) htake)
  | exact qv (qv (m:=Builtin.Tuple.tupleExact _) (wpAny_newObj_type (qx (qx ⟨_,rfl,qx h⟩)) htake))
  | exact qv (qv (m:=Builtin.Tuple.tupleExact _) (wpAny_newObj_type (qx ⟨_,rfl,qx h⟩) htake))
end
end HT
namespace L2
open PySem PySem.Spec PyProof.Rows
abbrev TO:=St->Hp->(Option Int->Hp->Prop)->Prop
def PO (X:Cx) (e:Option Expr) (t:TO):Prop :=
 ∀ (pins:List (Addr×Obj)) (s:Shared) (σ:St) (H:Hp) (Q:Option Int->Hp->Prop),Inv X pins σ H s->t σ H Q ->
  wpAny (model X.prog X.w) X.A (evalPart e X.env) (fun u s'=>∃ o H',Inv X pins σ H' s'/\IsPart u o/\Q o H') X.xe s
def zpB:TO:=fun _ H Q=>Q none H
def ztE (t:TE):TO:=fun σ H Q=>t σ H fun x H1=>∃ i,x=.int i/\Q (some i) H1
section
variable {X:Cx} {e:Expr} {te:TE} {lo hi:Option Expr} {tl th:TO} {pos p2:Pos}
theorem zp4:PO X none zpB:=by
 intro pins s σ H Q I h
 rw [evalPart_none]
 exact qx ⟨none,H,I,.none,h⟩
theorem zp3 (h:PE X e te):PO X (some e) (ztE te):=by
 intro pins s σ H Q I hw
 rw [evalPart_some]
 refine thn (h pins s σ H _ I hw) fun u s1 ⟨x,H1,I1,r1,q1⟩=>?_
 obtain ⟨i,rfl,q⟩:=q1
 obtain ⟨t,rfl⟩:=r1
 exact ⟨some i,H1,I1,.int i t,q⟩
def SlR (X:Cx) (r:V->Option Int->Option Int->Hp->VK->Prop):Prop :=
 ∀ (pins:List (Addr×Obj)) (s:Shared) (σ:St) (H:Hp) (x:V) (v vl vu:Value) (lo hi:Option Int) (sl:Addr) (Q:VK),Inv X pins σ H s->zcF x v->s.heap.IsSliceOf sl vl vu .none->IsPart vl lo->IsPart vu hi->r x lo hi H Q ->
  ∃ T id,typeLookup (.type T) "__getitem__"=pure (some (.builtin id))/\s.TypeIs v T/\wpAny (model X.prog X.w) X.A (getItem v (.ref sl)) (EP X pins σ Q) X.xe s
theorem SlR.or {r r':V->Option Int->Option Int->Hp->VK->Prop} (h:SlR X r) (h':SlR X r'):SlR X (fun x lo hi H Q=>r x lo hi H Q\/r' x lo hi H Q):=by
 intro pins s σ H x v vl vu lo hi sl Q I rx hs pl pu q
 rcases q with q | q
 ·exact h pins s σ H x v vl vu lo hi sl Q I rx hs pl pu q
 ·exact h' pins s σ H x v vl vu lo hi sl Q I rx hs pl pu q
def tSl (r:V->Option Int->Option Int->Hp->VK->Prop) (te:TE) (tl th:TO):TE:=fun σ H Q=>te σ H fun x H1=>tl σ H1 fun l H2=>th σ H2 fun u H3=>r x l u H3 Q
theorem znU {r:V->Option Int->Option Int->Hp->VK->Prop} (hr:SlR X r) (he:PE X e te) (hl:PO X lo tl) (hu:PO X hi th):PE X (.Subscript e (.Slice lo hi none p2) pos) (tSl r te tl th):=by
 intro pins s σ H Q I h
 refine Subscript_ (thn (he pins s σ H _ I h) fun v s1 ⟨x,H1,I1,r1,q1⟩=>?_)
 refine wpAny_Slice (thn (hl pins s1 σ H1 _ I1 q1) fun vl s2 ⟨l,H2,I2,pl,q2⟩=>thn (hu pins s2 σ H2 _ I2 q2) fun vu s3 ⟨u,H3,I3,pu,q3⟩=>?_)
 rw [evalPart_none]
 refine qx ?_
 have I4:Inv X pins σ H3 { s3 with heap:=s3.heap.push { cls:=.type "slice",data:=.fields #[vl,vu,.none] } }:=I3.kept (t':=s3.toks) fun b ob q=>qr _ q
 obtain ⟨T,id,hT,ht,hg⟩:=hr pins { s3 with heap:=s3.heap.push { cls:=.type "slice",data:=.fields #[vl,vu,.none] } } σ H3 x v vl vu l u s3.heap.objs.size Q I4 r1 (Heap.IsSliceOf.new ..) pl pu q3
 show wpAny (model X.prog X.w) X.A (subscriptTail e (.Slice lo hi none p2) v (.ref s3.heap.objs.size)) (EP X pins σ Q) X.xe { s3 with heap:=s3.heap.push { cls:=.type "slice",data:=.fields #[vl,vu,.none] } }
 exact tail_any (ops:=[.ref s3.heap.objs.size,v]) ht hT hg (by with_unfolding_all rfl)
def zpk (xs:List V) (lo hi:Option Int):List V:=(xs.drop (HT.sIx xs.length 0 lo)).take (HT.sIx xs.length xs.length hi - HT.sIx xs.length 0 lo)
theorem zha (xs:List V) (lo hi:Option Int):(zpk xs lo hi).length<=xs.length:=by
 unfold zpk
 rw [qB,List.length_drop]
 omega
def zvv (K:PySem.W.Frag):V->Option Int->Option Int->Hp->VK->Prop:=fun x lo hi H Q=>∃ a xs,x=.ref a/\SqT K H a xs /\
 ¬ (HT.sIx xs.length 0 lo=0/\HT.sIx xs.length xs.length hi=xs.length)/\∀ p,H p=none->Q (.ref p) (upd H p (.tup (zpk xs lo hi)))
theorem zrJ:SlR X (zvv X.K):=by
 intro pins s σ H x v vl vu lo hi sl Q I rx hs pl pu h
 obtain ⟨a,xs,rfl,hx,hw,q⟩:=h
 cases rx
 obtain ⟨its,r,ht,hz⟩:=I.tuple hx
 have hlen:its.toArray.size=xs.length:=by rw [qy];exact r.length.symm
 refine ⟨"tuple",_,PyProof.Rows.slot_tuple_getitem.lookup,ht.typeIs,?_⟩
 refine HT.getItem_tuple_cut ht hs pl pu (by rw [hlen];exact hw) ?_ (by rw [hlen];exact hz)
 rw [hlen]
 refine ⟨.ref s.heap.objs.size,_,I.laid (t':=s.toks) (o:=.tup (zpk xs lo hi)) (fun b ob q=>qr _ q) (qu _) ?_,rfl,q _ (I.hok.fresh (qu _))⟩
 exact ⟨qJ (zha xs lo hi) hz,_,(r.drop (HT.sIx xs.length 0 lo)).take (HT.sIx xs.length xs.length hi - HT.sIx xs.length 0 lo),IsTup.new _ _⟩
def zrY (K:PySem.W.Frag):R2:=fun x y H Q=>∃ a b xs ys,x=.ref a/\y=.ref b/\SqT K H a xs/\SqT K H b ys/\xs≠[]/\xs.length+ys.length<=sizeLine /\
 (ys=[]->Q (.ref a) H)/\(ys≠[]->∀ p,H p=none->Q (.ref p) (upd H p (.tup (xs++ys))))
theorem zbX.nil_iff {xs:List V} {us:List Value} (r:zbX xs us):us=[]↔xs=[]:=by
 cases r with
 | nil=>simp
 | cons _ _=>simp
theorem zqi:OpR X (binaryOp .Add) (zrY X.K):=by
 intro pins s σ H x y v u Q I rx ry h
 obtain ⟨a,b,xs,ys,rfl,rfl,ha,hb,hx,hz,q1,q2⟩:=h
 cases rx
 cases ry
 obtain ⟨its,r1,p1,_⟩:=I.tuple ha
 obtain ⟨its2,r2,p2,_⟩:=I.tuple hb
 refine HT.cat_tup p1 p2 (fun z=>hx (r1.nil_iff.mp z)) (fun z=>⟨.ref a,H,I,rfl,q1 (r2.nil_iff.mp z)⟩) (fun z=>?_) (by rw [← r1.length,← r2.length];exact hz)
 refine ⟨.ref s.heap.objs.size,_,I.laid (t':=s.toks) (o:=.tup (xs++ys)) (fun b ob q=>qr _ q) (qu _) ?_,rfl,q2 (fun w=>z (r2.nil_iff.mpr w)) _ (I.hok.fresh (qu _))⟩
 exact ⟨by rw [qi];exact hz,_,r1.append r2,IsTup.new _ _⟩
end
end L2
namespace L2
open PySem PySem.Spec PyProof.Rows
def ixN (n:Nat) (i:Int):Option Nat:=if 0<=i then (if i < n then some i.toNat else none) else if -(n:Int)<=i then some (i+n).toNat else none
def atI {α:Type} (xs:List α) (i:Int):Option α:=(ixN xs.length i).bind fun j=>xs[j]?
theorem zqJ {n:Nat} {i:Int} {j:Nat} (h:ixN n i=some j):seqIndex? i n=some j/\j < n /\ -(n:Int)<=i/\i < n:=by
 unfold ixN at h
 by_cases h0:0<=i
 ·rw [qV h0] at h
  by_cases h1:i < n
  ·rw [qV h1] at h
   have e:i.toNat=j:=qE h
   exact ⟨by rw [seqIndex_of h0 h1,e],by omega,by omega,h1⟩
  ·rw [qW h1] at h;cases h
 ·rw [qW h0] at h
  by_cases h1 : -(n:Int)<=i
  ·rw [qV h1] at h
   have e:(i+n).toNat=j:=qE h
   exact ⟨by rw [seqIndex_neg (by omega) h1,e],by omega,h1,by omega⟩
  ·rw [qW h1] at h;cases h
theorem zkk {α:Type} {xs:List α} {i:Int} {v:α} (h:atI xs i=some v):∃ j,seqIndex? i xs.length=some j/\xs[j]?=some v/\j < xs.length /\ -(xs.length:Int)<=i/\i < xs.length:=by
 unfold atI at h
 cases e:ixN xs.length i with
 | none=>rw [e] at h;cases h
 | some j =>
  rw [e] at h
  obtain ⟨h1,h2,h3,h4⟩:=zqJ e
  exact ⟨j,h1,h,h2,h3,h4⟩
theorem zeC {α:Type} {xs:List α} {j:Nat} {v:α} (h:xs[j]?=some v):atI xs (j:Int)=some v:=by
 have hj:j < xs.length:=(List.getElem?_eq_some_iff.mp h).1
 have e:ixN xs.length (j:Int)=some j:=by
  unfold ixN
  rw [qV (by omega),qV (by omega)];simp
 unfold atI;rw [e];exact h
def zkl (b:Expr):Prop:=∀ o i,subscripted b false o i=operate [o,i] (getItem o i)
def IxR (X:Cx) (r:R2):Prop :=
 ∀ (value slice:Expr) (pins:List (Addr×Obj)) (s:Shared) (σ:St) (H:Hp) (x y:V) (v u:Value) (Q:VK),Inv X pins σ H s->zcF x v->zcF y u->r x y H Q ->
  subscripted slice false v u=operate [v,u] (getItem v u)->wpAny (model X.prog X.w) X.A (subscriptTail value slice v u) (EP X pins σ Q) X.xe s
def MtR (X:Cx) (id:String) (r:V->List V->Hp->VK->Prop):Prop :=
 ∀ (pins:List (Addr×Obj)) (s:Shared) (σ:St) (H:Hp) (x:V) (xs:List V) (v:Value) (us:List Value) (Q:VK),Inv X pins σ H s->zcF x v->zbX xs us->r x xs H Q ->
  wpAny (model X.prog X.w) X.A (call (.builtin id) (v::us)) (EP X pins σ Q) X.xe s
section
variable {X:Cx} {a b:Expr} {ta tb:TE} {pos:Pos}
theorem IxR.or {r r':R2} (h:IxR X r) (h':IxR X r'):IxR X (fun x y H Q=>r x y H Q\/r' x y H Q):=by
 intro value slice pins s σ H x y v u Q I rx ry q hs
 rcases q with q | q
 ·exact h value slice pins s σ H x y v u Q I rx ry q hs
 ·exact h' value slice pins s σ H x y v u Q I rx ry q hs
theorem zsi {r:R2} (hr:IxR X r) (ha:PE X a ta) (hb:PE X b tb) (hs:zkl b):PE X (.Subscript a b pos) (tOp r ta tb):=by
 intro pins s σ H Q I h
 exact Subscript_ (zuu ha hb I h fun v u s2 x y H2 I2 rx ry q=>hr a b pins s2 σ H2 x y v u Q I2 rx ry q (hs _ _))
def zuR (K:PySem.W.Frag):R2:=fun x y H Q=>∃ p xs i v,x=.ref p/\y=.int i/\SqL K H p xs/\atI xs i=some v/\Q v H
def zuP (K:PySem.W.Frag):R2:=fun x y H Q=>∃ p xs i v,x=.ref p/\y=.int i/\SqT K H p xs/\atI xs i=some v/\Q v H
def zuQ:R2:=fun x y H Q=>∃ z i c,x=.str z/\y=.int i/\z.length<=sizeLine/\atI z.cps.toList i=some c/\Q (.str ⟨#[c]⟩) H
theorem zqI:IxR X (zuR X.K):=by
 intro value slice pins s σ H x y v u Q I rx ry h hs
 obtain ⟨p,xs,i,z,rfl,rfl,hq,he,q⟩:=h
 cases rx
 obtain ⟨t,rfl⟩:=ry
 obtain ⟨its,r,pl,hz⟩:=I.list hq
 obtain ⟨j,h1,h2,h3,h4,h5⟩:=zkk he
 obtain ⟨w,ew,rw'⟩:=r.get h2
 have hl:=r.length
 have hn:=zjh
 have fin:EP X pins σ Q w s:=⟨z,H,I,rw',q⟩
 by_cases h0:0<=i
 ·have hj:i.toNat=j:=by
   rw [seqIndex_of h0 h5] at h1
   exact qE h1
  exact item_listR pl.isList h0 (by omega) (by rw [hj];simpa using ew) fin hs
 ·have hj:(i+(its.toArray.size:Int)).toNat=j:=by
   rw [seqIndex_neg (by omega) h4] at h1
   rw [qy,← hl]
   exact qE h1
  exact subscriptTail_builtinR (x:=w) pl.isList.typeIs slot_list_getitem.lookup
   (wpAny_getItem_list_neg (Q:=fun r s'=>r=w/\EP X pins σ Q r s') pl.isList (by omega) (by rw [qy] <;> omega) (by omega) (by rw [hj];simpa using ew) ⟨rfl,fin⟩) hs
theorem zsR:IxR X (zuP X.K):=by
 intro value slice pins s σ H x y v u Q I rx ry h hs
 obtain ⟨p,xs,i,z,rfl,rfl,hq,he,q⟩:=h
 cases rx
 obtain ⟨t,rfl⟩:=ry
 obtain ⟨its,r,pl,hz⟩:=I.tuple hq
 obtain ⟨j,h1,h2,h3,h4,h5⟩:=zkk he
 obtain ⟨w,ew,rw'⟩:=r.get h2
 have hl:=r.length
 have hn:=zjh
 have fin:EP X pins σ Q w s:=⟨z,H,I,rw',q⟩
 exact subscriptTail_builtinR (x:=w) pl.typeIs slot_tuple_getitem.lookup
  (getItem_tuple (j:=j) (Q:=fun r s'=>r=w/\EP X pins σ Q r s') pl (by omega) (by omega) (by rw [qy,← hl];exact h1) (by simpa using ew) ⟨rfl,fin⟩) hs
theorem zsS:IxR X zuQ:=by
 intro value slice pins s σ H x y v u Q I rx ry h hs
 obtain ⟨z,i,c,rfl,rfl,hz,he,q⟩:=h
 obtain ⟨t,rfl⟩:=rx
 obtain ⟨t',rfl⟩:=ry
 obtain ⟨j,h1,h2,h3,h4,h5⟩:=zkk he
 have hl:z.cps.toList.length=z.length:=by simp [Str.length]
 rw [hl] at h1 h4 h5
 have hn:=zjh
 exact tail_any (typeIs_str s z t) slot_str_getitem.lookup (getItem_str (c:=c) (by
  have e1:decide (i < -(2 ^ 63:Int))=false:=qK (by omega)
  have e2:decide (i ≥ 2 ^ 63)=false:=qK (by omega)
  rw [e1,e2,Bool.or_false]) (by rw [h1];simpa using h2) ⟨.str ⟨#[c]⟩,H,I.tok _,⟨_,rfl⟩,q⟩) hs
def rIx (K:PySem.W.Frag):R2:=fun x y H Q=>zuR K x y H Q\/zuP K x y H Q\/zuQ x y H Q
theorem zo8:IxR X (rIx X.K):=zqI.or (zsR.or zsS)
theorem zi1 (lo hi:Option Int) (n:Nat):(sliceBounds lo hi none n).1=((HT.sIx n 0 lo:Nat):Int)/\(sliceBounds lo hi none n).2.1=((HT.sIx n n hi:Nat):Int)/\(sliceBounds lo hi none n).2.2=1:=by
 refine ⟨?_,?_,rfl⟩
 ·cases lo with
  | none=>simp [sliceBounds,HT.sIx]
  | some i =>
   simp only [sliceBounds,HT.sIx,Option.getD_none,show (1:Int) > 0 by decide,if_true]
   by_cases h:i < 0
   ·simp only [h,if_true] <;> omega
   ·simp only [h,if_false] <;> omega
 ·cases hi with
  | none=>simp [sliceBounds,HT.sIx]
  | some i =>
   simp only [sliceBounds,HT.sIx,Option.getD_none,show (1:Int) > 0 by decide,if_true]
   by_cases h:i < 0
   ·simp only [h,if_true] <;> omega
   ·simp only [h,if_false] <;> omega
theorem zh9 (its:List Value) (lo hi:Option Int):slicePick its.toArray lo hi none=((its.drop (HT.sIx its.length 0 lo)).take (HT.sIx its.length its.length hi - HT.sIx its.length 0 lo)).toArray:=by
 obtain ⟨h1,h2,h3⟩:=zi1 lo hi its.toArray.size
 unfold slicePick
 rw [h1,h2,h3]
 simp only [sliceRange_one,pick_run,qy] <;> rfl
def zvw (K:PySem.W.Frag):V->Option Int->Option Int->Hp->VK->Prop:=fun x lo hi H Q=>∃ a xs,x=.ref a/\SqL K H a xs/\∀ p,H p=none->Q (.ref p) (upd H p (.lst (zpk xs lo hi)))
theorem zpN:SlR X (zvw X.K):=by
 intro pins s σ H x v vl vu lo hi sl Q I rx hs pl pu h
 obtain ⟨a,xs,rfl,hx,q⟩:=h
 cases rx
 obtain ⟨its,r,ht,hz⟩:=I.list hx
 have hlen:=r.length
 refine ⟨"list",_,slot_list_getitem.lookup,ht.isList.typeIs,?_⟩
 refine wpAny_getItem_list_slice ht.isList hs pl pu .none (by simp) ?_ (by rw [qy] <;> omega)
 rw [zh9,← hlen]
 refine ⟨.ref s.heap.objs.size,_,I.laid (t':=s.toks) (o:=.lst (zpk xs lo hi)) (fun b ob q=>qr _ q) (qu _) ?_,rfl,q _ (I.hok.fresh (qu _))⟩
 exact ⟨qJ (zha xs lo hi) hz,_,0,(r.drop (HT.sIx xs.length 0 lo)).take (HT.sIx xs.length xs.length hi - HT.sIx xs.length 0 lo),qD _ rfl⟩
theorem zju:zfK X (.type "list") (fun xs H Q=>∃ p ys,xs=[.ref p]/\(SqL X.K H p ys\/SqT X.K H p ys)/\∀ l,H l=none->Q (.ref l) (upd H l (.lst ys))):=by
 intro pins s σ H xs us Q I r h
 obtain ⟨p,ys,rfl,hq,q⟩:=h
 obtain ⟨u,rfl,rx⟩:=zfL r
 cases rx
 have fin:∀ (its:List Value),zbX ys its->ys.length<=sizeLine->∀ (h':Heap) (c':Nat),(∀ b o',s.heap.get? b=some o'->h'.get? b=some o') ->
   h'.get? s.heap.objs.size=some { cls:=.type "list",dict:=none,data:=.seq its.toArray c',slots:=#[] }->EP X pins σ Q (.ref s.heap.objs.size) { s with heap:=h' }:=fun its r' hz h' c' kp e =>
  ⟨.ref s.heap.objs.size,_,I.laid (t':=s.toks) kp (qu _) (show zcU X.prog X.w _ h' _ (.lst ys) from ⟨hz,its,c',r',e⟩),rfl,q _ (I.hok.fresh (qu _))⟩
 rcases hq with hq | hq
 ·obtain ⟨its,r',pl,hz⟩:=I.list hq
  have hlen:=r'.length
  obtain ⟨o,ho,hc,n,hd⟩:=pl.isList
  exact call_list_seq p (.inl rfl) ho hc hd (fun h' c' kp e=>fin its r' hz h' c' kp e) (by simp only [qy] <;> omega)
 ·obtain ⟨its,r',pl,hz⟩:=I.tuple hq
  have hlen:=r'.length
  obtain ⟨o,ho,hc,n,hd⟩:=pl
  exact call_list_seq p (.inr rfl) ho hc hd (fun h' c' kp e=>fin its r' hz h' c' kp e) (by simp only [qy] <;> omega)
theorem ziI:zfK X (.type "tuple") (fun xs H Q=>∃ p ys,xs=[.ref p]/\((SqL X.K H p ys/\∀ l,H l=none->Q (.ref l) (upd H l (.tup ys)))\/(SqT X.K H p ys/\Q (.ref p) H))):=by
 intro pins s σ H xs us Q I r h
 obtain ⟨p,ys,rfl,h⟩:=h
 obtain ⟨u,rfl,rx⟩:=zfL r
 cases rx
 rcases h with ⟨hq,q⟩ | ⟨hq,q⟩
 ·obtain ⟨its,r',pl,hz⟩:=I.list hq
  have hlen:=r'.length
  refine call_tuple_list pl.isList (fun h' kp=>?_) (by simp only [qy] <;> omega)
  have I1:Inv X pins σ H { s with heap:=h' }:=I.kept (t':=s.toks) kp
  have I2:Inv X pins σ (upd H h'.objs.size (.tup ys)) { s with heap:=h'.push { cls:=.type "tuple",data:=.seq its.toArray } } :=
   I1.laid (t':=s.toks) (fun b o e=>qr _ e) (qu _) (show zcU X.prog X.w _ _ _ (.tup ys) from ⟨hz,its,r',IsTup.new _ _⟩)
  exact ⟨.ref h'.objs.size,_,I2,rfl,q _ (I1.hok.fresh (qu _))⟩
 ·obtain ⟨its,r',pl,hz⟩:=I.tuple hq
  exact call_tuple_same pl ⟨.ref p,H,I,rfl,q⟩
def tyV (K:PySem.W.Frag) (T:String) (x:V) (H:Hp):Prop:=match x with
 | .str _=>T="str"
 | .int _=>T="int"
 | .ref p=>(T="list"/\∃ xs,SqL K H p xs)\/(T="tuple"/\∃ o,K.lookup p=some o/\o.cls=.type "tuple"/\o.dict=none) \/
   (T="dict"/\((∃ kvs,H p=some (.dK kvs))\/∃ kvs,H p=some (.dT kvs)))\/(T="set"/\∃ S n,H p=some (.set S n))
 | _=>False
theorem zru {pins:List (Addr×Obj)} {σ:St} {H:Hp} {s:Shared} {T:String} {x:V} {v:Value} (I:Inv X pins σ H s) (r:zcF x v) (ty:tyV X.K T x H) :
  s.TypeIs v T/\∀ a,v=.ref a->∃ ob,s.heap.get? a=some ob/\ob.dict=none:=by
 cases x with
 | str z =>
  obtain ⟨t,rfl⟩:=r
  cases (show T="str" from ty)
  exact ⟨typeIs_str s z t,fun _ e=>nomatch e⟩
 | int i =>
  obtain ⟨t,rfl⟩:=r
  cases (show T="int" from ty)
  exact ⟨typeIs_int s i t,fun _ e=>nomatch e⟩
 | ref p =>
  cases r
  rcases ty with ⟨rfl,xs,hq⟩ | ⟨rfl,o,hk,hc,hd⟩ | ⟨rfl,hk⟩ | ⟨rfl,S,n,hk⟩
  ·obtain ⟨its,_,pl,_⟩:=I.list hq
   refine ⟨pl.isList.typeIs,fun a e=>?_⟩
   cases e
   obtain ⟨o,n,e,c,hd,_⟩:=pl
   exact ⟨o,e,hd⟩
  ·refine ⟨⟨o,I.kIn p o hk,hc⟩,fun a e=>?_⟩
   cases e
   exact ⟨o,I.kIn _ o hk,hd⟩
  ·have z:∃ o,s.heap.get? p=some o/\o.ExactDict:=by
    rcases hk with ⟨kvs,hk⟩ | ⟨kvs,hk⟩
    ·obtain ⟨_,_,_,_,o,_,_,e,ex,_⟩:=I.hok p _ hk
     exact ⟨o,e,ex⟩
    ·obtain ⟨_,_,_,_,o,_,_,e,ex,_⟩:=I.hok p _ hk
     exact ⟨o,e,ex⟩
   obtain ⟨o,e,ex⟩:=z
   refine ⟨⟨o,e,ex.1⟩,fun a e2=>?_⟩
   cases e2
   exact ⟨o,e,ex.2.1⟩
  ·obtain ⟨o,_,_,_,e,ex,_⟩:=I.hok p _ hk
   refine ⟨⟨o,e,ex.1⟩,fun a e2=>?_⟩
   cases e2
   exact ⟨o,e,ex.2.1⟩
 | _=>exact False.elim ty
def tBM (K:PySem.W.Frag) (T:String) (r:V->List V->Hp->VK->Prop) (to:TE) (t:TA):TE:=fun σ H Q=>to σ H fun x H1=>tyV K T x H1/\t σ H1 fun xs H2=>r x xs H2 Q
variable {o e:Expr} {es:List Expr} {to:TE} {t:TA} {name:Str} {apos cpos:Pos} {T id:String} {r:V->List V->Hp->VK->Prop}
theorem znZ (pa:PlainAttrs T) (slot:Slot T name id) (hty:typeOf (.builtin id)=pure (.type "method_descriptor")) (hm:MtR X id r) (ho:PE X o to) (ha:PA X (e::es) t)
  (hbase:attributeBase o name X.env (eval o X.env)=eval o X.env:=by rfl)
  (hfew:((backTo cpos (starEach (e::es) X.env)).all (fun x=>!x.1) && (backToKw cpos (keywordEach [] X.env)).all (fun x=>x.1.isSome)
   && decide ((e::es).length+([]:List Keyword).length+(if ([]:List Keyword).isEmpty then 0 else 1) < 30))=true:=by rfl)
  (hline:(apos.endLine==cpos.line)=true:=by rfl) (hs:starEach (e::es) X.env=(false,eval e X.env)::starEach es X.env:=by rfl) (hplain:(backTo cpos (starEach es X.env)).any (·.1)=false:=by rfl) :
  PE X (.Call (.Attribute o name apos) (e::es) [] cpos) (tBM X.K T r to t):=by
 intro pins s σ H Q I h
 refine wpAny_Call_method_late hbase hfew hline rfl (thn (ho pins s σ H _ I h) fun v s1 ⟨x,H1,I1,r1,ty,q1⟩=>?_)
 obtain ⟨h1,h2⟩:=zru I1 r1 ty
 refine ⟨T,id,pa,slot,hty,h1,h2,?_⟩
 have hA:=ha cpos pins s1 σ H1 _ I1 q1
 rw [hs] at hA ⊢
 refine Calls.callWith_builtin (by show (false || (backTo cpos (starEach es X.env)).any (·.1))=false;rw [hplain] <;> rfl) (Calls.evalArgs_plain ?_)
 exact thn hA fun us s2 ⟨vs,H2,I2,r2,q2⟩=>hm pins s2 σ H2 x vs v us Q I2 r1 r2 q2
end
end L2
namespace L2
open PySem PySem.Spec PyProof.Rows
def MtM (X:Cx) (id:String) (r:V->List V->Hp->VK->Prop):Prop :=
 ∀ (pins:List (Addr×Obj)) (s:Shared) (σ:St) (H:Hp) (x:V) (xs:List V) (v:Value) (us:List Value) (Q:VK),Inv X pins σ H s->zcF x v->zbX xs us->r x xs H Q ->
  wpAny (model X.prog X.w) X.A (call (.builtin id) (v::us)) (EP X pins σ Q) X.xe s
theorem zbX.one:∀ {x:V} {us:List Value},zbX [x] us->∃ u,us=[u]/\zcF x u
 | _,_,.cons r .nil=>⟨_,rfl,r⟩
theorem zbX.reverse {xs:List V} {us:List Value} (h:zbX xs us):zbX xs.reverse us.reverse:=by
 induction h with
 | nil=>exact .nil
 | cons r t ih=>rw [List.reverse_cons,List.reverse_cons];exact zbX.append ih (.cons r .nil)
theorem zbX.rep {xs:List V} {us:List Value} (h:zbX xs us):∀ k:Nat,zbX (List.replicate k xs).flatten (List.replicate k us).flatten
 | 0=>.nil
 | k+1=>by
  rw [List.replicate_succ,List.replicate_succ,List.flatten_cons,List.flatten_cons]
  exact zbX.append h (zbX.rep h k)
theorem zjn (its:List Value):∀ (k:Nat) (acc:List Value),
  List.foldl (fun x1 x2=>x1++x2) acc.toArray (List.replicate k its.toArray)=(acc++(List.replicate k its).flatten).toArray
 | 0,acc=>by simp
 | k+1,acc=>by
  have e:acc.toArray++its.toArray=(acc++its).toArray:=by simp
  have e2:(acc++its)++(List.replicate k its).flatten=acc++(List.replicate (k+1) its).flatten:=by
   rw [List.replicate_succ,List.flatten_cons,List.append_assoc]
  rw [← e2,← zjn its k (acc++its),← e,List.replicate_succ,List.foldl_cons]
section
variable {X:Cx} {pins:List (Addr×Obj)} {σ:St} {H:Hp} {s:Shared} {l b:Addr} {xs ys zs:List V}
theorem Inv.lset {its its':List Value} {n:Nat} {f:Array Value->Array Value} {t':Nat} (I:Inv X pins σ H s) (hH:H l=some (.lst xs))
  (e:s.heap.get? l=some { cls:=.type "list",data:=.seq its.toArray n }) (hf:f its.toArray=its'.toArray) (hv:zbX ys its') (hz:ys.length<=sizeLine) :
  Inv X pins σ (upd H l (.lst ys)) { s with heap:=s.heap.update l (Obj.mapSeq f),toks:=t' }:=by
 have q:=PySem.IsL.update e f
 rw [hf] at q
 refine I.write (x:=l) (e:=l) (by rw [hH];exact trivial) (.inl rfl) (fun b' u hb hu=>(Heap.get?_update_other s.heap (Obj.mapSeq f) (Ne.symm hb)).trans hu) ⟨_,q⟩ ?_
 exact ⟨hz,its',_,hv,q⟩
theorem Inv.lnew {its:List Value} {t':Nat} (I:Inv X pins σ H s) (hv:zbX ys its) (hz:ys.length<=sizeLine) :
  Inv X pins σ (upd H s.heap.objs.size (.lst ys)) { s with heap:=s.heap.push { cls:=.type "list",data:=.seq its.toArray },toks:=t' } :=
 I.laid (fun _ _ q=>qr _ q) (qu _) ⟨hz,its,0,hv,qD _ rfl⟩
theorem Inv.fresh (I:Inv X pins σ H s):H s.heap.objs.size=none:=I.hok.fresh (qu _)
theorem Inv.lstM (I:Inv X pins σ H s) (hH:H l=some (.lst xs)):xs.length<=sizeLine/\∃ (its:List Value) (n:Nat),zbX xs its/\xs.length=its.length/\s.heap.get? l=some { cls:=.type "list",data:=.seq its.toArray n }:=by
 obtain ⟨z,its,n,r,e⟩:=I.hok l _ hH
 exact ⟨z,its,n,r,r.length,e⟩
theorem zkG {n:Nat} (h:n<=sizeLine):Builtin.List.listTooLong n=false:=by
 unfold Builtin.List.listTooLong
 exact qK (by omega)
end
section
variable {X:Cx}
def zpV:V->List V->Hp->VK->Prop:=fun x vs H Q=>∃ l xs y,x=.ref l/\vs=[y]/\H l=some (.lst xs)/\xs.length < sizeLine/\Q .non (upd H l (.lst (xs++[y])))
theorem zgR:MtM X "list.append" zpV:=by
 intro pins s σ H x vs v us Q I rx rv h
 obtain ⟨l,xs,y,rfl,rfl,hH,hz,q⟩:=h
 cases rx
 obtain ⟨u,rfl,ru⟩:=rv.one
 obtain ⟨z,its,n,r,hl,e⟩:=I.lstM hH
 refine call_meets F.slot_list_append ⟨_,e,rfl⟩ F.entry_list_append (F.args_list_append_2 _ _) (PySem.list_append l its.toArray n u (by rw [qy];omega)) ⟨e,?_⟩
 refine ⟨.non,_,I.lset (its':=its++[u]) hH e (by simp) (r.append (.cons ru .nil)) ?_,rfl,q⟩
 rw [qi,qT]
 omega
def zpU:V->List V->Hp->VK->Prop:=fun x vs H Q=>∃ l b xs zs,x=.ref l/\vs=[.ref b]/\H l=some (.lst xs)/\H b=some (.lst zs)/\xs.length+zs.length<=sizeLine/\Q .non (upd H l (.lst (xs++zs)))
theorem zmo:MtM X "list.extend" zpU:=by
 intro pins s σ H x vs v us Q I rx rv h
 obtain ⟨l,b,xs,zs,rfl,rfl,hH,hB,hz,q⟩:=h
 cases rx
 obtain ⟨u,rfl,ru⟩:=rv.one
 cases ru
 obtain ⟨z,its,n,r,hl,e⟩:=I.lstM hH
 obtain ⟨z2,its2,n2,r2,hl2,e2⟩:=I.lstM hB
 have hsz:its.toArray.size+its2.toArray.size<=sizeLine:=by rw [qy,qy];omega
 have hlong:¬ (!its.toArray.isEmpty && Builtin.List.listTooLong (its.toArray.size+its2.toArray.size))=true:=by
  rw [zkG hsz,Bool.and_false]
  exact qq
 refine call_meets F.slot_list_extend ⟨_,e,rfl⟩ F.entry_list_extend (F.args_list_extend_2 _ _)
  (AutoSeq1.list_extend_list_list_0 l its.toArray n b its2.toArray n2 hlong (by rw [qy];omega) (by omega)) ⟨e,e2,?_⟩
 refine ⟨.non,_,I.lset (its':=its++its2) hH e (by simp) (r.append r2) ?_,rfl,q⟩
 rw [qi]
 omega
def ztW:R2:=fun x y H Q=>∃ l b xs zs,x=.ref l/\y=.ref b/\H l=some (.lst xs)/\H b=some (.lst zs)/\xs.length+zs.length<=sizeLine/\∀ p,H p=none->Q (.ref p) (upd H p (.lst (xs++zs)))
theorem zsx:OpR X (binaryOp .Add) ztW:=by
 intro pins s σ H x y v u Q I rx ry h
 obtain ⟨l,b,xs,zs,rfl,rfl,hH,hB,hz,q⟩:=h
 cases rx
 cases ry
 obtain ⟨z,its,n,r,hl,e⟩:=I.lstM hH
 obtain ⟨z2,its2,n2,r2,hl2,e2⟩:=I.lstM hB
 refine PySem.P.add_list e e2 ?_ (by rw [qy,qy];omega)
 have ea:its.toArray++its2.toArray=(its++its2).toArray:=by simp
 rw [ea]
 exact ⟨.ref _,_,I.lnew (t':=s.toks) (r.append r2) (by rw [qi];omega),rfl,q _ I.fresh⟩
def zuO:R2:=fun x y H Q=>∃ l k xs,x=.ref l/\y=.int k/\H l=some (.lst xs) /\ -(2 ^ 63)<=k/\k < 2 ^ 63/\xs.length*k.toNat<=sizeLine /\
 ∀ p,H p=none->Q (.ref p) (upd H p (.lst (List.replicate k.toNat xs).flatten))
theorem zmy {α:Type} (xs:List α) (k:Nat):(List.replicate k xs).flatten.length=k*xs.length:=by
 induction k with
 | zero=>simp
 | succ k ih=>rw [List.replicate_succ,List.flatten_cons,qi,ih,Nat.succ_mul,Nat.add_comm]
theorem zsq:OpR X (binaryOp .Mult) zuO:=by
 intro pins s σ H x y v u Q I rx ry h
 obtain ⟨l,k,xs,rfl,rfl,hH,h1,h2,hz,q⟩:=h
 cases rx
 obtain ⟨t,rfl⟩:=ry
 obtain ⟨z,its,n,r,hl,e⟩:=I.lstM hH
 have hlen:its.toArray.size*k.toNat<=sizeLine:=by rw [qy,← hl];exact hz
 have hcap:¬ its.toArray.size*k.toNat > (2 ^ 63 - 1) / 8:=by
  have:(sizeLine:Nat)<=(2 ^ 63 - 1) / 8:=by decide
  omega
 have hfit:¬ (!Builtin.List.listFitsIndex k)=true:=by
  rw [fitsIndex_both h1 h2]
  exact qq
 have hlong:¬ Builtin.List.listTooLong (its.toArray.size*k.toNat)=true:=by
  rw [zkG hlen]
  exact qq
 have hnew:List.foldl (fun x1 x2=>x1++x2) #[] (List.replicate (if its.toArray.isEmpty=true then 0 else k.toNat) its.toArray)=(List.replicate k.toNat its).flatten.toArray:=by
  have f0:∀ m:Nat,List.foldl (fun x1 x2=>x1++x2) #[] (List.replicate m its.toArray)=(List.replicate m its).flatten.toArray:=fun m=>by
   have:=zjn its m []
   rw [qO] at this
   exact this
  rw [f0]
  cases its with
  | nil=>simp
  | cons a r'=>rw [qW (by simp)]
 refine wpAny_binaryOp_repeat_ref (T:="list") (U:="int") (by decide) ⟨_,e,rfl⟩ (fun s'=>typeIs_int s' k t) noFill_list_mul F.fills_int_mul F.slot_int_rmul repeat_list F.slot_int_index.lookup
  (call_meets F.slot_int_rmul (typeIs_int s k t) F.entry_int_rmul (F.args_int_rmul_2 _ _) (int___rmul___int_list k t l its.toArray n)
   ⟨e,rfl,⟨_,e,rfl⟩,call_meets F.slot_list_mul ⟨_,e,rfl⟩ F.entry_list_mul (F.args_list_mul_2 _ _) (AutoListH.list___mul___list_int_3 l its.toArray n k t hfit hcap hlong) ⟨e,?_⟩⟩)
 rw [hnew]
 exact ⟨.ref _,_,I.lnew (t':=s.toks) (r.rep k.toNat) (by rw [zmy,Nat.mul_comm];exact hz),rfl,q _ I.fresh⟩
end
section
variable {prog:Program} {w:World} {A:Around} {E:Value->Shared->Prop} {s:Shared}
end
section
variable {X:Cx}
end
end L2
end
section
namespace L2
open PySem PySem.Spec PyProof.Rows
section
variable {κ:Type} [DecidableEq κ]
def znw (kvs:List (κ×V)) (k:κ):Option V:=(kvs.find? fun kv=>decide (kv.1=k)).map (·.2)
def zhP (kvs:List (κ×V)) (k:κ) (v:V):List (κ×V) :=
 if (kvs.any fun kv=>decide (kv.1=k))=true then kvs.map (fun kv=>if kv.1=k then (kv.1,v) else kv) else kvs++[(k,v)]
theorem zh6 {p:κ×V} {r:List (κ×V)} {k:κ} (e:p.1=k):znw (p::r) k=some p.2:=by simp [znw,List.find?_cons,e]
theorem zh7 {p:κ×V} {r:List (κ×V)} {k:κ} (e:¬ p.1=k):znw (p::r) k=znw r k:=by simp [znw,List.find?_cons,e]
theorem zkn (k:κ):∀ kvs:List (κ×V),(kvs.any fun kv=>decide (kv.1=k))=(znw kvs k).isSome
 | []=>rfl
 | p::r=>by
  rw [List.any_cons]
  by_cases e:p.1=k
  ·simp only [zh6 e,qP e,Bool.true_or,Option.isSome_some]
  ·rw [zh7 e,qK e,Bool.false_or];exact zkn k r
theorem zgW (kvs:List (κ×V)) (k:κ) (v:V):(zhP kvs k v).length<=kvs.length+1:=by
 unfold zhP
 split
 ·rw [qe];omega
 ·rw [qi,qh,qk];omega
theorem zlD.isSome_eq {o:Option V} {u:Option Value} (r:zlD o u):o.isSome=u.isSome:=by
 cases o with
 | none=>cases u with
  | none=>rfl
  | some _=>exact (show False from r).elim
 | some _=>cases u with
  | none=>exact (show False from r).elim
  | some _=>rfl
theorem KV.any {kvs:List (κ×V)} {vs:List (κ×Value)} (r:KV kvs vs) (k:κ):(kvs.any fun kv=>decide (kv.1=k))=vs.any fun kv=>decide (kv.1=k):=by
 unfold KV at r
 induction r with
 | nil=>rfl
 | cons h t ih=>rw [List.any_cons,List.any_cons,ih,h.1]
theorem KV.repl {kvs:List (κ×V)} {vs:List (κ×Value)} (r:KV kvs vs) (k:κ) {y:V} {u:Value} (ry:zcF y u) :
  KV (kvs.map fun kv=>if kv.1=k then (kv.1,y) else kv) (vs.map fun kv=>if kv.1=k then (kv.1,u) else kv):=by
 unfold KV at r ⊢
 induction r with
 | nil=>exact .nil
 | @cons p q ps qs h t ih =>
  rw [ql,ql]
  refine .cons ?_ ih
  obtain ⟨h1,h2⟩:=h
  by_cases e:p.1=k
  ·rw [qV e,qV (h1.symm.trans e)];exact ⟨h1,ry⟩
  ·rw [qW e,qW (fun z=>e (h1.trans z))];exact ⟨h1,h2⟩
theorem KV.put {kvs:List (κ×V)} {vs:List (κ×Value)} (r:KV kvs vs) (k:κ) {y:V} {u:Value} (ry:zcF y u):KV (zhP kvs k y) (stored vs k u):=by
 unfold zhP stored
 rw [r.any k]
 by_cases e:(vs.any fun kv=>decide (kv.1=k))=true
 ·rw [qV e,qV e];exact r.repl k ry
 ·rw [qW e,qW e];exact Paired.snoc r ⟨rfl,ry⟩
theorem KV.length {kvs:List (κ×V)} {vs:List (κ×Value)} (r:KV kvs vs):kvs.length=vs.length:=Paired.length r
end
theorem zog {P:Program} {w:World} {k:Key} {u:Value} (r:zcF (kV k) u):(zbo P w).is k u=true:=by
 cases k with
 | inl i=>obtain ⟨t,e⟩:=(show ∃ t,u=Value.int i t from r);subst e;exact zj6 P w i t
 | inr x=>obtain ⟨t,e⟩:=(show ∃ t,u=Value.str x t from r);subst e;exact zj5 P w x t
theorem zjj {P:Program} {w:World}:∀ {ks:List Key} {us:List Value},zbX (ks.map kV) us->ItemsAre (zbo P w) ks us
 | [],_,r=>by rw [qL] at r;cases r;exact .nil
 | k::ks,_,r=>by
  rw [ql] at r
  cases r with
  | cons h t=>exact .cons (zog h) (zjj t)
abbrev KT (H:Hp):List (List Key×V)->List (List Key×Addr×Value)->Prop:=Paired fun p q=>p.1=q.1/\H q.2.1=some (.tup (p.1.map kV))/\zcF p.2 q.2.2
theorem KT.val {H:Hp} {kvs:List (List Key×V)} {xs:List (List Key×Addr×Value)} (r:KT H kvs xs) (k:List Key):zlD (znw kvs k) ((atKey xs k).map (·.2)):=by
 induction r with
 | nil=>exact True.intro
 | @cons p q ps qs h t ih =>
  obtain ⟨h1,_,h2⟩:=h
  by_cases e:p.1=k
  ·have e':q.1=k:=h1.symm.trans e
   have b:atKey (q::qs) k=some q.2:=by simp [atKey,List.find?_cons,e']
   rw [zh6 e,b];exact h2
  ·have e':¬ q.1=k:=fun z=>e (h1.trans z)
   have b:atKey (q::qs) k=atKey qs k:=by simp [atKey,List.find?_cons,e']
   rw [zh7 e,b];exact ih
theorem KT.repl {H:Hp} {kvs:List (List Key×V)} {xs:List (List Key×Addr×Value)} (r:KT H kvs xs) (k:List Key) {y:V} {u:Value} (ry:zcF y u) :
  KT H (kvs.map fun kv=>if kv.1=k then (kv.1,y) else kv) (xs.map (putAt k u)):=by
 induction r with
 | nil=>exact .nil
 | @cons p q ps qs h t ih =>
  rw [ql,ql]
  refine .cons ?_ ih
  obtain ⟨h1,h2,h3⟩:=h
  unfold putAt
  by_cases e:p.1=k
  ·rw [qV e,qV (h1.symm.trans e)];exact ⟨h1,h2,ry⟩
  ·rw [qW e,qW (fun z=>e (h1.trans z))];exact ⟨h1,h2,h3⟩
theorem KT.put {H:Hp} {kvs:List (List Key×V)} {xs:List (List Key×Addr×Value)} (r:KT H kvs xs) (k:List Key) {b:Addr} {y:V} {u:Value} (hb:H b=some (.tup (k.map kV))) (ry:zcF y u) :
  KT H (zhP kvs k y) (storedH xs k b u):=by
 have e:(kvs.any fun kv=>decide (kv.1=k))=(atKey xs k).isSome:=by
  rw [zkn,(r.val k).isSome_eq,Option.isSome_map]
 unfold zhP storedH
 rw [e]
 by_cases q:(atKey xs k).isSome=true
 ·rw [qV q,qV q];exact r.repl k ry
 ·rw [qW q,qW q];exact Paired.snoc r ⟨rfl,hb,ry⟩
theorem KT.keeps {H H':Hp} {kvs:List (List Key×V)} {xs:List (List Key×Addr×Value)} (r:KT H kvs xs) (ht:∀ b ys,H b=some (.tup ys)->H' b=some (.tup ys)):KT H' kvs xs :=
 Paired.mapP r fun _ _ z=>⟨z.1,ht _ _ z.2.1,z.2.2⟩
section
variable {P:Program} {w:World} {H:Hp} {h:Heap} {a:Addr}
theorem zrS {u:HO} (ok:HOk P w H h) (e:Rd H a u):zcU P w H h a u:=e.ok ok
theorem zun {kvs:List (Key×V)} (ok:HOk P w H h) (e:Rd H a (.dK kvs)):kvs.length<=sizeLine/\(a==sysModules)=false/\∃ vs,KV kvs vs/\h.DictOf (zbo P w) a vs :=
 show zcU P w H h a (.dK kvs) from zrS ok e
theorem zuo {kvs:List (Key×V)} (ok:HOk P w H h) (e:H a=some (.dK kvs)):kvs.length<=sizeLine/\(a==sysModules)=false/\∃ vs,KV kvs vs/\h.DictOf (zbo P w) a vs:=zun ok (.inl e)
theorem zkO {ks:List Key} (ok:HOk P w H h) (e:H a=some (.tup (ks.map kV))):(tupleKind (zbo P w)).is h ks a:=by
 obtain ⟨_,its,r,o,h1,h2,n,h3⟩:=(show zcU P w H h a (.tup (ks.map kV)) from ok a _ e)
 exact ⟨o,its.toArray,n,h1,h2,h3,by simpa using zjj r⟩
theorem zuk {kvs:List (List Key×V)} (ok:HOk P w H h) (e:Rd H a (.dT kvs)):kvs.length<=sizeLine/\(a==sysModules)=false /\
  ∃ xs,KT H kvs xs/\h.DictOfH (tupleKind (zbo P w)) a xs:=by
 obtain ⟨z,y,xs,r,o,es,ep,h1,h2,h3,h4,h5⟩:=(show zcU P w H h a (.dT kvs) from zrS ok e)
 refine ⟨z,y,xs,r,o,es,ep,h1,h2,h3,h4,fun x hx=>?_,h5⟩
 have all:∀ {l:List (List Key×V)} {m:List (List Key×Addr×Value)},KT H l m->∀ x∈m,(tupleKind (zbo P w)).is h x.1 x.2.1:=by
  intro l m q
  induction q with
  | nil=>intro x hx;exact nomatch hx
  | @cons p q ps qs hq t ih =>
   intro x hx
   rcases List.mem_cons.mp hx with e | hx
   ·subst e
    exact zkO ok (by rw [← hq.1];exact hq.2.1)
   ·exact ih x hx
 exact all r x hx
theorem zul {kvs:List (List Key×V)} (ok:HOk P w H h) (e:H a=some (.dT kvs)):kvs.length<=sizeLine/\(a==sysModules)=false /\
  ∃ xs,KT H kvs xs/\h.DictOfH (tupleKind (zbo P w)) a xs:=zuk ok (.inl e)
end
def ztp (H:Hp) (a:Addr) (y v:V) (H':Hp):Prop :=
 (∃ kvs k,H a=some (.dK kvs)/\y=kV k/\kvs.length < sizeLine/\H'=upd H a (.dK (zhP kvs k v))) \/
 ∃ kvs k b,H a=some (.dT kvs)/\y=.ref b/\H b=some (.tup (k.map kV))/\kvs.length < sizeLine/\H'=upd H a (.dT (zhP kvs k v))
theorem ztp.k {H:Hp} {a:Addr} {kvs:List (Key×V)} {k:Key} {v:V} (e:H a=some (.dK kvs)) (hl:kvs.length < sizeLine):ztp H a (kV k) v (upd H a (.dK (zhP kvs k v))):=.inl ⟨kvs,k,e,rfl,hl,rfl⟩
section
variable {X:Cx} {pins:List (Addr×Obj)} {σ:St} {H:Hp} {s:Shared} {a:Addr} {y v:V} {u r:Value} {o:Option V} {A:Around} {E:Value->Shared->Prop}
theorem Inv.big (I:Inv X pins σ H s):sysModules < s.heap.objs.size:=by
 have h:mainGlobals < s.heap.objs.size:=(I.mod.glob.keeps I.bk).lt
 exact Nat.lt_trans (by decide) h
theorem znc {h':Heap} {t':Nat} {ob:HO} (I:Inv X pins σ H s) (mu:Mut (H a)) (hs:Heap.SameBut a s.heap h') (he:∃ q,h'.get? a=some q) (new:zcU X.prog X.w (upd H a ob) h' a ob) :
  Inv X pins σ (upd H a ob) { s with heap:=h',toks:=t' } :=
 I.write (x:=a) (e:=a) mu (.inl rfl) (fun b q hb z=>(hs.2 b hb).trans z) he new
theorem zs8 {P:Program} {w:World} {H':Hp} {h':Heap} {kvs:List (Key×V)} {vs:List (Key×Value)} (z:kvs.length<=sizeLine) (hd:(a==sysModules)=false) (rel:KV kvs vs) (dd:h'.DictOf (zbo P w) a vs) :
  zcU P w H' h' a (.dK kvs):=⟨z,hd,vs,rel,dd⟩
theorem znd {H':Hp} {Q:Unit->Shared->Prop} (hu:A.units+1 < cLine) (I:Inv X pins σ H s) (g:ztp H a y v H') (ry:zcF y u) (rv:zcF v r) (h:∀ s',Inv X pins σ H' s'->Q () s') :
  wpAny (model X.prog X.w) A (setItem (.ref a) u r) Q E s:=by
 rcases g with ⟨kvs,k,e,ey,l,eH⟩ | ⟨kvs,k,b,e,ey,eb,l,eH⟩
 ·subst ey eH
  obtain ⟨z,hd,vs,rel,dd⟩:=zuo I.hok e
  have hz:vs.length<=sizeLine:=by rw [← rel.length];exact z
  have hl:(zhP kvs k v).length<=sizeLine:=by have:=zgW kvs k v;omega
  refine wpAny_setItem_pairs (hsz:=hz) (zog ry) dd fun h' dd' hs=>h _ ?_
  have he:∃ q,h'.get? a=some q:=let ⟨q,_,_,hq,_⟩:=dd';⟨q,hq⟩
  exact znc I (by rw [e];exact True.intro) hs he (zs8 hl hd (rel.put k rv) dd')
 ·subst ey eH
  cases (show u=Value.ref b from ry)
  obtain ⟨z,hd,xs,rel,dd⟩:=zul I.hok e
  have hz:xs.length<=sizeLine:=by rw [← Paired.length rel];exact z
  have hl:(zhP kvs k v).length<=sizeLine:=by have:=zgW kvs k v;omega
  refine wpAny_setItem_heap (hsz:=hz) (tupleKind_room_in1 hu) (zkO I.hok eb) dd fun h' dd' hs=>h _ ?_
  obtain ⟨q,es,ep,hq,h2,h3,h4,_,h5⟩:=dd'
  refine znc I (by rw [e];exact True.intro) hs ⟨q,hq⟩ ⟨hl,hd,_,(rel.put k eb rv).keeps fun c ys ec=>?_,q,es,ep,hq,h2,h3,h4,h5⟩
  rw [zaz (zhy ec e (fun z=>nomatch z))]
  exact ec
end
section
variable {X:Cx} {pins:List (Addr×Obj)} {σ:St} {H:Hp} {s:Shared} {a:Addr} {kvs:List (Key×V)} {k:Key} {u:Value} {A:Around} {E:Value->Shared->Prop}
end
def ztT (td ty tv:TE):TS:=fun D σ H=>tv σ H fun v H1=>td σ H1 fun x H2=>ty σ H2 fun y H3=>∃ a H4,x=.ref a/\ztp H3 a y v H4/\D.nx σ H4
section
variable {X:Cx} {o i e value:Expr} {pos pos' tpos:Pos} {td ty tv:TE}
theorem zp2 (hu:X.A.units+1 < cLine) (ho:PE X o td) (hi:PE X i ty) (hv:PE X value tv) (hs:swapsWith value (some (.Subscript o i pos')) pos.line X.env=pure false) :
  PS X (.Assign [.Subscript o i pos'] value pos) (ztT td ty tv):=by
 intro pins s σ H D I h
 refine wpAny_Assign_Subscript (thn (hv pins s σ H _ I h) fun r s1 ⟨v,H1,I1,rv,q1⟩=>thn (ho pins s1 σ H1 _ I1 q1) fun u s2 ⟨x,H2,I2,rx,q2⟩=>thn (hi pins s2 σ H2 _ I2 q2) fun iv s3 ⟨y,H3,I3,ry,a,H4,ex,g,q3⟩=>?_) hs
 subst ex
 obtain rfl:u=Value.ref a:=rx
 exact znd hu I3 g ry rv fun s4 I4=>⟨σ,H4,I4,q3⟩
end
theorem zou {P:Program} {w:World} {H:Hp} (h:Heap) (hb:sysModules < h.objs.size):zcU P w H (h.push { cls:=.type "dict",data:=.dict #[] }) h.objs.size (.dK []) :=
 ⟨Nat.zero_le _,beq_eq_false_iff_ne.mpr (Ne.symm (qz hb)),[],.nil,Heap.DictOf.new h⟩
def zry:TE:=fun _ H Q=>∀ p,H p=none->Q (.ref p) (upd H p (.dK []))
section
variable {X:Cx} {pos:Pos}
theorem znX:PE X (.Dict [] [] pos) zry:=fun pins s σ H Q I h =>
 wpAny_Dict_empty ⟨.ref s.heap.objs.size,_,I.laid (a:=s.heap.objs.size) (o:=.dK []) (t':=s.toks) (fun _ _ q=>qr _ q) (qu _) (zou s.heap I.big),rfl,h _ (I.hok.fresh (qu _))⟩
end
structure M1 (X:Cx) (o:Expr) (m:Str) (apos:Pos) (e:Expr) (cpos:Pos):Prop where
 base:attributeBase o m X.env (eval o X.env)=eval o X.env
 few:((backTo cpos (starEach [e] X.env)).all (fun x=>!x.1) && (backToKw cpos (keywordEach [] X.env)).all (fun x=>x.1.isSome)
  && decide (([e]:List Expr).length+([]:List Keyword).length+(if ([]:List Keyword).isEmpty then 0 else 1) < 30))=true
 line:(apos.endLine==cpos.line)=true
 trees:backTo cpos (starEach [e] X.env)=[(false,eval e X.env)]
structure M2 (X:Cx) (o:Expr) (m:Str) (apos:Pos) (e f:Expr) (cpos:Pos):Prop where
 base:attributeBase o m X.env (eval o X.env)=eval o X.env
 few:((backTo cpos (starEach [e,f] X.env)).all (fun x=>!x.1) && (backToKw cpos (keywordEach [] X.env)).all (fun x=>x.1.isSome)
  && decide (([e,f]:List Expr).length+([]:List Keyword).length+(if ([]:List Keyword).isEmpty then 0 else 1) < 30))=true
 line:(apos.endLine==cpos.line)=true
 trees:backTo cpos (starEach [e,f] X.env)=[(false,eval e X.env),(false,eval f X.env)]
section
variable {X:Cx} {pins:List (Addr×Obj)} {σ:St} {H:Hp} {s:Shared} {a:Addr} {y d:V} {u r:Value} {o:Option V} {A:Around} {E:Value->Shared->Prop}
end
section
variable {X:Cx} {o e f:Expr} {apos cpos:Pos} {td ty tx:TE}
end
section
variable {X:Cx} {pins:List (Addr×Obj)} {σ:St} {H:Hp} {s:Shared} {a:Addr} {kvs:List (Key×V)} {A:Around} {E:Value->Shared->Prop}
end
section
variable {X:Cx} {pins:List (Addr×Obj)} {σ:St} {H:Hp} {s:Shared} {a:Addr} {y:V} {u:Value} {A:Around} {E:Value->Shared->Prop}
end
end L2
end
section
namespace Att
open PySem PySem.W PySem.Calls PyProof.Rows
theorem zg0 {P:Params} {h:Heap}:∀ (ns:List Int) (vs:List Value),WellAll P h vs (ns.map WData.int)->IntsAre vs ns:=by
 intro ns
 induction ns with
 | nil =>
  intro vs w
  rw [qL] at w
  cases w
  exact .nil
 | cons n ns ih =>
  intro vs w
  rw [ql] at w
  cases w with
  | cons a b =>
   cases a
   exact .cons _ _ (ih _ b)
theorem zi3 {l:OpenLaw} {n:Nat} (hn:l.most=some n) {P:Params} {h:Heap} {args:List WData} {vals:List Value}
  (hpre:l.row.toRowW.claim.pre args=true) (hwl:WellAll P h vals args) :
  ∃ a vs ns,vals=[Value.ref a]/\args=[WData.list (ns.map WData.int)]/\h.get? a=some { cls:=.type "list",data:=.seq vs.toArray }/\IntsAre vs ns/\ns.length<=n:=by
 have hsh:WShape.hasAll [] args [.list .int]=true:=(pre_splitW hpre).1
 have hc:l.pre.holds [] { args:=args }=true:=(pre_splitW hpre).2
 obtain ⟨d,r,rfl,h1,h2⟩:=hasAllW_cons hsh
 obtain rfl:=hasAllW_nil h2
 obtain ⟨xs,rfl,h3⟩:=hasW_list h1
 obtain ⟨ns,rfl⟩:=items_int h3
 have hlen:ns.length<=n:=by
  unfold OpenLaw.pre at hc
  have h4:(WTm.not (.lt (.lit (.int (n:Int))) (.len (.arg 0)))).holds [] { args:=[.list (ns.map .int)] }=true:=by
   have h4:=(holds_andW hc).1
   rw [hn] at h4
   exact h4
  have h5:=condW_of h4 (w_not (w_lt w_lit (w_len_list (w_arg rfl))))
  rw [qe] at h5
  refine Nat.le_of_not_lt fun q=>?_
  have q':(n:Int) < ((ns.length:Nat):Int):=by omega
  first
   | (rw [qP q'] at h5;exact absurd h5 (by decide))
   | (simp at h5;omega)
 cases hwl with
 | cons w1 w2 =>
  cases w2
  cases w1 with
  | list ho hall=>exact ⟨_,_,ns,rfl,rfl,ho,zg0 ns _ hall,hlen⟩
theorem zja (l:OpenLaw) (args:List WData):l.row.toRowW.claim.post args (.bool true) args=true :=
 postW_of (r:=l.row.toRowW) (X:=(true==true))
  (show WShape.has [] (.bool true) .bool=true by first | rfl | decide | simp [WShape.has,WShape.arms,WShape.armsAll])
  (show (WTm.eq .res (.lit (.bool true))).value [] { args:=args,res:=some (.bool true),after:=args }=some (.bool (true==true)) from w_eq_bool (w_res rfl) w_lit) rfl
theorem zvc {l:OpenLaw} {n:Nat} {q:Program} {loose:List Str} {XP:(Str->Option Value)->Heap->Prop} {YP:World->Heap->Prop} {d:DefRec} {x:Str}
  (hn:l.most=some n) (hdf:d.params.defaults=[])
  (hbind:∀ pm cd doc v:Value,bindArgs (docDef d.name d.params d.body d.scope pm cd doc) ⟨[v],[]⟩=pure [(x,v)])
  (hx:d.scope.names.lookup x=some .local\/d.scope.names.lookup x=some .cell)
  (hk:d.scope.kind=.function) (hco:d.scope.isCoroutine=false) (hgen:d.scope.isGenerator=false)
  (body:∀ (w:World) (s₀ s₁ s:Shared) (mg mb:Str->Option Value) (fa:Addr) (o:Obj) (pm cd doc:Value) (a:Addr) (vs:List Value) (ns:List Int),
   Ground q loose [] XP w s₀ mg mb s₁.heap->YP w s₁.heap ->
   s₁.heap.get? fa=some o->o.data=.func (docDef d.name d.params d.body d.scope pm cd doc)->s₁.heap.CodeRec cd d.name->mg d.name=some (.ref fa) ->
   s₁.heap.get? a=some { cls:=.type "list",data:=.seq vs.toArray }->IntsAre vs ns->ns.length<=n ->
   s.gens=#[]->s.os=s₁.os ->
   Fr s₁.heap s₁.heap.objs.size s.heap (bindL (envOfC d.name d.scope s₁.heap.objs.size fa cd).kindOf [(x,.ref a)] fun _=>none) ->
   Cl s₁.heap.objs.size (cellsFrom (s₁.heap.objs.size+1) d.scope.names []) s.heap (bindC (envOfC d.name d.scope s₁.heap.objs.size fa cd).kindOf [(x,.ref a)] fun _=>none) ->
   wpAny (model l.prog w) (callerA.deeper (envOfC d.name d.scope s₁.heap.objs.size fa cd)) (execs d.body (envOfC d.name d.scope s₁.heap.objs.size fa cd))
    (fun f s'=>f=.ret (.bool true)/\OldK s₁.heap s'.heap/\s'.os=s₁.os/\AllBare s'.gens) (fun _ _=>False) s) :
  WalkO q loose XP YP l.row.toRowW d [] (fun f vs=>PySem.call f vs):=by
 intro w s₀ s₁ mg mb G Y fa o pm cd doc dV kV ho hd hcd hD hmg hg args vals as hpre hlay hrd hwl hlo
 obtain rfl:dV=.none:=Dflts.none hD hdf
 obtain rfl:kV=.none:=Dflts.noKw hD
 obtain ⟨a,vs,ns,rfl,rfl,hobj,hints,hlen⟩:=zi3 hn hpre hwl
 refine enter_call ?_
 refine call_cells_ret (o:=o) (by rw [depth_caller];decide) ho (fd_plain hd) G.T.nolimit hcd (hbind pm cd doc (.ref a)) (fun y hy=>?_) (fun h₁ tk F X=>?_) hco hgen hk
 ·obtain rfl:y=(x,Value.ref a):=List.mem_singleton.mp hy
  rcases hx with e | e
  ·exact .inl e
  ·exact .inr ⟨e,cellsFrom_some _ _ _ (.inl e)⟩
 ·refine wpAny_mono (body w s₀ s₁ { s₁ with heap:=h₁,toks:=tk } mg mb fa o pm cd doc a vs ns G Y ho (fd_plain hd) hcd hmg hobj hints hlen hg rfl F X) (fun f s' hq=>?_) (fun _ _ hq=>hq)
  obtain ⟨rfl,h2,h3,h4⟩:=hq
  exact ⟨.inl ⟨.bool true,.bool true,[],rfl,fun _=>rfl,.bool true,zja l _,fun _=>⟨List.Pairwise.nil,fun _ hm=>(nomatch hm)⟩⟩,h2,h3,h4⟩
theorem attach_call {l:OpenLaw} {n:Nat} {q:Program} {loose:List Str} {XP:(Str->Option Value)->Heap->Prop} {YP:World->Heap->Prop} {d:DefRec}
  (hn:l.most=some n) (hdf:d.params.defaults=[])
  (call:∀ (w:World) (s₀ s₁:Shared) (mg mb:Str->Option Value) (fa:Addr) (o:Obj) (pm cd doc:Value) (a:Addr) (vs:List Value) (ns:List Int),
   Ground q loose [] XP w s₀ mg mb s₁.heap->YP w s₁.heap ->
   s₁.heap.get? fa=some o->o.data=.func (docDef d.name d.params d.body d.scope pm cd doc)->s₁.heap.CodeRec cd d.name->mg d.name=some (.ref fa) ->
   s₁.heap.get? a=some { cls:=.type "list",data:=.seq vs.toArray }->IntsAre vs ns->ns.length<=n->s₁.gens=#[] ->
   codeAny (model l.prog w) callerA (.call (.ref fa) ⟨[.ref a],[]⟩) (fun r s'=>r=.ok (.ret (.bool true))/\OldK s₁.heap s'.heap/\s'.os=s₁.os/\AllBare s'.gens) s₁) :
  WalkO q loose XP YP l.row.toRowW d [] (fun f vs=>PySem.call f vs):=by
 intro w s₀ s₁ mg mb G Y fa o pm cd doc dV kV ho hd hcd hD hmg hg args vals as hpre hlay hrd hwl hlo
 obtain rfl:dV=.none:=Dflts.none hD hdf
 obtain rfl:kV=.none:=Dflts.noKw hD
 obtain ⟨a,vs,ns,rfl,rfl,hobj,hints,hlen⟩:=zi3 hn hpre hwl
 refine enter_call (codeAny_mono (call w s₀ s₁ mg mb fa o pm cd doc a vs ns G Y ho (fd_plain hd) hcd hmg hobj hints hlen hg) fun r s' hq=>?_)
 obtain ⟨rfl,h2,h3,h4⟩:=hq
 exact ⟨.inl ⟨.bool true,.bool true,[],rfl,fun _=>rfl,.bool true,zja l _,fun _=>⟨List.Pairwise.nil,fun _ hm=>(nomatch hm)⟩⟩,h2,h3,h4⟩
section
variable {prog:Program} {w:World} {A:Around} {E:Value->Shared->Prop} {s:Shared} {K:Frag}
def zu5 (h:Heap) (L d:Addr):List (Addr×Obj):=(List.range h.objs.size).filterMap fun a=>if a=L\/a=d then none else (h.get? a).map fun o=>(a,o)
end
end Att
namespace L2
open PySem PySem.Spec PyProof.Rows
theorem ziY:∀ {vs:List Value} {ns:List Int},IntsAre vs ns->zbX (ns.map V.int) vs
 | _,_,.nil=>.nil
 | _,_,.cons n t h=>.cons ⟨t,rfl⟩ (ziY h)
def zuz (H:Hp):Prop:=∀ b,H b=none\/∃ o xs,H b=some (.frz o (.lst xs))
theorem zof {P:Program} {w:World} {K:PySem.W.Frag} {mg mb:Str->Option Value} {CX:CXT} {k:Nat} {fa a:Addr} {fd:FuncData} {x:Str} {sp:Sp} {s₁:Shared} {vs:List Value} {ns:List Int}
  (KX:K.In s₁.heap) (hns:s₁.heap.Ns mainGlobals mg) (hb:s₁.heap.Ns builtinsNs mb) (hbb:∀ x:Str,x≠"__name__"->mb x=bootBuiltins x) (hlim:s₁.heap.NoLimit) (hg:s₁.gens=#[])
  (ha:s₁.heap.get? a=some { cls:=.type "list",data:=.seq vs.toArray }) (hi:IntsAre vs ns) (hl:ns.length<=sizeLine) (hr:Room k callerA)
  (F:∀ base:Heap,K.In base->base.Ns mainGlobals mg->FnOk P w K mg base CX k fa fd [x] sp) (hbind:∀ (s:Shared) (u:Value),BindsTo s fd ⟨[u],[]⟩ [(x,u)])
  (hsp:∀ H:Hp,zuz H->SqL K H a (ns.map V.int)->sp [.ref a] H (fun v _=>v=.bl true) fun _ _ _=>False)
  (hCX:∀ H e s',CX [] H s₁ (fun _ _ _=>False) e s'->False) :
  codeAny (model P w) callerA (.call (.ref fa) ⟨[.ref a],[]⟩) (fun r s'=>r=.ok (.ret (.bool true))/\OldK s₁.heap s'.heap/\s'.os=s₁.os/\AllBare s'.gens) s₁:=by
 have rv:=ziY hi
 have lenV:=hi.length
 have core:∀ H:Hp,zuz H->SqL K H a (ns.map V.int)->HOk P w H s₁.heap->(∀ b,H b≠none->b=a)->(H a≠none->K.lookup a=none) ->
   codeAny (model P w) callerA (.call (.ref fa) ⟨[.ref a],[]⟩) (fun r s'=>r=.ok (.ret (.bool true))/\OldK s₁.heap s'.heap/\s'.os=s₁.os/\AllBare s'.gens) s₁:=by
  intro H hO hS hok hA hK
  have base_of:∀ {b:Addr} {o:Obj},s₁.heap.get? b=some o->H b=none->(zom s₁.heap H).get? b=some o:=fun e n=>zol e n
  have noA:∀ {b:Addr} {o:Obj} {es:Array DictEntry} {ep:Nat},s₁.heap.get? b=some o->o.data=.dict es ep->H b=none:=fun {b o es ep} e d=>by
   cases q:H b with
   | none=>rfl
   | some u =>
    have e':b=a:=hA b (by rw [q];simp)
    subst e'
    rw [ha] at e;cases e
    have d':Data.seq vs.toArray _=Data.dict es ep:=d
    cases d'
  have nsK:∀ {b:Addr} {m:Str->Option Value},s₁.heap.Ns b m->(zom s₁.heap H).Ns b m:=fun {b m} ⟨o,es,ep,e,d,r⟩=>⟨o,es,ep,base_of e (noA e d),d,r⟩
  have hKb:K.In (zom s₁.heap H):=fun b o e=>base_of (KX b o e) (by
   cases q:H b with
   | none=>rfl
   | some u =>
    have e':b=a:=hA b (by rw [q];simp)
    subst e'
    rw [hK (by rw [q];simp)] at e;cases e)
  have hM:Mod K mg (zom s₁.heap H):=⟨hKb,nsK hns,⟨mb,nsK hb,hbb⟩,let ⟨mc,h1,h2⟩:=hlim;⟨mc,nsK h1,h2⟩⟩
  have e0:Env0 P w K mg (zom s₁.heap H) callerA [] s₁ H:=⟨rfl,hM,fun b o e=>zqk e,Nat.le_of_eq (zmK _ _),trivial,fun b hb=>absurd (show b∈([]:List Addr) from hb) (by simp),hok,.of_eq hg⟩
  refine codeAny_mono ((F _ hKb (nsK hns)).run callerA [] s₁ H ⟨[.ref a],[]⟩ [.ref a] [.ref a] _ _ hr e0 (hbind s₁ (.ref a)) (.cons rfl .nil) (hsp H hO hS)) fun r s' h=>?_
  cases r with
  | error e=>exact (hCX H e s' h).elim
  | ok fl =>
   cases fl with
   | next=>exact False.elim h
   | brk=>exact False.elim h
   | cont=>exact False.elim h
   | ret u =>
    obtain ⟨v,H',os,bare,un,hok',r',q⟩:=h
    have q':v=.bl true:=q
    subst q'
    obtain rfl:u=Value.bool true:=r'
    refine ⟨rfl,OldK.of_keep fun b o e=>?_,os,bare⟩
    cases q:H b with
    | none=>exact un.keep b o e q (by intro z;exact absurd (show b∈([]:List Addr) from z) (by simp)) (by simp)
    | some u =>
     rcases hO b with z | ⟨ob,xs,z⟩
     ·rw [q] at z;cases z
     ·have z2:=un.frzs b ob _ z
      obtain ⟨e1,_⟩:=hok b _ z
      obtain ⟨e2,_⟩:=hok' b _ z2
      rw [e] at e1;cases e1
      exact e2
 cases hk:K.lookup a with
 | some o =>
  have e:=KX a o hk
  rw [ha] at e
  cases e
  refine core (fun _=>none) (fun _=>.inl rfl) (.inr ⟨_,vs.toArray,_,hk,rfl,rfl,rfl,by rw [qy,lenV];exact hl,by simpa using rv⟩) (fun b u z=>by have z':(none:Option HO)=some u:=z;cases z') (fun b z=>absurd rfl z) fun z=>absurd rfl z
 | none =>
  refine core (fun b=>if b=a then some (.frz { cls:=.type "list",data:=.seq vs.toArray } (.lst (ns.map V.int))) else none) (fun b=>?_) (.inl (.inr ⟨{ cls:=.type "list",data:=.seq vs.toArray },qV rfl⟩)) (fun b u z=>?_) (fun b z=>?_) fun _=>hk
  ·by_cases hb:b=a
   ·exact .inr ⟨_,_,qV hb⟩
   ·exact .inl (qW hb)
  ·by_cases hb:b=a
   ·have z':=(qV hb).symm.trans z
    cases z'
    subst hb
    exact ⟨ha,by rw [qe];exact hl,vs,_,rv,ha⟩
   ·have z':=(qW hb).symm.trans z
    cases z'
  ·by_cases hb:b=a
   ·exact hb
   ·exact absurd (qW hb) z
end L2
namespace L2
open PySem PySem.Spec PyProof.Rows
abbrev KOf {K:PySem.W.Frag} {h:Heap} (_:K.In h):PySem.W.Frag:=K
theorem walk_of {l:PySem.W.OpenLaw} {n k:Nat} {q:Program} {loose:List Str} {XP:(Str->Option Value)->Heap->Prop} {YP:World->Heap->Prop} {d:DefRec} {K:Params->PySem.W.Frag} {CX:World->CXT} {sp:World->Sp} {x:Str}
  (hn:l.most=some n) (hn2:n<=sizeLine) (hdf:d.params.defaults=[]) (hr:Room k callerA)
  (hY:∀ (w:World) (h:Heap),YP w h->(K w.params).In h)
  (F:∀ (w:World) (mg:Str->Option Value) (fa:Addr) (h:Heap),(K w.params).In h->h.Ns mainGlobals mg->mg d.name=some (.ref fa) ->
   ∃ fd:FuncData,(∀ (s:Shared) (u:Value),BindsTo s fd ⟨[u],[]⟩ [(x,u)]) /\
    ∀ base:Heap,(K w.params).In base->base.Ns mainGlobals mg->FnOk l.prog w (K w.params) mg base (CX w) k fa fd [x] (sp w))
  (hsp:∀ (w:World) (H:Hp) (a:Addr) (ns:List Int),ns.length<=n->zuz H->SqL (K w.params) H a (ns.map V.int)->sp w [.ref a] H (fun v _=>v=.bl true) fun _ _ _=>False)
  (hCX:∀ (w:World) (H:Hp) (s:Shared) (e:Value) (s':Shared),CX w [] H s (fun _ _ _=>False) e s'->False) :
  PySem.W.WalkO q loose XP YP l.row.toRowW d [] (fun f vs=>PySem.call f vs):=by
 refine Att.attach_call hn hdf fun w s₀ s₁ mg mb fa o pm cd doc a vs ns G Y ho hd hcd hmg hobj hints hlen hg=>?_
 have KX:=hY w _ Y
 obtain ⟨fd,hb,hF⟩:=F w mg fa _ KX G.T.g hmg
 exact zof KX G.T.g G.T.b G.T.builtins G.T.nolimit hg hobj hints (qJ hlen hn2) hr hF hb (fun H hO hS=>hsp w H a ns hlen hO hS) fun H e s'=>hCX w H s₁ e s'
end L2
namespace L2
open PySem PySem.Spec PyProof.Rows
def zey (s:Stmt) (j:Nat):Stmt:=match s with
 | .ClassDef _ _ _ body _ _ _ _ _ _ _=>body.getD j (.Pass ⟨0,0,0,0⟩)
 | _=>.Pass ⟨0,0,0,0⟩
def zc4 (s:Stmt):Arguments:=match s with
 | .FunctionDef _ a _ _ _ _ _ _ _ _=>a
 | _=>{ posonlyargs:=[],args:=[],vararg:=none,kwonlyargs:=[],kw_defaults:=[],kwarg:=none,defaults:=[] }
def zbO (s:Stmt):List Stmt:=match s with
 | .FunctionDef _ _ b _ _ _ _ _ _ _=>b
 | _=>[]
def zaq (s:Stmt):Scope:=match s with
 | .FunctionDef _ _ _ _ _ _ sc _ _ _=>sc
 | _=>{ kind:=.function,names:=[],isGenerator:=false,isCoroutine:=false }
abbrev CX0:CXT:=fun _ _ _ _ _ _=>False
abbrev E0:XK:=fun _ _ _=>False
theorem zn0 {X:Cx}:zhl CX0 X E0:=fun _ _ _ _ _ _ _ h=>h.elim
structure Fun (K:PySem.W.Frag) (x qual:Str) (st:Stmt) (f:Addr) (fd:FuncData):Prop where
 ex:∃ (oc:Value) (od:Option Addr) (kV doc pm:Value) (an:Option Addr) (cdv ct:Value) (osl:Array (Option Value)),
  fd=PySem.W.fnOf x qual (zc4 st) (zbO st) (zaq st) .none kV doc pm an cdv ct/\K.lookup f=some ⟨oc,od,.func fd,osl⟩/\PySem.W.codeIn K cdv qual=true
 kp:PySem.W.keepIn K (.ref f)=true
section
variable {P:Program} {w:World} {K:PySem.W.Frag} {mg:Str->Option Value} {base:Heap}
theorem Fun.ok {x qual:Str} {st:Stmt} {f:Addr} {fd:FuncData} {N ps:List Str} {k:Nat} {sp:Sp} (F:Fun K x qual st f fd) (S:FnScope N ps (zaq st)) (len:∀ vs H Q E,sp vs H Q E->vs.length=ps.length)
  (hbody:∀ (cdv:Value) (A:Around) (outer:List Env) (s:Shared) (H:Hp) (vs:List V) (Q:VK) (E:XK),Room k (A.deeper (envOfC qual (zaq st) s.heap.objs.size f cdv))->sp vs H Q E ->
   ∃ t,PSs (zlH CX0 P w K mg base N qual (zaq st) f cdv A outer s H E).nox (zbO st) t/\t { nx:=fun _ H'=>Q .non H',rt:=Q } (zfs N vs) H):FnOk P w K mg base CX0 (k+1) f fd ps sp:=by
 obtain ⟨oc,od,kV,doc,pm,an,cdv,ct,osl,rfl,lk,hcd⟩:=F.ex
 refine zuh lk hcd S len fun A outer s H vs Q E hr hsp=>?_
 obtain ⟨t,h,q⟩:=hbody cdv A outer s H vs Q E hr hsp
 exact ⟨t,h.nox,q⟩
theorem Fun.binds {x qual:Str} {st:Stmt} {f:Addr} {fd:FuncData} {ps:List Str} (F:Fun K x qual st f fd)
  (h:∀ (kV doc pm:Value) (an:Option Addr) (cdv ct:Value) (us:List Value),us.length=ps.length->bindArgs (PySem.W.fnOf x qual (zc4 st) (zbO st) (zaq st) .none kV doc pm an cdv ct) ⟨us,[]⟩=pure (ps.zip us)):zdG K fd ps []:=by
 obtain ⟨oc,od,kV,doc,pm,an,cdv,ct,osl,rfl,lk,hcd⟩:=F.ex
 exact .all (h kV doc pm an cdv ct)
theorem zmO {x qual:Str} {st:Stmt} {f:Addr} {oc:Value} {od an:Option Addr} {osl:Array (Option Value)} {kV doc pm cdv ct:Value} (l:K.lookup f=some ⟨oc,od,.func (PySem.W.fnOf x qual (zc4 st) (zbO st) (zaq st) .none kV doc pm an cdv ct),osl⟩)
  (c:PySem.W.codeIn K cdv qual=true) (k:PySem.W.keepIn K (.ref f)=true):Fun K x qual st f (PySem.W.fnOf x qual (zc4 st) (zbO st) (zaq st) .none kV doc pm an cdv ct):=⟨⟨oc,od,kV,doc,pm,an,cdv,ct,osl,rfl,l,c⟩,k⟩
end
section
variable {X:Cx}
end
theorem zoi {A B:Prop} (h:B):if false=true then A else B:=by
 rw [qW qq]
 exact h
theorem zoh {A B:Prop} (h:A):if true=true then A else B:=by
 rw [qV rfl]
 exact h
def zb4 (H H':Hp):Prop:=∀ b o,H b=some o->H' b=some o
theorem zb4.refl (H:Hp):zb4 H H:=fun _ _ h=>h
theorem zb4.trans {H H1 H2:Hp} (a:zb4 H H1) (b:zb4 H1 H2):zb4 H H2:=fun c o h=>b c o (a c o h)
theorem zb4.free {H H':Hp} (e:zb4 H H') {l:Addr} (h:H' l=Option.none):H l=Option.none:=by
 cases q:H l with
 | none=>rfl
 | some o =>
  rw [e l o q] at h
  cases h
theorem zb4.seq {K:PySem.W.Frag} {H H':Hp} {a:Addr} {xs:List V} (e:zb4 H H') (h:SqL K H a xs):SqL K H' a xs:=by
 rcases h with (h | ⟨o,h⟩) | h
 ·exact .inl (.inl (e _ _ h))
 ·exact .inl (.inr ⟨o,e _ _ h⟩)
 ·exact .inr h
section
variable {κ:Type} [DecidableEq κ]
end
end L2
end
section
namespace L2
open PySem PySem.Spec PyProof.Rows
theorem zeO {prog:Program} {w:World} {A:Around} {R:Result->Shared->Prop} {s:Shared} {elt target iter:Expr} {ifs:List Expr} {scope:Scope} {pos:Pos} {it acc:Value} {env:Env} (I:Nat->Shared->Prop)
  (turn:∀ n s,I n s->wpAny (model prog w) A (pyNext it) (fun r s₁=>match r with
   | none=>R (.ok .next) s₁
   | some v=>wpAny (model prog w) A (letOwnedTupleGo target it v) (fun _ s₁'=>wpAny (model prog w) A (assign target env v) (fun _ s₂ =>
     wpAny (model prog w) A (forIn ifs true fun c r=>if r=true then do let ok ← isTrue c env (eval c env);pure (ForInStep.yield ok) else pure (ForInStep.yield r)) (fun ok s₃ =>
      if ok=true then wpAny (model prog w) A (eval elt env) (fun x s₄ =>
       wpAny (model prog w) A (call (.builtin "list.append") [acc,x]) (fun _ s₅=>∃ m,m < n/\I m s₅) (fun _ _=>False) s₄) (fun _ _=>False) s₃
      else ∃ m,m < n/\I m s₃) (fun _ _=>False) s₂) (fun _ _=>False) s₁') (fun _ _=>False) s₁) (fun _ _=>False) s)
  (n:Nat) (h:I n s) :
  codeAny (model prog w) A (.compLoop (.ListComp elt [⟨target,iter,ifs,0⟩] scope pos) 0 it acc env) R s:=by
 refine codeAny_loop rfl I (fun n s hI=>?_) n h
 show wpAny _ A ((compTurn (.ListComp elt [⟨target,iter,ifs,0⟩] scope pos) 0 it acc env).onRaise (fun x=>do noteFrame x env;theTreesLotGoes x)) _ _ s
 refine wpAny_noted ?_
 rw [compTurn_list]
 refine qv (wpAny_standAt (qv (wpAny_mono (turn n s hI) (fun r s₁ h₁=>?_) fun _ _ h'=>h'.elim)))
 cases r with
 | none=>exact qx h₁
 | some v =>
  refine qv (wpAny_mono h₁ (fun _ s₁' h₁'=>?_) fun _ _ h'=>h'.elim)
  refine qv (wpAny_mono h₁' (fun _ s₂ h₂=>qv (wpAny_mono h₂ (fun ok s₃ h₃=>?_) fun _ _ h'=>h'.elim)) fun _ _ h'=>h'.elim)
  cases ok with
  | false=>exact qx ⟨rfl,h₃⟩
  | true =>
   exact qv (qv (wpAny_mono h₃ (fun x s₄ h₄=>qv (wpAny_mono h₄ (fun _ s₅ h₅=>qx (qx ⟨rfl,h₅⟩)) fun _ _ h'=>h'.elim)) fun _ _ h'=>h'.elim))
def zdt (X:Cx) (N':List Str) (scope:Scope) (cl:List (Str×Addr)) (C:Addr) (s₀:Shared) (H₀:Hp) (fp:List Addr):Cx :=
 { X with N:=N',s₀:=s₀,H₀:=H₀,env:=compEnvC scope cl C X.env,outer:=X.stack,stack:=X.stack,ex:=fp,fn:=fun _=>false,pn:=[],xe:=fun _ _=>False }
def zek (env:Env):List (Str×NameKind)->List (Str×Addr)->List (Str×Addr)
 | [],acc=>acc
 | (n,k)::r,acc=>zek env r (if k==.free then (match env.cells.lookup n with | some c=>(n,c)::acc | none=>acc) else acc)
theorem ziF {env:Env} {scope:Scope} (h:∀ y∈scope.names,y.2=.free->∃ c,env.cells.lookup y.1=some c):closureFor scope env=pure (zek env scope.names []):=by
 have all:∀ (l:List (Str×NameKind)) (acc:List (Str×Addr)),(∀ y∈l,y.2=.free->∃ c,env.cells.lookup y.1=some c) ->
   (forIn l acc fun x r=>match x with
    | (name,kind)=>if kind==.free then do let c ← cellOf env name;pure (ForInStep.yield ((name,c)::r)) else pure (ForInStep.yield r):Sem (List (Str×Addr)))=pure (zek env l acc):=by
  intro l
  induction l with
  | nil=>intro acc _;rfl
  | cons y r ih =>
   intro acc hl
   obtain ⟨n,k⟩:=y
   rw [List.forIn_cons]
   have hr:∀ y∈r,y.2=.free->∃ c,env.cells.lookup y.1=some c:=fun y hy=>hl y (qg _ hy)
   unfold zek
   cases hk:(k==NameKind.free) with
   | false =>
    simp only [hk,qp,if_false,pure_bind]
    exact ih acc hr
   | true =>
    obtain ⟨c,hc⟩:=hl (n,k) qf (by simpa using hk)
    have hc':env.cells.lookup n=some c:=hc
    simp only [hk,if_true,cellOf,hc',pure_bind]
    exact ih _ hr
 have e:=all scope.names [] h
 exact Eq.trans (bind_pure _) e
theorem zhc {env:Env}:∀ (l:List (Str×NameKind)) (acc:List (Str×Addr)),(∀ x c,acc.lookup x=some c->env.cells.lookup x=some c)->∀ x c,(zek env l acc).lookup x=some c->env.cells.lookup x=some c
 | [],_,h=>h
 | (n,k)::r,acc,h=>by
  unfold zek
  refine zhc r _ ?_
  split
  ·split
   ·rename_i c hc
    intro x d hx
    rw [List.lookup_cons] at hx
    cases e:x==n with
    | true =>
     rw [e] at hx
     have e':x=n:=by simpa using e
     have e2:c=d:=qE hx
     rw [e',← e2];exact hc
    | false=>rw [e] at hx;exact h x d hx
   ·exact h
  ·exact h
theorem zh1 {env:Env}:∀ (l:List (Str×NameKind)) (acc:List (Str×Addr)) (x:Str),(acc.lookup x).isSome=true->((zek env l acc).lookup x).isSome=true
 | [],_,_,h=>h
 | (n,k)::r,acc,x,h=>by
  unfold zek
  refine zh1 r _ x ?_
  split
  ·split
   ·rw [List.lookup_cons]
    split
    ·rfl
    ·exact h
   ·exact h
  ·exact h
theorem zhd {env:Env}:∀ (l:List (Str×NameKind)) (acc:List (Str×Addr)) (x:Str) (c:Addr),(x,NameKind.free)∈l->env.cells.lookup x=some c->((zek env l acc).lookup x).isSome=true
 | [],_,_,_,h,_=>nomatch h
 | (n,k)::r,acc,x,c,h,hc=>by
  unfold zek
  rcases List.mem_cons.mp h with e | h
  ·injection e with e1 e2
   subst e1;subst e2
   refine zh1 r _ _ ?_
   rw [qV (by rfl),hc]
   simp
  ·exact zhd r _ x c h hc
theorem zcV {env:Env}:∀ (names:List (Str×NameKind)) (x:Str) (k':NameKind),
  (names.map fun (n,k)=>if (k==NameKind.free && env.scope.kind==.function && env.kindOf n==some .cell) then (n,NameKind.cell) else (n,k)).lookup x=some k' ->
  names.lookup x=some k'\/(k'=.cell/\names.lookup x=some .free)
 | [],_,_,h=>by simp at h
 | (n,k)::r,x,k',h=>by
  have ih:=@zcV env r x k'
  have h':List.lookup x ((if (k==NameKind.free && env.scope.kind==.function && env.kindOf n==some .cell)=true then (n,NameKind.cell) else (n,k))::(r.map fun (n,k)=>if (k==NameKind.free && env.scope.kind==.function && env.kindOf n==some .cell) then (n,NameKind.cell) else (n,k)))=some k':=h
  cases hx:x==n with
  | true =>
   by_cases hc:(k==NameKind.free && env.scope.kind==.function && env.kindOf n==some .cell)=true
   ·rw [qV hc] at h'
    simp only [List.lookup_cons,hx] at h' ⊢
    have hk:k=.free:=by
     simp only [Bool.and_eq_true,beq_iff_eq] at hc
     exact hc.1.1
    right
    exact ⟨(qE h').symm,by rw [hk]⟩
   ·rw [qW hc] at h'
    simp only [List.lookup_cons,hx] at h' ⊢
    exact .inl h'
  | false =>
   have h2:List.lookup x (r.map fun (n,k)=>if (k==NameKind.free && env.scope.kind==.function && env.kindOf n==some .cell) then (n,NameKind.cell) else (n,k))=some k':=by
    by_cases hc:(k==NameKind.free && env.scope.kind==.function && env.kindOf n==some .cell)=true
    ·rw [qV hc] at h'
     simpa only [List.lookup_cons,hx] using h'
    ·rw [qW hc] at h'
     simpa only [List.lookup_cons,hx] using h'
   simp only [List.lookup_cons,hx]
   exact ih h2
structure CompScope (X:Cx) (scope:Scope):Prop where
 kind:scope.kind=.function
 nocell:∀ y∈scope.names,y.2≠.cell
 names:∀ y∈scope.names,y.2=.local->scope.names.lookup y.1=some .local
 free:∀ y∈scope.names,y.2=.free->X.env.kindOf y.1=some .cell\/X.env.kindOf y.1=some .free
def zmN (fv:List (Option Nat)) (σ:St):St:=fv.map fun o=>o.bind fun j=>(σ[j]?).join
section
variable {X:Cx} {pins:List (Addr×Obj)} {σ:St} {H:Hp} {s:Shared}
theorem zgj (I:Inv X pins σ H s) {scope:Scope} (S:CompScope X scope):closureFor scope X.env=pure (zek X.env scope.names []) :=
 ziF fun y hy hf=>I.ok.has y.1 (S.free y hy hf)
theorem zq1 (I:Inv X pins σ H s) {N':List Str} {scope:Scope} (S:CompScope X scope) {fp:List Addr} (hf:∀ b∈fp,zlE X pins H b) (hlt:∀ b∈fp,b < s.heap.objs.size) {C:Addr} (hC:s.heap.objs.size<=C) :
  (zdt X N' scope (zek X.env scope.names []) C s H fp).Ok:=by
 have sub:=zhc (env:=X.env) scope.names [] (fun x c h=>by simp at h)
 refine ⟨I.ok.mod,S.kind,I.ok.glob,I.ok.blt,hC,fun x y c h1 h2=>I.ok.inj x y c (sub x c h1) (sub y c h2),fun x hx=>?_,fun x c h _=>by simp [zdt] at h,I.ok.hd,I.ok.frames,.inl rfl,fun b hb=>⟨?_,fun x c e=>?_⟩,I.bs,qJ I.ok.bsz I.sz,
  fun b o e hb=>?_,fun b hb=>?_,I.stack,I.stkFree⟩
 ·have hx':((relabel scope X.env).names.lookup x=some .cell\/(relabel scope X.env).names.lookup x=some .free):=hx
  have hfr:scope.names.lookup x=some .free:=by
   rcases hx' with h | h
   ·rcases zcV _ _ _ h with h | ⟨_,h⟩
    ·exact absurd rfl (S.nocell _ (PySem.mem_of_lookup h))
    ·exact h
   ·rcases zcV _ _ _ h with h | ⟨h,_⟩
    ·exact h
    ·cases h
  have hm:=PySem.mem_of_lookup hfr
  obtain ⟨c,hc⟩:=I.ok.has x (S.free _ hm rfl)
  exact Option.isSome_iff_exists.mp (zhd _ _ x c hm hc)
 ·exact qz (qC (hlt b hb) hC)
 ·exact (hf b hb).2.2.2.2.1 x c (sub x c e)
 ·rcases (hf b hb).2.2.2.1 with z | z
  ·exact I.ok.noex b o e z
  ·exact absurd (qC (qt e) I.ok.bsz) (Nat.not_lt.mpr z)
 ·intro z
  rcases List.mem_cons.mp (I.stkSub b z) with e | e
  ·exact (hf b hb).2.1 e
  ·exact (hf b hb).2.2.1 e
theorem zlw (I:Inv X pins σ H s) {N':List Str} {scope:Scope} (S:CompScope X scope) {fp:List Addr} (hf:∀ b∈fp,zlE X pins H b) (hlt:∀ b∈fp,b < s.heap.objs.size) {C:Addr} (hC:C=s.heap.objs.size) {fv:List (Option Nat)} (hlen:fv.length=N'.length)
  (hfv:∀ (i j:Nat) x,N'[i]?=some x->fv[i]?=some (some j)->X.N[j]?=some x/\(X.env.kindOf x=some .cell\/X.env.kindOf x=some .free)/\scope.names.lookup x=some .free) {h':Heap} {t':Nat} {m:Str->Option Value} (hn:h'.Ns C m) (hk:∀ b o,s.heap.get? b=some o->h'.get? b=some o) :
  Inv (zdt X N' scope (zek X.env scope.names []) C s H fp) [] (zmN fv σ) H { s with heap:=h',toks:=t' }:=by
 have ok:=zq1 (N':=N') I S hf hlt (C:=C) (Nat.le_of_eq hC.symm)
 have sub:=zhc (env:=X.env) scope.names [] (fun x c h=>by simp at h)
 refine ⟨ok,rfl,I.bare,Un.kept hk,⟨m,hn,fun i x v e1 e2 e3=>?_⟩,fun x c e=>?_,?_,fun x c e=>I.freeC x c (sub x c e),fun p hp=>?_,I.hok.kept hk,?_⟩
 ·have e1':N'[i]?=some x:=e1
  have e2':(zmN fv σ)[i]?=some (some v):=e2
  unfold zmN at e2'
  rw [qj] at e2'
  cases q:fv[i]? with
  | none=>rw [q] at e2';cases e2'
  | some o =>
   rw [q] at e2'
   cases o with
   | none=>cases e2'
   | some j =>
    have e2'':(σ[j]?).join=some v:=by simpa using e2'
    obtain ⟨hN,hkk,hfree⟩:=hfv i j x e1' q
    have hσ:σ[j]?=some (some v):=by
     cases z:σ[j]? with
     | none=>rw [z] at e2'';cases e2''
     | some w=>rw [z] at e2'';cases w with
      | none=>cases e2''
      | some w'=>simp at e2'';rw [e2'']
    obtain ⟨m0,hn0,hl⟩:=I.loc
    obtain ⟨u,r,l⟩:=hl j x v hN hσ (.inr hkk)
    refine ⟨u,r,.inr ⟨?_,?_⟩⟩
    ·rcases e3 with z | z | z
     ·have z':(relabel scope X.env).names.lookup x=some .local:=z
      rcases zcV _ _ _ z' with y | ⟨y,_⟩
      ·rw [hfree] at y;cases y
      ·cases y
     ·exact .inl z
     ·exact .inr z
    ·rcases l with ⟨k,_⟩ | ⟨_,c,hc,hcell⟩
     ·rcases hkk with y | y
      ·rw [k] at y;cases y
      ·rw [k] at y;cases y
     ·obtain ⟨c',hc'⟩:=Option.isSome_iff_exists.mp (zhd scope.names [] x c (PySem.mem_of_lookup hfree) hc)
      have e:=sub x c' hc'
      rw [hc] at e
      cases e
      obtain ⟨oc,ho,hd⟩:=hcell
      exact ⟨c,hc',oc,hk _ _ ho,hd⟩
 ·obtain ⟨v,oc,ho,hd⟩:=I.cell x c (sub x c e)
  exact ⟨v,oc,hk _ _ ho,hd⟩
 ·exact I.hok.fresh (Nat.le_of_eq hC.symm)
 ·exact absurd (show p∈([]:List (Addr×Obj)) from hp) (by simp)
 ·show (zmN fv σ).length=N'.length
  unfold zmN
  rw [qe,hlen]
theorem zoA (I:Inv X pins σ H s) {N':List Str} {scope:Scope} {cl:List (Str×Addr)} {fp:List Addr} (hf:∀ b∈fp,zlE X pins H b) {C:Addr} (hC:s.heap.objs.size<=C) {σ':St} {H':Hp} {s':Shared} {pl:List (Addr×Obj)}
  (J:Inv (zdt X N' scope cl C s H fp) pl σ' H' s') {h':Heap} (hs:Heap.SameBut C s'.heap h'):Inv X pins σ H' { s' with heap:=h' }:=by
 have hCn:H' C=none:=J.free
 refine I.call' (ch:=fp) (s':={ s' with heap:=h' }) J.os ?_ ?_ J.bare fun b hb=>⟨(hf b hb).2.2.2.1,(hf b hb).2.1,(hf b hb).2.2.2.2.1,(hf b hb).2.2.2.2.2⟩
 ·have U:Un (frs X.stack) fp H H' s.heap s'.heap:=J.base
  have neC:∀ b o,s.heap.get? b=some o->b≠C:=fun b o e=>qz (qC (qt e) hC)
  refine ⟨fun b o e n h1 h2=>?_,fun b o e n h1 h2=>?_,U.free,fun b o e h2=>?_,U.tups,U.frzs,U.tbls⟩
  ·exact (hs.2 b (neC b o e)).trans (U.keep b o e n h1 h2)
  ·obtain ⟨sl,q⟩:=U.slot b o e n h1 h2
   exact ⟨sl,(hs.2 b (neC b o e)).trans q⟩
  ·obtain ⟨o',q⟩:=U.there b o e h2
   exact ⟨o',(hs.2 b (neC b o e)).trans q⟩
 ·intro b u e
  refine (J.hok b u e).stay (fun c v hc q=>(hs.2 c ?_).trans q) (fun _ q=>q) fun _ _ q=>q
  rintro rfl
  rcases hc with z | z
  ·rw [← z,hCn] at e;cases e
  ·rw [hCn] at z;cases z
end
end L2
end
section
namespace L2
open PySem PySem.Spec PyProof.Rows
def PTs (X:Cx) (es:List Expr) (t:TT):Prop :=
 ∀ (pins:List (Addr×Obj)) (s:Shared) (σ:St) (H:Hp) (Q:Bool->Hp->Prop),Inv X pins σ H s->t σ H Q ->
  wpAny (model X.prog X.w) X.A (forIn es true fun c r=>if r=true then do let ok ← isTrue c X.env (eval c X.env);pure (ForInStep.yield ok) else pure (ForInStep.yield r)) (TP X pins σ Q) X.xe s
def ztD:TT:=fun _ H Q=>Q true H
theorem zpX {X:Cx}:PTs X [] ztD:=fun _ _ _ H _ I h=>wpAny_tests_nil ⟨H,I,h⟩
def LcW (J:It) (g:TG) (tc:TT) (te:TE) (acc:Addr) (Q:V->Hp->Prop) (σ0:St) (H1:Hp):Prop :=
 ∃ W:Nat->Nat->List V->St->Hp->Prop,(∃ m,W 0 m [] σ0 (upd H1 acc (.lst [])))/\∀ i m ys σ' H',W i m ys σ' H'->H' acc=some (.lst ys) /\
  ((J.stop i H'/\Q (.ref acc) H')\/(J.go i H'/\∀ x H2,J.yld i H' x H2->g x σ' H2 fun σ2 H3=>tc σ2 H3 fun b H4 =>
   if b=true then te σ2 H4 fun v H5=>H5 acc=some (.lst ys)/\ys.length < sizeLine/\∃ m',m' < m/\W (i+1) m' (ys++[v]) σ2 (upd H5 acc (.lst (ys++[v])))
   else ∃ m',m' < m/\W (i+1) m' ys σ2 H4))
def tLC (wi:TI) (g:TG) (tc:TT) (te:TE) (fv:List (Option Nat)):TE:=fun σ H Q=>wi σ H fun J H1=>∀ acc,H1 acc=none->LcW J g tc te acc Q (zmN fv σ) H1
def PB (X:Cx) (N':List Str) (scope:Scope) (tg:Expr) (ifs:List Expr) (elt:Expr) (g:TG) (tc:TT) (te:TE):Prop :=
 ∀ (cl:List (Str×Addr)) (C:Addr) (s₀:Shared) (H₀:Hp) (fp:List Addr),PG (zdt X N' scope cl C s₀ H₀ fp) tg g/\PTs (zdt X N' scope cl C s₀ H₀ fp) ifs tc/\PE (zdt X N' scope cl C s₀ H₀ fp) elt te
structure FvOk (X:Cx) (N':List Str) (scope:Scope) (fv:List (Option Nat)):Prop where
 len:fv.length=N'.length
 at':∀ (i j:Nat) x,N'[i]?=some x->fv[i]?=some (some j)->X.N[j]?=some x/\(X.env.kindOf x=some .cell\/X.env.kindOf x=some .free)/\scope.names.lookup x=some .free
section
variable {X:Cx} {elt tg iter:Expr} {ifs:List Expr} {scope:Scope} {pos:Pos} {N':List Str} {fv:List (Option Nat)} {g:TG} {tc:TT} {te:TE}
theorem zk2 {pins:List (Addr×Obj)} {σ:St} {H1:Hp} {s2:Shared} {it:Addr} {fp:List Addr} {tn:Nat->Heap->Prop} {J:It} {Q:VK} {RR:Value->Addr->Result->Shared->Prop} (hc:X.calm=true) (S:CompScope X scope) (F:FvOk X N' scope fv) (hb:PB X N' scope tg ifs elt g tc te)
  (I2:Inv X pins σ H1 s2) (T:Turn X.prog X.w X.K tg J fp it tn) (st2:tn 0 s2.heap) (f2:∀ b∈fp,zlE X pins H1 b) (q:∀ acc,H1 acc=none->LcW J g tc te acc Q (zmN fv σ) H1)
  (hRR:∀ (a C:Addr) (H':Hp) (s':Shared) (m:Str->Option Value),s'.heap.Ns C m->(∀ h',Heap.SameBut C s'.heap h'->Inv X pins σ H' { s' with heap:=h' })->zlE X pins H' C->Q (.ref a) H'->RR (.ref a) C (.ok .next) s') :
  wpAny (model X.prog X.w) X.A (newList []) (fun acc s₃=>wpAny (model X.prog X.w) X.A (newFunctionEnv scope X.env.globals (zek X.env scope.names []) [] X.env.qual none .none (some X.env)) (fun cenv s₄ =>
   codeAny (model X.prog X.w) X.A (.compStart (.ListComp elt [⟨tg,iter,ifs,0⟩] scope pos) 0 (.ref it) acc { cenv with scope:=relabel scope X.env }) (RR acc cenv.locals) s₄) X.xe s₃) X.xe s2:=by
 refine wpAny_newObj_type ?_
 have hacc:H1 s2.heap.objs.size=none:=I2.fresh
 have I3:Inv X pins σ (upd H1 s2.heap.objs.size (.lst [])) { s2 with heap:=s2.heap.push { cls:=.type "list",data:=.seq ([]:List Value).toArray } }:=I2.lnew (t':=s2.toks) .nil (Nat.zero_le _)
 generalize hs3:({ s2 with heap:=s2.heap.push { cls:=.type "list",data:=.seq ([]:List Value).toArray } }:Shared)=s3 at I3 ⊢
 have up:∀ b o,s2.heap.get? b=some o->s3.heap.get? b=some o:=fun b o e=>by rw [← hs3];exact qr _ e
 have lt2:∀ b∈fp,b < s2.heap.objs.size:=fun b hb=>by
  obtain ⟨o,e,_⟩:=T.obj 0 _ st2 b hb
  exact qt e
 have sz3:s2.heap.objs.size < s3.heap.objs.size:=by rw [← hs3];show _ < (s2.heap.push _).objs.size;rw [Heap.size_push];exact Nat.lt_succ_self _
 have lt3:∀ b∈fp,b < s3.heap.objs.size:=fun b hb=>Nat.lt_trans (lt2 b hb) sz3
 have f3:∀ b∈fp,zlE X pins (upd H1 s2.heap.objs.size (.lst [])) b:=fun b hb=>⟨by rw [zaz (qz (lt2 b hb))];exact (f2 b hb).1,(f2 b hb).2⟩
 have st3:tn 0 s3.heap:=T.keep _ _ _ st2 fun b _ o e=>up b o e
 refine wpAny_newFunctionEnv S.nocell (by intro y hy;simp at hy) (fun h4 hn4 sb4=>?_) S.kind
 have k4:∀ b o,s3.heap.get? b=some o->h4.get? b=some o:=fun b o e=>(sb4.2 b (qz (qt e))).trans (qr _ e)
 have st4:tn 0 h4:=T.keep _ _ _ st3 fun b _ o e=>k4 b o e
 have I4:=zlw I3 S f3 lt3 (C:=s3.heap.objs.size) rfl F.len F.at' hn4 k4 (t':=s3.toks+([]:List (Str×Value)).length)
 generalize hX:zdt X N' scope (zek X.env scope.names []) s3.heap.objs.size s3 (upd H1 s2.heap.objs.size (.lst [])) fp=X' at I4
 obtain ⟨bg,bt,be⟩:=hb (zek X.env scope.names []) s3.heap.objs.size s3 (upd H1 s2.heap.objs.size (.lst [])) fp
 rw [hX] at bg bt be
 have hprog:X'.prog=X.prog:=by rw [← hX];rfl
 have hw:X'.w=X.w:=by rw [← hX];rfl
 have hK:X'.K=X.K:=by rw [← hX];rfl
 have hA:X'.A=X.A:=by rw [← hX];rfl
 have hcalm:X'.calm=true:=by rw [← hX];exact hc
 have hxe:X'.xe=fun _ _=>False:=by rw [← hX];rfl
 have henv:X'.env=compEnvC scope (zek X.env scope.names []) s3.heap.objs.size X.env:=by rw [← hX];rfl
 have stat:∀ {H':Hp},(∀ b∈fp,H' b=none)->∀ b∈fp,zlE X' [] H' b:=fun {H'} hn b hb=>by
  have f:=f3 b hb
  have ok:=I4.ok
  refine ⟨hn b hb,(ok.exf b (by rw [← hX];exact hb)).1,ok.exfs b (by rw [← hX];exact hb),.inl (by rw [← hX];exact hb),fun x c e=>(ok.exf b (by rw [← hX];exact hb)).2 x c e,fun p hp=>?_⟩
  rw [← hX] at hp
  exact absurd (show p∈([]:List (Addr×Obj)) from hp) (by simp)
 obtain ⟨W,⟨m0,w0⟩,turn⟩:=q s2.heap.objs.size hacc
 have loop:∀ s5:Shared,s5={ s3 with heap:=h4,toks:=s3.toks+([]:List (Str×Value)).length } ->
   codeAny (model X.prog X.w) X.A (.compLoop (.ListComp elt [⟨tg,iter,ifs,0⟩] scope pos) 0 (.ref it) (.ref s2.heap.objs.size) (compEnvC scope (zek X.env scope.names []) s3.heap.objs.size X.env))
    (RR (.ref s2.heap.objs.size) s3.heap.objs.size) s5:=by
  intro s5 hs5
  refine zeO (fun n s'=>∃ i ys σ' H',Inv X' [] σ' H' s'/\tn i s'.heap/\(∀ b∈fp,H' b=none)/\W i n ys σ' H') ?_ m0 ⟨0,[],zmN fv σ,_,hs5▸I4,hs5▸st4,fun b hb=>(f3 b hb).1,w0⟩
  rintro n s6 ⟨i,ys,σ6,H6,I6,st6,fr6,w6⟩
  obtain ⟨ha6,turn6⟩:=turn i n ys σ6 H6 w6
  rw [← henv]
  rcases turn6 with ⟨stop,qn⟩ | ⟨go,step⟩
  ·have d:=T.done X' hprog hw hK hcalm i [] s6 σ6 H6 (fun _ _=>False) I6 (stat fr6) st6 stop
   rw [hA] at d
   refine thn d fun r s7 ⟨hr,I7⟩=>?_
   subst hr
   obtain ⟨m7,hn7,_⟩:=I7.loc
   have hl:X'.env.locals=s3.heap.objs.size:=by rw [henv];rfl
   refine hRR _ _ H6 s7 m7 (hl▸hn7) (fun h' hs'=>?_) ?_ qn
   ·rw [← hX] at I7
    exact zoA I3 f3 (qu _) I7 hs'
   ·exact I3.fpOk (qu _) (by have:=I7.free;rw [hl] at this;exact this)
  ·have d:=T.item X' hprog hw hK hcalm i [] s6 σ6 H6 (fun _ _=>False) I6 (stat fr6) st6 go
   rw [hA] at d
   refine thn d fun r s7 ⟨u,hr,h7⟩=>?_
   subst hr
   refine thn h7 fun _ s8 ⟨x,H8,I8,r8,y8,st8,fr8⟩=>?_
   have I8':=I8.pinned (stat fr8) (T.obj _ _ st8)
   have dg:=bg _ s8 σ6 H8 x u _ I8' r8 (step x H8 y8)
   rw [hprog,hw,hA,hxe] at dg
   refine thn dg fun _ s9 ⟨σ9,H9,I9,q9⟩=>?_
   have dt:=bt _ s9 σ9 H9 _ I9 q9
   rw [hprog,hw,hA,hxe] at dt
   refine thn dt fun b s10 ⟨H10,I10,q10⟩=>?_
   have again:∀ {σ7:St} {H7:Hp} {s7:Shared} {ys':List V},Inv X' ([]++zjb fp s8.heap) σ7 H7 s7->(∃ m',m' < n/\W (i+1) m' ys' σ7 H7)->∃ m,m < n/\∃ i ys σ' H',Inv X' [] σ' H' s7/\tn i s7.heap/\(∀ b∈fp,H' b=none)/\W i m ys σ' H':=fun {σ7 H7 s7 ys'} I7 n7=>by
    obtain ⟨m',hm,w7⟩:=n7
    refine ⟨m',hm,i+1,ys',σ7,H7,I7.unpinned,T.keep _ _ _ st8 fun b hb o e=>(I7.pin (b,o) (qN _ (qN _ (zeL hb e)))).1,fun b hb=>?_,w7⟩
    obtain ⟨o,e,_⟩:=T.obj _ _ st8 b hb
    exact (I7.pin (b,o) (qN _ (qN _ (zeL hb e)))).2.1
   cases b with
   | false =>
    rw [qW qq] at q10 ⊢
    exact again I10 q10
   | true =>
    rw [qV rfl] at q10 ⊢
    have de:=be _ s10 σ9 H10 _ I10 q10
    rw [hprog,hw,hA,hxe] at de
    refine thn de fun v s11 ⟨y,H11,I11,r11,ha11,hz11,n11⟩=>?_
    have da:=zgR _ s11 σ9 H11 (.ref s2.heap.objs.size) [y] (.ref s2.heap.objs.size) [v] (fun _ H'=>H'=upd H11 s2.heap.objs.size (.lst (ys++[y]))) I11 rfl (.cons r11 .nil) ⟨_,ys,y,rfl,rfl,ha11,hz11,rfl⟩
    rw [hprog,hw,hA,hxe] at da
    refine thn da fun _ s12 ⟨_,H12,I12,_,e12⟩=>?_
    subst e12
    exact again I12 n11
 exact codeAny_compStart_list (loop _ rfl) (T.self _ 0 _ _ _ st4 (loop _ rfl))
theorem zt3 {wi:TI} (hc:X.calm=true) (S:CompScope X scope) (F:FvOk X N' scope fv) (hi:PI X tg iter wi) (hb:PB X N' scope tg ifs elt g tc te) (hs:∀ x,foldedSetIterable iter X.env x=pure x:=by intro _;rfl) :
  PE X (.ListComp elt [⟨tg,iter,ifs,0⟩] scope pos) (tLC wi g tc te fv):=by
 intro pins s σ H Q I h
 rw [eval_ListComp]
 refine wpAny_comprehension_free (use:=none) rfl hs (zgj I S) S.kind S.names (thn (hi pins s σ H _ I h) fun x s1 h1=>thn h1 fun itv s2 h2=>?_)
 obtain ⟨it,fp,tn,J,H1,e,I2,T,st2,f2,q⟩:=h2
 subst e
 refine zk2 (RR:=fun acc C=>compPost (model X.prog X.w) X.A X.xe none (EP X pins σ Q) acc C) hc S F hb I2 T st2 f2 q ?_
 intro a C H' s' m hn hI hCL hq
 exact ⟨m,hn,fun h' hs'=>⟨.ref a,H',hI h' hs',rfl,hq⟩⟩
theorem zr6 {wi:TI} {i:Nat} {y:Str} {py spos:Pos} (hN:X.N.Nodup) (hy:X.N[i]?=some y) (hyl:X.env.scope.names.lookup y=some .local) (hc:X.calm=true) (S:CompScope X scope) (F:FvOk X N' scope fv) (hi:PI X tg iter wi) (hb:PB X N' scope tg ifs elt g tc te)
  (hsw:swapsWith (.ListComp elt [⟨tg,iter,ifs,0⟩] scope pos) (some (.Name y py)) spos.line X.env=pure true)
  (hs:∀ x,foldedSetIterable iter X.env x=pure x:=by intro _;rfl) :
  PS X (.Assign [.Name y py] (.ListComp elt [⟨tg,iter,ifs,0⟩] scope pos) spos) (zrg (tLC wi g tc te fv) (zlv i)):=by
 intro pins s σ H D I h
 rw [exec_Assign_Name_used _ _ _ _ hsw]
 refine qv (wpAny_standAt (qv ?_))
 show wpAny _ _ (do let _ ← comprehension (.ListComp elt [⟨tg,iter,ifs,0⟩] scope pos) scope X.env _ (newList []) false (eval iter X.env) (some (assign (.Name y py) X.env))) _ _ s
 refine qv (wpAny_mono (wpAny_comprehension_free (use:=some (assign (.Name y py) X.env)) (Q:=fun _ s'=>SP X pins D .next s') rfl hs (zgj I S) S.kind S.names
  (thn (hi pins s σ H _ I h) fun x s1 h1=>thn h1 fun itv s2 h2=>?_)) (fun _ s' hq=>qx (qx hq)) fun _ _ e=>e)
 obtain ⟨it,fp,tn,J,H1,e,I2,T,st2,f2,q⟩:=h2
 subst e
 refine zk2 (RR:=fun acc C=>compPost (model X.prog X.w) X.A X.xe (some (assign (.Name y py) X.env)) (fun _ s'=>SP X pins D .next s') acc C) hc S F hb I2 T st2 f2 q ?_
 intro a C H' s' m hn hI hCL hq
 show wpAny _ _ (assign (.Name y py) X.env (.ref a)) _ _ _
 have I':Inv X pins σ H' s':=hI s'.heap (Heap.SameBut.refl _ _)
 refine wpAny_assign_Name ?_
 refine zi0 (v:=.ref a) I' hN hy (.inl hyl) rfl (fun s'' I'' hch=>?_) (.inr hyl)
 obtain ⟨ad,hsb,had⟩:=hch
 obtain ⟨f0,f1,f2',f3,f4,f5⟩:=hCL
 have hne:C≠ad:=by
  rcases had with z | z
  ·rw [z];exact f1
  ·exact fun e=>f4 y ad z e.symm
 refine ⟨m,hn.sameBut hsb hne,fun h' hs'=>?_⟩
 exact ⟨_,H',I''.turned (t':=s''.toks) (fun b o hb e=>(hs'.2 b hb).trans e) f0 f1 f3 f4 f5,hq⟩
end
end L2
end
section
namespace L2
open PySem PySem.Spec PyProof.Rows
def Its (x:Str):It:=⟨fun i _=>i < x.cps.size,fun i H v H'=>H'=H/\∃ c,x.cps[i]?=some c/\v=.str ⟨#[c]⟩,fun i _=>i=x.cps.size⟩
theorem zqO {M:Model} {A:Around} {E:Value->Shared->Prop} {s:Shared} {n:Str} {p:Pos} {it:Value} {u:Value} {Q:Unit->Shared->Prop} (hQ:Q () s):wpAny M A (letOwnedTupleGo (.Name n p) it u) Q E s:=qx hQ
theorem zko {P:Program} {w:World} {K:PySem.W.Frag} {n:Str} {p:Pos} {ty:String} (it:Addr) (x:Str) (t:Tok)
  (W:∀ A:Around,A.handled=none->Walks P w A it [it] [it] x.cps.size (SignAt x) (fun i h=>h.IsStrIter it ty x t i))
  (sf:∀ (A:Around) (i:Nat) (s:Shared) (Q:Value->Shared->Prop) (E:Value->Shared->Prop),s.heap.IsStrIter it ty x t i->Q (.ref it) s->wpAny (model P w) A (pyIter (.ref it)) Q E s):Turn P w K (.Name n p) (Its x) [it] it (fun i h=>h.IsStrIter it ty x t i) where
 mem:=by simp
 obj:=fun i h st b hb=>by
  have e:b=it:=by simpa using hb
  subst e
  obtain ⟨o,e,c,d⟩:=st
  exact ⟨o,e,fun v z=>by rw [d] at z;cases z⟩
 keep:=fun i h h' st k=>by
  obtain ⟨o,e,r⟩:=st
  exact ⟨o,k it (by simp) o e,r⟩
 item:=by
  intro X hP hw hK hc i pins s σ H E I hf st hg
  subst hP hw hK
  obtain ⟨f0,f1,f2,f3,f4,f5⟩:=hf it (by simp)
  refine (W X.A (I.ok.hd hc)).item i s _ _ hg st fun v h' tk hv st' kk=>?_
  obtain ⟨c,u,hcc,rfl⟩:=hv
  have I1:Inv X pins σ H { s with heap:=h',toks:=tk }:=I.turned (fun b o hb e=>kk b o (by simpa using hb) e) f0 f1 f3 f4 f5
  exact ⟨_,rfl,zqO ⟨.str ⟨#[c]⟩,H,I1,⟨_,rfl⟩,⟨rfl,c,hcc,rfl⟩,st',fun b hb=>(hf b hb).1⟩⟩
 done:=by
  intro X hP hw hK hc i pins s σ H E I hf st hg
  subst hP hw hK
  obtain ⟨f0,f1,f2,f3,f4,f5⟩:=hf it (by simp)
  have hi:i=x.cps.size:=hg
  subst hi
  exact (W X.A (I.ok.hd hc)).done s _ _ st fun h' tk kk=>⟨rfl,I.turned (fun b o hb e=>kk b o (by simpa using hb) e) f0 f1 f3 f4 f5⟩
 self:=sf
def zvA (te:TE):TI:=fun σ H R=>te σ H fun v H1=>∃ x,v=.str x/\R (Its x) H1
theorem zsa {X:Cx} {e:Expr} {te:TE} {n:Str} {p:Pos} (he:PE X e te):PI X (.Name n p) e (zvA te):=by
 intro pins s σ H R I h
 refine thn (he pins s σ H _ I h) fun v s1 ⟨y,H1,I1,r1,q1⟩=>?_
 obtain ⟨x,e,q⟩:=q1
 subst e
 obtain ⟨t,rfl⟩:=r1
 have fin:∀ (ty:String) (o:Obj),(s1.heap.push o).IsStrIter s1.heap.objs.size ty x t 0->Turn X.prog X.w X.K (.Name n p) (Its x) [s1.heap.objs.size] s1.heap.objs.size (fun i h=>h.IsStrIter s1.heap.objs.size ty x t i) ->
   PIE X pins σ (.Name n p) R (.ref s1.heap.objs.size) { s1 with heap:=s1.heap.push o }:=fun ty o st T=>by
  refine ⟨s1.heap.objs.size,[s1.heap.objs.size],_,_,H1,rfl,I1.kept (t':=s1.toks) fun b o e=>qr _ e,T,st,fun b hb=>?_,q⟩
  have e:b=s1.heap.objs.size:=by simpa using hb
  subst e
  exact I1.fpOk (qu _) (I1.hok.fresh (qu _))
 cases ha:x.cps.all (· < 128)
 ·exact wpAny_pyIter_wide ha (fin _ _ ⟨_,qD _ rfl,rfl,rfl⟩ (zko _ x t (fun A' hA=>Walks.strWide hA _ x t) fun _ _ _ _ _ st h=>wpAny_pyIter_striter_wide st h))
 ·exact wpAny_pyIter_ascii ha (fin _ _ ⟨_,qD _ rfl,rfl,rfl⟩ (zko _ x t (fun A' hA=>Walks.strAscii hA _ x t) fun _ _ _ _ _ st h=>wpAny_pyIter_striter_ascii st h))
def Ite (K:PySem.W.Frag) (a:Addr):It :=
 ⟨fun i H=>∃ xs x,SqL K H a xs/\xs[i]?=some x,fun i H v H'=>∃ T x,v=.ref T/\H T=none/\H'=upd H T (.tup [.int i,x])/\∀ xs,SqL K H a xs->xs[i]?=some x,fun i H=>∃ xs,SqL K H a xs/\xs.length<=i⟩
theorem zlN {P:Program} {w:World} {K:PySem.W.Frag} {elts:List Expr} {k1:Nat} {pos:Pos} (e it a:Addr) (hei:e≠it) :
  Turn P w K (.Tuple elts k1 pos) (Ite K a) [e,it] e (fun i h=>(∃ old,IsEnum h e it i old)/\h.IsListIter it a i) where
 mem:=by simp
 obj:=fun i h st b hb=>by
  obtain ⟨⟨old,he⟩,o,ho,c,d⟩:=st
  rcases List.mem_cons.mp hb with z | z
  ·subst z
   exact ⟨_,he,fun v z=>by cases z⟩
  ·have z':b=it:=by simpa using z
   subst z'
   exact ⟨o,ho,fun v z=>by rw [d] at z;cases z⟩
 keep:=fun i h h' st k=>by
  obtain ⟨⟨old,he⟩,hi⟩:=st
  exact ⟨⟨old,k e (by simp) _ he⟩,hi.at fun o x=>k it (by simp) o x⟩
 item:=by
  intro X hP hw hK hc i pins s σ H E I hf st hg
  subst hP hw hK
  obtain ⟨xs,x,hq,hx⟩:=hg
  obtain ⟨its,rv,p,hz⟩:=I.list hq
  obtain ⟨u,hu,ru⟩:=rv.get hx
  obtain ⟨⟨old,he⟩,hit⟩:=st
  obtain ⟨e0,e1,e2,e3,e4,e5⟩:=hf e (by simp)
  obtain ⟨f0,f1,f2,f3,f4,f5⟩:=hf it (by simp)
  have helt:e < s.heap.objs.size:=qt he
  have hilt:it < s.heap.objs.size:=by obtain ⟨_,x,_⟩:=hit;exact qt x
  refine wpAny_pyNext_enum_item he hit p.isList (x:=u) (by simpa using hu) hei fun h' ho hit' hT hsz hk=>?_
  refine ⟨_,rfl,wpAny_letOwnedTupleGo_enum ho fun h2 he2 hs2=>?_⟩
  have hs2':Heap.SameBut e h' h2:=hs2
  have kk:∀ b o,b≠e->b≠it->s.heap.get? b=some o->h2.get? b=some o:=fun b o h1 h3 q=>(hs2'.2 b h1).trans (hk b o h1 h3 q)
  have hT2:h2.get? s.heap.objs.size=some { cls:=.type "tuple",data:=.seq #[.int i s.toks,u] }:=(hs2'.2 _ (Nat.ne_of_gt helt)).trans hT
  have nH:H s.heap.objs.size=none:=I.fresh
  have I1:Inv X pins σ (upd H s.heap.objs.size (.tup [.int i,x])) { s with heap:=h2,toks:=s.toks+1 }:=by
   have ne:∀ b o,H b=some o->b≠e/\b≠it:=fun b o q=>⟨fun z=>(by rw [z,e0] at q;cases q),fun z=>(by rw [z,f0] at q;cases q)⟩
   refine I.step (g':=s.gens) (d':=s.drawn) (ch:=[e,it]) (fun b hb=>?_) (fun b o _ _ hc q _=>kk b o (fun z=>hc (by simp [z])) (fun z=>hc (by simp [z])) q) (fun b o _ _ hc q _=>⟨o.slots,kk b o (fun z=>hc (by simp [z])) (fun z=>hc (by simp [z])) q⟩) (fun b o _ q n=>?_)
    (fun b o hc q=>⟨o,kk b o (fun z=>hc (by simp [z])) (fun z=>hc (by simp [z])) q⟩) (fun b ys q=>?_) (fun b o y q=>?_) (fun b ps q=>⟨#[],?_⟩) (fun m hm=>?_) (fun b v q=>?_) I.bare
   ·rcases List.mem_cons.mp hb with z | z
    ·subst z;exact ⟨e3,e1,e4,e5⟩
    ·have z':b=it:=by simpa using z
     subst z';exact ⟨f3,f1,f4,f5⟩
   ·rw [zaz (qz (qt q))];exact n
   ·rw [zaz (zau q nH)];exact q
   ·rw [zaz (zau q nH)];exact q
   ·rw [zaz (zau q nH),q];simp
   ·obtain ⟨o,es,ep,q,r⟩:=hm
    exact ⟨o,es,ep,kk _ o (Ne.symm e1) (Ne.symm f1) q,r⟩
   ·by_cases hb:b=s.heap.objs.size
    ·subst hb
     rw [zaL] at q
     cases q
     exact ⟨by show 2<=sizeLine;decide,[.int i s.toks,u],.cons ⟨_,rfl⟩ (.cons ru .nil),⟨_,hT2,rfl,_,rfl⟩⟩
    ·rw [zaz hb] at q
     refine (I.hok b v q).stay (fun c v hc r=>?_) (fun c r=>by rw [zaz (zau r nH)];exact r) fun c ys r=>by rw [zaz (zau r nH)];exact r
     rcases hc with z | z
     ·rw [z] at r ⊢;exact kk b v (ne b _ q).1 (ne b _ q).2 r
     ·exact kk c v (ne c _ z).1 (ne c _ z).2 r
  refine ⟨.ref s.heap.objs.size,_,I1,rfl,⟨_,x,rfl,nH,rfl,fun ys hy=>by rw [I.list_inj hy hq];exact hx⟩,⟨⟨_,by simpa using he2⟩,hit'.at fun o y=>(hs2'.2 it hei.symm).trans y⟩,fun b hb=>?_⟩
  rcases List.mem_cons.mp hb with z | z
  ·subst z;rw [zaz (qz helt)];exact e0
  ·have z':b=it:=by simpa using z
   subst z';rw [zaz (qz hilt)];exact f0
 done:=by
  intro X hP hw hK hc i pins s σ H E I hf st hg
  subst hP hw hK
  obtain ⟨xs,hq,hx⟩:=hg
  obtain ⟨its,rv,p,hz⟩:=I.list hq
  obtain ⟨⟨old,he⟩,hit⟩:=st
  obtain ⟨f0,f1,f2,f3,f4,f5⟩:=hf it (by simp)
  have hl:=rv.length
  exact wpAny_pyNext_enum_end (I.ok.hd hc) he hit p.isList (by simp;omega) fun h' eb=>⟨rfl,I.turned (t':=s.toks) (fun b o hb e=>eb b o hb e) f0 f1 f3 f4 f5⟩
 self:=fun A i s Q E st h=>by
  obtain ⟨⟨old,he⟩,_⟩:=st
  exact wpAny_pyIter_enum he h
def zuf (K:PySem.W.Frag) (ta:TA):TI:=fun σ H R=>ta σ H fun vs H1=>∃ a,vs=[.ref a]/\(∃ xs,SqL K H1 a xs)/\R (Ite K a) H1
theorem zp5 {X:Cx} {a:Expr} {ta:TA} {p pos:Pos} {elts:List Expr} {k1:Nat} {tpos:Pos} (hg:Gl X "enumerate") (hm:X.mg "enumerate"=none) (ha:PA X [a] ta) (hs:starEach [a] X.env=[(false,eval a X.env)]:=by rfl) :
  PI X (.Tuple elts k1 tpos) (.Call (.Name "enumerate" p) [a] [] pos) (zuf X.K ta):=by
 intro pins s σ H R I h
 refine Call_ (zhU I hg hm PyProof.Rows.boot_enumerate (PyProof.Rows.callWith_type1 (thn (ha pos pins s σ H _ I h) fun us s1 ⟨vs,H1,I1,r1,q1⟩=>?_) hs rfl))
 obtain ⟨l,e,⟨xs,hq⟩,q⟩:=q1
 subst e
 obtain ⟨u,rfl,r2⟩:=zfL r1
 cases r2
 obtain ⟨its,rv,pl,hz⟩:=I1.list hq
 refine call_enumerate_list pl.isList fun h' he hit hsz hk=>?_
 have I2:Inv X pins σ H1 { s1 with heap:=h' }:=I1.kept (t':=s1.toks) hk
 refine wpAny_pyIter_enum he ?_
 refine ⟨s1.heap.objs.size+1,[s1.heap.objs.size+1,s1.heap.objs.size],_,_,H1,rfl,I2,zlN _ _ l (Nat.succ_ne_self _),⟨⟨_,he⟩,hit⟩,fun b hb=>?_,q⟩
 rcases List.mem_cons.mp hb with z | z
 ·subst z;exact I1.fpOk (Nat.le_succ _) (I1.hok.fresh (Nat.le_succ _))
 ·have z':b=s1.heap.objs.size:=by simpa using z
  subst z';exact I1.fpOk (qu _) (I1.hok.fresh (qu _))
end L2
end
section
namespace L2
open PySem PySem.Spec PyProof.Rows
inductive D where
 | non | bl (b:Bool) | int (i:Int) | str (x:Str) | tup (l:List D) | lst (l:List D) | scr (ns:List Int)
 | dk (l:List (Key×D)) | dt (l:List (List Key×D)) | ins (c:Str) (fs:List (Str×D)) | ty (n:String)
structure Cn where
 cls:Str->Option Addr
 self:Option Addr:=none
mutual
inductive Rep (Γ:Cn) (K:PySem.W.Frag) (G:Hp):V->D->Prop where
 | non:Rep Γ K G .non .non
 | bl (b:Bool):Rep Γ K G (.bl b) (.bl b)
 | int (i:Int):Rep Γ K G (.int i) (.int i)
 | str (x:Str):Rep Γ K G (.str x) (.str x)
 | ty (n:String):Rep Γ K G (.ty n) (.ty n)
 | tup {a:Addr} {vs:List V} {ds:List D}:G a=some (.tup vs)->Reps Γ K G vs ds->Rep Γ K G (.ref a) (.tup ds)
 | lst {a:Addr} {vs:List V} {ds:List D}:G a=some (.lst vs)->Reps Γ K G vs ds->Rep Γ K G (.ref a) (.lst ds)
 | scr {a:Addr} {ns:List Int}:SqL K G a (ns.map V.int)->Rep Γ K G (.ref a) (.scr ns)
 | dk {a:Addr} {us:List (Key×V)} {kvs:List (Key×D)}:G a=some (.dK us)->us.map (·.1)=kvs.map (·.1)->Reps Γ K G (us.map (·.2)) (kvs.map (·.2))->Rep Γ K G (.ref a) (.dk kvs)
 | dt {a:Addr} {us:List (List Key×V)} {kvs:List (List Key×D)}:G a=some (.dT us)->us.map (·.1)=kvs.map (·.1)->Reps Γ K G (us.map (·.2)) (kvs.map (·.2))->Rep Γ K G (.ref a) (.dt kvs)
 | ins {a C dx:Addr} {c:Str} {us:List (Str×V)} {fs:List (Str×D)}:G a=some (.ins C dx us)->Γ.cls c=some C->us.map (·.1)=fs.map (·.1)->Reps Γ K G (us.map (·.2)) (fs.map (·.2))->Rep Γ K G (.ref a) (.ins c fs)
inductive Reps (Γ:Cn) (K:PySem.W.Frag) (G:Hp):List V->List D->Prop where
 | nil:Reps Γ K G [] []
 | cons {v:V} {d:D} {vs:List V} {ds:List D}:Rep Γ K G v d->Reps Γ K G vs ds->Reps Γ K G (v::vs) (d::ds)
end
section
variable {Γ:Cn} {K:PySem.W.Frag} {G G' G1 H H' H1 H2 G2:Hp}
mutual
theorem Rep.mono:∀ {v:V} {d:D},Rep Γ K G v d->zb4 G G'->Rep Γ K G' v d
 | _,_,.non,_=>.non
 | _,_,.bl b,_=>.bl b
 | _,_,.int i,_=>.int i
 | _,_,.str x,_=>.str x
 | _,_,.ty x,_=>.ty x
 | _,_,.tup h r,s=>.tup (s _ _ h) (r.mono s)
 | _,_,.lst h r,s=>.lst (s _ _ h) (r.mono s)
 | _,_,.scr h,s=>.scr (s.seq h)
 | _,_,.dk h e r,s=>.dk (s _ _ h) e (r.mono s)
 | _,_,.dt h e r,s=>.dt (s _ _ h) e (r.mono s)
 | _,_,.ins h c e r,s=>.ins (s _ _ h) c e (r.mono s)
theorem Reps.mono:∀ {vs:List V} {ds:List D},Reps Γ K G vs ds->zb4 G G'->Reps Γ K G' vs ds
 | _,_,.nil,_=>.nil
 | _,_,.cons h r,s=>.cons (h.mono s) (r.mono s)
end
mutual
theorem Rep.re {Γ':Cn} (hc:Γ'.cls=Γ.cls):∀ {v:V} {d:D},Rep Γ K G v d->Rep Γ' K G v d
 | _,_,.non=>.non
 | _,_,.bl b=>.bl b
 | _,_,.int i=>.int i
 | _,_,.str x=>.str x
 | _,_,.ty x=>.ty x
 | _,_,.tup h r=>.tup h (r.re hc)
 | _,_,.lst h r=>.lst h (r.re hc)
 | _,_,.scr h=>.scr h
 | _,_,.dk h e r=>.dk h e (r.re hc)
 | _,_,.dt h e r=>.dt h e (r.re hc)
 | _,_,.ins h c e r=>.ins h (by rw [hc];exact c) e (r.re hc)
theorem Reps.re {Γ':Cn} (hc:Γ'.cls=Γ.cls):∀ {vs:List V} {ds:List D},Reps Γ K G vs ds->Reps Γ' K G vs ds
 | _,_,.nil=>.nil
 | _,_,.cons h r=>.cons (h.re hc) (r.re hc)
end
theorem Reps.length:∀ {vs:List V} {ds:List D},Reps Γ K G vs ds->vs.length=ds.length
 | _,_,.nil=>rfl
 | _,_,.cons _ r=>by rw [qh,qh,r.length]
theorem Reps.get:∀ {vs:List V} {ds:List D} {i:Nat} {d:D},Reps Γ K G vs ds->ds[i]?=some d->∃ v,vs[i]?=some v/\Rep Γ K G v d
 | _,_,_,_,.nil,e=>by simp at e
 | _,_,0,_,.cons r _,e=>by simp at e;subst e;exact ⟨_,rfl,r⟩
 | _,_,i+1,d,.cons _ t,e=>by
  obtain ⟨u,h1,h2⟩:=Reps.get (i:=i) (d:=d) t (by simpa using e)
  exact ⟨u,by simpa using h1,h2⟩
theorem Reps.append:∀ {vs ws:List V} {ds es:List D},Reps Γ K G vs ds->Reps Γ K G ws es->Reps Γ K G (vs++ws) (ds++es)
 | _,_,_,_,.nil,s=>s
 | _,_,_,_,.cons r t,s=>.cons r (t.append s)
theorem Reps.take:∀ {vs:List V} {ds:List D} (n:Nat),Reps Γ K G vs ds->Reps Γ K G (vs.take n) (ds.take n)
 | _,_,0,_=>.nil
 | _,_,_+1,.nil=>.nil
 | _,_,n+1,.cons r t=>.cons r (t.take n)
theorem Reps.drop:∀ {vs:List V} {ds:List D} (n:Nat),Reps Γ K G vs ds->Reps Γ K G (vs.drop n) (ds.drop n)
 | _,_,0,r=>r
 | _,_,_+1,.nil=>.nil
 | _,_,n+1,.cons _ t=>t.drop n
theorem Reps.ints:∀ (ns:List Int),Reps Γ K G (ns.map V.int) (ns.map D.int)
 | []=>.nil
 | n::r=>.cons (.int n) (Reps.ints r)
theorem Reps.rep {vs:List V} {ds:List D} (h:Reps Γ K G vs ds):∀ k:Nat,Reps Γ K G (List.replicate k vs).flatten (List.replicate k ds).flatten
 | 0=>.nil
 | k+1=>by
  rw [List.replicate_succ,List.replicate_succ,List.flatten_cons,List.flatten_cons]
  exact h.append (Reps.rep h k)
structure Step (G H G' H':Hp):Prop where
 hh:zb4 H H'
 gg:zb4 G G'
 gh:zb4 G' H'
 out:∀ a o,H a=some o->G' a=G a
theorem Step.refl (gh:zb4 G H):Step G H G H:=⟨.refl _,.refl _,gh,fun _ _ _=>rfl⟩
theorem Step.trans (a:Step G H G1 H1) (b:Step G1 H1 G2 H2):Step G H G2 H2 :=
 ⟨a.hh.trans b.hh,a.gg.trans b.gg,b.gh,fun c o e=>(b.out c o (a.hh c o e)).trans (a.out c o e)⟩
theorem Step.new {p:Addr} {o:HO} (gh:zb4 G H) (hp:H p=none):Step G H (upd G p o) (upd H p o):=by
 have gp:G p=none:=gh.free hp
 refine ⟨fun b u e=>?_,fun b u e=>?_,fun b u e=>?_,fun b u e=>?_⟩
 ·rw [zaz (zau e hp)];exact e
 ·rw [zaz (zau e gp)];exact e
 ·by_cases hb:b=p
  ·subst hb;rw [zaL] at e ⊢;exact e
  ·rw [zaz hb] at e ⊢;exact gh b u e
 ·rw [zaz (zau e hp)]
theorem Step.newOwn {p:Addr} {o:HO} (gh:zb4 G H) (hp:H p=none):Step G H G (upd H p o):=by
 refine ⟨fun b u e=>?_,.refl _,fun b u e=>?_,fun _ _ _=>rfl⟩
 ·rw [zaz (zau e hp)];exact e
 ·rw [zaz (zau (gh b u e) hp)];exact gh b u e
end
inductive Slot where
 | sh (d:D)
 | own (ds:List D)
 | obj (c:Str) (fs:List (Str×D))
 | objd (c:Str) (fs:List (Str×D)) (n:Str) (kvs:List (Key×D))
 | odk (kvs:List (Key×D))
 | odt (kvs:List (List Key×D))
 | tlo (ds es:List D)
 | pin (a:Addr)
 | oll (dss:List (List D))
abbrev zaX:=List (Option Slot)
def zui:D->Bool
 | .non=>true
 | .bl _=>true
 | .int _=>true
 | .str _=>true
 | _=>false
def zcG (H:Hp):List Addr->List (List V)->Prop
 | [],[]=>True
 | p::ps,vs::vss=>H p=some (.lst vs)/\zcG H ps vss
 | _,_=>False
def zd6 (Γ:Cn) (K:PySem.W.Frag) (G:Hp):List (List V)->List (List D)->Prop
 | [],[]=>True
 | vs::vss,ds::dss=>Reps Γ K G vs ds/\zd6 Γ K G vss dss
 | _,_=>False
theorem zcG.mem {H:Hp}:∀ {ps:List Addr} {vss:List (List V)},zcG H ps vss->∀ b∈ps,∃ o,H b=some o
 | [],_,_,b,hb=>by cases hb
 | p::ps,[],h,b,hb=>h.elim
 | p::ps,vs::vss,h,b,hb=>by
  rcases List.mem_cons.mp hb with rfl | hb
  ·exact ⟨_,h.1⟩
  ·exact h.2.mem b hb
theorem zcG.stay {H H':Hp}:∀ {ps:List Addr} {vss:List (List V)},zcG H ps vss->(∀ b∈ps,H' b=H b)->zcG H' ps vss
 | [],[],_,_=>trivial
 | [],_::_,h,_=>h.elim
 | p::ps,[],h,_=>h.elim
 | p::ps,vs::vss,h,e=>⟨(e p qf).trans h.1,h.2.stay fun b hb=>e b (qg _ hb)⟩
theorem zd6.map {Γ:Cn} {K:PySem.W.Frag} {G G':Hp} (f:∀ {vs:List V} {ds:List D},Reps Γ K G vs ds->Reps Γ K G' vs ds):∀ {vss:List (List V)} {dss:List (List D)},zd6 Γ K G vss dss->zd6 Γ K G' vss dss
 | [],[],_=>trivial
 | [],_::_,h=>h.elim
 | _::_,[],h=>h.elim
 | _::_,_::_,h=>⟨f h.1,h.2.map f⟩
theorem zky:∀ {ps qs:List Addr},ps.map V.ref=qs.map V.ref->ps=qs
 | [],[],_=>rfl
 | [],_::_,h=>by cases h
 | _::_,[],h=>by cases h
 | p::ps,q::qs,h=>by
  have h1:=List.cons.inj h
  rw [V.ref.inj h1.1,zky h1.2]
inductive SR (Γ:Cn) (K:PySem.W.Frag) (H₀ G H:Hp):Slot->V->List Addr->Prop where
 | sh {d:D} {v:V}:Rep Γ K G v d->SR Γ K H₀ G H (.sh d) v []
 | own {a:Addr} {vs:List V} {ds:List D}:H₀ a=none->G a=none->H a=some (.lst vs)->Reps Γ K G vs ds->SR Γ K H₀ G H (.own ds) (.ref a) [a]
 | obj {c:Str} {a C dx:Addr} {vs:List (Str×V)} {fs:List (Str×D)}:Γ.cls c=some C->H₀ a=none->G a=none->H a=some (.ins C dx vs)->vs.map (·.1)=fs.map (·.1)->Reps Γ K G (vs.map (·.2)) (fs.map (·.2))->Γ.self=some a->SR Γ K H₀ G H (.obj c fs) (.ref a) [a]
 | objd {c n:Str} {a C dx p:Addr} {vs:List (Str×V)} {fs:List (Str×D)} {us:List (Key×V)} {kvs:List (Key×D)}:Γ.cls c=some C->H₀ a=none->G a=none->H a=some (.ins C dx (vs++[(n,.ref p)]))->vs.map (·.1)=fs.map (·.1)->Reps Γ K G (vs.map (·.2)) (fs.map (·.2)) ->
   H₀ p=none->G p=none->H p=some (.dK us)->us.map (·.1)=kvs.map (·.1)->Reps Γ K G (us.map (·.2)) (kvs.map (·.2))->Γ.self=some a->SR Γ K H₀ G H (.objd c fs n kvs) (.ref a) [a,p]
 | odk {a:Addr} {us:List (Key×V)} {kvs:List (Key×D)}:H₀ a=none->G a=none->H a=some (.dK us)->us.map (·.1)=kvs.map (·.1)->Reps Γ K G (us.map (·.2)) (kvs.map (·.2))->SR Γ K H₀ G H (.odk kvs) (.ref a) [a]
 | odt {a:Addr} {us:List (List Key×V)} {kvs:List (List Key×D)}:H₀ a=none->G a=none->H a=some (.dT us)->us.map (·.1)=kvs.map (·.1)->Reps Γ K G (us.map (·.2)) (kvs.map (·.2))->SR Γ K H₀ G H (.odt kvs) (.ref a) [a]
 | tlo {t p:Addr} {vs ws:List V} {ds es:List D}:H₀ p=none->G p=none->H p=some (.lst ws)->G t=some (.tup (vs++[.ref p]))->Reps Γ K G vs ds->Reps Γ K G ws es->SR Γ K H₀ G H (.tlo ds es) (.ref t) [p]
 | pin (a:Addr):SR Γ K H₀ G H (.pin a) (.ref a) []
 | oll {a:Addr} {ps:List Addr} {vss:List (List V)} {dss:List (List D)}:(∀ b∈a::ps,H₀ b=none/\G b=none)->(a::ps).Nodup->H a=some (.lst (ps.map V.ref))->zcG H ps vss->zd6 Γ K G vss dss->SR Γ K H₀ G H (.oll dss) (.ref a) (a::ps)
section
variable {Γ:Cn} {K:PySem.W.Frag} {H₀ G G' H H':Hp} {s:Slot} {v:V} {fp:List Addr}
theorem SR.fpt (r:SR Γ K H₀ G H s v fp):∀ b∈fp,H₀ b=none/\G b=none/\∃ o,H b=some o:=by
 cases r with
 | sh r=>intro b hb;cases hb
 | own h1 h2 h3 _=>intro b hb;rw [List.mem_singleton.mp hb];exact ⟨h1,h2,_,h3⟩
 | obj _ h1 h2 h3 _ _ _=>intro b hb;rw [List.mem_singleton.mp hb];exact ⟨h1,h2,_,h3⟩
 | objd _ h1 h2 h3 _ _ q1 q2 q3 _ _ _ =>
  intro b hb
  rcases List.mem_cons.mp hb with rfl | hb
  ·exact ⟨h1,h2,_,h3⟩
  ·rw [List.mem_singleton.mp hb];exact ⟨q1,q2,_,q3⟩
 | odk h1 h2 h3 _ _=>intro b hb;rw [List.mem_singleton.mp hb];exact ⟨h1,h2,_,h3⟩
 | odt h1 h2 h3 _ _=>intro b hb;rw [List.mem_singleton.mp hb];exact ⟨h1,h2,_,h3⟩
 | tlo h1 h2 h3 _ _ _=>intro b hb;rw [List.mem_singleton.mp hb];exact ⟨h1,h2,_,h3⟩
 | pin a=>intro b hb;cases hb
 | oll h1 h2 h3 h4 _ =>
  intro b hb
  refine ⟨(h1 b hb).1,(h1 b hb).2,?_⟩
  rcases List.mem_cons.mp hb with rfl | hb
  ·exact ⟨_,h3⟩
  ·exact h4.mem b hb
theorem SR.stay (r:SR Γ K H₀ G H s v fp) (gg:zb4 G G') (hg:∀ b∈fp,G' b=none) (hh:∀ b∈fp,H' b=H b):SR Γ K H₀ G' H' s v fp:=by
 cases r with
 | sh r=>exact .sh (r.mono gg)
 | own h1 h2 h3 h4=>exact .own h1 (hg _ (List.mem_singleton.mpr rfl)) ((hh _ (List.mem_singleton.mpr rfl)).trans h3) (h4.mono gg)
 | obj c h1 h2 h3 h4 h5 hs=>exact .obj c h1 (hg _ (List.mem_singleton.mpr rfl)) ((hh _ (List.mem_singleton.mpr rfl)).trans h3) h4 (h5.mono gg) hs
 | objd c h1 h2 h3 h4 h5 q1 q2 q3 q4 q5 hs =>
  exact .objd c h1 (hg _ qf) ((hh _ qf).trans h3) h4 (h5.mono gg) q1 (hg _ (qg _ qf)) ((hh _ (qg _ qf)).trans q3) q4 (q5.mono gg) hs
 | odk h1 h2 h3 h4 h5=>exact .odk h1 (hg _ (List.mem_singleton.mpr rfl)) ((hh _ (List.mem_singleton.mpr rfl)).trans h3) h4 (h5.mono gg)
 | odt h1 h2 h3 h4 h5=>exact .odt h1 (hg _ (List.mem_singleton.mpr rfl)) ((hh _ (List.mem_singleton.mpr rfl)).trans h3) h4 (h5.mono gg)
 | pin a=>exact .pin a
 | oll h1 h2 h3 h4 h5=>exact .oll (fun b hb=>⟨(h1 b hb).1,hg b hb⟩) h2 ((hh _ qf).trans h3) (h4.stay fun b hb=>hh b (qg _ hb)) (h5.map fun r=>r.mono gg)
 | tlo h1 h2 h3 h4 h5 h6=>exact .tlo h1 (hg _ (List.mem_singleton.mpr rfl)) ((hh _ (List.mem_singleton.mpr rfl)).trans h3) (gg _ _ h4) (h5.mono gg) (h6.mono gg)
theorem SR.stepS (r:SR Γ K H₀ G H s v fp) (t:Step G H G' H'):SR Γ K H₀ G' H' s v fp:=r.stay t.gg (fun b hb=>by
 obtain ⟨_,h2,o,h3⟩:=r.fpt b hb
 exact (t.out b o h3).trans h2) (fun b hb=>by
 obtain ⟨_,_,o,h3⟩:=r.fpt b hb
 rw [h3];exact t.hh b o h3)
end
theorem SR.uniq {Γ:Cn} {K:PySem.W.Frag} {H₀ G H:Hp} {s:Slot} {v:V} {fp fq:List Addr} (r:SR Γ K H₀ G H s v fp) (q:SR Γ K H₀ G H s v fq):fp=fq:=by
 cases r with
 | sh r=>cases q;rfl
 | own h1 h2 h3 _=>cases q;rfl
 | obj _ h1 h2 h3 _ _ _=>cases q;rfl
 | objd _ h1 h2 h3 _ _ q1 q2 q3 _ _ _ =>
  cases q with
  | objd _ _ _ k3 _ _ _ _ _ _ _ _ =>
   rw [h3] at k3
   have z:=(HO.ins.inj (qE k3)).2.2
   have z2:=(List.append_inj' z rfl).2
   cases z2
   rfl
 | odk h1 h2 h3 _ _=>cases q;rfl
 | odt h1 h2 h3 _ _=>cases q;rfl
 | pin a=>cases q;rfl
 | oll _ _ h3 _ _ =>
  cases q with
  | oll _ _ k3 _ _ =>
   rw [h3] at k3
   rw [zky (HO.lst.inj (qE k3))]
 | tlo _ _ _ h4 _ _ =>
  cases q with
  | tlo _ _ _ k4 _ _ =>
   rw [h4] at k4
   have z:=HO.tup.inj (qE k4)
   have z2:=(List.append_inj' z rfl).2
   cases z2
   rfl
structure EnvRel (Γ:Cn) (K:PySem.W.Frag) (H₀ G H:Hp) (ρ:zaX) (σ:St):Prop where
 len:ρ.length=σ.length
 sl:∃ fps:Nat->List Addr,(∀ (i:Nat) s,ρ[i]?=some (some s)->∃ v,σ[i]?=some (some v)/\SR Γ K H₀ G H s v (fps i)) /\
  ∀ (i j:Nat) s t,i≠j->ρ[i]?=some (some s)->ρ[j]?=some (some t)->∀ b∈fps i,b∉fps j
structure At (Γ:Cn) (K:PySem.W.Frag) (G₀ H₀ G H:Hp) (ρ:zaX) (σ:St):Prop where
 st:Step G₀ H₀ G H
 env:EnvRel Γ K H₀ G H ρ σ
def zeQ (ρ:zaX):Prop:=∀ (i:Nat) s,ρ[i]?=some (some s)->∃ d,s=.sh d
section
variable {Γ:Cn} {K:PySem.W.Frag} {G₀ H₀ G G' H H':Hp} {ρ:zaX} {σ:St}
theorem EnvRel.ofSh (len:ρ.length=σ.length) (no:zeQ ρ) (sh:∀ (i:Nat) d,ρ[i]?=some (some (.sh d))->∃ v,σ[i]?=some (some v)/\Rep Γ K G v d):EnvRel Γ K H₀ G H ρ σ :=
 ⟨len,fun _=>[],fun i s e=>by
  obtain ⟨d,rfl⟩:=no i s e
  obtain ⟨v,h1,h2⟩:=sh i d e
  exact ⟨v,h1,.sh h2⟩,fun _ _ _ _ _ _ _ b hb=>by cases hb⟩
theorem EnvRel.sh (E:EnvRel Γ K H₀ G H ρ σ) (i:Nat) (d:D) (e:ρ[i]?=some (some (.sh d))):∃ v,σ[i]?=some (some v)/\Rep Γ K G v d:=by
 obtain ⟨fps,h,_⟩:=E.sl
 obtain ⟨v,h1,h2⟩:=h i _ e
 generalize fps i=fp at h2
 cases h2 with
 | sh r=>exact ⟨v,h1,r⟩
theorem EnvRel.own (E:EnvRel Γ K H₀ G H ρ σ) (i:Nat) (ds:List D) (e:ρ[i]?=some (some (.own ds))):∃ a vs,σ[i]?=some (some (.ref a))/\H₀ a=none/\G a=none/\H a=some (.lst vs)/\Reps Γ K G vs ds:=by
 obtain ⟨fps,h,_⟩:=E.sl
 obtain ⟨v,h1,h2⟩:=h i _ e
 generalize fps i=fp at h2
 cases h2 with
 | own q1 q2 q3 q4=>exact ⟨_,_,h1,q1,q2,q3,q4⟩
theorem At.gh (A:At Γ K G₀ H₀ G H ρ σ):zb4 G H:=A.st.gh
theorem At.step (A:At Γ K G₀ H₀ G H ρ σ) (s:Step G H G' H'):At Γ K G₀ H₀ G' H' ρ σ:=by
 obtain ⟨fps,h,ap⟩:=A.env.sl
 exact ⟨A.st.trans s,A.env.len,fps,fun i t e=>by
  obtain ⟨v,h1,h2⟩:=h i t e
  exact ⟨v,h1,h2.stepS s⟩,ap⟩
theorem At.put (A:At Γ K G₀ H₀ G H ρ σ) {i:Nat} {s':Slot} {v':V} {fp fp':List Addr}
  (hfp:fp=[]\/∃ s v,ρ[i]?=some (some s)/\σ[i]?=some (some v)/\SR Γ K H₀ G H s v fp)
  (hH:∀ b o,H b=some o->b∉fp->H' b=some o) (hS:SR Γ K H₀ G' H' s' v' fp') (hn:∀ b∈fp',b∈fp\/H b=none)
  (gg:zb4 G G') (gh:zb4 G' H') (out:∀ b o,H b=some o->b∉fp->G' b=G b) (out2:∀ b∈fp,H₀ b=none):At Γ K G₀ H₀ G' H' (ρ.set i (some s')) (σ.set i (some v')):=by
 obtain ⟨fps,h,ap⟩:=A.env.sl
 have hl:=A.env.len
 have old:∀ b∈fp,∀ j t,j≠i->ρ[j]?=some (some t)->b∉fps j:=fun b hb j t hj e=>by
  rcases hfp with rfl | ⟨s,v,h1,h2,h3⟩
  ·cases hb
  ·obtain ⟨v2,h4,h5⟩:=h i s h1
   rw [h2] at h4
   cases h4
   have efp:fp=fps i:=h3.uniq h5
   subst efp
   exact ap i j s t (Ne.symm hj) h1 e b hb
 have slj:∀ (j:Nat) t,j≠i->ρ[j]?=some (some t)->∃ v,σ[j]?=some (some v)/\SR Γ K H₀ G' H' t v (fps j):=fun j t hj e=>by
  obtain ⟨v,h1,h2⟩:=h j t e
  refine ⟨v,h1,h2.stay gg (fun b hb=>?_) (fun b hb=>?_)⟩
  ·obtain ⟨_,q2,o,q3⟩:=h2.fpt b hb
   exact (out b o q3 fun z=>old b z j t hj e hb).trans q2
  ·obtain ⟨_,_,o,q3⟩:=h2.fpt b hb
   rw [q3];exact hH b o q3 fun z=>old b z j t hj e hb
 have no2:∀ b o,H₀ b=some o->b∉fp:=fun b o e z=>by rw [out2 b z] at e;cases e
 have hst:Step G₀ H₀ G' H':=⟨fun b o e=>hH b o (A.st.hh b o e) (no2 b o e),A.st.gg.trans gg,gh,fun b o e=>(out b o (A.st.hh b o e) (no2 b o e)).trans (A.st.out b o e)⟩
 refine ⟨hst,by simp [hl],fun j=>if j=i then fp' else fps j,fun j t e=>?_,fun j k t u hjk e1 e2 b hb=>?_⟩
 ·by_cases hj:j=i
  ·subst hj
   have hlt:j < ρ.length:=by
    rcases Nat.lt_or_ge j ρ.length with q | q
    ·exact q
    ·rw [List.getElem?_eq_none (by simp;omega)] at e;cases e
   rw [List.getElem?_set_self hlt] at e
   cases e
   show ∃ v,_/\SR _ _ _ _ _ _ v (if j=j then fp' else fps j)
   rw [qV rfl]
   exact ⟨v',by rw [List.getElem?_set_self (by omega)],hS⟩
  ·rw [List.getElem?_set_ne (Ne.symm hj)] at e ⊢
   show ∃ v,_/\SR _ _ _ _ _ _ v (if j=i then fp' else fps j)
   rw [qW hj]
   exact slj j t hj e
 ·have cross:∀ {k:Nat} {u:Slot},k≠i->ρ[k]?=some (some u)->∀ b∈fp',b∉fps k:=fun {k u} hk e b hb hb2=>by
   rcases hn b hb with z | z
   ·exact old b z k u hk e hb2
   ·obtain ⟨v,_,q⟩:=h k u e
    obtain ⟨_,_,o,q3⟩:=q.fpt b hb2
    rw [z] at q3;cases q3
  replace hb:b∈(if j=i then fp' else fps j):=hb
  show b∉(if k=i then fp' else fps k)
  by_cases hj:j=i
  ·subst hj
   have hk:k≠j:=Ne.symm hjk
   rw [qV rfl] at hb
   rw [qW hk]
   rw [List.getElem?_set_ne hjk] at e2
   exact cross hk e2 b hb
  ·rw [qW hj] at hb
   rw [List.getElem?_set_ne (Ne.symm hj)] at e1
   by_cases hk:k=i
   ·subst hk
    rw [qV rfl]
    exact fun z=>cross hj e1 b z hb
   ·rw [qW hk]
    rw [List.getElem?_set_ne (Ne.symm hk)] at e2
    exact ap j k t u hjk e1 e2 b hb
theorem At.setSh (A:At Γ K G₀ H₀ G H ρ σ) {i:Nat} {v:V} {d:D} (r:Rep Γ K G v d):At Γ K G₀ H₀ G H (ρ.set i (some (.sh d))) (σ.set i (some v)) :=
 A.put (fp:=[]) (fp':=[]) (.inl rfl) (fun b o e _=>e) (.sh r) (fun b hb=>by cases hb) (.refl _) A.gh (fun _ _ _ _=>rfl) (fun b hb=>by cases hb)
theorem At.setOwn (A:At Γ K G₀ H₀ G H ρ σ) {i:Nat} {a:Addr} {vs:List V} {ds:List D} (ha:H a=none) (r:Reps Γ K G vs ds):At Γ K G₀ H₀ G (upd H a (.lst vs)) (ρ.set i (some (.own ds))) (σ.set i (some (.ref a))):=by
 have h0:H₀ a=none:=A.st.hh.free ha
 have hg:G a=none:=A.gh.free ha
 refine A.put (fp:=[]) (fp':=[a]) (.inl rfl) (fun b o e _=>by rw [zaz (zau e ha)];exact e) (.own h0 hg zaL r) (fun b hb=>.inr (by rw [List.mem_singleton.mp hb];exact ha)) (.refl _) (fun b o e=>?_) (fun _ _ _ _=>rfl) (fun b hb=>by cases hb)
 rw [zaz (zau e hg)];exact A.gh b o e
theorem zi2 {α:Type} {l:List α} {i:Nat} {x:α} (h:l[i]?=some x):l.set i x=l:=by
 apply List.ext_getElem?
 intro j
 by_cases hj:j=i
 ·subst hj
  rw [List.getElem?_set_self (List.getElem?_eq_some_iff.mp h).1,h]
 ·rw [List.getElem?_set_ne (Ne.symm hj)]
theorem At.ch (A:At Γ K G₀ H₀ G H ρ σ) {i:Nat} {s s':Slot} {v:V} {fp fp':List Addr} (hi:ρ[i]?=some (some s)) (hv:σ[i]?=some (some v)) (hs:SR Γ K H₀ G H s v fp)
  (hH:∀ b o,H b=some o->b∉fp->H' b=some o) (hS:SR Γ K H₀ G' H' s' v fp') (hn:∀ b∈fp',b∈fp\/H b=none)
  (gg:zb4 G G') (gh:zb4 G' H') (out:∀ b o,H b=some o->b∉fp->G' b=G b):At Γ K G₀ H₀ G' H' (ρ.set i (some s')) σ:=by
 have:=A.put (i:=i) (.inr ⟨s,v,hi,hv,hs⟩) hH hS hn gg gh out fun b hb=>(hs.fpt b hb).1
 rwa [zi2 hv] at this
theorem At.get (A:At Γ K G₀ H₀ G H ρ σ) {i:Nat} {s:Slot} (hi:ρ[i]?=some (some s)):∃ v fp,σ[i]?=some (some v)/\SR Γ K H₀ G H s v fp:=by
 obtain ⟨fps,h,_⟩:=A.env.sl
 obtain ⟨v,h1,h2⟩:=h i s hi
 exact ⟨v,_,h1,h2⟩
theorem At.chOwn (A:At Γ K G₀ H₀ G H ρ σ) {i:Nat} {a:Addr} {ds es:List D} {ws:List V} (hi:ρ[i]?=some (some (.own ds))) (ha:σ[i]?=some (some (.ref a))) (r:Reps Γ K G ws es):At Γ K G₀ H₀ G (upd H a (.lst ws)) (ρ.set i (some (.own es))) σ:=by
 obtain ⟨v,fp,h1,h2⟩:=A.get hi
 rw [ha] at h1
 cases h1
 cases h2 with
 | own q1 q2 q3 q4 =>
  refine A.ch hi ha (.own q1 q2 q3 q4) (fun b o e hb=>?_) (.own q1 q2 zaL r) (fun b hb=>.inl hb) (.refl _) (fun b o e=>?_) (fun _ _ _ _=>rfl)
  ·rw [zaz (fun z=>hb (List.mem_singleton.mpr z))];exact e
  ·rw [zaz (zau e q2)];exact A.gh b o e
theorem At.freeze (A:At Γ K G₀ H₀ G H ρ σ) {i:Nat} {ds:List D} (hi:ρ[i]?=some (some (.own ds))):∃ G',zb4 G G'/\At Γ K G₀ H₀ G' H (ρ.set i (some (.sh (.lst ds)))) σ:=by
 obtain ⟨v,fp,h1,h2⟩:=A.get hi
 cases h2 with
 | own q1 q2 q3 q4 =>
  rename_i a vs
  have sm:zb4 G (upd G a (.lst vs)):=fun b o e=>by rw [zaz (zau e q2)];exact e
  refine ⟨upd G a (.lst vs),sm,A.ch hi h1 (.own q1 q2 q3 q4) (fun b o e hb=>e) (.sh (.lst zaL (q4.mono sm))) (fun b hb=>by cases hb) sm (fun b o e=>?_) (fun b o e hb=>?_)⟩
  ·by_cases hb:b=a
   ·subst hb;rw [zaL] at e;cases e;exact q3
   ·rw [zaz hb] at e;exact A.gh b o e
  ·rw [zaz (fun z=>hb (List.mem_singleton.mpr z))]
end
end L2
end
section
namespace L2
open PySem PySem.Spec PyProof.Rows
mutual
inductive NewL (H G:Hp):V->D->Prop where
 | flat {v:V} {d:D}:zui d=true->NewL H G v d
 | tup {a:Addr} {vs:List V} {ds:List D}:G a=some (.tup vs)->NewLs H G vs ds->NewL H G (.ref a) (.tup ds)
 | lst {a:Addr} {vs:List V} {ds:List D}:G a=some (.lst vs)->H a=none->NewLs H G vs ds->NewL H G (.ref a) (.lst ds)
inductive NewLs (H G:Hp):List V->List D->Prop where
 | nil:NewLs H G [] []
 | cons {v:V} {d:D} {vs:List V} {ds:List D}:NewL H G v d->NewLs H G vs ds->NewLs H G (v::vs) (d::ds)
end
section
variable {H H' G G':Hp}
mutual
theorem NewL.mono:∀ {v:V} {d:D},NewL H G v d->zb4 G G'->zb4 H' H->NewL H' G' v d
 | _,_,.flat h,_,_=>.flat h
 | _,_,.tup h r,s,t=>.tup (s _ _ h) (r.mono s t)
 | _,_,.lst h n r,s,t=>.lst (s _ _ h) (t.free n) (r.mono s t)
theorem NewLs.mono:∀ {vs:List V} {ds:List D},NewLs H G vs ds->zb4 G G'->zb4 H' H->NewLs H' G' vs ds
 | _,_,.nil,_,_=>.nil
 | _,_,.cons h r,s,t=>.cons (h.mono s t) (r.mono s t)
end
end
inductive Fl where
 | nx | bk | ct | rt (d:D) | ow (ds:List D) | nw (d:D) | od (kvs:List (Key×D))
abbrev FE:=zaX->Option D
abbrev FT:=zaX->Option Bool
abbrev FA:=zaX->Option (List D)
abbrev FS:=zaX->Option (Fl×zaX)
def TD (Γ:Cn) (K:PySem.W.Frag) (f:FE):TE:=fun σ H Q=>∃ G₀ H₀ G ρ d,At Γ K G₀ H₀ G H ρ σ/\f ρ=some d/\∀ v G' H',Step G H G' H'->Rep Γ K G' v d->Q v H'
def TDt (Γ:Cn) (K:PySem.W.Frag) (f:FT):TT:=fun σ H Q=>∃ G₀ H₀ G ρ b,At Γ K G₀ H₀ G H ρ σ/\f ρ=some b/\∀ G' H',Step G H G' H'->Q b H'
def TDa (Γ:Cn) (K:PySem.W.Frag) (f:FA):TA:=fun σ H Q=>∃ G₀ H₀ G ρ ds,At Γ K G₀ H₀ G H ρ σ/\f ρ=some ds/\∀ vs G' H',Step G H G' H'->Reps Γ K G' vs ds->Q vs H'
def zuE (Γ:Cn) (K:PySem.W.Frag) (E:Ends) (H₀ G' H':Hp) (σ':St):Fl->Prop
 | .nx=>E.nx σ' H'
 | .bk=>E.bk σ' H'
 | .ct=>E.ct σ' H'
 | .rt d=>∀ v,Rep Γ K G' v d->E.rt v H'
 | .ow ds=>∀ p vs,H₀ p=none->G' p=none->H' p=some (.lst vs)->Reps Γ K G' vs ds->E.rt (.ref p) H'
 | .nw d=>∀ v,Rep Γ K G' v d->NewL H₀ G' v d->E.rt v H'
 | .od kvs=>∀ p us,H₀ p=none->G' p=none->H' p=some (.dK us)->us.map (·.1)=kvs.map (·.1)->Reps Γ K G' (us.map (·.2)) (kvs.map (·.2))->E.rt (.ref p) H'
def TDs (Γ:Cn) (K:PySem.W.Frag) (g:FS):TS:=fun E σ H=>∃ G₀ H₀ G ρ fl ρ',At Γ K G₀ H₀ G H ρ σ/\g ρ=some (fl,ρ')/\∀ σ' G' H',zb4 G G'->At Γ K G₀ H₀ G' H' ρ' σ'->zuE Γ K E H₀ G' H' σ' fl
def TDo (Γ:Cn) (K:PySem.W.Frag) (f:FA):TE:=fun σ H Q=>∃ G₀ H₀ G ρ ds,At Γ K G₀ H₀ G H ρ σ/\f ρ=some ds/\∀ p vs G' H',Step G H G' H'->H' p=none->Reps Γ K G' vs ds->Q (.ref p) (upd H' p (.lst vs))
structure DE (Γ:Cn) (X:Cx) (e:Expr) (f:FE):Prop where
 out:PE X e (TD Γ X.K f)
structure DT (Γ:Cn) (X:Cx) (e:Expr) (f:FT):Prop where
 out:PT X e (TDt Γ X.K f)
structure DW (Γ:Cn) (X:Cx) (e:Expr) (f:FT):Prop where
 out:PW X e (TDt Γ X.K f)
structure DA (Γ:Cn) (X:Cx) (es:List Expr) (f:FA):Prop where
 out:PA X es (TDa Γ X.K f)
structure DS (Γ:Cn) (X:Cx) (st:Stmt) (g:FS):Prop where
 out:PS X st (TDs Γ X.K g)
structure DSs (Γ:Cn) (X:Cx) (st:List Stmt) (g:FS):Prop where
 out:PSs X st (TDs Γ X.K g)
structure DO (Γ:Cn) (X:Cx) (e:Expr) (f:FA):Prop where
 out:PE X e (TDo Γ X.K f)
section
variable {Γ:Cn} {X:Cx} {a b c e:Expr} {es:List Expr} {fa fb fc f:FE} {pos:Pos}
theorem PE.imp {t t':TE} (h:PE X e t) (i:∀ σ H Q,t' σ H Q->t σ H Q):PE X e t':=fun pins s σ H Q I q=>h pins s σ H Q I (i _ _ _ q)
theorem PT.imp {t t':TT} (h:PT X e t) (i:∀ σ H Q,t' σ H Q->t σ H Q):PT X e t':=fun pins s σ H Q I q=>h pins s σ H Q I (i _ _ _ q)
theorem PW.imp {t t':TT} (h:PW X e t) (i:∀ σ H Q,t' σ H Q->t σ H Q):PW X e t':=fun wh pins s σ H Q I q=>h wh pins s σ H Q I (i _ _ _ q)
theorem PA.imp {t t':TA} (h:PA X es t) (i:∀ σ H Q,t' σ H Q->t σ H Q):PA X es t':=fun p pins s σ H Q I q=>h p pins s σ H Q I (i _ _ _ q)
theorem PS.imp {st:Stmt} {t t':TS} (h:PS X st t) (i:∀ E σ H,t' E σ H->t E σ H):PS X st t':=fun pins s σ H E I q=>h pins s σ H E I (i _ _ _ q)
theorem PSs.imp {st:List Stmt} {t t':TS} (h:PSs X st t) (i:∀ E σ H,t' E σ H->t E σ H):PSs X st t':=fun pins s σ H E I q=>h pins s σ H E I (i _ _ _ q)
def vSh (i:Nat):FE:=fun ρ=>match ρ[i]? with
 | some (some (.sh d))=>some d
 | _=>none
theorem znx {i:Nat} {ρ:zaX} {d:D} (h:vSh i ρ=some d):ρ[i]?=some (some (.sh d)):=by
 unfold vSh at h
 split at h
 ·rename_i e;cases h;exact e
 ·cases h
theorem zac (i:Nat) {x:Str} (hN:X.N[i]?=some x:=by rfl) (hv:Vis X.env.scope x:=by first | exact Or.inl rfl | exact Or.inr (Or.inl rfl) | exact Or.inr (Or.inr rfl)) (hd:(x==("__debug__":Str))=false:=by decide)
  (hcd:(x==("__classdict__":Str))=false:=by decide):DE Γ X (.Name x pos) (vSh i):=⟨(zgg hN hv hd hcd).imp fun σ H Q ⟨G₀,H₀,G,ρ,d,A,h,k⟩=>by
 obtain ⟨v,h1,h2⟩:=A.env.sh i d (znx h)
 exact ⟨v,h1,k v G H (.refl A.gh) h2⟩⟩
def vC (d:D):FE:=fun _=>some d
theorem TD.const {d:D} {v:V} (r:∀ G,Rep Γ X.K G v d) (h:PE X e (tC v)):DE Γ X e (vC d):=⟨h.imp fun σ H Q ⟨G₀,H₀,G,ρ,d',A,h,k⟩=>by
 cases h
 exact k v G H (.refl A.gh) (r G)⟩
theorem zad {i j}:DE Γ X (.Constant (.int i) j pos) (vC (.int i)):=TD.const (fun _=>.int i) zoY
theorem zd3 {i j}:DE Γ X (.Constant (.bool i) j pos) (vC (.bl i)):=TD.const (fun _=>.bl i) zt4
theorem zm7 {j}:DE Γ X (.Constant .none j pos) (vC .non):=TD.const (fun _=>.non) zsh
theorem za3 {i j}:DE Γ X (.Constant (.str i) j pos) (vC (.str i)):=TD.const (fun _=>.str i) zoX
theorem zcm {x:Str} {i:Int} {t:Tok} (hg:Gl X x) (hm:X.mg x=some (.int i t)) (hd:(x==("__debug__":Str))=false:=by decide):DE Γ X (.Name x pos) (vC (.int i)):=TD.const (fun _=>.int i) (zqa hg hm ⟨t,rfl⟩ hd)
def b2 (g:D->D->Option D) (fa fb:FE):FE:=fun ρ=>(fa ρ).bind fun x=>(fb ρ).bind fun y=>g x y
def b1 (g:D->Option D) (fa:FE):FE:=fun ρ=>(fa ρ).bind g
def zjN (Γ:Cn) (K:PySem.W.Frag) (g:D->D->Option D) (r:R2):Prop :=
 ∀ {G H v u x y z},zb4 G H->Rep Γ K G v x->Rep Γ K G u y->g x y=some z->∀ Q:VK,(∀ w G' H',Step G H G' H'->Rep Γ K G' w z->Q w H')->r v u H Q
theorem TD.two {g:D->D->Option D} {r:R2} (hr:zjN Γ X.K g r):∀ σ H Q,TD Γ X.K (b2 g fa fb) σ H Q->tOp r (TD Γ X.K fa) (TD Γ X.K fb) σ H Q:=by
 rintro σ H Q ⟨G₀,H₀,G,ρ,d,A,h,k⟩
 unfold b2 at h
 cases ha:fa ρ with
 | none=>rw [ha] at h;cases h
 | some x =>
  cases hb:fb ρ with
  | none=>rw [ha] at h;simp only [qa,hb,Option.bind_none] at h;cases h
  | some y =>
   simp only [ha,hb,qa] at h
   refine ⟨G₀,H₀,G,ρ,x,A,ha,fun v G1 H1 s1 r1=>⟨G₀,H₀,G1,ρ,y,A.step s1,hb,fun u G2 H2 s2 r2=>?_⟩⟩
   exact hr s2.gh (r1.mono s2.gg) r2 h Q fun w G' H' s r=>k w G' H' ((s1.trans s2).trans s) r
theorem ziC {op:Operator} {g:D->D->Option D} {r:R2} (ho:OpR X (binaryOp op) r) (hr:zjN Γ X.K g r) (ha:DE Γ X a fa) (hb:DE Γ X b fb):DE Γ X (.BinOp a op b pos) (b2 g fa fb):=⟨(zt2 ho ha.1 hb.1).imp (TD.two hr)⟩
def za6:D->D->Option D
 | .int i,.int j=>some (.int (i+j))
 | .str x,.str y=>if x.length+y.length<=sizeLine then some (.str (x++y)) else none
 | .lst x,.lst y=>if x.length+y.length<=sizeLine then some (.lst (x++y)) else none
 | _,_=>none
def zrA:D->D->Option D
 | .int i,.int j=>some (.int (i - j))
 | _,_=>none
def znt (x:Str) (n:Nat):Str:=⟨(List.replicate n x.cps.toList).flatten.toArray⟩
def zdH:D->D->Option D
 | .int i,.int j=>if (-(2 ^ 64) < i/\i < 2 ^ 64)\/(-(2 ^ 64) < j/\j < 2 ^ 64) then some (.int (i*j)) else none
 | .lst x,.int j=>if -(2 ^ 63)<=j/\j < 2 ^ 63/\x.length*j.toNat<=sizeLine then some (.lst (List.replicate j.toNat x).flatten) else none
 | .str x,.int j=>if 0<=j/\j < 1000/\x.length < 1000 then some (.str (znt x j.toNat)) else none
 | _,_=>none
def zeA:D->D->Option D
 | .int i,.int j=>if 0 < j/\j < 1073741824 then some (.int (i / j)) else none
 | _,_=>none
def zce:D->D->Option D
 | .int i,.int j=>if 0 < j then some (.int (i % j)) else none
 | _,_=>none
def zdo:D->D->Option D
 | .int i,.int j=>if 0<=j/\j<=1000000/\i.natAbs < 2 ^ 64 then some (.int (i ^ j.toNat)) else none
 | _,_=>none
theorem Rep.int_inv {K:PySem.W.Frag} {G:Hp} {v:V} {i:Int} (r:Rep Γ K G v (.int i)):v=.int i:=by cases r;rfl
theorem Rep.str_inv {K:PySem.W.Frag} {G:Hp} {v:V} {i:Str} (r:Rep Γ K G v (.str i)):v=.str i:=by cases r;rfl
theorem Rep.bl_inv {K:PySem.W.Frag} {G:Hp} {v:V} {i:Bool} (r:Rep Γ K G v (.bl i)):v=.bl i:=by cases r;rfl
theorem Rep.lst_inv {K:PySem.W.Frag} {G:Hp} {v:V} {ds:List D} (r:Rep Γ K G v (.lst ds)):∃ a vs,v=.ref a/\G a=some (.lst vs)/\Reps Γ K G vs ds:=by cases r;exact ⟨_,_,rfl,by assumption,by assumption⟩
theorem Rep.tup_inv {K:PySem.W.Frag} {G:Hp} {v:V} {ds:List D} (r:Rep Γ K G v (.tup ds)):∃ a vs,v=.ref a/\G a=some (.tup vs)/\Reps Γ K G vs ds:=by cases r;exact ⟨_,_,rfl,by assumption,by assumption⟩
theorem Rep.scr_inv {K:PySem.W.Frag} {G:Hp} {v:V} {ns:List Int} (r:Rep Γ K G v (.scr ns)):∃ a,v=.ref a/\SqL K G a (ns.map V.int):=by cases r;exact ⟨_,rfl,by assumption⟩
theorem zd1 {K:PySem.W.Frag} {G H:Hp} {vs:List V} {ds:List D} {Q:VK} (gh:zb4 G H) (r:Reps Γ K G vs ds) (k:∀ w G' H',Step G H G' H'->Rep Γ K G' w (.lst ds)->Q w H'):∀ p,H p=none->Q (.ref p) (upd H p (.lst vs)):=fun p hp=>by
 have s:=Step.new (o:=.lst vs) gh hp
 exact k _ _ _ s (.lst zaL (r.mono s.gg))
theorem zio {K:PySem.W.Frag} {G H:Hp} {vs:List V} {ds:List D} {Q:VK} (gh:zb4 G H) (r:Reps Γ K G vs ds) (k:∀ w G' H',Step G H G' H'->Rep Γ K G' w (.tup ds)->Q w H'):∀ p,H p=none->Q (.ref p) (upd H p (.tup vs)):=fun p hp=>by
 have s:=Step.new (o:=.tup vs) gh hp
 exact k _ _ _ s (.tup zaL (r.mono s.gg))
theorem zos {K:PySem.W.Frag}:zjN Γ K za6 (fun x y H Q=>(rI0 (fun i j=>V.int (i+j)) x y H Q\/(∃ i j,x=.str i/\y=.str j/\i.length+j.length<=sizeLine/\Q (.str (i++j)) H))\/ztW x y H Q):=by
 intro G H v u x y z gh r1 r2 h Q k
 unfold za6 at h
 split at h
 ·cases h
  cases r1.int_inv;cases r2.int_inv
  exact .inl (.inl ⟨_,_,rfl,rfl,k _ G H (.refl gh) (.int _)⟩)
 ·split at h
  ·cases h
   cases r1.str_inv;cases r2.str_inv
   exact .inl (.inr ⟨_,_,rfl,rfl,by assumption,k _ G H (.refl gh) (.str _)⟩)
  ·cases h
 ·split at h
  ·rename_i hz
   cases h
   obtain ⟨a,vs,rfl,ha,ra⟩:=r1.lst_inv
   obtain ⟨b,us,rfl,hb,rb⟩:=r2.lst_inv
   exact .inr ⟨a,b,vs,us,rfl,rfl,gh _ _ ha,gh _ _ hb,by rw [ra.length,rb.length];exact hz,zd1 gh (ra.append rb) k⟩
  ·cases h
 ·cases h
theorem zqj:OpR X (binaryOp .Add) (fun x y H Q=>(rI0 (fun i j=>V.int (i+j)) x y H Q\/(∃ i j,x=.str i/\y=.str j/\i.length+j.length<=sizeLine/\Q (.str (i++j)) H))\/ztW x y H Q):=(zsy.or zll).or zsx
theorem zaF (ha:DE Γ X a fa) (hb:DE Γ X b fb):DE Γ X (.BinOp a .Add b pos) (b2 za6 fa fb):=ziC zqj zos ha hb
theorem zmY {K:PySem.W.Frag} {g:D->D->Option D} {o:Int->Int->Int} (hg:∀ x y z,g x y=some z->∃ i j,x=.int i/\y=.int j/\z=.int (o i j)):zjN Γ K g (rI0 fun i j=>V.int (o i j)):=by
 intro G H v u x y z gh r1 r2 h Q k
 obtain ⟨i,j,rfl,rfl,rfl⟩:=hg x y z h
 cases r1.int_inv;cases r2.int_inv
 exact ⟨_,_,rfl,rfl,k _ G H (.refl gh) (.int _)⟩
theorem zeB {K:PySem.W.Frag} {g:D->D->Option D} {C:Int->Int->Prop} {o:Int->Int->Int} (hg:∀ x y z,g x y=some z->∃ i j,x=.int i/\y=.int j/\C i j/\z=.int (o i j)):zjN Γ K g (rI C fun i j=>V.int (o i j)):=by
 intro G H v u x y z gh r1 r2 h Q k
 obtain ⟨i,j,rfl,rfl,hc,rfl⟩:=hg x y z h
 cases r1.int_inv;cases r2.int_inv
 exact ⟨_,_,rfl,rfl,hc,k _ G H (.refl gh) (.int _)⟩
theorem zta (ha:DE Γ X a fa) (hb:DE Γ X b fb):DE Γ X (.BinOp a .Sub b pos) (b2 zrA fa fb):=ziC zso (zmY fun x y z h=>by
 unfold zrA at h;split at h <;> cases h;exact ⟨_,_,rfl,rfl,rfl⟩) ha hb
theorem zfd (ha:DE Γ X a fa) (hb:DE Γ X b fb):DE Γ X (.BinOp a .FloorDiv b pos) (b2 zeA fa fb):=ziC zqh (zeB fun x y z h=>by
 unfold zeA at h;split at h
 ·split at h <;> cases h;exact ⟨_,_,rfl,rfl,by assumption,rfl⟩
 ·cases h) ha hb
theorem zbA (ha:DE Γ X a fa) (hb:DE Γ X b fb):DE Γ X (.BinOp a .Mod b pos) (b2 zce fa fb):=ziC zsu (zeB fun x y z h=>by
 unfold zce at h;split at h
 ·split at h <;> cases h;exact ⟨_,_,rfl,rfl,by assumption,rfl⟩
 ·cases h) ha hb
theorem zci (ha:DE Γ X a fa) (hb:DE Γ X b fb):DE Γ X (.BinOp a .Pow b pos) (b2 zdo fa fb):=ziC zsr (zeB fun x y z h=>by
 unfold zdo at h;split at h
 ·split at h <;> cases h;exact ⟨_,_,rfl,rfl,by assumption,rfl⟩
 ·cases h) ha hb
theorem zkT (a:Array Nat):∀ (k:Nat) (acc:List Nat),(List.replicate k a).foldl (·++·) acc.toArray=(acc++(List.replicate k a.toList).flatten).toArray
 | 0,acc=>by simp
 | k+1,acc=>by
  rw [List.replicate_succ,List.foldl_cons,List.replicate_succ,List.flatten_cons,← List.append_assoc,← zkT a k (acc++a.toList)]
  congr 1
  simp
def zrU:R2:=fun x y H Q=>∃ z n,x=.str z/\y=.int n/\0<=n/\n < 1000/\z.length < 1000/\Q (.str (znt z n.toNat)) H
theorem zqg:OpR X (binaryOp .Mult) zrU:=by
 intro pins s σ H x y v u Q I rx ry h
 obtain ⟨z,n,rfl,rfl,h0,h1,h2,q⟩:=h
 obtain ⟨t,rfl⟩:=rx
 obtain ⟨t',rfl⟩:=ry
 have hl:z.length*n.toNat<=1000000:=qJ (Nat.mul_le_mul (Nat.le_of_lt h2) (show n.toNat<=1000 by omega)) (by decide)
 have e0:(List.replicate n.toNat z.cps).foldl (·++·) #[]=(znt z n.toNat).cps:=by
  have:=zkT z.cps n.toNat []
  simpa [znt] using this
 refine PySem.P.mul_str ?_ (fun h _=>?_) (fun _ _=>?_) ?_
 ·rw [qK (by omega),qK (by omega)];rfl
 ·have e:(z.length:Int)*n=((z.length*n.toNat:Nat):Int):=by rw [Int.natCast_mul];congr 1;omega
  have:(z.length:Int)<=(2 ^ 63 - 1:Int) / n:=Int.le_ediv_of_mul_le (by omega) (by rw [e];omega)
  omega
 ·unfold Builtin.Str.tooLong
  exact qK (by have:=sizeLine_eq;omega)
 ·split
  ·have:n=0:=by omega
   subst this
   exact ⟨by decide,⟨.str _,H,I.tok _,⟨_,rfl⟩,by simpa [znt,Str.empty] using q⟩⟩
  ·split
   ·rename_i hc
    have ez:znt z n.toNat=z:=by
     rcases Bool.or_eq_true _ _▸hc with e | e
     ·have:n=1:=by simpa using e
      subst this
      simp [znt]
     ·have hz:z.cps=#[]:=by
       have:z.cps.size=0:=by simpa [Str.length] using e
       exact Array.eq_empty_of_size_eq_zero this
      cases z
      simp only at hz
      subst hz
      simp [znt]
    exact ⟨.str _,H,I,⟨_,rfl⟩,by rw [← ez];exact q⟩
   ·rw [e0]
    refine ⟨?_,⟨.str _,H,I.tok _,⟨_,rfl⟩,q⟩⟩
    have e1:(znt z n.toNat).length=n.toNat*z.length:=by
     show (List.replicate n.toNat z.cps.toList).flatten.toArray.size=_
     rw [qy,zmy]
     simp [Str.length]
    show (znt z n.toNat).length<=sizeLine
    rw [e1,Nat.mul_comm]
    have:=sizeLine_eq
    omega
theorem zor {K:PySem.W.Frag}:zjN Γ K zdH (fun x y H Q=>(rI ztC (fun i j=>V.int (i*j)) x y H Q\/zuO x y H Q)\/zrU x y H Q):=by
 intro G H v u x y z gh r1 r2 h Q k
 unfold zdH at h
 split at h
 ·split at h
  ·cases h
   cases r1.int_inv;cases r2.int_inv
   exact .inl (.inl ⟨_,_,rfl,rfl,by assumption,k _ G H (.refl gh) (.int _)⟩)
  ·cases h
 ·split at h
  ·rename_i hz
   cases h
   obtain ⟨a,vs,rfl,ha,ra⟩:=r1.lst_inv
   cases r2.int_inv
   exact .inl (.inr ⟨a,_,vs,rfl,rfl,gh _ _ ha,hz.1,hz.2.1,by rw [ra.length];exact hz.2.2,zd1 gh (ra.rep _) k⟩)
  ·cases h
 ·split at h
  ·rename_i hz
   cases h
   cases r1.str_inv
   cases r2.int_inv
   exact .inr ⟨_,_,rfl,rfl,hz.1,hz.2.1,hz.2.2,k _ G H (.refl gh) (.str _)⟩
  ·cases h
 ·cases h
theorem zcL (ha:DE Γ X a fa) (hb:DE Γ X b fb):DE Γ X (.BinOp a .Mult b pos) (b2 zdH fa fb):=ziC ((zst.or zsq).or zqg) zor ha hb
end
end L2
end
section
namespace L2
open PySem PySem.Spec PyProof.Rows
section
variable {Γ:Cn} {X:Cx} {a b c e:Expr} {es:List Expr} {fa fb fc f:FE} {pos:Pos}
theorem Rep.non_inv {K:PySem.W.Frag} {G:Hp} {v:V} (r:Rep Γ K G v .non):v=.non:=by cases r;rfl
def ltS (x y:Str):Bool:=decide (x.cps.toList < y.cps.toList)
def ltD:D->D->Option D
 | .int i,.int j=>some (.bl (decide (i < j)))
 | .str x,.str y=>some (.bl (ltS x y))
 | _,_=>none
def leD:D->D->Option D
 | .int i,.int j=>some (.bl (decide (i<=j)))
 | .str x,.str y=>some (.bl (!ltS y x))
 | _,_=>none
def gtD:D->D->Option D
 | .int i,.int j=>some (.bl (decide (j < i)))
 | _,_=>none
def eqS:D->D->Option Bool
 | .int i,.int j=>some (decide (i=j))
 | .bl i,.bl j=>some (decide (i=j))
 | .str i,.str j=>some (decide (i=j))
 | .non,.non=>some true
 | .non,.int _=>some false | .int _,.non=>some false | .non,.bl _=>some false | .bl _,.non=>some false | .non,.str _=>some false | .str _,.non=>some false
 | .int _,.str _=>some false | .str _,.int _=>some false | .bl _,.str _=>some false | .str _,.bl _=>some false
 | _,_=>none
def eqD (x y:D):Option D:=(eqS x y).map D.bl
def neD (x y:D):Option D:=(eqS x y).map fun b=>D.bl (!b)
theorem zpf {K:PySem.W.Frag} {G:Hp} {v u:V} {x y:D} {k:Bool} (r1:Rep Γ K G v x) (r2:Rep Γ K G u y) (h:eqS x y=some k):ztP v u=true/\decide (v=u)=k:=by
 unfold eqS at h
 split at h <;> cases h
 ·cases r1.int_inv;cases r2.int_inv;exact ⟨rfl,by simp⟩
 ·cases r1.bl_inv;cases r2.bl_inv;exact ⟨rfl,by simp⟩
 ·cases r1.str_inv;cases r2.str_inv;exact ⟨rfl,by simp⟩
 ·cases r1.non_inv;cases r2.non_inv;exact ⟨rfl,by simp⟩
 ·cases r1.non_inv;cases r2.int_inv;exact ⟨rfl,by simp⟩
 ·cases r1.int_inv;cases r2.non_inv;exact ⟨rfl,by simp⟩
 ·cases r1.non_inv;cases r2.bl_inv;exact ⟨rfl,by simp⟩
 ·cases r1.bl_inv;cases r2.non_inv;exact ⟨rfl,by simp⟩
 ·cases r1.non_inv;cases r2.str_inv;exact ⟨rfl,by simp⟩
 ·cases r1.str_inv;cases r2.non_inv;exact ⟨rfl,by simp⟩
 ·cases r1.int_inv;cases r2.str_inv;exact ⟨rfl,by simp⟩
 ·cases r1.str_inv;cases r2.int_inv;exact ⟨rfl,by simp⟩
 ·cases r1.bl_inv;cases r2.str_inv;exact ⟨rfl,by simp⟩
 ·cases r1.str_inv;cases r2.bl_inv;exact ⟨rfl,by simp⟩
theorem zqZ {K:PySem.W.Frag}:zjN Γ K eqD rEq:=by
 intro G H v u x y z gh r1 r2 h Q k
 unfold eqD at h
 cases e:eqS x y with
 | none=>rw [e] at h;cases h
 | some b =>
  rw [e] at h
  cases h
  obtain ⟨h1,h2⟩:=zpf r1 r2 e
  exact ⟨h1,by rw [h2];exact k _ G H (.refl gh) (.bl _)⟩
theorem zqV {K:PySem.W.Frag}:zjN Γ K neD rNe:=by
 intro G H v u x y z gh r1 r2 h Q k
 unfold neD at h
 cases e:eqS x y with
 | none=>rw [e] at h;cases h
 | some b =>
  rw [e] at h
  cases h
  obtain ⟨h1,h2⟩:=zpf r1 r2 e
  exact ⟨h1,by rw [h2];exact k _ G H (.refl gh) (.bl _)⟩
theorem zmX {K:PySem.W.Frag} {g:D->D->Option D} {o:Int->Int->Bool} (hg:∀ x y z,g x y=some z->∃ i j,x=.int i/\y=.int j/\z=.bl (o i j)):zjN Γ K g (rI0 fun i j=>V.bl (o i j)):=by
 intro G H v u x y z gh r1 r2 h Q k
 obtain ⟨i,j,rfl,rfl,rfl⟩:=hg x y z h
 cases r1.int_inv;cases r2.int_inv
 exact ⟨_,_,rfl,rfl,k _ G H (.refl gh) (.bl _)⟩
theorem zmk:OpR X (compareOp .LtE) (fun x y H Q=>∃ i j,x=.str i/\y=.str j/\Q (.bl (!ltS j i)) H):=by
 intro pins s σ H x y v u Q I rx ry h
 obtain ⟨i,j,rfl,rfl,q⟩:=h
 obtain ⟨t,rfl⟩:=rx
 obtain ⟨t',rfl⟩:=ry
 exact PySem.P.le_str (zbq I q (by simp [ltS]))
theorem zqW {K:PySem.W.Frag}:zjN Γ K ltD (fun x y H Q=>rI0 (fun i j=>V.bl (decide (i < j))) x y H Q\/∃ i j,x=.str i/\y=.str j/\Q (.bl (decide (i.cps.toList < j.cps.toList))) H):=by
 intro G H v u x y z gh r1 r2 h Q k
 unfold ltD at h
 split at h <;> cases h
 ·cases r1.int_inv;cases r2.int_inv;exact .inl ⟨_,_,rfl,rfl,k _ G H (.refl gh) (.bl _)⟩
 ·cases r1.str_inv;cases r2.str_inv;exact .inr ⟨_,_,rfl,rfl,k _ G H (.refl gh) (.bl _)⟩
theorem zqX {K:PySem.W.Frag}:zjN Γ K leD (fun x y H Q=>rI0 (fun i j=>V.bl (decide (i<=j))) x y H Q\/∃ i j,x=.str i/\y=.str j/\Q (.bl (!ltS j i)) H):=by
 intro G H v u x y z gh r1 r2 h Q k
 unfold leD at h
 split at h <;> cases h
 ·cases r1.int_inv;cases r2.int_inv;exact .inl ⟨_,_,rfl,rfl,k _ G H (.refl gh) (.bl _)⟩
 ·cases r1.str_inv;cases r2.str_inv;exact .inr ⟨_,_,rfl,rfl,k _ G H (.refl gh) (.bl _)⟩
structure CmpD (Γ:Cn) (X:Cx) (op:CmpOp) (g:D->D->Option D):Prop where
 ex:∃ r,OpR X (compareOp op) r/\zjN Γ X.K g r
theorem zoC:CmpD Γ X .Lt ltD:=⟨_,zt7.or zmj,zqW⟩
theorem ziG:CmpD Γ X .LtE leD:=⟨_,zt8.or zmk,zqX⟩
theorem zq3:CmpD Γ X .Gt gtD:=⟨_,zt9,zmX fun x y z h=>by unfold gtD at h;split at h <;> cases h;exact ⟨_,_,rfl,rfl,rfl⟩⟩
theorem ziH:CmpD Γ X .Eq eqD:=⟨_,zua,zqZ⟩
theorem zur:CmpD Γ X .NotEq neD:=⟨_,zt6,zqV⟩
theorem zeW {op:CmpOp} {g:D->D->Option D} (h:CmpD Γ X op g) (ha:DE Γ X a fa) (hb:DE Γ X b fb) (hm:behindInMarks op b=false):DE Γ X (.Compare a [op] [b] pos) (b2 g fa fb):=⟨by
 obtain ⟨r,ho,hr⟩:=h.ex
 exact (zqb ho ha.1 hb.1 hm).imp (TD.two hr)⟩
def chD (g g':D->D->Option D) (fa fb fc:FE):FE:=fun ρ=>(fa ρ).bind fun x=>(fb ρ).bind fun y=>(g x y).bind fun z=>match z with
 | .bl true=>(fc ρ).bind fun w=>g' y w
 | .bl false=>some (.bl false)
 | _=>none
theorem TD.chain {g g':D->D->Option D} {r r':R2} (hr:zjN Γ X.K g r) (hr':zjN Γ X.K g' r'):∀ σ H Q,TD Γ X.K (chD g g' fa fb fc) σ H Q->zlQ r r' (TD Γ X.K fa) (TD Γ X.K fb) (TD Γ X.K fc) σ H Q:=by
 rintro σ H Q ⟨G₀,H₀,G,ρ,d,A,h,k⟩
 unfold chD at h
 obtain ⟨x,ha,h⟩:=oBd h
 obtain ⟨y,hb,h⟩:=oBd h
 obtain ⟨z,hz,h⟩:=oBd h
 refine ⟨G₀,H₀,G,ρ,x,A,ha,fun v G1 H1 s1 r1=>⟨G₀,H₀,G1,ρ,y,A.step s1,hb,fun u G2 H2 s2 r2=>?_⟩⟩
 refine hr s2.gh (r1.mono s2.gg) r2 hz _ fun w G3 H3 s3 r3=>?_
 split at h
 ·cases r3.bl_inv
  obtain ⟨w,hc,h⟩:=oBd h
  refine ⟨true,rfl,zoh ⟨G₀,H₀,G3,ρ,w,((A.step s1).step s2).step s3,hc,fun q G4 H4 s4 r4=>?_⟩⟩
  exact hr' s4.gh ((r2.mono s3.gg).mono s4.gg) r4 h Q fun w' G' H' s r=>k w' G' H' ((((s1.trans s2).trans s3).trans s4).trans s) r
 ·cases r3.bl_inv
  cases h
  exact ⟨false,rfl,zoi (k _ G3 H3 ((s1.trans s2).trans s3) (.bl _))⟩
 ·cases h
theorem ziE {op op':CmpOp} {g g':D->D->Option D} (h:CmpD Γ X op g) (h':CmpD Γ X op' g') (ha:DE Γ X a fa) (hb:DE Γ X b fb) (hc:DE Γ X c fc) (hm:lastMarks [op,op'] [b,c]=false:=by with_unfolding_all rfl) :
  DE Γ X (.Compare a [op,op'] [b,c] pos) (chD g g' fa fb fc):=⟨by
 obtain ⟨r,ho,hr⟩:=h.ex
 obtain ⟨r',ho',hr'⟩:=h'.ex
 exact (znY ho ho' ha.1 hb.1 hc.1 hm).imp (TD.chain hr hr')⟩
def toB (f:FE):FT:=fun ρ=>(f ρ).bind fun d=>match d with
 | .bl b=>some b
 | _=>none
theorem TDt.val {f:FE}:∀ σ H Q,TDt Γ X.K (toB f) σ H Q->TD Γ X.K f σ H fun x H'=>∃ k,x=.bl k/\Q k H':=by
 rintro σ H Q ⟨G₀,H₀,G,ρ,b,A,h,k⟩
 unfold toB at h
 obtain ⟨d,hd,h⟩:=oBd h
 split at h <;> cases h
 exact ⟨G₀,H₀,G,ρ,_,A,hd,fun v G' H' s r=>⟨b,r.bl_inv,k G' H' s⟩⟩
theorem zcX {op:CmpOp} {g:D->D->Option D} (h:CmpD Γ X op g) (ha:DE Γ X a fa) (hb:DE Γ X b fb) (hm:behindInMarks op b=false):DT Γ X (.Compare a [op] [b] pos) (toB (b2 g fa fb)):=⟨by
 obtain ⟨r,ho,hr⟩:=h.ex
 exact (zpZ ho ha.1 hb.1 hm).imp fun σ H Q q=>TD.two hr σ H _ (TDt.val σ H Q q)⟩
theorem zop {op op':CmpOp} {g g':D->D->Option D} (h:CmpD Γ X op g) (h':CmpD Γ X op' g') (ha:DE Γ X a fa) (hb:DE Γ X b fb) (hc:DE Γ X c fc) (hm:lastMarks [op,op'] [b,c]=false:=by with_unfolding_all rfl) :
  DT Γ X (.Compare a [op,op'] [b,c] pos) (toB (chD g g' fa fb fc)):=⟨by
 obtain ⟨r,ho,hr⟩:=h.ex
 obtain ⟨r',ho',hr'⟩:=h'.ex
 exact (znQ ho ho' ha.1 hb.1 hc.1 hm).imp fun σ H Q q=>TD.chain hr hr' σ H _ (TDt.val σ H Q q)⟩
theorem zaZ (h:DE Γ X e f) (he:∀ whole,isTrue e X.env whole=(do let v ← whole;standAt e.pos;holding [v] (truthy v)):=by intro _;rfl):DT Γ X e (toB f):=⟨(zr2 h.1 he).imp TDt.val⟩
def zcd (f:FT):FT:=fun ρ=>(f ρ).map (!·)
def zoI (f g:FT):FT:=fun ρ=>(f ρ).bind fun b=>if b=true then g ρ else some false
def orT (f g:FT):FT:=fun ρ=>(f ρ).bind fun b=>if b=true then some true else g ρ
variable {ft gt:FT} {zcx:List Expr}
theorem DW.dt {e:Expr} (h:DW Γ X e ft):DT Γ X e ft:=⟨h.1.pt⟩
theorem za4 (h:DT Γ X a ft):DT Γ X (.UnaryOp .Not a pos) (zcd ft):=⟨(zr3 h.1).imp fun σ H Q=>by
 rintro ⟨G₀,H₀,G,ρ,b,A,h,k⟩
 unfold zcd at h
 obtain ⟨c,hc,h⟩:=oMd h
 exact ⟨G₀,H₀,G,ρ,c,A,hc,fun G' H' s=>by show Q (!c) H';rw [h];exact k G' H' s⟩⟩
theorem zmV (h:DT Γ X a ft):DW Γ X (.BoolOp .And [a] pos) ft:=⟨zpW h.1⟩
theorem zcs (h:DT Γ X a ft):DW Γ X (.BoolOp .Or [a] pos) ft:=⟨zrZ h.1⟩
theorem zpg (h:DT Γ X a ft) (h':DW Γ X (.BoolOp .And (b::zcx) pos) gt):DW Γ X (.BoolOp .And (a::b::zcx) pos) (zoI ft gt):=⟨(zr0 h.1 h'.1).imp fun σ H Q=>by
 rintro ⟨G₀,H₀,G,ρ,r,A,h,k⟩
 unfold zoI at h
 obtain ⟨c,hc,h⟩:=oBd h
 refine ⟨G₀,H₀,G,ρ,c,A,hc,fun G1 H1 s1=>?_⟩
 cases c with
 | true=>exact zoh ⟨G₀,H₀,G1,ρ,r,A.step s1,by simpa using h,fun G' H' s=>k G' H' (s1.trans s)⟩
 | false =>
  rw [qW qq] at h
  cases h
  exact zoi (k _ _ s1)⟩
theorem zc3 (h:DT Γ X a ft) (h':DW Γ X (.BoolOp .Or (b::zcx) pos) gt):DW Γ X (.BoolOp .Or (a::b::zcx) pos) (orT ft gt):=⟨(ztX h.1 h'.1).imp fun σ H Q=>by
 rintro ⟨G₀,H₀,G,ρ,r,A,h,k⟩
 unfold orT at h
 obtain ⟨c,hc,h⟩:=oBd h
 refine ⟨G₀,H₀,G,ρ,c,A,hc,fun G1 H1 s1=>?_⟩
 cases c with
 | false=>exact zoi ⟨G₀,H₀,G1,ρ,r,A.step s1,by simpa using h,fun G' H' s=>k G' H' (s1.trans s)⟩
 | true =>
  rw [qV rfl] at h
  cases h
  exact zoh (k _ _ s1)⟩
def zeX (fa fb:FE):FE:=fun ρ=>(fa ρ).bind fun d=>match d with
 | .bl true=>fb ρ
 | .bl false=>some (.bl false)
 | _=>none
def orD (fa fb:FE):FE:=fun ρ=>(fa ρ).bind fun d=>match d with
 | .bl true=>some (.bl true)
 | .bl false=>fb ρ
 | _=>none
def ztx (fa:FE):FE:=fun ρ=>(fa ρ).bind fun d=>match d with
 | .bl b=>some (.bl (!b))
 | _=>none
theorem zds {op} (h:DE Γ X a fa):DE Γ X (.BoolOp op [a] pos) fa:=⟨zsf h.1⟩
theorem zcY (ha:DE Γ X a fa) (hb:DE Γ X (.BoolOp .And (b::zcx) pos) fb):DE Γ X (.BoolOp .And (a::b::zcx) pos) (zeX fa fb):=⟨(zsj ha.1 hb.1).imp fun σ H Q=>by
 rintro ⟨G₀,H₀,G,ρ,d,A,h,k⟩
 unfold zeX at h
 obtain ⟨x,hx,h⟩:=oBd h
 refine ⟨G₀,H₀,G,ρ,x,A,hx,fun v G1 H1 s1 r1=>?_⟩
 split at h
 ·cases r1.bl_inv
  exact ⟨true,rfl,zoh ⟨G₀,H₀,G1,ρ,d,A.step s1,h,fun w G' H' s r=>k w G' H' (s1.trans s) r⟩⟩
 ·cases r1.bl_inv
  cases h
  exact ⟨false,rfl,zoi (k _ G1 H1 s1 (.bl _))⟩
 ·cases h⟩
theorem zup (ha:DE Γ X a fa) (hb:DE Γ X (.BoolOp .Or (b::zcx) pos) fb):DE Γ X (.BoolOp .Or (a::b::zcx) pos) (orD fa fb):=⟨(zt1 ha.1 hb.1).imp fun σ H Q=>by
 rintro ⟨G₀,H₀,G,ρ,d,A,h,k⟩
 unfold orD at h
 obtain ⟨x,hx,h⟩:=oBd h
 refine ⟨G₀,H₀,G,ρ,x,A,hx,fun v G1 H1 s1 r1=>?_⟩
 split at h
 ·cases r1.bl_inv
  cases h
  exact ⟨true,rfl,zoh (k _ G1 H1 s1 (.bl _))⟩
 ·cases r1.bl_inv
  exact ⟨false,rfl,zoi ⟨G₀,H₀,G1,ρ,d,A.step s1,h,fun w G' H' s r=>k w G' H' (s1.trans s) r⟩⟩
 ·cases h⟩
theorem ztb (ha:DE Γ X a fa):DE Γ X (.UnaryOp .Not a pos) (ztx fa):=⟨(zsg ha.1).imp fun σ H Q=>by
 rintro ⟨G₀,H₀,G,ρ,d,A,h,k⟩
 unfold ztx at h
 obtain ⟨x,hx,h⟩:=oBd h
 refine ⟨G₀,H₀,G,ρ,x,A,hx,fun v G1 H1 s1 r1=>?_⟩
 split at h
 ·cases r1.bl_inv
  cases h
  exact ⟨_,rfl,k _ G1 H1 s1 (.bl _)⟩
 ·cases h⟩
def ifD (ft:FT) (fa fb:FE):FE:=fun ρ=>(ft ρ).bind fun c=>if c=true then fa ρ else fb ρ
theorem zow (hc:DT Γ X c ft) (ha:DE Γ X a fa) (hb:DE Γ X b fb):DE Γ X (.IfExp c a b pos) (ifD ft fa fb):=⟨(znW hc.1 ha.1 hb.1).imp fun σ H Q=>by
 rintro ⟨G₀,H₀,G,ρ,d,A,h,k⟩
 unfold ifD at h
 obtain ⟨x,hx,h⟩:=oBd h
 refine ⟨G₀,H₀,G,ρ,x,A,hx,fun G1 H1 s1=>?_⟩
 cases x with
 | true=>exact zoh ⟨G₀,H₀,G1,ρ,d,A.step s1,by simpa using h,fun w G' H' s r=>k w G' H' (s1.trans s) r⟩
 | false=>exact zoi ⟨G₀,H₀,G1,ρ,d,A.step s1,by simpa using h,fun w G' H' s r=>k w G' H' (s1.trans s) r⟩⟩
def zai:FA:=fun _=>some []
def zab (fa:FE) (fr:FA):FA:=fun ρ=>(fa ρ).bind fun x=>(fr ρ).map (x::·)
variable {fr:FA}
theorem zae:DA Γ X [] zai:=⟨zfy.imp fun σ H Q=>by
 rintro ⟨G₀,H₀,G,ρ,d,A,h,k⟩
 cases h
 exact k _ G H (.refl A.gh) .nil⟩
theorem zaa (ha:DE Γ X e fa) (hr:DA Γ X es fr) (hs:starEach (e::es) X.env=(false,eval e X.env)::starEach es X.env:=by rfl):DA Γ X (e::es) (zab fa fr):=⟨(zd0 ha.1 hr.1 hs).imp fun σ H Q=>by
 rintro ⟨G₀,H₀,G,ρ,d,A,h,k⟩
 unfold zab at h
 obtain ⟨x,hx,h⟩:=oBd h
 obtain ⟨xs,hxs,h⟩:=oMd h
 subst h
 exact ⟨G₀,H₀,G,ρ,x,A,hx,fun v G1 H1 s1 r1=>⟨G₀,H₀,G1,ρ,xs,A.step s1,hxs,fun vs G2 H2 s2 r2=>k _ G2 H2 (s1.trans s2) (.cons (r1.mono s2.gg) r2)⟩⟩⟩
def szF (fr:FA):FA:=fun ρ=>(fr ρ).bind fun l=>if l.length<=sizeLine then some l else none
def zaU (fr:FA):FE:=fun ρ=>(fr ρ).map D.lst
def zcK (fr:FA):FE:=fun ρ=>(fr ρ).map D.tup
theorem DO.de (h:DO Γ X e fr):DE Γ X e (zaU fr):=⟨h.1.imp fun σ H Q=>by
 rintro ⟨G₀,H₀,G,ρ,d,A,h,k⟩
 unfold zaU at h
 obtain ⟨ds,hd,rfl⟩:=oMd h
 exact ⟨G₀,H₀,G,ρ,ds,A,hd,fun p vs G' H' s hp r=>zd1 s.gh r (fun w G2 H2 s2 r2=>k w G2 H2 (s.trans s2) r2) p hp⟩⟩
theorem zaP (h:DA Γ X es fr):DO Γ X (.List es pos) (szF fr):=⟨(zmc h.1).imp fun σ H Q=>by
 rintro ⟨G₀,H₀,G,ρ,d,A,h,k⟩
 unfold szF at h
 obtain ⟨ds,hd,h⟩:=oBd h
 split at h
 ·rename_i hz
  cases h
  exact ⟨G₀,H₀,G,ρ,d,A,hd,fun vs G' H' s r=>⟨by rw [r.length];exact hz,fun p hp=>k p vs G' H' s hp r⟩⟩
 ·cases h⟩
theorem zct {x1} (h:DA Γ X es fr):DE Γ X (.Tuple es x1 pos) (zcK (szF fr)):=⟨(zse h.1).imp fun σ H Q=>by
 rintro ⟨G₀,H₀,G,ρ,d,A,h,k⟩
 unfold zcK szF at h
 obtain ⟨ds',hd',rfl⟩:=oMd h
 obtain ⟨ds,hd,h⟩:=oBd hd'
 split at h
 ·rename_i hz
  cases h
  exact ⟨G₀,H₀,G,ρ,ds',A,hd,fun vs G' H' s r=>⟨by rw [r.length];exact hz,zio s.gh r fun w G2 H2 s2 r2=>k w G2 H2 (s.trans s2) r2⟩⟩
 ·cases h⟩
def zrf (Γ:Cn) (K:PySem.W.Frag) (g:List D->Option D) (r:List V->Hp->VK->Prop):Prop :=
 ∀ {G H vs ds z},zb4 G H->Reps Γ K G vs ds->g ds=some z->∀ Q:VK,(∀ w G' H',Step G H G' H'->Rep Γ K G' w z->Q w H')->r vs H Q
def cF (g:List D->Option D) (fr:FA):FE:=fun ρ=>(fr ρ).bind g
theorem TD.call {g:List D->Option D} {r:List V->Hp->VK->Prop} (hr:zrf Γ X.K g r):∀ σ H Q,TD Γ X.K (cF g fr) σ H Q->tCB r (TDa Γ X.K fr) σ H Q:=by
 rintro σ H Q ⟨G₀,H₀,G,ρ,d,A,h,k⟩
 unfold cF at h
 obtain ⟨ds,hd,h⟩:=oBd h
 exact ⟨G₀,H₀,G,ρ,ds,A,hd,fun vs G1 H1 s1 r1=>hr s1.gh r1 h Q fun w G' H' s r=>k w G' H' (s1.trans s) r⟩
structure BltD (Γ:Cn) (X:Cx) (id:String) (g:List D->Option D):Prop where
 ex:∃ r,zfK X (.builtin id) r/\zrf Γ X.K g r
structure TyD (Γ:Cn) (X:Cx) (id:String) (g:List D->Option D):Prop where
 ex:∃ r,zfK X (.type id) r/\zrf Γ X.K g r
variable {x:Str} {p:Pos}
theorem zaK {id:String} {g:List D->Option D} (hc:BltD Γ X id g) (hg:Gl X x) (hm:X.mg x=none) (hv:bootBuiltins x=some (.builtin id)) (ha:DA Γ X (e::es) fr) (hn:x≠"__name__":=by decide) (hdb:(x==("__debug__":Str))=false:=by decide)
  (he:starEach (e::es) X.env=(false,eval e X.env)::starEach es X.env:=by rfl) (hpl:(backTo pos (starEach es X.env)).any (·.1)=false:=by rfl):DE Γ X (.Call (.Name x p) (e::es) [] pos) (cF g fr):=⟨by
 obtain ⟨r,h1,h2⟩:=hc.ex
 exact (zkC h1 hg hm hv ha.1 hn hdb he hpl).imp (TD.call h2)⟩
theorem zba {id:String} {g:List D->Option D} (hc:TyD Γ X id g) (hg:Gl X x) (hm:X.mg x=none) (hv:bootBuiltins x=some (.type id)) (ha:DA Γ X (e::es) fr) (hn:x≠"__name__":=by decide) (hdb:(x==("__debug__":Str))=false:=by decide)
  (he:starEach (e::es) X.env=(false,eval e X.env)::starEach es X.env:=by rfl) (hpl:(backTo pos (starEach es X.env)).any (·.1)=false:=by rfl):DE Γ X (.Call (.Name x p) (e::es) [] pos) (cF g fr):=⟨by
 obtain ⟨r,h1,h2⟩:=hc.ex
 exact (zjc h1 hg hm hv ha.1 hn hdb he hpl).imp (TD.call h2)⟩
theorem ziB {n:String} (hg:Gl X x) (hm:X.mg x=none) (hv:bootBuiltins x=some (.type n)) (hn:x≠"__name__":=by decide) (hd:(x==("__debug__":Str))=false:=by decide):DE Γ X (.Name x pos) (vC (.ty n)):=TD.const (fun _=>.ty n) (zqd hg hm hv rfl hn hd)
theorem Reps.one {K:PySem.W.Frag} {G:Hp} {vs:List V} {d:D} (r:Reps Γ K G vs [d]):∃ v,vs=[v]/\Rep Γ K G v d:=by
 cases r with
 | cons h t=>cases t;exact ⟨_,rfl,h⟩
theorem Reps.two {K:PySem.W.Frag} {G:Hp} {vs:List V} {d d':D} (r:Reps Γ K G vs [d,d']):∃ v u,vs=[v,u]/\Rep Γ K G v d/\Rep Γ K G u d':=by
 cases r with
 | cons h t=>cases t with
  | cons h2 t2=>cases t2;exact ⟨_,_,rfl,h,h2⟩
def zvP:List D->Option D
 | [.int i]=>some (.int (if i < 0 then -i else i))
 | _=>none
def zvO:List D->Option D
 | [.int i,.int j]=>some (.int (if j > i then j else i))
 | _=>none
def ziq:List D->Option D
 | [.int i,.int j]=>some (.int (if j < i then j else i))
 | _=>none
theorem zjH (hc:X.calm=true):BltD Γ X "min" ziq:=⟨_,zng hc,fun {G H vs ds z} gh r h Q k=>by
 unfold ziq at h
 split at h <;> cases h
 obtain ⟨v,u,rfl,r1,r2⟩:=r.two
 cases r1.int_inv;cases r2.int_inv
 exact ⟨_,_,rfl,k _ G H (.refl gh) (.int _)⟩⟩
def zed:List D->Option D
 | [.str x]=>if x.length<=sizeLine then some (.int (x.length:Nat)) else none
 | [.lst l]=>some (.int (l.length:Nat))
 | [.tup l]=>some (.int (l.length:Nat))
 | [.scr l]=>some (.int (l.length:Nat))
 | _=>none
theorem zdu:BltD Γ X "len" zed:=⟨_,zoF,fun {G H vs ds z} gh r h Q k=>by
 unfold zed at h
 split at h
 ·split at h
  ·cases h
   obtain ⟨v,rfl,r1⟩:=r.one
   cases r1.str_inv
   exact ⟨_,_,rfl,⟨by assumption,rfl⟩,k _ G H (.refl gh) (.int _)⟩
  ·cases h
 ·cases h
  obtain ⟨v,rfl,r1⟩:=r.one
  obtain ⟨a,vs,rfl,ha,rv⟩:=r1.lst_inv
  exact ⟨_,_,rfl,.inl ⟨vs,.inl (.inl (gh _ _ ha)),rfl⟩,k _ G H (.refl gh) (by rw [rv.length];exact .int _)⟩
 ·cases h
  obtain ⟨v,rfl,r1⟩:=r.one
  obtain ⟨a,vs,rfl,ha,rv⟩:=r1.tup_inv
  exact ⟨_,_,rfl,.inr ⟨vs,.inl (.inl (gh _ _ ha)),rfl⟩,k _ G H (.refl gh) (by rw [rv.length];exact .int _)⟩
 ·cases h
  obtain ⟨v,rfl,r1⟩:=r.one
  obtain ⟨a,rfl,ha⟩:=r1.scr_inv
  exact ⟨_,_,rfl,.inl ⟨_,gh.seq ha,rfl⟩,k _ G H (.refl gh) (by rw [qe];exact .int _)⟩
 ·cases h⟩
def tyD:D->Option String
 | .non=>some "NoneType"
 | .bl _=>some "bool"
 | .int _=>some "int"
 | .str _=>some "str"
 | .lst _=>some "list"
 | .tup _=>some "tuple"
 | .dk _=>some "dict"
 | .dt _=>some "dict"
 | _=>none
def zjl (t c:String):Option Bool:=if (Value.type t==Value.type c)=true then some true else if PySem.W.kitMeta c=true then Option.map (fun x=>x.contains (Value.type c)) (PySem.fastBuiltinMro t) else none
def zgz:List D->Option D
 | [d,.ty c]=>(tyD d).bind fun t=>(zjl t c).map D.bl
 | _=>none
theorem zpx {K:PySem.W.Frag} {G H:Hp} {v:V} {d:D} {t:String} (gh:zb4 G H) (r:Rep Γ K G v d) (h:tyD d=some t):TyOf K H v (.type t):=by
 unfold tyD at h
 split at h <;> cases h
 ·cases r.non_inv;exact .non
 ·cases r.bl_inv;exact .bl _
 ·cases r.int_inv;exact .int _
 ·cases r.str_inv;exact .str _
 ·obtain ⟨a,vs,rfl,ha,_⟩:=r.lst_inv;exact .lst (gh _ _ ha)
 ·obtain ⟨a,vs,rfl,ha,_⟩:=r.tup_inv;exact .tup (gh _ _ ha)
 ·cases r with
  | dk h _ _=>exact .dK (gh _ _ h)
 ·cases r with
  | dt h _ _=>exact .dT (gh _ _ h)
theorem zfH:BltD Γ X "isinstance" zgz:=by
 refine ⟨fun vs H Q=>∃ v t c b,vs=[v,.ty c]/\TyOf X.K H v (.type t)/\PySem.W.kitOne X.K (.type t) (.type c)=some b/\Q (.bl b) H,?_,?_⟩
 ·intro pins s σ H xs us Q I r h
  obtain ⟨v,t,c,b,rfl,ty,hk,q⟩:=h
  obtain ⟨u,w',rfl,r1,r2⟩:=zrr r
  cases r2
  exact zmG I r1 ty hk fun tk=>⟨.bl b,H,I.tok tk,rfl,q⟩
 ·intro G H vs ds z gh r h Q k
  unfold zgz at h
  split at h
  ·obtain ⟨t,ht,h⟩:=oBd h
   obtain ⟨b,hb,rfl⟩:=oMd h
   obtain ⟨v,u,rfl,r1,r2⟩:=r.two
   cases r2
   exact ⟨v,t,_,b,rfl,zpx gh r1 ht,hb,k _ G H (.refl gh) (.bl _)⟩
  ·cases h
end
end L2
end
section
namespace L2
open PySem PySem.Spec PyProof.Rows
section
variable {Γ:Cn} {X:Cx} {a b c e:Expr} {es:List Expr} {fa fb fc f:FE} {fr:FA} {pos p2:Pos}
theorem Reps.atI {K:PySem.W.Frag} {G:Hp} {vs:List V} {ds:List D} {i:Int} {d:D} (r:Reps Γ K G vs ds) (h:L2.atI ds i=some d):∃ v,L2.atI vs i=some v/\Rep Γ K G v d:=by
 unfold L2.atI at h ⊢
 rw [r.length]
 cases e:ixN ds.length i with
 | none=>rw [e] at h;cases h
 | some j =>
  rw [e] at h
  obtain ⟨v,h1,h2⟩:=r.get (i:=j) (d:=d) h
  exact ⟨v,h1,h2⟩
theorem zra {α β:Type} (g:α->β) (xs:List α) (i:Int):L2.atI (xs.map g) i=(L2.atI xs i).map g:=by
 unfold L2.atI
 rw [qe]
 cases ixN xs.length i with
 | none=>rfl
 | some j=>simp
def ixD:D->D->Option D
 | .lst l,.int i=>atI l i
 | .tup l,.int i=>atI l i
 | .scr l,.int i=>(atI l i).map D.int
 | .str x,.int i=>if x.length<=sizeLine then (atI x.cps.toList i).map fun c=>D.str ⟨#[c]⟩ else none
 | _,_=>none
theorem zqY {K:PySem.W.Frag}:zjN Γ K ixD (rIx K):=by
 intro G H v u x y z gh r1 r2 h Q k
 unfold ixD at h
 split at h
 ·obtain ⟨a,vs,rfl,ha,rv⟩:=r1.lst_inv
  cases r2.int_inv
  obtain ⟨w,hw,rw'⟩:=rv.atI h
  exact .inl ⟨a,vs,_,w,rfl,rfl,.inl (.inl (gh _ _ ha)),hw,k w G H (.refl gh) rw'⟩
 ·obtain ⟨a,vs,rfl,ha,rv⟩:=r1.tup_inv
  cases r2.int_inv
  obtain ⟨w,hw,rw'⟩:=rv.atI h
  exact .inr (.inl ⟨a,vs,_,w,rfl,rfl,.inl (.inl (gh _ _ ha)),hw,k w G H (.refl gh) rw'⟩)
 ·obtain ⟨a,rfl,ha⟩:=r1.scr_inv
  cases r2.int_inv
  obtain ⟨n,hn,rfl⟩:=oMd h
  exact .inl ⟨a,_,_,.int n,rfl,rfl,gh.seq ha,by rw [zra,hn];rfl,k _ G H (.refl gh) (.int _)⟩
 ·split at h
  ·cases r1.str_inv
   cases r2.int_inv
   obtain ⟨n,hn,rfl⟩:=oMd h
   exact .inr (.inr ⟨_,_,n,rfl,rfl,by assumption,hn,k _ G H (.refl gh) (.str _)⟩)
  ·cases h
 ·cases h
theorem zaG (ha:DE Γ X a fa) (hb:DE Γ X b fb) (hs:zkl b:=by intro _ _;rfl):DE Γ X (.Subscript a b pos) (b2 ixD fa fb):=⟨(zsi zo8 ha.1 hb.1 hs).imp (TD.two zqY)⟩
def zlI {α:Type} (xs:List α) (lo hi:Option Int):List α:=(xs.drop (HT.sIx xs.length 0 lo)).take (HT.sIx xs.length xs.length hi - HT.sIx xs.length 0 lo)
theorem zoy {α β:Type} (g:α->β) (xs:List α) (lo hi:Option Int):zlI (xs.map g) lo hi=(zlI xs lo hi).map g:=by
 unfold zlI
 simp
theorem Reps.cut {K:PySem.W.Frag} {G:Hp} {vs:List V} {ds:List D} (r:Reps Γ K G vs ds) (lo hi:Option Int):Reps Γ K G (zpk vs lo hi) (zlI ds lo hi):=by
 unfold zpk zlI
 rw [r.length]
 exact (r.drop _).take _
def zrl (x:Str) (lo hi:Option Int):Str:=⟨(zlI x.cps.toList lo hi).toArray⟩
theorem ziZ (lo hi:Option Int) (n:Nat):Builtin.Str.strSliceIndices lo hi 1 n=(List.range (HT.sIx n n hi - HT.sIx n 0 lo)).map (HT.sIx n 0 lo+·):=by
 rw [← sliceRange_one]
 unfold Builtin.Str.strSliceIndices
 have h1:∀ (o:Option Int) (d:Nat),d<=n->(match o with | none=>(d:Int) | some i=>if (1:Int) > 0 then max 0 (min (if i < 0 then i+(n:Int) else i) n) else max (-1) (min (if i < 0 then i+(n:Int) else i) ((n:Int) - 1)))=((HT.sIx n d o:Nat):Int):=fun o d hd=>by
  cases o with
  | none=>simp [HT.sIx]
  | some i =>
   simp only [HT.sIx,show (1:Int) > 0 by decide,if_true]
   by_cases h:i < 0
   ·simp only [h,if_true];omega
   ·simp only [h,if_false];omega
 have e0:=h1 lo 0 (Nat.zero_le _)
 have e1:=h1 hi n (qu _)
 rw [← e0,← e1]
 rfl
theorem zkt (x:Str) (lo hi:Option Int):Txt.slice x lo hi=zrl x lo hi:=by
 have key:(Builtin.Str.strSliceIndices lo hi 1 x.length).filterMap (x.cps[·]?)=zlI x.cps.toList lo hi:=by
  rw [ziZ,pick_run]
  unfold zlI
  rw [show x.cps.toList.length=x.length by simp [Str.length]]
 unfold Txt.slice zrl
 split
 ·rename_i h
  rw [← key]
  have hl:(Builtin.Str.strSliceIndices lo hi 1 x.length).length=x.length:=by simpa using h
  rw [ziZ] at hl ⊢
  rw [pick_run]
  rw [qe,qR] at hl
  have hb:HT.sIx x.length x.length hi<=x.length:=by
   cases hi with
   | none=>simp [HT.sIx]
   | some i=>simp only [HT.sIx];split <;> omega
  have h0:HT.sIx x.length 0 lo=0\/x.length=0:=by omega
  have hx:x.cps.toList.length=x.length:=by simp [Str.length]
  have e:(x.cps.toList.drop (HT.sIx x.length 0 lo)).take (HT.sIx x.length x.length hi - HT.sIx x.length 0 lo)=x.cps.toList:=by
   rcases h0 with h0 | h0
   ·rw [h0,List.drop_zero]
    rw [h0] at hl
    exact List.take_of_length_le (by omega)
   ·have:x.cps.toList=[]:=List.length_eq_zero_iff.mp (by omega)
    rw [this];simp
  rw [e]
 ·rw [key]
def pN:zaX->Option (Option Int):=fun _=>some none
def pS (f:FE):zaX->Option (Option Int):=fun ρ=>(f ρ).bind fun d=>match d with
 | .int i=>some (some i)
 | _=>none
def TDp (Γ:Cn) (K:PySem.W.Frag) (f:zaX->Option (Option Int)):TO:=fun σ H Q=>∃ G₀ H₀ G ρ o,At Γ K G₀ H₀ G H ρ σ/\f ρ=some o/\∀ G' H',Step G H G' H'->Q o H'
structure DP (Γ:Cn) (X:Cx) (e:Option Expr) (f:zaX->Option (Option Int)):Prop where
 out:PO X e (TDp Γ X.K f)
theorem ziz:DP Γ X none pN:=⟨fun pins s σ H Q I ⟨G₀,H₀,G,ρ,o,A,h,k⟩=>by
 cases h
 exact zp4 pins s σ H Q I (k G H (.refl A.gh))⟩
theorem ziy (h:DE Γ X e f):DP Γ X (some e) (pS f):=⟨fun pins s σ H Q I ⟨G₀,H₀,G,ρ,o,A,q,k⟩=>by
 unfold pS at q
 obtain ⟨d,hd,q⟩:=oBd q
 split at q <;> cases q
 exact zp3 h.1 pins s σ H Q I ⟨G₀,H₀,G,ρ,_,A,hd,fun v G' H' s r=>⟨_,r.int_inv,k G' H' s⟩⟩⟩
theorem zrK:SlR X (fun x lo hi H Q=>∃ z,x=.str z/\z.length<=sizeLine/\Q (.str (zrl z lo hi)) H):=by
 intro pins s σ H x v vl vu lo hi sl Q I rx hs pl pu h
 obtain ⟨z,rfl,hz,q⟩:=h
 obtain ⟨t,rfl⟩:=rx
 refine ⟨"str",_,PySem.F.slot_str_getitem.lookup,typeIs_str _ _ _,?_⟩
 obtain ⟨l,rfl,el⟩:∃ l:Option (Int×Tok),vl=partValue l/\l.map (·.1)=lo:=by
  cases pl with
  | none=>exact ⟨none,rfl,rfl⟩
  | int i t=>exact ⟨some (i,t),rfl,rfl⟩
 obtain ⟨u,rfl,eu⟩:∃ l:Option (Int×Tok),vu=partValue l/\l.map (·.1)=hi:=by
  cases pu with
  | none=>exact ⟨none,rfl,rfl⟩
  | int i t=>exact ⟨some (i,t),rfl,rfl⟩
 refine wpAny_getItem_str_slice (l:=l) (u:=u) (st:=none) hs rfl ?_
 have e:(if ((Option.map (fun x=>x.fst) (none:Option (Int×Tok))).getD 1==1 && (slicePicked z l u none).length==z.length)=true then z else { cps:=(List.filterMap (fun x=>z.cps[x]?) (slicePicked z l u none)).toArray })=zrl z lo hi:=by
  have e0:Txt.slice z (l.map (·.1)) (u.map (·.1))=zrl z lo hi:=by
   rw [el,eu]
   exact zkt z lo hi
  exact e0
 refine post_val_or_str ⟨?_,fun t' k=>?_⟩
 ·rw [e,← zkt]
  exact qJ (Txt.slice_le z _ _) hz
 ·rw [e]
  exact ⟨.str _,H,I.tok k,⟨_,rfl⟩,q⟩
def zku (lo hi:Option Int):D->Option D
 | .lst l=>some (.lst (zlI l lo hi))
 | .scr l=>some (.lst ((zlI l lo hi).map D.int))
 | .tup l=>if HT.sIx l.length 0 lo=0/\HT.sIx l.length l.length hi=l.length then none else some (.tup (zlI l lo hi))
 | .str x=>if x.length<=sizeLine then some (.str (zrl x lo hi)) else none
 | _=>none
def slF (f:FE) (fl fh:zaX->Option (Option Int)):FE:=fun ρ=>(f ρ).bind fun d=>(fl ρ).bind fun l=>(fh ρ).bind fun h=>zku l h d
variable {fl fh:zaX->Option (Option Int)} {lo hi:Option Expr}
theorem zgC (he:DE Γ X e f) (hl:DP Γ X lo fl) (hh:DP Γ X hi fh):DE Γ X (.Subscript e (.Slice lo hi none p2) pos) (slF f fl fh):=⟨(znU (zpN.or (zrJ.or zrK)) he.1 hl.1 hh.1).imp fun σ H Q=>by
 rintro ⟨G₀,H₀,G,ρ,d,A,h,k⟩
 unfold slF at h
 obtain ⟨x,hx,h⟩:=oBd h
 obtain ⟨l,hl,h⟩:=oBd h
 obtain ⟨u,hu,h⟩:=oBd h
 refine ⟨G₀,H₀,G,ρ,x,A,hx,fun v G1 H1 s1 r1=>⟨G₀,H₀,G1,ρ,l,A.step s1,hl,fun G2 H2 s2=>⟨G₀,H₀,G2,ρ,u,(A.step s1).step s2,hu,fun G3 H3 s3=>?_⟩⟩⟩
 have s:=(s1.trans s2).trans s3
 have r:=r1.mono (s2.gg.trans s3.gg)
 have gh:=s3.gh
 unfold zku at h
 split at h
 ·cases h
  obtain ⟨a,vs,rfl,ha,rv⟩:=r.lst_inv
  exact .inl ⟨a,vs,rfl,.inl (.inl (gh _ _ ha)),zd1 gh (rv.cut l u) fun w G4 H4 s4 r4=>k w G4 H4 (s.trans s4) r4⟩
 ·cases h
  obtain ⟨a,rfl,ha⟩:=r.scr_inv
  refine .inl ⟨a,_,rfl,gh.seq ha,zd1 gh ?_ fun w G4 H4 s4 r4=>k w G4 H4 (s.trans s4) r4⟩
  show Reps Γ X.K G3 (zlI _ l u) _
  rw [zoy]
  exact Reps.ints _
 ·split at h
  ·cases h
  ·rename_i hw
   cases h
   obtain ⟨a,vs,rfl,ha,rv⟩:=r.tup_inv
   exact .inr (.inl ⟨a,vs,rfl,.inl (.inl (gh _ _ ha)),by rw [rv.length];exact hw,zio gh (rv.cut l u) fun w G4 H4 s4 r4=>k w G4 H4 (s.trans s4) r4⟩)
 ·split at h
  ·cases h
   cases r.str_inv
   exact .inr (.inr ⟨_,rfl,by assumption,k _ _ _ s (.str _)⟩)
  ·cases h
 ·cases h⟩
structure MtD (Γ:Cn) (X:Cx) (T id:String) (g:D->List D->Option D):Prop where
 ex:∃ r,MtR X id r/\∀ {G H v x vs ds z},zb4 G H->Rep Γ X.K G v x->Reps Γ X.K G vs ds->g x ds=some z->∀ Q:VK,(∀ w G' H',Step G H G' H'->Rep Γ X.K G' w z->Q w H')->r v vs H Q
 ty:∀ {G H v x ds z},zb4 G H->Rep Γ X.K G v x->g x ds=some z->tyV X.K T v H
def mF (g:D->List D->Option D) (f:FE) (fr:FA):FE:=fun ρ=>(f ρ).bind fun d=>(fr ρ).bind fun ds=>g d ds
variable {name:Str} {apos cpos:Pos} {o:Expr} {fo:FE}
theorem zg9 {T id:String} {g:D->List D->Option D} (pa:PlainAttrs T) (slot:PySem.Slot T name id) (hty:typeOf (.builtin id)=pure (.type "method_descriptor")) (hm:MtD Γ X T id g) (ho:DE Γ X o fo) (ha:DA Γ X (e::es) fr)
  (hbase:attributeBase o name X.env (eval o X.env)=eval o X.env:=by rfl)
  (hfew:((backTo cpos (starEach (e::es) X.env)).all (fun x=>!x.1) && (backToKw cpos (keywordEach [] X.env)).all (fun x=>x.1.isSome)
   && decide ((e::es).length+([]:List Keyword).length+(if ([]:List Keyword).isEmpty then 0 else 1) < 30))=true:=by rfl)
  (hline:(apos.endLine==cpos.line)=true:=by rfl) (hs:starEach (e::es) X.env=(false,eval e X.env)::starEach es X.env:=by rfl) (hplain:(backTo cpos (starEach es X.env)).any (·.1)=false:=by rfl) :
  DE Γ X (.Call (.Attribute o name apos) (e::es) [] cpos) (mF g fo fr):=⟨by
 obtain ⟨r,h1,h2⟩:=hm.ex
 refine (znZ pa slot hty h1 ho.1 ha.1 hbase hfew hline hs hplain).imp fun σ H Q=>?_
 rintro ⟨G₀,H₀,G,ρ,d,A,h,k⟩
 unfold mF at h
 obtain ⟨x,hx,h⟩:=oBd h
 obtain ⟨ds,hd,h⟩:=oBd h
 exact ⟨G₀,H₀,G,ρ,x,A,hx,fun v G1 H1 s1 r1=>⟨hm.ty s1.gh r1 h,G₀,H₀,G1,ρ,ds,A.step s1,hd,fun vs G2 H2 s2 r2=>h2 s2.gh (r1.mono s2.gg) r2 h Q fun w G3 H3 s3 r3=>k w G3 H3 ((s1.trans s2).trans s3) r3⟩⟩⟩
def zjO:List D->Option (List Str)
 | []=>some []
 | .str x::r=>(zjO r).map (x::·)
 | _::_=>none
def zdl:D->List D->Option D
 | .str sep,[.lst l]=>(zjO l).bind fun ys=>if (ys.map (·.length)).sum+ys.length*sep.length<=16777216 then some (.str (Txt.join sep ys)) else none
 | _,_=>none
theorem zkr {K:PySem.W.Frag} {G:Hp}:∀ {vs:List V} {ds:List D} {ys:List Str},Reps Γ K G vs ds->zjO ds=some ys->vs=ys.map V.str
 | _,[],ys,r,h=>by cases r;cases h;rfl
 | _,d::ds,ys,.cons h1 h2,h=>by
  cases d with
  | str x =>
   obtain ⟨zs,hz,rfl⟩:=oMd (show (zjO ds).map (x::·)=some ys from h)
   rw [h1.str_inv,zkr h2 hz];rfl
  | _=>cases h
theorem zhJ:∀ {ys:List Str} {us:List Value},zbX (ys.map V.str) us->StrsAre us ys
 | [],_,r=>by rw [qL] at r;cases r;exact .nil
 | y::ys,_,r=>by
  rw [ql] at r
  cases r with
  | cons r1 r2 =>
   obtain ⟨t,e⟩:=r1
   subst e
   exact .cons y t (zhJ r2)
theorem zdf:MtD Γ X "str" "str.join" zdl:=by
 refine ⟨⟨fun v vs H Q=>∃ sep a ys,v=.str sep/\vs=[.ref a]/\H a=some (.lst (ys.map V.str))/\(ys.map (·.length)).sum+ys.length*sep.length<=16777216/\Q (.str (Txt.join sep ys)) H,?_,?_⟩,?_⟩
 ·intro pins s σ H x xs v us Q I rx rs h
  obtain ⟨sep,a,ys,rfl,rfl,ha,hz,q⟩:=h
  obtain ⟨t,rfl⟩:=rx
  obtain ⟨u,rfl,ru⟩:=zfL rs
  cases ru
  obtain ⟨its,rv,pl,_⟩:=I.list (.inl (.inl ha))
  exact join_list pl.isList (zhJ rv) hz fun t' k=>⟨.str _,H,I.tok k,⟨_,rfl⟩,q⟩
 ·intro G H v x vs ds z gh r1 r2 h Q k
  unfold zdl at h
  split at h
  ·obtain ⟨ys,hy,h⟩:=oBd h
   split at h
   ·cases h
    cases r1.str_inv
    obtain ⟨v,rfl,r3⟩:=r2.one
    obtain ⟨a,ws,rfl,ha,rw'⟩:=r3.lst_inv
    refine ⟨_,a,ys,rfl,rfl,?_,by assumption,k _ G H (.refl gh) (.str _)⟩
    rw [← zkr rw' hy]
    exact gh _ _ ha
   ·cases h
  ·cases h
 ·intro G H v x ds z gh r h
  unfold zdl at h
  split at h
  ·cases r.str_inv;exact rfl
  ·cases h
def zrn:List D->Option (List Bool)
 | []=>some []
 | .bl x::r=>(zrn r).map (x::·)
 | _::_=>none
theorem znm {K:PySem.W.Frag} {G:Hp}:∀ {vs:List V} {ds:List D} {ys:List Bool},Reps Γ K G vs ds->zrn ds=some ys->vs=ys.map V.bl
 | _,[],ys,r,h=>by cases r;cases h;rfl
 | _,d::ds,ys,.cons h1 h2,h=>by
  cases d with
  | bl x =>
   obtain ⟨zs,hz,rfl⟩:=oMd (show (zrn ds).map (x::·)=some ys from h)
   rw [h1.bl_inv,znm h2 hz];rfl
  | _=>cases h
def zjJ:List D->Option D
 | [.lst l]=>(zrn l).map fun bs=>D.bl (bs.all id)
 | _=>none
theorem zlL:∀ {bs:List Bool} {us:List Value},zbX (bs.map V.bl) us->us=bs.map Value.bool
 | [],_,r=>by rw [qL] at r;cases r;rfl
 | y::ys,_,r=>by
  rw [ql] at r
  cases r with
  | cons r1 r2=>cases r1;rw [zlL r2];rfl
theorem znq (bs:List Bool):(List.range bs.length).all (fun i=>bs.getD i false)=bs.all id:=by
 rw [Bool.eq_iff_iff,List.all_eq_true,List.all_eq_true]
 constructor
 ·intro h x hx
  obtain ⟨i,hi,e⟩:=List.mem_iff_getElem.mp hx
  have:=h i (List.mem_range.mpr hi)
  simp [List.getD,hi] at this
  rw [← e];exact this
 ·intro h i hi
  have hi':=List.mem_range.mp hi
  have:=h (bs[i]) (List.getElem_mem hi')
  simp [List.getD,hi']
  exact this
theorem zny {prog:Program} {w:World} {A:Around} {bs:List Bool}:TruthOf prog w A (fun i v=>(bs.map Value.bool).toArray[i]?=some v) (fun i=>bs.getD i false):=fun i v s Q E hP hQ=>by
 have hP':(bs.map Value.bool)[i]?=some v:=by simpa using hP
 rw [qj] at hP'
 obtain ⟨b,hb,rfl⟩:=oMd hP'
 have:bs.getD i false=b:=by simp [List.getD,hb]
 have hQ':Q (bs.getD i false) s:=hQ
 rw [this] at hQ'
 exact wpAny_truthy_bool hQ'
theorem zef (hc:X.calm=true):BltD Γ X "all" zjJ:=by
 refine ⟨fun vs H Q=>∃ (a:Addr) (bs:List Bool),vs=[.ref a]/\H a=some (.lst (bs.map V.bl))/\Q (.bl (bs.all id)) H,?_,?_⟩
 ·intro pins s σ H xs us Q I r h
  obtain ⟨a,bs,rfl,ha,q⟩:=h
  obtain ⟨u,rfl,ru⟩:=zfL r
  cases ru
  obtain ⟨its,rv,pl,_⟩:=I.list (.inl (.inl ha))
  have e:=zlL rv
  subst e
  refine call_all_walk (wpAny_pyIter_list pl.isList ?_)
  have ne:a≠s.heap.objs.size:=by obtain ⟨o,_,h1,_⟩:=pl;exact qz (qt h1)
  refine ⟨s.heap.objs.size,_,_,_,_,_,fun i=>bs.getD i false,rfl,Walks.list (A:=X.A.in1) (show X.A.in1.handled=none from I.ok.hd hc) s.heap.objs.size a ne (bs.map Value.bool).toArray,⟨⟨_,qD _ rfl,rfl,rfl⟩,pl.isList.at fun o q=>qr _ q⟩,zny,fun h' tk hk=>?_⟩
  have e2:(bs.map Value.bool).toArray.size=bs.length:=by simp
  rw [e2,znq]
  refine ⟨.bl _,H,I.kept fun b o z=>hk b o ?_ (qr _ z),rfl,q⟩
  intro z'
  have:b=s.heap.objs.size:=by simpa using z'
  exact absurd (qt z) (by rw [this];exact Nat.lt_irrefl _)
 ·intro G H vs ds z gh r h Q k
  unfold zjJ at h
  split at h
  ·obtain ⟨bs,hb,rfl⟩:=oMd h
   obtain ⟨v,rfl,r1⟩:=r.one
   obtain ⟨a,ws,rfl,ha,rw'⟩:=r1.lst_inv
   refine ⟨a,bs,rfl,?_,k _ G H (.refl gh) (.bl _)⟩
   rw [← znm rw' hb]
   exact gh _ _ ha
  ·cases h
end
end L2
end
section
namespace L2
open PySem PySem.Spec PyProof.Rows
structure Yd (Γ:Cn) (K:PySem.W.Frag) (J:It) (G:Hp) (ds:List D):Prop where
 go:∀ (i:Nat) d G2 H2,ds[i]?=some d->zb4 G G2->zb4 G2 H2->J.go i H2/\∀ x H3,J.yld i H2 x H3->∃ G3,Step G2 H2 G3 H3/\Rep Γ K G3 x d
 stop:∀ G2 H2,zb4 G G2->zb4 G2 H2->J.stop ds.length H2
def TDi (Γ:Cn) (K:PySem.W.Frag) (f:FA):TI:=fun σ H R=>∃ G₀ H₀ G ρ ds,At Γ K G₀ H₀ G H ρ σ/\f ρ=some ds/\∀ J G' H',Step G H G' H'->Yd Γ K J G' ds->R J H'
structure DI (Γ:Cn) (X:Cx) (tg e:Expr) (f:FA):Prop where
 out:PI X tg e (TDi Γ X.K f)
theorem PI.imp {X:Cx} {tg e:Expr} {t t':TI} (h:PI X tg e t) (i:∀ σ H R,t' σ H R->t σ H R):PI X tg e t':=fun pins s σ H R I q=>h pins s σ H R I (i _ _ _ q)
section
variable {Γ:Cn} {X:Cx} {a b c e tg iter:Expr} {es:List Expr} {fa fb fc f:FE} {fr fi:FA} {pos p2 p:Pos}
theorem zro {K:PySem.W.Frag} {G:Hp} {a:Addr} {vs:List V} {ds:List D} (h:G a=some (.tup vs)) (r:Reps Γ K G vs ds):Yd Γ K (Itt K a) G ds:=by
 refine ⟨fun i d G2 H2 hd g1 g2=>?_,fun G2 H2 g1 g2=>⟨vs,.inl (.inl (g2 _ _ (g1 _ _ h))),by rw [r.length];exact qu _⟩⟩
 obtain ⟨v,hv,rv⟩:=r.get hd
 refine ⟨⟨vs,v,.inl (.inl (g2 _ _ (g1 _ _ h))),hv⟩,fun x H3 ⟨e1,e2⟩=>?_⟩
 subst e1
 have:=e2 vs (.inl (.inl (g2 _ _ (g1 _ _ h))))
 rw [hv] at this
 cases this
 exact ⟨G2,.refl g2,rv.mono g1⟩
theorem zlJ {K:PySem.W.Frag} {G:Hp} {a:Addr} {vs:List V} {ds:List D} (h:SqL K G a vs) (r:Reps Γ K G vs ds):Yd Γ K (Ite K a) G (ds.mapIdx fun i d=>D.tup [.int i,d]):=by
 refine ⟨fun i d G2 H2 hd g1 g2=>?_,fun G2 H2 g1 g2=>⟨vs,g2.seq (g1.seq h),by rw [List.length_mapIdx,r.length];exact qu _⟩⟩
 rw [List.getElem?_mapIdx] at hd
 obtain ⟨d',hd',rfl⟩:=oMd hd
 obtain ⟨v,hv,rv⟩:=r.get hd'
 refine ⟨⟨vs,v,g2.seq (g1.seq h),hv⟩,fun x H3 ⟨T,y,e0,hT,e1,e2⟩=>?_⟩
 subst e0
 have:=e2 vs (g2.seq (g1.seq h))
 rw [hv] at this
 cases this
 subst e1
 have s:=Step.new (o:=.tup [.int i,v]) g2 hT
 exact ⟨_,s,.tup zaL (.cons (.int _) (.cons ((rv.mono g1).mono s.gg) .nil))⟩
def zjk:D->Option (List D)
 | .lst l=>some l
 | .tup l=>some l
 | .scr l=>some (l.map D.int)
 | _=>none
def itF (f:FE):FA:=fun ρ=>(f ρ).bind zjk
theorem zsb {l:Expr} {tl:TE} (hl:PE X l tl):PI X tg l (fun σ H R=>tl σ H fun x H1=>(∃ a,x=.ref a/\(∃ xs,SqL X.K H1 a xs)/\R (Itl X.K a) H1)\/(∃ a,x=.ref a/\(∃ xs,SqT X.K H1 a xs)/\R (Itt X.K a) H1)):=by
 intro pins s σ H R I h
 refine thn (hl pins s σ H _ I h) fun v s1 ⟨x,H1,I1,r1,q1⟩=>?_
 rcases q1 with ⟨a,e,⟨xs,hq⟩,q⟩ | ⟨a,e,⟨xs,hq⟩,q⟩
 ·subst e
  cases r1
  obtain ⟨its,rv,p,hz⟩:=I1.list hq
  refine wpAny_pyIter_list p.isList ?_
  refine ⟨s1.heap.objs.size,[s1.heap.objs.size],_,_,H1,rfl,I1.kept (t':=s1.toks) fun b o e=>qr _ e,zlM a _,⟨_,qD _ rfl,rfl,rfl⟩,fun b hb=>?_,q⟩
  have e:b=s1.heap.objs.size:=by simpa using hb
  subst e
  exact I1.fpOk (qu _) (I1.hok.fresh (qu _))
 ·subst e
  cases r1
  obtain ⟨its,rv,p,hz⟩:=I1.tuple hq
  refine wpAny_pyIter_tuple (show s1.heap.IsTuple a its.toArray from p) ?_
  refine ⟨s1.heap.objs.size,[s1.heap.objs.size],_,_,H1,rfl,I1.kept (t':=s1.toks) fun b o e=>qr _ e,zla a _,⟨_,qD _ rfl,rfl,rfl⟩,fun b hb=>?_,q⟩
  have e:b=s1.heap.objs.size:=by simpa using hb
  subst e
  exact I1.fpOk (qu _) (I1.hok.fresh (qu _))
theorem za5 (h:DE Γ X iter f):DI Γ X tg iter (itF f):=⟨(zsb h.1).imp fun σ H R=>by
 rintro ⟨G₀,H₀,G,ρ,ds,A,h,k⟩
 unfold itF at h
 obtain ⟨d,hd,h⟩:=oBd h
 refine ⟨G₀,H₀,G,ρ,d,A,hd,fun v G' H' s r=>?_⟩
 unfold zjk at h
 split at h
 ·cases h
  obtain ⟨a,vs,rfl,ha,rv⟩:=r.lst_inv
  refine .inl ⟨a,rfl,⟨vs,.inl (.inl (s.gh _ _ ha))⟩,k _ G' H' s ?_⟩
  refine ⟨fun i d G2 H2 hd g1 g2=>?_,fun G2 H2 g1 g2=>⟨vs,.inl (.inl (g2 _ _ (g1 _ _ ha))),by rw [rv.length];exact qu _⟩⟩
  obtain ⟨v,hv,rv'⟩:=rv.get hd
  refine ⟨⟨vs,v,.inl (.inl (g2 _ _ (g1 _ _ ha))),hv⟩,fun x H3 ⟨e1,e2⟩=>?_⟩
  subst e1
  have:=e2 vs (.inl (.inl (g2 _ _ (g1 _ _ ha))))
  rw [hv] at this
  cases this
  exact ⟨G2,.refl g2,rv'.mono g1⟩
 ·cases h
  obtain ⟨a,vs,rfl,ha,rv⟩:=r.tup_inv
  exact .inr ⟨a,rfl,⟨vs,.inl (.inl (s.gh _ _ ha))⟩,k _ G' H' s (zro ha rv)⟩
 ·rename_i l
  cases h
  obtain ⟨a,rfl,ha⟩:=r.scr_inv
  refine .inl ⟨a,rfl,⟨_,s.gh.seq ha⟩,k _ G' H' s ?_⟩
  refine ⟨fun i d G2 H2 hd g1 g2=>?_,fun G2 H2 g1 g2=>⟨_,g2.seq (g1.seq ha),by simp⟩⟩
  rw [qj] at hd
  obtain ⟨n,hn,rfl⟩:=oMd hd
  have hv:(List.map V.int l)[i]?=some (V.int n):=by rw [qj,hn];rfl
  refine ⟨⟨_,_,g2.seq (g1.seq ha),hv⟩,fun x H3 ⟨e1,e2⟩=>?_⟩
  subst e1
  have:=e2 _ (g2.seq (g1.seq ha))
  rw [hv] at this
  cases this
  exact ⟨G2,.refl g2,.int _⟩
 ·cases h⟩
def zlX:D->Option (List D)
 | .str x=>some (x.cps.toList.map fun c=>D.str ⟨#[c]⟩)
 | _=>none
def itS (f:FE):FA:=fun ρ=>(f ρ).bind zlX
theorem zs9 {n:Str} {q:Pos} (h:DE Γ X iter f):DI Γ X (.Name n q) iter (itS f):=⟨(zsa h.1).imp fun σ H R=>by
 rintro ⟨G₀,H₀,G,ρ,ds,A,h,k⟩
 unfold itS at h
 obtain ⟨d,hd,h⟩:=oBd h
 refine ⟨G₀,H₀,G,ρ,d,A,hd,fun v G' H' s r=>?_⟩
 unfold zlX at h
 split at h <;> cases h
 cases r.str_inv
 rename_i x
 refine ⟨x,rfl,k _ G' H' s ⟨fun i d G2 H2 hd g1 g2=>?_,fun G2 H2 g1 g2=>?_⟩⟩
 ·rw [qj] at hd
  obtain ⟨c,hc,rfl⟩:=oMd hd
  have hc':x.cps[i]?=some c:=by simpa using hc
  refine ⟨(Array.getElem?_eq_some_iff.mp hc').1,fun y H3 ⟨e1,c2,h2,e2⟩=>?_⟩
  subst e1
  subst e2
  rw [hc'] at h2
  cases h2
  exact ⟨G2,.refl g2,.str _⟩
 ·show _=x.cps.size
  simp⟩
def zs5:D->Option (List D)
 | .lst l=>some (l.mapIdx fun i d=>D.tup [.int i,d])
 | .scr l=>some ((l.map D.int).mapIdx fun i d=>D.tup [.int i,d])
 | _=>none
def itE (f:FE):FA:=fun ρ=>(f ρ).bind zs5
theorem ziA {elts:List Expr} {k1:Nat} {tpos:Pos} (hg:Gl X "enumerate") (hm:X.mg "enumerate"=none) (h:DE Γ X a f) (hs:starEach [a] X.env=[(false,eval a X.env)]:=by rfl) (hs0:starEach ([a]:List Expr) X.env=(false,eval a X.env)::starEach [] X.env:=by rfl) :
  DI Γ X (.Tuple elts k1 tpos) (.Call (.Name "enumerate" p) [a] [] pos) (itE f):=⟨(zp5 hg hm (zd0 h.1 zfy hs0) hs).imp fun σ H R=>by
 rintro ⟨G₀,H₀,G,ρ,ds,A,h,k⟩
 unfold itE at h
 obtain ⟨d,hd,h⟩:=oBd h
 refine ⟨G₀,H₀,G,ρ,d,A,hd,fun v G' H' s r=>?_⟩
 unfold zs5 at h
 split at h
 ·cases h
  obtain ⟨a,vs,rfl,ha,rv⟩:=r.lst_inv
  exact ⟨a,rfl,⟨vs,.inl (.inl (s.gh _ _ ha))⟩,k _ G' H' s (zlJ (.inl (.inl ha)) rv)⟩
 ·cases h
  obtain ⟨a,rfl,ha⟩:=r.scr_inv
  exact ⟨a,rfl,⟨_,s.gh.seq ha⟩,k _ G' H' s (zlJ ha (Reps.ints _))⟩
 ·cases h⟩
theorem zkm {K:PySem.W.Frag} {G:Hp} {lo:Int} {n:Nat}:Yd Γ K (Itr lo n) G ((List.range n).map fun i:Nat=>D.int (lo+i)):=by
 refine ⟨fun i d G2 H2 hd g1 g2=>?_,fun G2 H2 g1 g2=>?_⟩
 ·rw [qj] at hd
  obtain ⟨j,hj,rfl⟩:=oMd hd
  have hi:i < n:=by
   have:=(List.getElem?_eq_some_iff.mp hj).1
   simpa using this
  have e:j=i:=by simpa [hi] using hj.symm
  subst e
  refine ⟨hi,fun x H3 ⟨e1,e2⟩=>?_⟩
  subst e1
  subst e2
  exact ⟨G2,.refl g2,.int _⟩
 ·show n<=_
  simp
def zjL:List D->Option (List D)
 | [.int j]=>if -(2 ^ 62)<=j/\j < 2 ^ 62 then some ((List.range j.toNat).map fun i:Nat=>D.int (0+i)) else none
 | _=>none
def zpS:List D->Option (List D)
 | [.int i,.int j]=>if -(2 ^ 62)<=i/\i < 2 ^ 62 /\ -(2 ^ 62)<=j/\j < 2 ^ 62 then some ((List.range (j - i).toNat).map fun k:Nat=>D.int (i+k)) else none
 | _=>none
def itR (g:List D->Option (List D)) (fr:FA):FA:=fun ρ=>(fr ρ).bind g
theorem zcE (hg:Gl X "range") (hm:X.mg "range"=none) (h:DA Γ X [a] fr) (hs:starEach [a] X.env=[(false,eval a X.env)]:=by rfl):DI Γ X tg (.Call (.Name "range" p) [a] [] pos) (itR zjL fr):=⟨(zmb hg hm h.1 hs).imp fun σ H R=>by
 rintro ⟨G₀,H₀,G,ρ,ds,A,h,k⟩
 unfold itR at h
 obtain ⟨d,hd,h⟩:=oBd h
 refine ⟨G₀,H₀,G,ρ,d,A,hd,fun v G' H' s r=>?_⟩
 unfold zjL at h
 split at h
 ·split at h
  ·rename_i hz
   cases h
   obtain ⟨v,rfl,r1⟩:=r.one
   cases r1.int_inv
   exact ⟨_,rfl,hz.1,hz.2,k _ G' H' s zkm⟩
  ·cases h
 ·cases h⟩
theorem zm2 (hg:Gl X "range") (hm:X.mg "range"=none) (h:DA Γ X [a,b] fr) (hs:starEach [a,b] X.env=[(false,eval a X.env),(false,eval b X.env)]:=by rfl) (hs2:starEach [b] X.env=[(false,eval b X.env)]:=by rfl):DI Γ X tg (.Call (.Name "range" p) [a,b] [] pos) (itR zpS fr):=⟨(zma hg hm h.1 hs hs2).imp fun σ H R=>by
 rintro ⟨G₀,H₀,G,ρ,ds,A,h,k⟩
 unfold itR at h
 obtain ⟨d,hd,h⟩:=oBd h
 refine ⟨G₀,H₀,G,ρ,d,A,hd,fun v G' H' s r=>?_⟩
 unfold zpS at h
 split at h
 ·split at h
  ·rename_i hz
   cases h
   obtain ⟨v,u,rfl,r1,r2⟩:=r.two
   cases r1.int_inv
   cases r2.int_inv
   exact ⟨_,_,rfl,hz,k _ G' H' s zkm⟩
  ·cases h
 ·cases h⟩
abbrev FG:=D->zaX->Option zaX
abbrev FGs:=List D->zaX->Option zaX
def TDg (Γ:Cn) (K:PySem.W.Frag) (g:FG):TG:=fun v σ H Q=>∃ G₀ H₀ G ρ d ρ',At Γ K G₀ H₀ G H ρ σ/\Rep Γ K G v d/\g d ρ=some ρ'/\∀ σ',At Γ K G₀ H₀ G H ρ' σ'->Q σ' H
def zvI (Γ:Cn) (K:PySem.W.Frag) (g:FGs):TGs:=fun vs σ H Q=>∃ G₀ H₀ G ρ ds ρ',At Γ K G₀ H₀ G H ρ σ/\Reps Γ K G vs ds/\g ds ρ=some ρ'/\∀ σ',At Γ K G₀ H₀ G H ρ' σ'->Q σ' H
structure DG (Γ:Cn) (X:Cx) (tg:Expr) (g:FG):Prop where
 pg:PG X tg (TDg Γ X.K g)
 no:∀ d ρ ρ',g d ρ=some ρ'->zeQ ρ->zeQ ρ'
structure DGs (Γ:Cn) (X:Cx) (ts:List Expr) (g:FGs):Prop where
 pg:PGs X ts (zvI Γ X.K g)
 no:∀ d ρ ρ',g d ρ=some ρ'->zeQ ρ->zeQ ρ'
theorem PG.imp {t t':TG} (h:PG X tg t) (i:∀ v σ H Q,t' v σ H Q->t v σ H Q):PG X tg t':=fun pins s σ H v u Q I r q=>h pins s σ H v u Q I r (i _ _ _ _ q)
theorem PGs.imp {ts:List Expr} {t t':TGs} (h:PGs X ts t) (i:∀ v σ H Q,t' v σ H Q->t v σ H Q):PGs X ts t':=fun pins s σ H v u Q I r q=>h pins s σ H v u Q I r (i _ _ _ _ q)
def zaE (i:Nat):FG:=fun d ρ=>some (ρ.set i (some (.sh d)))
theorem zmm {ρ:zaX} {i:Nat} {d:D} (h:zeQ ρ):zeQ (ρ.set i (some (.sh d))):=fun j ds e=>by
 by_cases hj:j=i
 ·subst hj
  rw [List.getElem?_set,qV rfl] at e
  split at e <;> cases e
  exact ⟨_,rfl⟩
 ·rw [List.getElem?_set_ne (Ne.symm hj)] at e
  exact h j ds e
theorem zak (i:Nat) {x:Str} (hN:X.N.Nodup) (hi:X.N[i]?=some x:=by rfl) (hx:Loc X.env.scope x:=by first | exact Or.inl rfl | exact Or.inr rfl) (hf:X.fn x=true\/X.env.scope.names.lookup x=some .local:=by first | exact .inl rfl | exact .inr rfl | assumption):DG Γ X (.Name x pos) (zaE i):=by
 refine ⟨(zp7 hN hi hx hf).imp fun v σ H Q=>?_,fun d ρ ρ' e h=>?_⟩
 ·rintro ⟨G₀,H₀,G,ρ,d,ρ',A,r,h,k⟩
  cases h
  exact k _ (A.setSh r)
 ·cases e
  exact zmm h
def zbr:FGs:=fun ds ρ=>match ds with
 | []=>some ρ
 | _=>none
def zao (g:FG) (gs:FGs):FGs:=fun ds ρ=>match ds with
 | d::r=>(g d ρ).bind fun ρ'=>gs r ρ'
 | _=>none
theorem zbl:DGs Γ X [] zbr:=by
 refine ⟨zp6.imp fun vs σ H Q=>?_,fun d ρ ρ' e h=>?_⟩
 ·rintro ⟨G₀,H₀,G,ρ,ds,ρ',A,r,h,k⟩
  unfold zbr at h
  split at h <;> cases h
  cases r
  exact ⟨rfl,k σ A⟩
 ·unfold zbr at e
  split at e <;> cases e
  exact h
theorem zam {ts:List Expr} {g:FG} {gs:FGs} (h1:DG Γ X e g) (h2:DGs Γ X ts gs) (hs:(assignEach (e::ts) X.env).map (·.2)=assign e X.env::(assignEach ts X.env).map (·.2):=by rfl):DGs Γ X (e::ts) (zao g gs):=by
 refine ⟨(znT h1.pg h2.pg hs).imp fun vs σ H Q=>?_,fun ds ρ ρ' e h=>?_⟩
 ·rintro ⟨G₀,H₀,G,ρ,ds,ρ',A,r,h,k⟩
  unfold zao at h
  split at h
  ·obtain ⟨ρ1,h1,h⟩:=oBd h
   cases r with
   | cons r1 r2=>exact ⟨_,_,rfl,G₀,H₀,G,ρ,_,ρ1,A,r1,h1,fun σ1 A1=>⟨G₀,H₀,G,ρ1,_,ρ',A1,r2,h,k⟩⟩
  ·cases h
 ·unfold zao at e
  split at e
  ·obtain ⟨ρ1,e1,e⟩:=oBd e
   exact h2.no _ _ _ e (h1.no _ _ _ e1 h)
  ·cases e
def zbJ (n:Nat) (gs:FGs):FG:=fun d ρ=>match d with
 | .tup ds=>if ds.length=n then gs ds ρ else none
 | _=>none
theorem zb2 {ts:List Expr} {k:Nat} {gs:FGs} {n:Nat} (hc:X.calm=true) (h:DGs Γ X ts gs) (hn:(assignEach ts X.env).length=n:=by rfl) (hst:(assignEach ts X.env).findIdx? (·.1)=none:=by rfl):DG Γ X (.Tuple ts k pos) (zbJ n gs):=by
 refine ⟨(zsc hc h.pg hn hst).imp fun v σ H Q=>?_,fun ds ρ ρ' e q=>?_⟩
 ·rintro ⟨G₀,H₀,G,ρ,d,ρ',A,r,h,k⟩
  unfold zbJ at h
  split at h
  ·split at h
   ·rename_i hl
    obtain ⟨a,vs,rfl,ha,rv⟩:=r.tup_inv
    exact ⟨a,vs,rfl,.inl (.inl (A.gh _ _ ha)),by rw [rv.length];exact hl,G₀,H₀,G,ρ,_,ρ',A,rv,h,k⟩
   ·cases h
  ·cases h
 ·unfold zbJ at e
  split at e
  ·split at e
   ·exact h.no _ _ _ e q
   ·cases e
  ·cases e
def zhb (g:FG) (ft:FT) (fe:FE):List D->zaX->Option (List D)
 | [],_=>some []
 | x::xs,ρ=>(g x ρ).bind fun ρ1=>(ft ρ1).bind fun b=>if b=true then (fe ρ1).bind fun d=>(zhb g ft fe xs ρ1).map (d::·) else zhb g ft fe xs ρ1
def zfC (fv:List (Option Nat)) (ρ:zaX):zaX:=fv.map fun o=>o.bind fun j=>match ρ[j]? with
 | some (some (.sh d))=>some (.sh d)
 | _=>none
def za7 (fi:FA) (g:FG) (ft:FT) (fe:FE) (fv:List (Option Nat)):FA:=fun ρ=>(fi ρ).bind fun xs=>if xs.length<=sizeLine then zhb g ft fe xs (zfC fv ρ) else none
structure DTs (Γ:Cn) (X:Cx) (es:List Expr) (f:FT):Prop where
 out:PTs X es (TDt Γ X.K f)
theorem PTs.imp {t t':TT} (h:PTs X es t) (i:∀ σ H Q,t' σ H Q->t σ H Q):PTs X es t':=fun pins s σ H Q I q=>h pins s σ H Q I (i _ _ _ q)
def tT:FT:=fun _=>some true
theorem zaR:DTs Γ X [] tT:=⟨zpX.imp fun σ H Q=>by
 rintro ⟨G₀,H₀,G,ρ,b,A,h,k⟩
 cases h
 exact k G H (.refl A.gh)⟩
variable {scope:Scope} {N':List Str} {fv:List (Option Nat)} {g:FG} {ft:FT} {fe:FE} {ifs:List Expr} {elt:Expr}
structure DB (Γ:Cn) (X:Cx) (N':List Str) (scope:Scope) (tg:Expr) (ifs:List Expr) (elt:Expr) (g:FG) (ft:FT) (fe:FE):Prop where
 out:∀ (cl:List (Str×Addr)) (C:Addr) (s₀:Shared) (H₀:Hp) (fp:List Addr),DG Γ (zdt X N' scope cl C s₀ H₀ fp) tg g/\DTs Γ (zdt X N' scope cl C s₀ H₀ fp) ifs ft/\DE Γ (zdt X N' scope cl C s₀ H₀ fp) elt fe
theorem DB.pb (h:DB Γ X N' scope tg ifs elt g ft fe):PB X N' scope tg ifs elt (TDg Γ X.K g) (TDt Γ X.K ft) (TD Γ X.K fe):=fun cl C s₀ H₀ fp=>⟨(h.1 cl C s₀ H₀ fp).1.pg,(h.1 cl C s₀ H₀ fp).2.1.1,(h.1 cl C s₀ H₀ fp).2.2.1⟩
theorem zpc {K:PySem.W.Frag} {G₀ H₀ G H:Hp} {ρ:zaX} {σ:St} (A:At Γ K G₀ H₀ G H ρ σ):At Γ K G H G H (zfC fv ρ) (zmN fv σ)/\zeQ (zfC fv ρ):=by
 have no:zeQ (zfC fv ρ):=fun i ds e=>by
  unfold zfC at e
  rw [qj] at e
  obtain ⟨o,ho,e⟩:=oMd e
  cases o with
  | none=>cases e
  | some j =>
   simp only [qa] at e
   split at e <;> cases e
   exact ⟨_,rfl⟩
 refine ⟨⟨.refl A.gh,.ofSh (by simp [zfC,zmN]) no fun i d e=>?_⟩,no⟩
 unfold zfC at e
 unfold zmN
 rw [qj] at e ⊢
 obtain ⟨o,ho,e⟩:=oMd e
 rw [ho]
 cases o with
 | none=>cases e
 | some j =>
  simp only [qa] at e
  split at e
  ·rename_i d' hd'
   cases e
   obtain ⟨v,h1,h2⟩:=A.env.sh j d hd'
   exact ⟨v,by simp [h1],h2⟩
  ·cases e
theorem zk1 (no:∀ d ρ ρ',g d ρ=some ρ'->zeQ ρ->zeQ ρ'):∀ σ H Q,TDo Γ X.K (za7 fi g ft fe fv) σ H Q->tLC (TDi Γ X.K fi) (TDg Γ X.K g) (TDt Γ X.K ft) (TD Γ X.K fe) fv σ H Q:=by
 rintro σ H Q ⟨G₀,H₀,G,ρ,ds,A,h,k⟩
 unfold za7 at h
 obtain ⟨xs,hx,h⟩:=oBd h
 split at h
 case isFalse=>cases h
 rename_i hz
 refine ⟨G₀,H₀,G,ρ,xs,A,hx,fun J G1 H1 s1 Y acc hacc=>?_⟩
 have gacc:G1 acc=none:=s1.gh.free hacc
 obtain ⟨A0,no0⟩:=zpc (fv:=fv) (A.step s1)
 refine ⟨fun i m ys σ' H'=>m=xs.length - i/\i<=xs.length/\ys.length<=i/\∃ G' ρ' done zcx,At Γ X.K G1 H1 G' H' ρ' σ'/\zeQ ρ'/\H' acc=some (.lst ys)/\G' acc=none/\Reps Γ X.K G' ys done/\zhb g ft fe (xs.drop i) ρ'=some zcx/\done++zcx=ds,?_,?_⟩
 ·refine ⟨xs.length,rfl,Nat.zero_le _,qu _,G1,zfC fv ρ,[],ds,?_,no0,zaL,gacc,.nil,by rw [List.drop_zero];exact h,rfl⟩
  have sn:=Step.newOwn (o:=.lst []) s1.gh hacc
  exact ⟨sn,.ofSh A0.env.len no0 A0.env.sh⟩
 ·rintro i m ys σ' H' ⟨hm,hi,hyi,G',ρ',done,zcx,A',no',hacc',gacc',ry,hr,hd⟩
  subst hm
  refine ⟨hacc',?_⟩
  by_cases hlt:i < xs.length
  ·right
   have hxi:xs[i]?=some xs[i]:=by simp [hlt]
   obtain ⟨go,yl⟩:=Y.go i _ G' H' hxi A'.st.gg A'.gh
   refine ⟨go,fun x H2 hy=>?_⟩
   obtain ⟨G2,s2,r2⟩:=yl x H2 hy
   have A2:=A'.step s2
   have hdr:xs.drop i=xs[i]::xs.drop (i+1):=List.drop_eq_getElem_cons hlt
   rw [hdr] at hr
   unfold zhb at hr
   obtain ⟨ρ1,h1,hr⟩:=oBd hr
   obtain ⟨b,h2,hr⟩:=oBd hr
   refine ⟨G1,H1,G2,ρ',_,ρ1,A2,r2,h1,fun σ2 A3=>⟨G1,H1,G2,ρ1,b,A3,h2,fun G4 H4 s4=>?_⟩⟩
   have no1:=no _ _ _ h1 no'
   have hH4:H4 acc=some (.lst ys):=s4.hh _ _ (s2.hh _ _ hacc')
   have hG4:G4 acc=none:=(s4.out _ _ (s2.hh _ _ hacc')).trans ((s2.out _ _ hacc').trans gacc')
   cases b with
   | false =>
    rw [qW qq] at hr
    refine zoi ⟨xs.length - (i+1),by omega,rfl,hlt,by omega,G4,ρ1,done,zcx,A3.step s4,no1,hH4,hG4,(ry.mono s2.gg).mono s4.gg,hr,hd⟩
   | true =>
    rw [qV rfl] at hr
    obtain ⟨d,h3,hr⟩:=oBd hr
    obtain ⟨zs,h5,rfl⟩:=oMd hr
    refine zoh ⟨G1,H1,G4,ρ1,d,A3.step s4,h3,fun v G5 H5 s5 r5=>?_⟩
    have A5:=(A3.step s4).step s5
    have hH5:H5 acc=some (.lst ys):=s5.hh _ _ hH4
    have hG5:G5 acc=none:=(s5.out _ _ hH4).trans hG4
    refine ⟨hH5,by omega,xs.length - (i+1),by omega,rfl,hlt,by rw [qi,qT];omega,G5,ρ1,done++[d],zs,?_,no1,zaL,hG5,((((ry.mono s2.gg).mono s4.gg).mono s5.gg).append (.cons r5 .nil)),h5,by rw [List.append_assoc];exact hd⟩
    refine ⟨⟨fun b o e=>?_,A5.st.gg,fun b o e=>?_,A5.st.out⟩,.ofSh A5.env.len no1 A5.env.sh⟩
    ·rw [zaz (zau e hacc)];exact A5.st.hh b o e
    ·rw [zaz (zau e hG5)];exact A5.st.gh b o e
  ·left
   have e:i=xs.length:=by omega
   subst e
   rw [List.drop_length] at hr
   cases hr
   rw [List.append_nil] at hd
   subst hd
   refine ⟨Y.stop G' H' A'.st.gg A'.gh,?_⟩
   have hf:H'=upd (fun b=>if b=acc then none else H' b) acc (.lst ys):=by
    funext b
    by_cases hb:b=acc
    ·subst hb;rw [zaL];exact hacc'
    ·rw [zaz hb,qW hb]
   rw [hf]
   refine k acc ys G' (fun b=>if b=acc then none else H' b) (s1.trans ⟨fun b o e=>?_,A'.st.gg,fun b o e=>?_,A'.st.out⟩) (qV rfl) ry
   ·show (if b=acc then none else H' b)=some o
    rw [qW (zau e hacc)];exact A'.st.hh b o e
   ·show (if b=acc then none else H' b)=some o
    rw [qW (zau e gacc')];exact A'.st.gh b o e
theorem zbW (hc:X.calm=true) (S:CompScope X scope) (F:FvOk X N' scope fv) (hi:DI Γ X tg iter fi) (hb:DB Γ X N' scope tg ifs elt g ft fe) (hs:∀ x,foldedSetIterable iter X.env x=pure x:=by intro _;rfl) :
  DO Γ X (.ListComp elt [⟨tg,iter,ifs,0⟩] scope pos) (za7 fi g ft fe fv):=⟨(zt3 hc S F hi.1 hb.pb hs).imp (zk1 (hb.1 [] 0 X.s₀ X.H₀ []).1.no)⟩
end
end L2
end
section
namespace L2
open PySem PySem.Spec PyProof.Rows
section
variable {Γ:Cn} {X:Cx} {a b c e tg iter:Expr} {es:List Expr} {fa fb fc f:FE} {fr fi:FA} {pos p2 p:Pos} {g g':FS} {st:Stmt} {sts:List Stmt} {ft:FT}
def zb1:FS:=fun ρ=>some (.nx,ρ)
def zax (g g':FS):FS:=fun ρ=>(g ρ).bind fun r=>match r.1 with
 | .nx=>g' r.2
 | fl=>some (fl,r.2)
theorem zaW:DSs Γ X [] zb1:=⟨zp1.imp fun E σ H=>by
 rintro ⟨G₀,H₀,G,ρ,fl,ρ',A,h,k⟩
 cases h
 exact k σ G H (.refl _) A⟩
theorem zal (h:DS Γ X st g):DSs Γ X [st] g:=⟨zp0 h.1⟩
theorem zaf (h1:DS Γ X st g) (h2:DSs Γ X sts g'):DSs Γ X (st::sts) (zax g g'):=⟨(znR h1.1 h2.1).imp fun E σ H=>by
 rintro ⟨G₀,H₀,G,ρ,fl,ρ',A,h,k⟩
 unfold zax at h
 obtain ⟨⟨fl1,ρ1⟩,h1,h⟩:=oBd h
 refine ⟨G₀,H₀,G,ρ,fl1,ρ1,A,h1,fun σ1 G1 H1 sm A1=>?_⟩
 cases fl1 with
 | nx=>exact ⟨G₀,H₀,G1,ρ1,fl,ρ',A1,h,fun σ' G' H' sm' A'=>k σ' G' H' (sm.trans sm') A'⟩
 | bk=>cases h;exact k σ1 G1 H1 sm A1
 | ct=>cases h;exact k σ1 G1 H1 sm A1
 | rt d=>cases h;exact k σ1 G1 H1 sm A1
 | ow d=>cases h;exact k σ1 G1 H1 sm A1
 | nw d=>cases h;exact k σ1 G1 H1 sm A1
 | od d=>cases h;exact k σ1 G1 H1 sm A1⟩
def zbp (f:FE):FS:=fun ρ=>(f ρ).map fun d=>(.rt d,ρ)
theorem zaB (h:DE Γ X e f):DS Γ X (.Return (some e) pos) (zbp f):=⟨(zr5 h.1).imp fun E σ H=>by
 rintro ⟨G₀,H₀,G,ρ,fl,ρ',A,h,k⟩
 unfold zbp at h
 obtain ⟨d,hd,h⟩:=oMd h
 cases h
 exact ⟨G₀,H₀,G,ρ,d,A,hd,fun v G' H' s r=>k σ G' H' s.gg (A.step s) v r⟩⟩
def zbk (i:Nat) (f:FE):FS:=fun ρ=>(f ρ).map fun d=>(.nx,ρ.set i (some (.sh d)))
theorem zaV (i:Nat) {x:Str} {pos':Pos} (hN:X.N.Nodup) (h:DE Γ X e f) (hi:X.N[i]?=some x:=by rfl) (hx:Loc X.env.scope x:=by first | exact Or.inl rfl | exact Or.inr rfl) (hs:swapsWith e (some (.Name x pos')) pos.line X.env=pure false:=by rfl) (hf:X.fn x=true\/X.env.scope.names.lookup x=some .local:=by first | exact .inl rfl | exact .inr rfl | assumption) :
  DS Γ X (.Assign [.Name x pos'] e pos) (zbk i f):=⟨(zl7 hN hi hx h.1 hs hf).imp fun E σ H=>by
 rintro ⟨G₀,H₀,G,ρ,fl,ρ',A,h,k⟩
 unfold zbk at h
 obtain ⟨d,hd,h⟩:=oMd h
 cases h
 exact ⟨G₀,H₀,G,ρ,d,A,hd,fun v G' H' s r=>k _ G' H' s.gg ((A.step s).setSh r)⟩⟩
def zgq (i:Nat) (f:FA):FS:=fun ρ=>(f ρ).map fun d=>(.nx,ρ.set i (some (.own d)))
theorem zsl {i:Nat}:∀ E σ H,TDs Γ X.K (zgq i fr) E σ H->zrg (TDo Γ X.K fr) (zlv i) E σ H:=by
 rintro E σ H ⟨G₀,H₀,G,ρ,fl,ρ',A,h,k⟩
 unfold zgq at h
 obtain ⟨d,hd,h⟩:=oMd h
 cases h
 exact ⟨G₀,H₀,G,ρ,d,A,hd,fun p vs G' H' s hp r=>k _ G' _ s.gg ((A.step s).setOwn hp r)⟩
theorem zdi (i:Nat) {x:Str} {pos':Pos} (hN:X.N.Nodup) (h:DO Γ X e fr) (hi:X.N[i]?=some x:=by rfl) (hx:Loc X.env.scope x:=by first | exact Or.inl rfl | exact Or.inr rfl) (hs:swapsWith e (some (.Name x pos')) pos.line X.env=pure false:=by rfl) (hf:X.fn x=true\/X.env.scope.names.lookup x=some .local:=by first | exact .inl rfl | exact .inr rfl | assumption) :
  DS Γ X (.Assign [.Name x pos'] e pos) (zgq i fr):=⟨(zl7 hN hi hx h.1 hs hf).imp zsl⟩
theorem zrP {i:Nat}:∀ E σ H,TDs Γ X.K (zbk i (zaU fr)) E σ H->zrg (TDo Γ X.K fr) (zlv i) E σ H:=by
 rintro E σ H ⟨G₀,H₀,G,ρ,fl,ρ',A,h,k⟩
 unfold zbk zaU at h
 obtain ⟨d,hd,h⟩:=oMd h
 obtain ⟨ds,hd',rfl⟩:=oMd hd
 cases h
 refine ⟨G₀,H₀,G,ρ,ds,A,hd',fun p vs G' H' s hp r=>?_⟩
 have s2:=Step.new (o:=.lst vs) s.gh hp
 exact k _ _ _ (s.gg.trans s2.gg) (((A.step s).step s2).setSh (.lst zaL (r.mono s2.gg)))
variable {scope:Scope} {N':List Str} {fv:List (Option Nat)} {gg:FG} {fe:FE} {ifs:List Expr} {elt:Expr}
theorem zoq (i:Nat) {y:Str} {py spos:Pos} (hN:X.N.Nodup) (hc:X.calm=true) (S:CompScope X scope) (F:FvOk X N' scope fv) (hi:DI Γ X tg iter fi) (hb:DB Γ X N' scope tg ifs elt gg ft fe)
  (hy:X.N[i]?=some y:=by rfl) (hyl:X.env.scope.names.lookup y=some .local:=by rfl) (hsw:swapsWith (.ListComp elt [⟨tg,iter,ifs,0⟩] scope pos) (some (.Name y py)) spos.line X.env=pure true:=by rfl) (hs:∀ x,foldedSetIterable iter X.env x=pure x:=by intro _;rfl) :
  DS Γ X (.Assign [.Name y py] (.ListComp elt [⟨tg,iter,ifs,0⟩] scope pos) spos) (zbk i (zaU (za7 fi gg ft fe fv))):=⟨(zr6 hN hy hyl hc S F hi.1 hb.pb hsw hs).imp fun E σ H q=>zk1 (hb.1 [] 0 X.s₀ X.H₀ []).1.no σ H _ (zrP E σ H q)⟩
def zda (i:Nat) (f:FE):FS:=fun ρ=>match ρ[i]? with
 | some (some (.own ds))=>(f ρ).bind fun d=>if ds.length < sizeLine then some (.nx,ρ.set i (some (.own (ds++[d])))) else none
 | _=>none
theorem zbm (i:Nat) {x:Str} {vp apos cpos:Pos} (h:DE Γ X e f) (hN:X.N[i]?=some x:=by rfl) (hv:Vis X.env.scope x:=by first | exact Or.inl rfl | exact Or.inr (Or.inl rfl) | exact Or.inr (Or.inr rfl)) (hd:(x==("__debug__":Str))=false:=by decide)
  (hcd:(x==("__classdict__":Str))=false:=by decide)
  (hbase:attributeBase (.Name x vp) "append" X.env (eval (.Name x vp) X.env)=eval (.Name x vp) X.env:=by rfl)
  (hfew:((backTo cpos (starEach [e] X.env)).all (fun x=>!x.1) && (backToKw cpos (keywordEach [] X.env)).all (fun x=>x.1.isSome)
   && decide ([e].length+([]:List Keyword).length+(if ([]:List Keyword).isEmpty then 0 else 1) < 30))=true:=by rfl)
  (hline:(apos.endLine==cpos.line)=true:=by rfl) (hs:starEach [e] X.env=(false,eval e X.env)::starEach [] X.env:=by rfl) (hplain:(backTo cpos (starEach [] X.env)).any (·.1)=false:=by rfl)
  (hsw:swapsWith (.Call (.Attribute (.Name x vp) "append" apos) [e] [] cpos) none pos.line X.env=pure false:=by rfl) :
  DS Γ X (.Expr (.Call (.Attribute (.Name x vp) "append" apos) [e] [] cpos) pos) (zda i f):=⟨(zj0 (znZ PySem.F.plainAttrs_list PySem.F.slot_list_append PySem.F.type_list_append zgR (zgg hN hv hd hcd) (zd0 h.1 zfy hs) hbase hfew hline hs hplain) hsw).imp fun E σ H=>by
  rintro ⟨G₀,H₀,G,ρ,fl,ρ',A,h,k⟩
  unfold zda at h
  split at h
  ·rename_i ds hi
   obtain ⟨d,hd,h⟩:=oBd h
   split at h
   ·rename_i hz
    cases h
    obtain ⟨a,vs,h1,h2,h3,h4,h5⟩:=A.env.own i ds hi
    refine ⟨.ref a,h1,.inl ⟨rfl,vs,.inl (.inl h4)⟩,G₀,H₀,G,ρ,d,A,hd,fun v G1 H1 s1 r1=>?_⟩
    have A1:=A.step s1
    refine ⟨a,vs,v,rfl,rfl,s1.hh _ _ h4,by rw [h5.length];exact hz,?_⟩
    exact k σ G1 _ s1.gg (A1.chOwn hi h1 ((h5.mono s1.gg).append (.cons r1 .nil)))
   ·cases h
  ·cases h⟩
def zhv (i:Nat) (g:FS):FS:=fun ρ=>match ρ[i]? with
 | some (some (.own ds))=>g (ρ.set i (some (.sh (.lst ds))))
 | _=>none
theorem TDs.frz (i:Nat):∀ E σ H,TDs Γ X.K (zhv i g) E σ H->TDs Γ X.K g E σ H:=by
 rintro E σ H ⟨G₀,H₀,G,ρ,fl,ρ',A,h,k⟩
 unfold zhv at h
 split at h
 ·rename_i ds hi
  obtain ⟨G',sm,A'⟩:=A.freeze hi
  exact ⟨G₀,H₀,G',_,fl,ρ',A',h,fun σ1 G1 H1 sm1 A1=>k σ1 G1 H1 (sm.trans sm1) A1⟩
 ·cases h
theorem zcS (i:Nat) (h:DSs Γ X sts g):DSs Γ X sts (zhv i g):=⟨h.1.imp (TDs.frz i)⟩
def sIf (ft:FT) (g g':FS):FS:=fun ρ=>(ft ρ).bind fun c=>if c=true then g ρ else g' ρ
theorem zbK {sa sb:List Stmt} (hc:DT Γ X c ft) (ha:DSs Γ X sa g) (hb:DSs Γ X sb g'):DS Γ X (.If c sa sb pos) (sIf ft g g'):=⟨(ztY hc.1 ha.1 hb.1).imp fun E σ H=>by
 rintro ⟨G₀,H₀,G,ρ,fl,ρ',A,h,k⟩
 unfold sIf at h
 obtain ⟨x,hx,h⟩:=oBd h
 refine ⟨G₀,H₀,G,ρ,x,A,hx,fun G1 H1 s1=>?_⟩
 cases x with
 | true=>exact zoh ⟨G₀,H₀,G1,ρ,fl,ρ',A.step s1,by simpa using h,fun σ2 G2 H2 sm2 A2=>k σ2 G2 H2 (s1.gg.trans sm2) A2⟩
 | false=>exact zoi ⟨G₀,H₀,G1,ρ,fl,ρ',A.step s1,by simpa using h,fun σ2 G2 H2 sm2 A2=>k σ2 G2 H2 (s1.gg.trans sm2) A2⟩⟩
def zlF (gg:FG) (f:FE):FS:=fun ρ=>(f ρ).bind fun d=>(gg d ρ).map fun ρ'=>(.nx,ρ')
theorem zjp (h:DE Γ X e f) (hg:DG Γ X tg gg) (hs:swapsWithSole [tg] e pos.line X.env=pure false:=by rfl) (hw:swappedStores [tg] e X.env=pure none:=by rfl)
  (h1:(assignEach [tg] X.env).map (·.2)=[assign tg X.env]:=by rfl):DS Γ X (.Assign [tg] e pos) (zlF gg f):=⟨(zr8 h.1 hg.pg hs hw h1).imp fun E σ H=>by
 rintro ⟨G₀,H₀,G,ρ,fl,ρ',A,h,k⟩
 unfold zlF at h
 obtain ⟨d,hd,h⟩:=oBd h
 obtain ⟨ρ1,h1,h⟩:=oMd h
 cases h
 exact ⟨G₀,H₀,G,ρ,d,A,hd,fun v G' H' s r=>⟨G₀,H₀,G',ρ,d,ρ',A.step s,r,h1,fun σ' A'=>k σ' G' H' s.gg A'⟩⟩⟩
def zhY (gg:FG) (body:FS):List D->FS
 | [],ρ=>some (.nx,ρ)
 | x::xs,ρ=>(gg x ρ).bind fun ρ1=>(body ρ1).bind fun r=>match r.1 with
  | .nx=>zhY gg body xs r.2
  | .ct=>zhY gg body xs r.2
  | .bk=>some (.nx,r.2)
  | .rt d=>some (.rt d,r.2)
  | .ow d=>some (.ow d,r.2)
  | .nw d=>some (.nw d,r.2)
  | .od d=>some (.od d,r.2)
def zdY (fi:FA) (gg:FG) (body:FS):FS:=fun ρ=>(fi ρ).bind fun xs=>zhY gg body xs ρ
theorem zch {body:List Stmt} (hp:PassesOwn (model X.prog X.w) X.A X.env X.xe) (hc:X.calm=true) (hi:DI Γ X tg iter fi) (hg:DG Γ X tg gg) (hb:DSs Γ X body g) (hs:∀ x,foldedSetIterable iter X.env x=pure x:=by intro _;rfl) :
  DS Γ X (.For tg iter body [] pos) (zdY fi gg g):=⟨(zr7 hp hc hi.1 hg.pg hb.1 hs).imp fun E σ H=>by
 rintro ⟨G₀,H₀,G,ρ,fl,ρ',A,h,k⟩
 unfold zdY at h
 obtain ⟨xs,hx,h⟩:=oBd h
 refine ⟨G₀,H₀,G,ρ,xs,A,hx,fun J G1 H1 s1 Y=>?_⟩
 refine ⟨fun i m σ' H'=>m=xs.length - i/\i<=xs.length/\∃ G' ρ1,zb4 G1 G'/\At Γ X.K G₀ H₀ G' H' ρ1 σ'/\zhY gg g (xs.drop i) ρ1=some (fl,ρ'),⟨xs.length,rfl,Nat.zero_le _,G1,ρ,.refl _,A.step s1,by rw [List.drop_zero];exact h⟩,?_⟩
 rintro i m σ' H' ⟨rfl,hi,G',ρ1,sm,A',hr⟩
 by_cases hlt:i < xs.length
 ·right
  have hxi:xs[i]?=some xs[i]:=by simp [hlt]
  obtain ⟨go,yl⟩:=Y.go i _ G' H' hxi sm A'.gh
  have hdr:xs.drop i=xs[i]::xs.drop (i+1):=List.drop_eq_getElem_cons hlt
  rw [hdr] at hr
  unfold zhY at hr
  obtain ⟨ρ2,h2,hr⟩:=oBd hr
  obtain ⟨⟨fl3,ρ3⟩,h3,hr⟩:=oBd hr
  refine ⟨go,fun σ3 H3=>(fl3=.nx\/fl3=.ct)/\∃ G3,zb4 G1 G3/\At Γ X.K G₀ H₀ G3 H3 ρ3 σ3,fun σ3 H3 ⟨hfl,G3,sm3,A3⟩=>?_,fun x H2 hy=>?_⟩
  ·refine ⟨xs.length - (i+1),by omega,rfl,hlt,G3,ρ3,sm3,A3,?_⟩
   rcases hfl with e | e <;> subst e <;> exact hr
  ·obtain ⟨G2,s2,r2⟩:=yl x H2 hy
   refine ⟨G₀,H₀,G2,ρ1,_,ρ2,A'.step s2,r2,h2,fun σ2 A2=>⟨G₀,H₀,G2,ρ2,fl3,ρ3,A2,h3,fun σ3 G3 H3 sm3 A3=>?_⟩⟩
   have smm:zb4 G1 G3:=(sm.trans s2.gg).trans sm3
   cases fl3 with
   | nx=>exact ⟨.inl rfl,G3,smm,A3⟩
   | ct=>exact ⟨.inr rfl,G3,smm,A3⟩
   | bk=>cases hr;exact k σ3 G3 H3 (s1.gg.trans smm) A3
   | rt d=>cases hr;exact k σ3 G3 H3 (s1.gg.trans smm) A3
   | ow d=>cases hr;exact k σ3 G3 H3 (s1.gg.trans smm) A3
   | nw d=>cases hr;exact k σ3 G3 H3 (s1.gg.trans smm) A3
   | od d=>cases hr;exact k σ3 G3 H3 (s1.gg.trans smm) A3
 ·left
  have e:i=xs.length:=by omega
  subst e
  rw [List.drop_length] at hr
  cases hr
  exact ⟨Y.stop G' H' sm A'.gh,k σ' G' H' (s1.gg.trans sm) A'⟩⟩
end
end L2
end
section
namespace L2
open PySem PySem.Spec PyProof.Rows
section
variable {Γ:Cn} {X:Cx} {a b c e tg iter:Expr} {es:List Expr} {fa fb fc f fk fw:FE} {fr fi:FA} {pos p2 p:Pos}
def spF (Γ:Cn) (K:PySem.W.Frag) (n:Nat) (F:List D->Option D):Sp:=fun vs H Q _=>∃ G ds d,zb4 G H/\Reps Γ K G vs ds/\ds.length=n/\F ds=some d/\∀ v G' H',Step G H G' H'->Rep Γ K G' v d->Q v H'
def zbY (n:Nat) (g:FS):List D->Option D:=fun ds=>(g (ds.map (fun d=>some (Slot.sh d))++List.replicate n none)).bind fun r=>match r.1 with
 | .rt d=>some d
 | .nx=>some .non
 | _=>none
theorem zlT {K:PySem.W.Frag} {G H:Hp} {vs:List V} {ds:List D} {N:List Str} {m:Nat} (gh:zb4 G H) (r:Reps Γ K G vs ds) (hm:m=N.length - vs.length):At Γ K G H G H (ds.map (fun d=>some (Slot.sh d))++List.replicate m none) (zfs N vs):=by
 have no:zeQ (ds.map (fun d=>some (Slot.sh d))++List.replicate m none):=fun i es e=>by
  by_cases hi:i < ds.length
  ·rw [qw (by simpa using hi),qj] at e
   obtain ⟨d,_,e⟩:=oMd e
   cases e
   exact ⟨_,rfl⟩
  ·rw [qH (by simpa using hi),List.getElem?_replicate] at e
   split at e <;> cases e
 refine ⟨.refl gh,.ofSh (by simp [zfs,r.length,hm]) no fun i d e=>?_⟩
 by_cases hi:i < ds.length
 ·rw [qw (by simpa using hi),qj] at e
  obtain ⟨d',hd,e⟩:=oMd e
  cases e
  obtain ⟨v,hv,rv⟩:=r.get hd
  refine ⟨v,?_,rv⟩
  unfold zfs
  rw [qw (by rw [qe,r.length];exact hi),qj,hv]
  rfl
 ·rw [qH (by simpa using hi),List.getElem?_replicate] at e
  split at e <;> cases e
theorem Fun.okD {P:Program} {w:World} {K:PySem.W.Frag} {mg:Str->Option Value} {base:Heap} {x qual:Str} {st:Stmt} {f:Addr} {fd:FuncData} {N ps:List Str} {k:Nat} {g:FS} (F:Fun K x qual st f fd) (S:FnScope N ps (zaq st))
  (hbody:∀ (cdv:Value) (A:Around) (outer:List Env) (s:Shared) (H:Hp) (E:XK),Room k (A.deeper (envOfC qual (zaq st) s.heap.objs.size f cdv)) ->
   DSs Γ (zlH CX0 P w K mg base N qual (zaq st) f cdv A outer s H E).nox (zbO st) g):FnOk P w K mg base CX0 (k+1) f fd ps (spF Γ K ps.length (zbY (N.length - ps.length) g)):=by
 refine F.ok S (fun vs H Q E h=>?_) (fun cdv A outer s H vs Q E hr h=>?_)
 ·obtain ⟨G,ds,d,_,r,hl,_⟩:=h
  rw [r.length,hl]
 ·obtain ⟨G,ds,d,gh,r,hl,hd,k⟩:=h
  refine ⟨_,(hbody cdv A outer s H E hr).1,?_⟩
  unfold zbY at hd
  obtain ⟨⟨fl,ρ'⟩,hg,hd⟩:=oBd hd
  refine ⟨G,H,G,_,fl,ρ',zlT gh r (by rw [r.length,hl]),hg,fun σ' G' H' sm A'=>?_⟩
  cases fl with
  | rt d'=>cases hd;exact fun v rv=>k v G' H' A'.st rv
  | nx=>cases hd;exact k .non G' H' A'.st .non
  | bk=>cases hd
  | ct=>cases hd
  | ow d=>cases hd
  | nw d=>cases hd
  | od d=>cases hd
theorem zq0 {k:Nat} {fx:Addr} {fd:FuncData} {ps:List Str} {n:Nat} {F:List D->Option D} {x:Str} (Fo:FnOk X.prog X.w X.K X.mg X.base CX0 k fx fd ps (spF Γ X.K n F)) (hr:Room k X.A) (hg:Gl X x) (hm:X.mg x=some (.ref fx)) (hk:PySem.W.keepIn X.K (.ref fx)=true) (hb:zdG X.K fd ps [])
  (ha:DA Γ X (e::es) fr) (hn:∀ ρ ds,fr ρ=some ds->ds.length=n) (hdb:(x==("__debug__":Str))=false:=by decide) (he:starEach (e::es) X.env=(false,eval e X.env)::starEach es X.env:=by rfl) (hpl:(backTo pos (starEach es X.env)).any (·.1)=false:=by rfl) :
  DE Γ X (.Call (.Name x p) (e::es) [] pos) (cF F fr):=⟨(zqc Fo hr hg hm hk hb .nil zn0 ha.1 hdb he hpl).imp fun σ H Q=>by
 rintro ⟨G₀,H₀,G,ρ,d,A,h,k⟩
 unfold cF at h
 obtain ⟨ds,hd,h⟩:=oBd h
 refine ⟨G₀,H₀,G,ρ,ds,A,hd,fun vs G1 H1 s1 r1=>?_⟩
 show spF Γ X.K n F (vs++[]) H1 Q E0
 rw [List.append_nil]
 exact ⟨G1,ds,d,s1.gh,r1,hn ρ ds hd,h,fun v G' H' s r=>k v G' H' (s1.trans s) r⟩⟩
theorem zoM {ρ:zaX} {ds:List D} (h:zai ρ=some ds):ds.length=0:=by cases h;rfl
theorem zdk {n:Nat} (hn:∀ ρ ds,fr ρ=some ds->ds.length=n):∀ ρ ds,zab fa fr ρ=some ds->ds.length=n+1:=fun ρ ds h=>by
 unfold zab at h
 obtain ⟨x,hx,h⟩:=oBd h
 obtain ⟨xs,hxs,rfl⟩:=oMd h
 rw [qh,hn ρ xs hxs]
end
end L2
end
section
namespace L2
open PySem PySem.Spec PyProof.Rows
structure Cal (Γ:Cn) (P:Program) (w:World) (K:PySem.W.Frag) (mg:Str->Option Value) (base:Heap) (x:Str) (n k:Nat) (F:List D->Option D):Prop where
 ex:∃ f fd ps,FnOk P w K mg base CX0 k f fd ps (spF Γ K n F)/\mg x=some (.ref f)/\PySem.W.keepIn K (.ref f)=true/\zdG K fd ps []
structure Dfn (K:PySem.W.Frag) (mg:Str->Option Value) (x:Str) (st:Stmt):Prop where
 ex:∃ f fd,Fun K x x st f fd/\mg x=some (.ref f)
section
variable {Γ:Cn} {X:Cx} {e:Expr} {es:List Expr} {fr:FA} {pos p:Pos}
theorem zna {x:Str} {n k:Nat} {F:List D->Option D} (C:Cal Γ X.prog X.w X.K X.mg X.base x n k F) {j:Nat} (hr:Room j X.A) (hk:k<=j) (hg:Gl X x) (ha:DA Γ X (e::es) fr) (hn:∀ ρ ds,fr ρ=some ds->ds.length=n)
  (hdb:(x==("__debug__":Str))=false:=by decide) (he:starEach (e::es) X.env=(false,eval e X.env)::starEach es X.env:=by rfl) (hpl:(backTo pos (starEach es X.env)).any (·.1)=false:=by rfl) :
  DE Γ X (.Call (.Name x p) (e::es) [] pos) (cF F fr):=by
 obtain ⟨f,fd,ps,h1,h2,h3,h4⟩:=C.ex
 exact zq0 h1 (hr.mono hk) hg h2 h3 h4 ha hn hdb he hpl
theorem Dfn.cal {P:Program} {w:World} {K:PySem.W.Frag} {mg:Str->Option Value} {base:Heap} {x:Str} {st:Stmt} {N ps:List Str} {k:Nat} {g:FS} (F:Dfn K mg x st) (S:FnScope N ps (zaq st))
  (hb:∀ (kV doc pm:Value) (an:Option Addr) (cdv ct:Value) (us:List Value),us.length=ps.length->bindArgs (PySem.W.fnOf x x (zc4 st) (zbO st) (zaq st) .none kV doc pm an cdv ct) ⟨us,[]⟩=pure (ps.zip us))
  (hbody:∀ (f:Addr) (cdv:Value) (A:Around) (outer:List Env) (s:Shared) (H:Hp) (E:XK),Room k (A.deeper (envOfC x (zaq st) s.heap.objs.size f cdv)) ->
   DSs Γ (zlH CX0 P w K mg base N x (zaq st) f cdv A outer s H E).nox (zbO st) g):Cal Γ P w K mg base x ps.length (k+1) (zbY (N.length - ps.length) g):=by
 obtain ⟨f,fd,h1,h2⟩:=F.ex
 exact ⟨f,fd,ps,h1.okD S (hbody f),h2,h1.kp,h1.binds hb⟩
theorem Dfn.mk' {K:PySem.W.Frag} {h:Heap} {mg:Str->Option Value} {x:Str} {st:Stmt} {f:Addr} {oc:Value} {od an:Option Addr} {osl:Array (Option Value)} {kV doc pm cdv ct:Value} (X:K.In h) (G:h.Ns mainGlobals mg) (a:PySem.W.nsIn K mainGlobals x=some (some (.ref f)))
  (l:K.lookup f=some ⟨oc,od,.func (PySem.W.fnOf x x (zc4 st) (zbO st) (zaq st) .none kV doc pm an cdv ct),osl⟩) (c:PySem.W.codeIn K cdv x=true) (k:PySem.W.keepIn K (.ref f)=true):Dfn K mg x st :=
 ⟨f,_,zmO l c k,PySem.W.mg_of X G a⟩
def ztc (names:List (Str×NameKind)) (outer:List (Str×NameKind)):Bool :=
 names.all fun y=>y.2 != .cell && (y.2 != .local || names.lookup y.1==some .local) && (y.2 != .free || outer.lookup y.1==some .cell || outer.lookup y.1==some .free)
theorem CompScope.of {X:Cx} {scope:Scope} (hk:scope.kind=.function) (h:ztc scope.names X.env.scope.names=true):CompScope X scope:=by
 unfold ztc at h
 rw [List.all_eq_true] at h
 refine ⟨hk,fun y hy e=>?_,fun y hy e=>?_,fun y hy e=>?_⟩
 ·have:=h y hy
  rw [e] at this
  simp at this
 ·have:=h y hy
  rw [e] at this
  simpa using this
 ·have:=h y hy
  rw [e] at this
  simpa [Env.kindOf] using this
def zs1 (N':List Str) (fv:List (Option Nat)) (N:List Str) (outer names:List (Str×NameKind)):Bool :=
 fv.length==N'.length && (N'.zip fv).all fun y=>match y.2 with
  | none=>true
  | some j=>N[j]?==some y.1 && (outer.lookup y.1==some .cell || outer.lookup y.1==some .free) && names.lookup y.1==some .free
theorem FvOk.of {X:Cx} {N':List Str} {scope:Scope} {fv:List (Option Nat)} (h:zs1 N' fv X.N X.env.scope.names scope.names=true):FvOk X N' scope fv:=by
 unfold zs1 at h
 rw [Bool.and_eq_true,List.all_eq_true] at h
 obtain ⟨h1,h2⟩:=h
 refine ⟨by simpa using h1,fun i j x e1 e2=>?_⟩
 have hm:(x,some j)∈N'.zip fv:=by
  refine List.mem_iff_getElem?.mpr ⟨i,?_⟩
  rw [List.getElem?_zip_eq_some]
  exact ⟨e1,e2⟩
 have:=h2 _ hm
 simp only [Bool.and_eq_true,Bool.or_eq_true,beq_iff_eq] at this
 exact ⟨this.1.1,this.1.2,this.2⟩
end
end L2
end
section
namespace L2
open PySem PySem.Spec PyProof.Rows
mutual
def pdD:D->Option PyData
 | .non=>some .none
 | .bl b=>some (.bool b)
 | .int i=>some (.int i)
 | .str x=>some (.str x)
 | .tup l=>(zjM l).map PyData.tuple
 | .lst l=>(zjM l).map PyData.list
 | .scr ns=>some (.list (ns.map PyData.int))
 | _=>none
def zjM:List D->Option (List PyData)
 | []=>some []
 | d::r=>(pdD d).bind fun p=>(zjM r).map (p::·)
end
section
variable {Γ:Cn} {X:Cx} {pins:List (Addr×Obj)} {σ:St} {G H:Hp} {s:Shared}
theorem zhO {h:Heap}:∀ {ns:List Int} {us:List Value},zbX (ns.map V.int) us->∃ as,ReadsAll h us (ns.map PyData.int) as
 | [],_,r=>by rw [qL] at r;cases r;exact ⟨_,.nil⟩
 | n::ns,_,r=>by
  rw [ql] at r
  cases r with
  | cons r1 r2 =>
   obtain ⟨t,e⟩:=r1
   subst e
   obtain ⟨as,q⟩:=zhO r2
   exact ⟨_,.cons (.int n t) q⟩
mutual
theorem Rep.reads (I:Inv X pins σ H s) (gh:zb4 G H):∀ {v:V} {d:D} {u:Value} {p:PyData},Rep Γ X.K G v d->zcF v u->pdD d=some p->∃ as,Reads s.heap u p as
 | _,_,u,p,.non,r,h=>by cases r;rw [pdD] at h;cases h;exact ⟨_,.none⟩
 | _,_,u,p,.bl b,r,h=>by cases r;rw [pdD] at h;cases h;exact ⟨_,.bool b⟩
 | _,_,u,p,.int i,r,h=>by obtain ⟨t,rfl⟩:=r;rw [pdD] at h;cases h;exact ⟨_,.int i t⟩
 | _,_,u,p,.str x,r,h=>by obtain ⟨t,rfl⟩:=r;rw [pdD] at h;cases h;exact ⟨_,.str x t⟩
 | _,_,u,p,.ty n,r,h=>by rw [pdD] at h;cases h;all_goals (intros;contradiction)
 | _,_,u,p,.tup ha rs,r,h=>by
  cases r
  rw [pdD] at h
  obtain ⟨ps,hp,rfl⟩:=oMd h
  obtain ⟨its,rv,⟨o,e1,e2,n,e3⟩,_⟩:=I.tuple (.inl (.inl (gh _ _ ha)))
  obtain ⟨as,q⟩:=Reps.reads I gh rs rv hp
  exact ⟨_,.tuple e1 e2 e3 (by simpa using q)⟩
 | _,_,u,p,.lst ha rs,r,h=>by
  cases r
  rw [pdD] at h
  obtain ⟨ps,hp,rfl⟩:=oMd h
  obtain ⟨its,rv,⟨o,n,e1,e2,_,e3⟩,_⟩:=I.list (.inl (.inl (gh _ _ ha)))
  obtain ⟨as,q⟩:=Reps.reads I gh rs rv hp
  exact ⟨_,.list e1 e2 e3 (by simpa using q)⟩
 | _,_,u,p,.scr hs,r,h=>by
  cases r
  rw [pdD] at h
  cases h
  obtain ⟨its,rv,⟨o,n,e1,e2,_,e3⟩,_⟩:=I.list (gh.seq hs)
  obtain ⟨as,q⟩:=zhO (h:=s.heap) rv
  exact ⟨_,.list e1 e2 e3 (by simpa using q)⟩
 | _,_,u,p,.dk ha _ _,r,h=>by rw [pdD] at h;cases h;all_goals (intros;contradiction)
 | _,_,u,p,.dt ha _ _,r,h=>by rw [pdD] at h;cases h;all_goals (intros;contradiction)
 | _,_,u,p,.ins ha _ _ _,r,h=>by rw [pdD] at h;cases h;all_goals (intros;contradiction)
theorem Reps.reads (I:Inv X pins σ H s) (gh:zb4 G H):∀ {vs:List V} {ds:List D} {us:List Value} {ps:List PyData},Reps Γ X.K G vs ds->zbX vs us->zjM ds=some ps->∃ as,ReadsAll s.heap us ps as
 | _,_,_,_,.nil,r,h=>by cases r;rw [zjM] at h;cases h;exact ⟨_,.nil⟩
 | _,_,_,_,.cons r1 r2,r,h=>by
  cases r with
  | cons q1 q2 =>
   rw [zjM] at h
   obtain ⟨p,hp,h⟩:=oBd h
   obtain ⟨ps,hps,rfl⟩:=oMd h
   obtain ⟨as,a1⟩:=Rep.reads I gh r1 q1 hp
   obtain ⟨bs,a2⟩:=Reps.reads I gh r2 q2 hps
   exact ⟨_,.cons a1 a2⟩
end
end
section
variable {Γ:Cn} {X:Cx} {a b c e:Expr} {es:List Expr} {fa fb fc f:FE} {fr:FA} {pos:Pos}
def eqX (x y:D):Option Bool:=(pdD x).bind fun p=>(pdD y).bind fun q=>if SeqAt.shaped p=true/\SeqAt.shaped q=true then some (PyData.eqv p q) else none
def zuj (x y:D):Option D:=(eqX x y).map D.bl
def zqo (x y:D):Option D:=(eqX x y).map fun b=>D.bl (!b)
def rX (Γ:Cn) (K:PySem.W.Frag) (neg:Bool):R2:=fun x y H Q=>∃ G d e b,zb4 G H/\Rep Γ K G x d/\Rep Γ K G y e/\eqX d e=some b/\Q (.bl (if neg then !b else b)) H
theorem zkX {x y:D} {b:Bool} (h:eqX x y=some b):∃ p q,pdD x=some p/\pdD y=some q/\SeqAt.shaped p=true/\SeqAt.shaped q=true/\b=PyData.eqv p q:=by
 unfold eqX at h
 obtain ⟨p,hp,h⟩:=oBd h
 obtain ⟨q,hq,h⟩:=oBd h
 split at h
 ·rename_i hz
  cases h
  exact ⟨p,q,hp,hq,hz.1,hz.2,rfl⟩
 ·cases h
theorem zsw (hu:X.A.units+64 < cLine):OpR X (compareOp .Eq) (rX Γ X.K false):=by
 intro pins s σ H x y v u Q I rx ry h
 obtain ⟨G,d,e,b,gh,r1,r2,hb,q⟩:=h
 obtain ⟨p,q',hp,hq,s1,s2,rfl⟩:=zkX hb
 obtain ⟨as,a1⟩:=r1.reads I gh rx hp
 obtain ⟨bs,a2⟩:=r2.reads I gh ry hq
 exact eq_dataH a1 a2 s1 s2 hu ⟨.bl _,H,I,rfl,q⟩
theorem zss (hu:X.A.units+64 < cLine):OpR X (compareOp .NotEq) (rX Γ X.K true):=by
 intro pins s σ H x y v u Q I rx ry h
 obtain ⟨G,d,e,b,gh,r1,r2,hb,q⟩:=h
 obtain ⟨p,q',hp,hq,s1,s2,rfl⟩:=zkX hb
 obtain ⟨as,a1⟩:=r1.reads I gh rx hp
 obtain ⟨bs,a2⟩:=r2.reads I gh ry hq
 exact ne_dataH a1 a2 s1 s2 hu ⟨.bl _,H,I,rfl,q⟩
theorem zth (hu:X.A.units+64 < cLine):CmpD Γ X .Eq zuj:=⟨_,zsw (Γ:=Γ) hu,fun {G H v u x y z} gh r1 r2 h Q k=>by
 unfold zuj at h
 obtain ⟨b,hb,rfl⟩:=oMd h
 exact ⟨G,x,y,b,gh,r1,r2,hb,k _ G H (.refl gh) (.bl _)⟩⟩
theorem ztf (hu:X.A.units+64 < cLine):CmpD Γ X .NotEq zqo:=⟨_,zss (Γ:=Γ) hu,fun {G H v u x y z} gh r1 r2 h Q k=>by
 unfold zqo at h
 obtain ⟨b,hb,rfl⟩:=oMd h
 exact ⟨G,x,y,b,gh,r1,r2,hb,k _ G H (.refl gh) (.bl _)⟩⟩
def inX (x y:D):Option Bool:=(pdD x).bind fun p=>(pdD y).bind fun q=>match q with
 | .list l=>if SeqAt.shaped p=true/\PyData.canLayAll0 l=true then some (l.any fun z=>PyData.eqv z p) else none
 | _=>none
def zsX (x y:D):Option D:=(inX x y).map D.bl
def zgQ (x y:D):Option D:=(inX x y).map fun b=>D.bl (!b)
def zuS (Γ:Cn) (K:PySem.W.Frag) (neg:Bool):R2:=fun x y H Q=>∃ G d e b,zb4 G H/\Rep Γ K G x d/\Rep Γ K G y e/\inX d e=some b/\Q (.bl (if neg then !b else b)) H
theorem zkR {x y:D} {b:Bool} (h:inX x y=some b):∃ p l,pdD x=some p/\pdD y=some (.list l)/\SeqAt.shaped p=true/\PyData.canLayAll0 l=true/\b=l.any fun z=>PyData.eqv z p:=by
 unfold inX at h
 obtain ⟨p,hp,h⟩:=oBd h
 obtain ⟨q,hq,h⟩:=oBd h
 split at h
 ·split at h
  ·rename_i hz
   cases h
   exact ⟨p,_,hp,hq,hz.1,hz.2,rfl⟩
  ·cases h
 ·cases h
theorem zhN {p:PyData} (h:SeqAt.shaped p=true):p.canLay0=true/\p.depth<=64:=by
 unfold SeqAt.shaped at h
 rw [Bool.and_eq_true] at h
 exact ⟨h.1,of_decide_eq_true h.2⟩
theorem zsv (hu:X.A.units+66 < cLine):OpR X (compareOp .In) (zuS Γ X.K false):=by
 intro pins s σ H x y v u Q I rx ry h
 obtain ⟨G,d,e,b,gh,r1,r2,hb,q⟩:=h
 obtain ⟨p,l,hp,hq,s1,s2,rfl⟩:=zkR hb
 obtain ⟨as,a1⟩:=r1.reads I gh rx hp
 obtain ⟨bs,a2⟩:=r2.reads I gh ry hq
 obtain ⟨c1,c2⟩:=zhN s1
 have:=Nat.min_le_right (PyData.depthAll l) p.depth
 exact SeqAt.in_list_reads a2 a1 s2 c1 (by omega) ⟨.bl _,H,I,rfl,q⟩
theorem zqf (hu:X.A.units+66 < cLine):OpR X (compareOp .NotIn) (zuS Γ X.K true):=by
 intro pins s σ H x y v u Q I rx ry h
 obtain ⟨G,d,e,b,gh,r1,r2,hb,q⟩:=h
 obtain ⟨p,l,hp,hq,s1,s2,rfl⟩:=zkR hb
 obtain ⟨as,a1⟩:=r1.reads I gh rx hp
 obtain ⟨bs,a2⟩:=r2.reads I gh ry hq
 obtain ⟨c1,c2⟩:=zhN s1
 have:=Nat.min_le_right (PyData.depthAll l) p.depth
 exact SeqAt.notIn_list_reads a2 a1 s2 c1 (by omega) ⟨.bl _,H,I,rfl,q⟩
theorem ztg (hu:X.A.units+66 < cLine):CmpD Γ X .In zsX:=⟨_,zsv (Γ:=Γ) hu,fun {G H v u x y z} gh r1 r2 h Q k=>by
 unfold zsX at h
 obtain ⟨b,hb,rfl⟩:=oMd h
 exact ⟨G,x,y,b,gh,r1,r2,hb,k _ G H (.refl gh) (.bl _)⟩⟩
theorem znf (hu:X.A.units+66 < cLine):CmpD Γ X .NotIn zgQ:=⟨_,zqf (Γ:=Γ) hu,fun {G H v u x y z} gh r1 r2 h Q k=>by
 unfold zgQ at h
 obtain ⟨b,hb,rfl⟩:=oMd h
 exact ⟨G,x,y,b,gh,r1,r2,hb,k _ G H (.refl gh) (.bl _)⟩⟩
theorem zo9 {k:Nat} (hr:Room k X.A):X.A.units+66 < cLine:=by have:=hr.un;omega
theorem zqL {k:Nat} (hr:Room k X.A):X.A.units+64 < cLine:=by have:=hr.un;omega
def zka (d:D):Bool:=match d with
 | .non=>true
 | _=>false
def zmH (x y:D):Option D:=match y with
 | .non=>some (.bl (!zka x))
 | _=>none
theorem zli {K:PySem.W.Frag} {G:Hp} {v:V} {d:D} (r:Rep Γ K G v d):decide (v=.non)=zka d:=by
 cases r <;> simp [zka]
theorem zoD:CmpD Γ X .IsNot zmH:=⟨_,zqe,fun {G H v u x y z} gh r1 r2 h Q k=>by
 unfold zmH at h
 split at h <;> cases h
 exact ⟨r2.non_inv,by rw [zli r1];exact k _ G H (.refl gh) (.bl _)⟩⟩
end
end L2
end
section
namespace L2
open PySem PySem.Spec PyProof.Rows
section
variable {Γ:Cn} {X:Cx} {a b c e o i:Expr} {es:List Expr} {fa fb fc f fo fk fx:FE} {fr fi:FA} {pos p apos cpos:Pos} {ft:FT} {g:FS} {x:Str}
def bwT (i:Nat) (ft:FT):FT:=fun ρ=>match ρ[i]? with
 | some (some (.own ds))=>ft (ρ.set i (some (.sh (.lst ds))))
 | _=>none
theorem Step.back {G G1 G' H H':Hp} (gh:zb4 G H) (s1:zb4 G G1) (s:Step G1 H G' H'):Step G H G H':=⟨s.hh,.refl _,(s1.trans s.gg).trans s.gh,fun _ _ _=>rfl⟩
theorem zs6 (i:Nat) (h:DT Γ X c ft):DT Γ X c (bwT i ft):=⟨h.1.imp fun σ H Q=>by
 rintro ⟨G₀,H₀,G,ρ,b,A,h,k⟩
 unfold bwT at h
 split at h
 ·rename_i ds hi
  obtain ⟨G1,sm,A1⟩:=A.freeze hi
  exact ⟨G₀,H₀,G1,_,b,A1,h,fun G' H' s=>k G H' (s.back A.gh sm)⟩
 ·cases h⟩
def zi9 (i:Nat) (f:FE):FS:=fun ρ=>match ρ[i]? with
 | some (some (.own ds))=>(f ρ).bind fun d=>match d with
  | .lst l=>if ds.length+l.length<=sizeLine then some (.nx,ρ.set i (some (.own (ds++l)))) else none
  | _=>none
 | _=>none
theorem zcD (i:Nat) {vp:Pos} (h:DE Γ X e f) (hN:X.N[i]?=some x:=by rfl) (hv:Vis X.env.scope x:=by first | exact Or.inl rfl | exact Or.inr (Or.inl rfl) | exact Or.inr (Or.inr rfl)) (hd:(x==("__debug__":Str))=false:=by decide)
  (hcd:(x==("__classdict__":Str))=false:=by decide)
  (hbase:attributeBase (.Name x vp) "extend" X.env (eval (.Name x vp) X.env)=eval (.Name x vp) X.env:=by rfl)
  (hfew:((backTo cpos (starEach [e] X.env)).all (fun x=>!x.1) && (backToKw cpos (keywordEach [] X.env)).all (fun x=>x.1.isSome)
   && decide ([e].length+([]:List Keyword).length+(if ([]:List Keyword).isEmpty then 0 else 1) < 30))=true:=by rfl)
  (hline:(apos.endLine==cpos.line)=true:=by rfl) (hs:starEach [e] X.env=(false,eval e X.env)::starEach [] X.env:=by rfl) (hplain:(backTo cpos (starEach [] X.env)).any (·.1)=false:=by rfl)
  (hsw:swapsWith (.Call (.Attribute (.Name x vp) "extend" apos) [e] [] cpos) none pos.line X.env=pure false:=by rfl) :
  DS Γ X (.Expr (.Call (.Attribute (.Name x vp) "extend" apos) [e] [] cpos) pos) (zi9 i f):=⟨(zj0 (znZ PySem.F.plainAttrs_list PySem.F.slot_list_extend PySem.F.type_list_extend zmo (zgg hN hv hd hcd) (zd0 h.1 zfy hs) hbase hfew hline hs hplain) hsw).imp fun E σ H=>by
  rintro ⟨G₀,H₀,G,ρ,fl,ρ',A,h,k⟩
  unfold zi9 at h
  split at h
  ·rename_i ds hi
   obtain ⟨d,hd,h⟩:=oBd h
   split at h
   ·rename_i l
    split at h
    ·rename_i hz
     cases h
     obtain ⟨a,vs,h1,h2,h3,h4,h5⟩:=A.env.own i ds hi
     refine ⟨.ref a,h1,.inl ⟨rfl,vs,.inl (.inl h4)⟩,G₀,H₀,G,ρ,_,A,hd,fun v G1 H1 s1 r1=>?_⟩
     have A1:=A.step s1
     obtain ⟨b,us,rfl,hb,rb⟩:=r1.lst_inv
     refine ⟨a,b,vs,us,rfl,rfl,s1.hh _ _ h4,s1.gh _ _ hb,by rw [h5.length,rb.length];exact hz,?_⟩
     exact k σ G1 _ s1.gg (A1.chOwn hi h1 ((h5.mono s1.gg).append rb))
    ·cases h
   ·cases h
  ·cases h⟩
def ztA:List D->Option D
 | [.int i]=>some (.int i)
 | [.bl k]=>some (.int (if k then 1 else 0))
 | _=>none
theorem zrv:TyD Γ X "int" ztA:=⟨_,znh,fun {G H vs ds z} gh r h Q k=>by
 unfold ztA at h
 split at h <;> cases h
 ·obtain ⟨v,rfl,r1⟩:=r.one
  cases r1.int_inv
  exact .inl ⟨_,rfl,k _ G H (.refl gh) (.int _)⟩
 ·obtain ⟨v,rfl,r1⟩:=r.one
  cases r1.bl_inv
  exact .inr ⟨_,rfl,k _ G H (.refl gh) (.int _)⟩⟩
def zlO:List D->Option D
 | [.lst l]=>some (.tup l)
 | [.tup l]=>some (.tup l)
 | _=>none
theorem znz:TyD Γ X "tuple" zlO:=⟨_,ziI,fun {G H vs ds z} gh r h Q k=>by
 unfold zlO at h
 split at h <;> cases h
 ·obtain ⟨v,rfl,r1⟩:=r.one
  obtain ⟨a,us,rfl,ha,ra⟩:=r1.lst_inv
  exact ⟨a,us,rfl,.inl ⟨.inl (.inl (gh _ _ ha)),zio gh ra k⟩⟩
 ·obtain ⟨v,rfl,r1⟩:=r.one
  obtain ⟨a,us,rfl,ha,ra⟩:=r1.tup_inv
  exact ⟨a,us,rfl,.inr ⟨.inl (.inl (gh _ _ ha)),k _ G H (.refl gh) (.tup ha ra)⟩⟩⟩
def zoc:List D->Option D
 | [.lst l]=>some (.lst l)
 | [.tup l]=>some (.lst l)
 | [.scr l]=>some (.lst (l.map D.int))
 | _=>none
theorem zpA:TyD Γ X "list" zoc:=⟨_,zju,fun {G H vs ds z} gh r h Q k=>by
 unfold zoc at h
 split at h <;> cases h
 ·obtain ⟨v,rfl,r1⟩:=r.one
  obtain ⟨a,us,rfl,ha,ra⟩:=r1.lst_inv
  exact ⟨a,us,rfl,.inl (.inl (.inl (gh _ _ ha))),zd1 gh ra k⟩
 ·obtain ⟨v,rfl,r1⟩:=r.one
  obtain ⟨a,us,rfl,ha,ra⟩:=r1.tup_inv
  exact ⟨a,us,rfl,.inr (.inl (.inl (gh _ _ ha))),zd1 gh ra k⟩
 ·obtain ⟨v,rfl,r1⟩:=r.one
  obtain ⟨a,rfl,ha⟩:=r1.scr_inv
  exact ⟨a,_,rfl,.inl (gh.seq ha),zd1 gh (Reps.ints _) k⟩⟩
def ztr {κ α:Type} [DecidableEq κ] (kvs:List (κ×α)) (k:κ):Option α:=(kvs.find? fun kv=>decide (kv.1=k)).map (·.2)
def zlj {κ α:Type} [DecidableEq κ] (kvs:List (κ×α)) (k:κ) (v:α):List (κ×α) :=
 if (kvs.any fun kv=>decide (kv.1=k))=true then kvs.map (fun kv=>if kv.1=k then (kv.1,v) else kv) else kvs++[(k,v)]
theorem zsJ {κ:Type} [DecidableEq κ] {K:PySem.W.Frag} {G:Hp} {k:κ}:∀ {us:List (κ×V)} {kvs:List (κ×D)},us.map (·.1)=kvs.map (·.1)->Reps Γ K G (us.map (·.2)) (kvs.map (·.2)) ->
  (ztr kvs k=none/\znw us k=none)\/∃ d v,ztr kvs k=some d/\znw us k=some v/\Rep Γ K G v d
 | [],[],_,_=>.inl ⟨rfl,rfl⟩
 | [],_::_,e,_=>by cases e
 | _::_,[],e,_=>by cases e
 | (k1,v)::us,(k2,d)::kvs,e,r=>by
  have e1:k1=k2:=(List.cons.inj e).1
  have e2:us.map (·.1)=kvs.map (·.1):=(List.cons.inj e).2
  subst e1
  have r:Reps Γ K G (v::us.map (·.2)) (d::kvs.map (·.2)):=r
  cases r with
  | cons r1 r2 =>
   by_cases h:k1=k
   ·exact .inr ⟨d,v,by simp [ztr,List.find?_cons,h],zh6 h,r1⟩
   ·have:=zsJ (k:=k) e2 r2
    rw [zh7 (p:=(k1,v)) h]
    simpa [ztr,List.find?_cons,h] using this
theorem zo5 {κ:Type} [DecidableEq κ] {k:κ} {α β:Type}:∀ {us:List (κ×α)} {kvs:List (κ×β)},us.map (·.1)=kvs.map (·.1)->(us.any fun kv=>decide (kv.1=k))=(kvs.any fun kv=>decide (kv.1=k))
 | [],[],_=>rfl
 | [],_::_,e=>by cases e
 | _::_,[],e=>by cases e
 | (k1,v)::us,(k2,d)::kvs,e=>by
  have e1:k1=k2:=(List.cons.inj e).1
  subst e1
  rw [List.any_cons,List.any_cons,zo5 (us:=us) (kvs:=kvs) (List.cons.inj e).2]
theorem zo4 {κ:Type} [DecidableEq κ] {K:PySem.W.Frag} {G:Hp} {k:κ} {v:V} {d:D} (rv:Rep Γ K G v d):∀ {us:List (κ×V)} {kvs:List (κ×D)},us.map (·.1)=kvs.map (·.1)->Reps Γ K G (us.map (·.2)) (kvs.map (·.2)) ->
  (us.map fun kv=>if kv.1=k then (kv.1,v) else kv).map (·.1)=(kvs.map fun kv=>if kv.1=k then (kv.1,d) else kv).map (·.1)/\Reps Γ K G ((us.map fun kv=>if kv.1=k then (kv.1,v) else kv).map (·.2)) ((kvs.map fun kv=>if kv.1=k then (kv.1,d) else kv).map (·.2))
 | [],[],_,_=>⟨rfl,.nil⟩
 | [],_::_,e,_=>by cases e
 | _::_,[],e,_=>by cases e
 | (k1,u)::us,(k2,x)::kvs,e,r=>by
  have e1:k1=k2:=(List.cons.inj e).1
  have e2:us.map (·.1)=kvs.map (·.1):=(List.cons.inj e).2
  subst e1
  have r:Reps Γ K G (u::us.map (·.2)) (x::kvs.map (·.2)):=r
  cases r with
  | cons r1 r2 =>
   obtain ⟨h1,h2⟩:=zo4 (k:=k) rv e2 r2
   by_cases h:k1=k
   ·subst h
    simp only [ql,if_true]
    exact ⟨by rw [h1],.cons rv h2⟩
   ·simp only [ql,qW h]
    exact ⟨by rw [h1],.cons r1 h2⟩
theorem zo3 {κ:Type} [DecidableEq κ] {K:PySem.W.Frag} {G:Hp} {k:κ} {v:V} {d:D} (rv:Rep Γ K G v d) {us:List (κ×V)} {kvs:List (κ×D)} (e:us.map (·.1)=kvs.map (·.1)) (r:Reps Γ K G (us.map (·.2)) (kvs.map (·.2))) :
  (zhP us k v).map (·.1)=(zlj kvs k d).map (·.1)/\Reps Γ K G ((zhP us k v).map (·.2)) ((zlj kvs k d).map (·.2)):=by
 unfold zhP zlj
 rw [zo5 (k:=k) e]
 split
 ·exact zo4 rv e r
 ·simp only [List.map_append,ql,qL]
  exact ⟨by rw [e],r.append (.cons rv .nil)⟩
def zot:D->Option Key
 | .int i=>some (.inl i)
 | .str x=>some (.inr x)
 | _=>none
def zgr:List D->Option (List Key)
 | []=>some []
 | d::r=>(zot d).bind fun k=>(zgr r).map (k::·)
theorem zkb {K:PySem.W.Frag} {G:Hp} {v:V} {d:D} {k:Key} (r:Rep Γ K G v d) (h:zot d=some k):v=kV k:=by
 unfold zot at h
 split at h <;> cases h
 ·exact r.int_inv
 ·exact r.str_inv
theorem zfD {K:PySem.W.Frag} {G:Hp}:∀ {vs:List V} {ds:List D} {ks:List Key},Reps Γ K G vs ds->zgr ds=some ks->vs=ks.map kV
 | _,[],ks,r,h=>by cases r;cases h;rfl
 | _,d::ds,ks,.cons h1 h2,h=>by
  unfold zgr at h
  obtain ⟨k,hk,h⟩:=oBd h
  obtain ⟨zs,hz,rfl⟩:=oMd h
  rw [zkb h1 hk,zfD h2 hz];rfl
def b3 (g:D->D->D->Option D) (fa fb fc:FE):FE:=fun ρ=>(fa ρ).bind fun x=>(fb ρ).bind fun y=>(fc ρ).bind fun z=>g x y z
def sNo:FS:=fun _=>none
theorem zum {st:Stmt}:DS Γ X st sNo:=⟨fun pins s σ H E I q=>by
 obtain ⟨G₀,H₀,G,ρ,fl,ρ',A,h,k⟩:=q
 cases h⟩
end
end L2
end
section
namespace L2
open PySem PySem.Spec PyProof.Rows
section
variable {Γ:Cn} {X:Cx} {a b c e o i:Expr} {es:List Expr} {fa fb fc f fo fk fx:FE} {fr fi:FA} {pos p apos cpos:Pos} {ft:FT} {g:FS} {x:Str}
def zuF (i j:Int):Prop:=0 < j/\j.natAbs.log2 < 9000
theorem zn2:OpR X (binaryOp .FloorDiv) (rI zuF fun i j=>.int (i / j)):=opI fun i j _ _ _ _ _ hc q=>by
 have h1:(0:Int) < j:=hc.1
 exact floordiv_int (by omega) (by rw [Int.fdiv_eq_ediv_of_nonneg i (by omega)];exact q) (.inl (PyProof.noPylong_of_log2 hc.2))
def zmT:D->D->Option D
 | .int i,.int j=>if 0 < j/\j.natAbs.log2 < 9000 then some (.int (i / j)) else none
 | _,_=>none
theorem zox (ha:DE Γ X a fa) (hb:DE Γ X b fb):DE Γ X (.BinOp a .FloorDiv b pos) (b2 zmT fa fb):=ziC zn2 (zeB fun x y z h=>by
 unfold zmT at h;split at h
 ·split at h <;> cases h;exact ⟨_,_,rfl,rfl,by assumption,rfl⟩
 ·cases h) ha hb
def zeN:List D->Option D
 | [.int i]=>if i.natAbs.log2 < 1920 then some (.str (toString i)) else none
 | _=>none
theorem zc5:TyD Γ X "str" zeN:=⟨_,zjt,fun {G H vs ds z} gh r h Q k=>by
 unfold zeN at h
 split at h
 ·split at h
  ·cases h
   obtain ⟨v,rfl,r1⟩:=r.one
   cases r1.int_inv
   exact ⟨_,rfl,by assumption,k _ G H (.refl gh) (.str _)⟩
  ·cases h
 ·cases h⟩
end
end L2
end
section
namespace L2
open PySem PySem.Spec PyProof.Rows
section
variable {Γ:Cn} {X:Cx} {a b c e o i:Expr} {es:List Expr} {fa fb fc f fo fk fx:FE} {fr fi:FA} {pos p apos cpos:Pos} {ft:FT} {g:FS} {x:Str}
def zoN:D->Option Str
 | .str x=>if x.length<=sizeLine then some x else none
 | .int i=>if i.natAbs.log2 < 1920 then some (toString i) else none
 | _=>none
def zpm:Str->List D->Option Str
 | acc,[]=>if acc.length<=sizeLine then some acc else none
 | acc,d::r=>(zoN d).bind fun y=>if (acc++y).length<=sizeLine then zpm (acc++y) r else none
def fsF (fr:FA):FE:=fun ρ=>(fr ρ).bind fun ds=>(zpm Str.empty ds).map D.str
structure DJ (Γ:Cn) (X:Cx) (es:List Expr) (fr:FA):Prop where
 out:∀ (acc:Str) (pins:List (Addr×Obj)) (s:Shared) (σ:St) (H:Hp) (Q:VK),Inv X pins σ H s->(∃ G₀ H₀ G ρ ds z,At Γ X.K G₀ H₀ G H ρ σ/\fr ρ=some ds/\zpm acc ds=some z/\∀ G' H',Step G H G' H'->Q (.str z) H') ->
  wpAny (model X.prog X.w) X.A (joinParts acc (evalEach es X.env)) (EP X pins σ Q) X.xe s
theorem zg7:DJ Γ X [] zai:=⟨fun acc pins s σ H Q I ⟨G₀,H₀,G,ρ,ds,z,A,h,hz,k⟩=>by
 cases h
 unfold zpm at hz
 split at hz
 ·rename_i hl
  cases hz
  exact joinParts_nil ⟨.str _,H,I.tok _,⟨_,rfl⟩,k G H (.refl A.gh)⟩ hl
 ·cases hz⟩
theorem zcl {y:Str} {j} (h:DJ Γ X es fr) (hs:evalEach (.Constant (.str y) j p::es) X.env=eval (.Constant (.str y) j p) X.env::evalEach es X.env:=by rfl):DJ Γ X (.Constant (.str y) j p::es) (zab (vC (.str y)) fr):=⟨fun acc pins s σ H Q I ⟨G₀,H₀,G,ρ,ds,z,A,hq,hz,k⟩=>by
 unfold zab vC at hq
 simp only [qa] at hq
 obtain ⟨xs,hxs,rfl⟩:=oMd hq
 unfold zpm at hz
 obtain ⟨w,hw,hz2⟩:=oBd hz
 clear hz
 have hz:=hz2
 clear hz2
 split at hz
 ·rename_i hl
  have hw':w=y/\y.length<=sizeLine:=by
   simp only [zoN] at hw
   split at hw
   ·exact ⟨(qE hw).symm,by assumption⟩
   ·exact nomatch hw
  obtain ⟨rfl,_⟩:=hw'
  rw [hs]
  refine joinParts_cons (thn (zoX (X:=X) pins s σ H (fun v H'=>v=.str w/\H'=H) I ⟨rfl,rfl⟩) fun v s1 ⟨v',H1,I1,r1,e1,e2⟩=>?_)
  subst e1 e2
  obtain ⟨t,rfl⟩:=r1
  exact ⟨hl,h.1 _ pins s1 σ _ Q I1 ⟨G₀,H₀,G,ρ,xs,z,A,hxs,hz,k⟩⟩
 ·cases hz⟩
theorem zc6 (hv:DE Γ X e f) (h:DJ Γ X es fr) (hs:evalEach (.FormattedValue e (-1) none p::es) X.env=eval (.FormattedValue e (-1) none p) X.env::evalEach es X.env:=by rfl):DJ Γ X (.FormattedValue e (-1) none p::es) (zab f fr):=⟨fun acc pins s σ H Q I ⟨G₀,H₀,G,ρ,ds,z,A,hq,hz,k⟩=>by
 unfold zab at hq
 obtain ⟨d,hd,hq⟩:=oBd hq
 obtain ⟨xs,hxs,rfl⟩:=oMd hq
 unfold zpm at hz
 obtain ⟨w,hw,hz2⟩:=oBd hz
 clear hz
 have hz:=hz2
 clear hz2
 split at hz
 ·rename_i hl
  rw [hs]
  refine joinParts_cons (FormattedValue_plain (thn (hv.1 pins s σ H (fun v H'=>∃ G',Step G H G' H'/\Rep Γ X.K G' v d) I ⟨G₀,H₀,G,ρ,d,A,hd,fun v G' H' st r=>⟨G',st,r⟩⟩) fun v s1 ⟨v',H1,I1,r1,G1,st,rp⟩=>?_))
  have fin:∀ (t':Tok) (tk:Nat),(acc++w).length<=sizeLine/\wpAny (model X.prog X.w) X.A (joinParts (acc++w) (evalEach es X.env)) (EP X pins σ Q) X.xe { s1 with toks:=tk }:=fun t' tk =>
   ⟨hl,h.1 _ pins _ σ _ Q (I1.tok tk) ⟨G₀,H₀,G1,ρ,xs,z,A.step st,hxs,hz,fun G' H' s'=>k G' H' (st.trans s')⟩⟩
  unfold zoN at hw
  split at hw
  ·split at hw
   ·cases hw
    cases rp.str_inv
    obtain ⟨t,rfl⟩:=r1
    exact formatField_str (fun t' tk=>fin t' tk) (by assumption)
   ·cases hw
  ·split at hw
   ·cases hw
    cases rp.int_inv
    obtain ⟨t,rfl⟩:=r1
    exact formatField_int_small (by assumption) (fin 0 _)
   ·cases hw
  ·cases hw
 ·cases hz⟩
theorem zkc {v1 v2:Expr} {zcx:List Expr} (h:DJ Γ X (v1::v2::zcx) fr) (hs:evalEach (v1::v2::zcx) X.env=eval v1 X.env::eval v2 X.env::evalEach zcx X.env:=by rfl):DE Γ X (.JoinedStr (v1::v2::zcx) pos) (fsF fr):=⟨fun pins s σ H Q I=>by
 rintro ⟨G₀,H₀,G,ρ,d,A,hq,k⟩
 unfold fsF at hq
 obtain ⟨ds,hd,hq⟩:=oBd hq
 obtain ⟨z,hz,rfl⟩:=oMd hq
 refine JoinedStr_many ?_
 rw [← hs]
 exact h.1 _ pins s σ H Q I ⟨G₀,H₀,G,ρ,ds,z,A,hd,hz,fun G' H' s'=>k _ G' H' s' (.str _)⟩⟩
end
end L2
end
section
namespace L2
open PySem PySem.Spec PyProof.Rows
section
variable {X:Cx} {pins:List (Addr×Obj)} {σ:St} {H H':Hp} {s:Shared} {h':Heap}
end
section
variable {Γ:Cn} {X:Cx} {a b c e o i:Expr} {es:List Expr} {fa fb fc f fo fk fx:FE} {fr fi:FA} {pos p p2 p3 p4 apos cpos:Pos} {ft:FT} {g:FS} {x:Str}
end
end L2
end
section
namespace L2
open PySem PySem.Spec PyProof.Rows
section
variable {α β:Type} [DecidableEq α]
end
section
variable {Γ:Cn} {X:Cx} {a b c e o i:Expr} {es:List Expr} {fa fb fc f fo fk fx:FE} {fr fi:FA} {pos p p2 p3 p4 apos cpos:Pos} {ft:FT} {g:FS} {x:Str}
def zpT:D->Option D
 | .lst l=>some (.lst l.reverse)
 | _=>none
theorem Reps.reverse {K:PySem.W.Frag} {G:Hp}:∀ {vs:List V} {ds:List D},Reps Γ K G vs ds->Reps Γ K G vs.reverse ds.reverse
 | _,_,.nil=>.nil
 | _,_,.cons h r=>by
  rw [List.reverse_cons,List.reverse_cons]
  exact r.reverse.append (.cons h .nil)
theorem zpj {j} (he:DE Γ X e f):DE Γ X (.Subscript e (.Slice none none (some (.UnaryOp .USub (.Constant (.int 1) j p3) p4)) p2) pos) (b1 zpT f):=⟨fun pins s σ H Q I=>by
 rintro ⟨G₀,H₀,G,ρ,d,A,h,k⟩
 unfold b1 at h
 obtain ⟨x,hx,h⟩:=oBd h
 unfold zpT at h
 split at h
 ·rename_i l
  cases h
  refine Subscript_ (thn (he.1 pins s σ H (fun v H'=>∃ G',Step G H G' H'/\Rep Γ X.K G' v (.lst l)) I ⟨G₀,H₀,G,ρ,_,A,hx,fun v G' H' st r=>⟨G',st,r⟩⟩) fun v s1 ⟨v',H1,I1,r1,G1,st,rp⟩=>?_)
  obtain ⟨a,vs,rfl,ha,rv⟩:=rp.lst_inv
  cases r1
  refine wpAny_Slice (qx (qx ?_))
  refine thn ((zt0 zrt zoY) pins s1 σ H1 (fun v H'=>v=.int (-1)/\H'=H1) I1 ⟨_,rfl,rfl,rfl⟩) fun vk s3 ⟨vv,H3,I3,r3,e1,e2⟩=>?_
  subst e1 e2
  obtain ⟨t,rfl⟩:=r3
  have I4:Inv X pins σ H3 { s3 with heap:=s3.heap.push { cls:=.type "slice",data:=.fields #[.none,.none,.int (-1) t] } }:=I3.kept (t':=s3.toks) fun b ob q=>qr _ q
  obtain ⟨its,rr,hti,hz⟩:=I4.list (.inl (.inl (st.gh _ _ ha)))
  show wpAny (model X.prog X.w) X.A (subscriptTail e (.Slice none none (some (.UnaryOp .USub (.Constant (.int 1) j p3) p4)) p2) (.ref a) (.ref s3.heap.objs.size)) (EP X pins σ Q) X.xe { s3 with heap:=s3.heap.push { cls:=.type "slice",data:=.fields #[.none,.none,.int (-1) t] } }
  refine tail_any (ops:=[.ref a,.ref s3.heap.objs.size]) hti.isList.typeIs slot_list_getitem.lookup ?_ (by with_unfolding_all rfl)
  refine wpAny_getItem_list_slice hti.isList (Heap.IsSliceOf.new ..) .none .none (.int _ _) (by decide) ?_ (by rw [qy];have:=rr.length;omega)
  rw [PySem.W.krv_pick]
  have hn:=I4.fresh
  exact ⟨.ref _,_,I4.lnew (ys:=vs.reverse) (its:=its.reverse) (t':=s3.toks) (zbX.reverse rr) (by rw [List.length_reverse];exact hz),rfl,zd1 st.gh rv.reverse (fun w G2 H2 s2 r2=>k w G2 H2 (st.trans s2) r2) _ hn⟩
 ·cases h⟩
end
end L2
end
section
namespace L2
open PySem PySem.Spec PyProof.Rows
structure CF (Γ:Cn) (K:PySem.W.Frag) (c:Str) (attrs:List Str):Prop where
 ex:∃ C,Γ.cls c=some C/\Cls K C/\∀ f∈attrs,zeY K C f
section
variable {Γ:Cn} {X:Cx} {a b c e o i value:Expr} {es:List Expr} {fa fb fc f fo fk fx fv:FE} {fr fi:FA} {pos pos' p apos cpos:Pos} {ft:FT} {g:FS} {x cl fl n m:Str} {attrs:List Str}
theorem zcA {K:PySem.W.Frag} {G:Hp} {k:Str}:∀ {us:List (Str×V)} {fs:List (Str×D)},us.map (·.1)=fs.map (·.1)->Reps Γ K G (us.map (·.2)) (fs.map (·.2)) ->
  (fs.lookup k=none/\us.lookup k=none)\/∃ d v,fs.lookup k=some d/\us.lookup k=some v/\Rep Γ K G v d
 | [],[],_,_=>.inl ⟨rfl,rfl⟩
 | [],_::_,e,_=>by cases e
 | _::_,[],e,_=>by cases e
 | (k1,v)::us,(k2,d)::fs,e,r=>by
  have e1:k1=k2:=(List.cons.inj e).1
  have e2:us.map (·.1)=fs.map (·.1):=(List.cons.inj e).2
  subst e1
  have r:Reps Γ K G (v::us.map (·.2)) (d::fs.map (·.2)):=r
  cases r with
  | cons r1 r2 =>
   by_cases h:k=k1
   ·subst h
    exact .inr ⟨d,v,by simp [List.lookup],by simp [List.lookup],r1⟩
   ·have hb:(k==k1)=false:=by simpa using h
    have:=zcA (k:=k) e2 r2
    simpa [List.lookup,hb] using this
theorem zih {f:Str} {v:V}:∀ {fs:List (Str×V)},fs.lookup f=none->ziX f v fs=fs++[(f,v)]
 | [],_=>rfl
 | (g,x)::r,h=>by
  by_cases e:f=g
  ·subst e;simp [List.lookup] at h
  ·have hb:(f==g)=false:=by simpa using e
   rw [ziX,qW (fun z=>e z.symm),zih (by simpa [List.lookup,hb] using h)]
   rfl
def zu9 (c f:Str):D->Option D
 | .ins c' fs=>if c'=c then fs.lookup f else none
 | _=>none
def zmS (c f:Str) (fo:FE):FE:=fun ρ=>(fo ρ).bind (zu9 c f)
theorem zg8 (hc:CF Γ X.K cl attrs) (hf:fl∈attrs) (ho:DE Γ X o fo) (hb:attributeBase o fl X.env (eval o X.env)=eval o X.env:=by rfl):DE Γ X (.Attribute o fl pos) (zmS cl fl fo):=⟨(zmd ho.1 hb).imp fun σ H Q=>by
 rintro ⟨G₀,H₀,G,ρ,d,A,h,k⟩
 unfold zmS at h
 obtain ⟨x,hx,hq⟩:=oBd h
 clear h
 refine ⟨G₀,H₀,G,ρ,x,A,hx,fun v G1 H1 s1 r1=>?_⟩
 unfold zu9 at hq
 split at hq
 ·split at hq
  ·rename_i ec
   subst ec
   obtain ⟨C,q1,q2,q3⟩:=hc.ex
   cases r1 with
   | ins h1 h2 h3 h4 =>
    rw [q1] at h2
    cases h2
    rcases zcA (k:=fl) h3 h4 with ⟨z1,_⟩ | ⟨d',v',z1,z2,z3⟩
    ·rw [z1] at hq;cases hq
    ·rw [z1] at hq
     cases hq
     exact ⟨_,C,_,_,v',rfl,s1.gh _ _ h1,q2,q3 fl hf,z2,k v' G1 H1 s1 z3⟩
  ·cases hq
 ·cases hq⟩
def zlW (f:Str):Slot->Option D
 | .obj _ fs=>fs.lookup f
 | .objd _ fs n _=>if f=n then none else fs.lookup f
 | _=>none
def zpM:Slot->Option Str
 | .obj c _=>some c
 | .objd c _ _ _=>some c
 | _=>none
def zhw (c f:Str) (i:Nat):FE:=fun ρ=>match ρ[i]? with
 | some (some s)=>if zpM s=some c then zlW f s else none
 | _=>none
theorem zn9 {vs:List (Str×V)} {n f:Str} {v w:V} (h:vs.lookup f=some v):(vs++[(n,w)]).lookup f=some v:=by
 induction vs with
 | nil=>cases h
 | cons p r ih =>
  obtain ⟨g,x⟩:=p
  by_cases e:f=g
  ·subst e;simpa [List.lookup] using h
  ·have hb:(f==g)=false:=by simpa using e
   simp only [qo,List.lookup,hb] at h ⊢
   exact ih h
theorem ziD (i:Nat) (hc:CF Γ X.K cl attrs) (hf:fl∈attrs) {vp:Pos} (hN:X.N[i]?=some x:=by rfl) (hv:Vis X.env.scope x:=by first | exact Or.inl rfl | exact Or.inr (Or.inl rfl) | exact Or.inr (Or.inr rfl)) (hd:(x==("__debug__":Str))=false:=by decide)
  (hcd:(x==("__classdict__":Str))=false:=by decide) (hb:attributeBase (.Name x vp) fl X.env (eval (.Name x vp) X.env)=eval (.Name x vp) X.env:=by rfl):DE Γ X (.Attribute (.Name x vp) fl pos) (zhw cl fl i):=⟨(zmd (zgg hN hv hd hcd) hb).imp fun σ H Q=>by
 rintro ⟨G₀,H₀,G,ρ,d,A,h,k⟩
 unfold zhw at h
 split at h
 ·rename_i s hi
  split at h
  ·rename_i hcl
   obtain ⟨C,q1,q2,q3⟩:=hc.ex
   obtain ⟨v,fp,h1,h2⟩:=A.get hi
   cases h2 with
   | sh _=>cases h
   | own _ _ _ _=>cases h
   | odk _ _ _ _ _=>cases h
   | odt _ _ _ _ _=>cases h
   | tlo _ _ _ _ _ _=>cases h
   | oll _ _ _ _ _=>cases h
   | pin _=>cases h
   | obj g1 g2 g3 g4 g5 g6 g7 =>
    cases hcl
    rw [q1] at g1
    cases g1
    have h:List.lookup fl _=some d:=h
    rcases zcA (k:=fl) g5 g6 with ⟨z1,_⟩ | ⟨d',v',z1,z2,z3⟩
    ·rw [z1] at h;cases h
    ·rw [z1] at h
     cases h
     exact ⟨_,h1,_,C,_,_,v',rfl,g4,q2,q3 fl hf,z2,k v' G H (.refl A.gh) z3⟩
   | objd g1 g2 g3 g4 g5 g6 _ _ _ _ _ g7 =>
    cases hcl
    rw [q1] at g1
    cases g1
    unfold zlW at h
    simp only at h
    split at h
    ·cases h
    ·rcases zcA (k:=fl) g5 g6 with ⟨z1,_⟩ | ⟨d',v',z1,z2,z3⟩
     ·rw [z1] at h;cases h
     ·rw [z1] at h
      cases h
      exact ⟨_,h1,_,C,_,_,v',rfl,g4,q2,q3 fl hf,zn9 z2,k v' G H (.refl A.gh) z3⟩
  ·cases h
 ·cases h⟩
def zfx (c f:Str) (i:Nat) (fv:FE):FS:=fun ρ=>(fv ρ).bind fun d=>match ρ[i]? with
 | some (some (.obj c' fs))=>if c'=c/\fs.lookup f=none/\fs.length < 100 then some (.nx,ρ.set i (some (.obj c (fs++[(f,d)])))) else none
 | _=>none
theorem zdB (i:Nat) (hc:CF Γ X.K cl attrs) (hf:fl∈attrs) {vp:Pos} (hv':DE Γ X value fv) (hN:X.N[i]?=some x:=by rfl) (hv:Vis X.env.scope x:=by first | exact Or.inl rfl | exact Or.inr (Or.inl rfl) | exact Or.inr (Or.inr rfl)) (hd:(x==("__debug__":Str))=false:=by decide)
  (hcd:(x==("__classdict__":Str))=false:=by decide) (hs:swapsWith value (some (.Attribute (.Name x vp) fl pos')) pos.line X.env=pure false:=by rfl):DS Γ X (.Assign [.Attribute (.Name x vp) fl pos'] value pos) (zfx cl fl i fv):=⟨(zoU (zgg hN hv hd hcd) hv'.1 hs).imp fun E σ H=>by
 rintro ⟨G₀,H₀,G,ρ,flw,ρ',A,h,k⟩
 unfold zfx at h
 obtain ⟨d,hd,h⟩:=oBd h
 split at h
 ·rename_i c' fs hi
  split at h
  ·rename_i hz
   obtain ⟨rfl,hz2,hz3⟩:=hz
   cases h
   obtain ⟨C,q1,q2,q3⟩:=hc.ex
   refine ⟨G₀,H₀,G,ρ,d,A,hd,fun v G1 H1 s1 r1=>?_⟩
   have A1:=A.step s1
   obtain ⟨w,fp,h1,h2⟩:=A1.get hi
   cases h2 with
   | obj g1 g2 g3 g4 g5 g6 g7 =>
    rename_i a C' dx vs
    have g1':=g1
    rw [q1] at g1
    cases g1
    have hl:vs.lookup fl=none:=by
     rcases zcA (k:=fl) g5 g6 with ⟨_,z2⟩ | ⟨d',v',z1,_,_⟩
     ·exact z2
     ·rw [z1] at hz2;cases hz2
    have hlen:vs.length=fs.length:=by simpa using congrArg List.length g5
    refine ⟨_,h1,a,C,dx,vs,rfl,g4,q2,q3 fl hf,by omega,?_⟩
    rw [zih hl]
    refine k σ G1 _ s1.gg (A1.ch hi h1 (.obj g1' g2 g3 g4 g5 g6 g7) (fun b o e hb=>?_) (.obj (vs:=vs++[(fl,v)]) g1' g2 g3 zaL (by simp [g5]) (by simpa using g6.append (.cons r1 .nil)) g7) (fun b hb=>.inl hb) (.refl _) (fun b o e=>?_) (fun _ _ _ _=>rfl))
    ·rw [zaz (fun z=>hb (List.mem_singleton.mpr z))];exact e
    ·rw [zaz (zau e g3)];exact A1.gh b o e
  ·cases h
 ·cases h⟩
def zrh (c f:Str) (i:Nat):FS:=fun ρ=>match ρ[i]? with
 | some (some (.obj c' fs))=>if c'=c/\fs.lookup f=none/\fs.length < 100 then some (.nx,ρ.set i (some (.objd c fs f []))) else none
 | _=>none
theorem zs7 (i:Nat) (hc:CF Γ X.K cl attrs) (hf:fl∈attrs) {vp dp:Pos} (hN:X.N[i]?=some x:=by rfl) (hv:Vis X.env.scope x:=by first | exact Or.inl rfl | exact Or.inr (Or.inl rfl) | exact Or.inr (Or.inr rfl)) (hd:(x==("__debug__":Str))=false:=by decide)
  (hcd:(x==("__classdict__":Str))=false:=by decide) (hs:swapsWith (.Dict [] [] dp) (some (.Attribute (.Name x vp) fl pos')) pos.line X.env=pure false:=by rfl):DS Γ X (.Assign [.Attribute (.Name x vp) fl pos'] (.Dict [] [] dp) pos) (zrh cl fl i):=⟨(zoU (zgg hN hv hd hcd) znX hs).imp fun E σ H=>by
 rintro ⟨G₀,H₀,G,ρ,flw,ρ',A,h,k⟩ p hp
 unfold zrh at h
 split at h
 ·rename_i c' fs hi
  split at h
  ·rename_i hz
   obtain ⟨rfl,hz2,hz3⟩:=hz
   cases h
   obtain ⟨C,q1,q2,q3⟩:=hc.ex
   obtain ⟨w,fp,h1,h2⟩:=A.get hi
   cases h2 with
   | obj g1 g2 g3 g4 g5 g6 g7 =>
    rename_i a C' dx vs
    have g1':=g1
    rw [q1] at g1
    cases g1
    have hl:vs.lookup fl=none:=by
     rcases zcA (k:=fl) g5 g6 with ⟨_,z2⟩ | ⟨d',v',z1,_,_⟩
     ·exact z2
     ·rw [z1] at hz2;cases hz2
    have hlen:vs.length=fs.length:=by simpa using congrArg List.length g5
    have npa:a≠p:=zau g4 hp
    refine ⟨_,h1,a,C,dx,vs,rfl,by rw [zaz npa];exact g4,q2,q3 fl hf,by omega,?_⟩
    rw [zih hl]
    have hp0:H₀ p=none:=A.st.hh.free hp
    have hpg:G p=none:=A.gh.free hp
    refine k σ G _ (.refl _) (A.ch hi h1 (.obj g1' g2 g3 g4 g5 g6 g7) (fun b o e hb=>?_) (.objd (vs:=vs) (p:=p) (us:=[]) (kvs:=[]) g1' g2 g3 zaL g5 g6 hp0 hpg (by rw [zaz npa.symm,zaL]) rfl .nil g7) (fun b hb=>?_) (.refl _) (fun b o e=>?_) (fun _ _ _ _=>rfl))
    ·rw [zaz (fun z=>hb (List.mem_singleton.mpr z)),zaz (zau e hp)];exact e
    ·rcases List.mem_cons.mp hb with rfl | hb
     ·exact .inl (List.mem_singleton.mpr rfl)
     ·rw [List.mem_singleton.mp hb];exact .inr hp
    ·rw [zaz (zau e g3),zaz (zau e hpg)];exact A.gh b o e
  ·cases h
 ·cases h⟩
def zdy (c f:Str) (i:Nat) (fk fv:FE):FS:=fun ρ=>(fv ρ).bind fun d=>(fk ρ).bind fun kd=>(zot kd).bind fun k=>match ρ[i]? with
 | some (some (.objd c' fs n kvs))=>if c'=c/\n=f/\fs.lookup f=none/\kvs.length < 100000 then some (.nx,ρ.set i (some (.objd c fs n (zlj kvs k d)))) else none
 | _=>none
theorem zmt {vs:List (Str×V)} {f:Str} {w:V} (h:vs.lookup f=none):(vs++[(f,w)]).lookup f=some w:=by
 induction vs with
 | nil=>simp [List.lookup]
 | cons p r ih =>
  obtain ⟨g,x⟩:=p
  by_cases e:f=g
  ·subst e;simp [List.lookup] at h
  ·have hb:(f==g)=false:=by simpa using e
   simp only [qo,List.lookup,hb] at h ⊢
   exact ih h
theorem zmW (i:Nat) (hu:X.A.units+66 < cLine) (hc:CF Γ X.K cl attrs) (hf:fl∈attrs) {vp ap:Pos} {ke:Expr} (hk:DE Γ X ke fk) (hv':DE Γ X value fv) (hN:X.N[i]?=some x:=by rfl) (hv:Vis X.env.scope x:=by first | exact Or.inl rfl | exact Or.inr (Or.inl rfl) | exact Or.inr (Or.inr rfl)) (hd:(x==("__debug__":Str))=false:=by decide)
  (hcd:(x==("__classdict__":Str))=false:=by decide) (hb:attributeBase (.Name x vp) fl X.env (eval (.Name x vp) X.env)=eval (.Name x vp) X.env:=by rfl) (hs:swapsWith value (some (.Subscript (.Attribute (.Name x vp) fl ap) ke pos')) pos.line X.env=pure false:=by rfl) :
  DS Γ X (.Assign [.Subscript (.Attribute (.Name x vp) fl ap) ke pos'] value pos) (zdy cl fl i fk fv):=⟨(zp2 (by omega) (zmd (zgg hN hv hd hcd) hb) hk.1 hv'.1 hs).imp fun E σ H=>by
 rintro ⟨G₀,H₀,G,ρ,flw,ρ',A,h,k⟩
 unfold zdy at h
 obtain ⟨d,hd,ha⟩:=oBd h
 clear h
 obtain ⟨kd,hkd,hb1⟩:=oBd ha
 clear ha
 obtain ⟨kk,hkk,hq⟩:=oBd hb1
 clear hb1
 split at hq
 ·rename_i c' fs n kvs hi
  split at hq
  ·rename_i hz
   obtain ⟨rfl,rfl,hz2,hz3⟩:=hz
   cases hq
   obtain ⟨C,q1,q2,q3⟩:=hc.ex
   refine ⟨G₀,H₀,G,ρ,d,A,hd,fun v G1 H1 s1 r1=>?_⟩
   have A1:=A.step s1
   obtain ⟨w,fp,h1,h2⟩:=A1.get hi
   cases h2 with
   | objd g1 g2 g3 g4 g5 g6 y1 y2 y3 y4 y5 g7 =>
    rename_i a C' dx p vs us
    have g1':=g1
    rw [q1] at g1
    cases g1
    have hl:vs.lookup n=none:=by
     rcases zcA (k:=n) g5 g6 with ⟨_,z2⟩ | ⟨d',v',z1,_,_⟩
     ·exact z2
     ·rw [z1] at hz2;cases hz2
    refine ⟨_,h1,a,C,dx,_,.ref p,rfl,g4,q2,q3 n hf,zmt hl,G₀,H₀,G1,ρ,kd,A1,hkd,fun u G2 H2 s2 r2=>?_⟩
    have A2:=A1.step s2
    have eu:=zkb r2 hkk
    subst eu
    have hp2:H2 p=some (.dK us):=s2.hh _ _ y3
    have ha2:H2 a=some (.ins C dx (vs++[(n,.ref p)])):=s2.hh _ _ g4
    have ga2:G2 a=none:=(s2.out _ _ g4).trans g3
    have gp2:G2 p=none:=(s2.out _ _ y3).trans y2
    have npa:a≠p:=zhy ha2 hp2 (by intro z;cases z)
    have hlen:us.length=kvs.length:=by simpa using congrArg List.length y4
    obtain ⟨w1,w2⟩:=zo3 (k:=kk) (r1.mono s2.gg) y4 (y5.mono s2.gg)
    refine ⟨p,_,rfl,ztp.k hp2 (by have:=sizeLine_eq;omega),?_⟩
    refine k σ G2 _ (s1.gg.trans s2.gg) (A2.ch hi h1 (.objd g1' g2 ga2 ha2 g5 (g6.mono s2.gg) y1 gp2 hp2 y4 (y5.mono s2.gg) g7) (fun b o e hb=>?_) (.objd (p:=p) g1' g2 ga2 (by rw [zaz npa];exact ha2) g5 (g6.mono s2.gg) y1 gp2 zaL w1 w2 g7) (fun b hb=>.inl hb) (.refl _) (fun b o e=>?_) (fun _ _ _ _=>rfl))
    ·rw [zaz (fun z=>hb (by rw [z];exact qg _ qf))];exact e
    ·rw [zaz (zau e gp2)];exact A2.gh b o e
  ·cases hq
 ·cases hq⟩
def zlV:Slot->Option D
 | .obj c fs=>some (.ins c fs)
 | .objd c fs n kvs=>some (.ins c (fs++[(n,.dk kvs)]))
 | _=>none
theorem At.done {K:PySem.W.Frag} {G₀ H₀ G H:Hp} {ρ:zaX} {σ:St} (A:At Γ K G₀ H₀ G H ρ σ) {i:Nat} {s:Slot} {d:D} (hi:ρ[i]?=some (some s)) (hd:zlV s=some d):∃ a G',Γ.self=some a/\Step G₀ H₀ G' H/\Rep Γ K G' (.ref a) d:=by
 obtain ⟨v,fp,h1,h2⟩:=A.get hi
 cases h2 with
 | sh _=>cases hd
 | own _ _ _ _=>cases hd
 | odk _ _ _ _ _=>cases hd
 | odt _ _ _ _ _=>cases hd
 | tlo _ _ _ _ _ _=>cases hd
 | oll _ _ _ _ _=>cases hd
 | pin _=>cases hd
 | obj g1 g2 g3 g4 g5 g6 g7 =>
  cases hd
  rename_i a C dx vs fs
  have sm:zb4 G (upd G a (.ins C dx vs)):=fun b o e=>by rw [zaz (zau e g3)];exact e
  refine ⟨a,upd G a (.ins C dx vs),g7,⟨A.st.hh,A.st.gg.trans sm,fun b o e=>?_,fun b o e=>?_⟩,.ins zaL g1 g5 (g6.mono sm)⟩
  ·by_cases hb:b=a
   ·subst hb;rw [zaL] at e;cases e;exact g4
   ·rw [zaz hb] at e;exact A.gh b o e
  ·rw [zaz (zau e g2)];exact A.st.out b o e
 | objd g1 g2 g3 g4 g5 g6 y1 y2 y3 y4 y5 g7 =>
  cases hd
  rename_i n a C dx p vs fs us kvs
  have npa:a≠p:=zhy g4 y3 (by intro z;cases z)
  have sm:zb4 G (upd (upd G p (.dK us)) a (.ins C dx (vs++[(n,.ref p)]))):=fun b o e=>by rw [zaz (zau e g3),zaz (zau e y2)];exact e
  refine ⟨a,_,g7,⟨A.st.hh,A.st.gg.trans sm,fun b o e=>?_,fun b o e=>?_⟩,.ins (us:=vs++[(n,.ref p)]) (fs:=fs++[(n,.dk kvs)]) zaL g1 (by simp [g5]) ?_⟩
  ·by_cases hb:b=a
   ·subst hb;rw [zaL] at e;cases e;exact g4
   ·rw [zaz hb] at e
    by_cases hb':b=p
    ·subst hb';rw [zaL] at e;cases e;exact y3
    ·rw [zaz hb'] at e;exact A.gh b o e
  ·rw [zaz (zau e g2),zaz (zau e y1)];exact A.st.out b o e
  ·have r2:Rep Γ K (upd (upd G p (.dK us)) a (.ins C dx (vs++[(n,.ref p)]))) (.ref p) (.dk kvs):=.dk (us:=us) (by rw [zaz npa.symm,zaL]) y4 (y5.mono sm)
   simpa using (g6.mono sm).append (.cons r2 .nil)
end
end L2
end
section
namespace L2
open PySem PySem.Spec PyProof.Rows
def Cn.mk1 (Γ:Cn) (x:Addr):Cn:=⟨Γ.cls,some x⟩
section
variable {Γ:Cn} {P:Program} {w:World} {K:PySem.W.Frag} {mg:Str->Option Value} {base:Heap} {c:Str} {attrs:List Str} {x:Addr}
theorem Rep.to1 {G:Hp} {v:V} {d:D} (x:Addr) (r:Rep Γ K G v d):Rep (Γ.mk1 x) K G v d:=Rep.re (Γ:=Γ) (Γ':=Γ.mk1 x) rfl r
theorem Rep.of1 {G:Hp} {v:V} {d:D} {x:Addr} (r:Rep (Γ.mk1 x) K G v d):Rep Γ K G v d:=Rep.re (Γ:=Γ.mk1 x) (Γ':=Γ) rfl r
theorem Reps.of1 {G:Hp} {v:List V} {d:List D} {x:Addr} (r:Reps (Γ.mk1 x) K G v d):Reps Γ K G v d:=Reps.re (Γ:=Γ.mk1 x) (Γ':=Γ) rfl r
theorem CF.re (h:CF Γ K c attrs) (x:Addr):CF (Γ.mk1 x) K c attrs:=⟨h.ex⟩
theorem zrE {n:Nat} {F:List D->Option D} {vs:List V} {H:Hp} {Q:VK} {E:XK} (x:Addr) (h:spF (Γ.mk1 x) K n F vs H Q E):spF Γ K n F vs H Q E:=by
 obtain ⟨G,ds,d,h1,h2,h3,h4,k⟩:=h
 exact ⟨G,ds,d,h1,h2.of1,h3,h4,fun v G' H' s r=>k v G' H' s (r.to1 x)⟩
theorem Cal.re {y:Str} {n k:Nat} {F:List D->Option D} (C:Cal Γ P w K mg base y n k F) (x:Addr):Cal (Γ.mk1 x) P w K mg base y n k F:=by
 obtain ⟨f,fd,ps,h1,h2,h3,h4⟩:=C.ex
 exact ⟨f,fd,ps,h1.imp fun vs H Q E q=>zrE x q,h2,h3,h4⟩
structure CalM (Γ:Cn) (P:Program) (w:World) (K:PySem.W.Frag) (mg:Str->Option Value) (base:Heap) (c m:Str) (n k:Nat) (F:List D->Option D):Prop where
 ex:∃ C f fd ps,Γ.cls c=some C/\Cls K C/\Meth K C m f/\FnOk P w K mg base CX0 k f fd ps (spF Γ K n F)/\zdG K fd ps []
def spI (Γ:Cn) (K:PySem.W.Frag) (C:Addr) (n:Nat) (F:List D->Option D):Sp:=fun vs H Q _=>∃ x dx H1 G ds d us,vs=.ref x::us/\H=upd (upd H1 dx (.own x)) x (.ins C dx [])/\H1 x=none/\H1 dx=none/\dx≠x/\zb4 G H1/\Reps Γ K G us ds/\ds.length=n/\F ds=some d /\
 ∀ G' H',Step G H1 G' H'->Rep Γ K G' (.ref x) d->Q .non H'
structure CalI (Γ:Cn) (P:Program) (w:World) (K:PySem.W.Frag) (mg:Str->Option Value) (base:Heap) (c:Str) (n k:Nat) (F:List D->Option D):Prop where
 ex:∃ C f fd ps,Γ.cls c=some C/\Mk K C f/\mg c=some (.ref C)/\FnOk P w K mg base CX0 k f fd ps (spI Γ K C n F)/\zdG K fd ps []
end
section
variable {Γ:Cn} {X:Cx} {e o:Expr} {es:List Expr} {fo:FE} {fr:FA} {pos p apos:Pos} {c m:Str}
def zdK (c m:Str) (F:List D->Option D) (fo:FE) (fr:FA):FE:=fun ρ=>(fo ρ).bind fun d=>match d with
 | .ins c' fs=>if c'=c/\fs.lookup m=none then (fr ρ).bind fun ds=>F (d::ds) else none
 | _=>none
theorem zuq {n k j:Nat} {F:List D->Option D} {pl:Sem Bool} (C:CalM Γ X.prog X.w X.K X.mg X.base c m (n+1) k F) (hr:Room j X.A) (hk:k<=j) (ho:DE Γ X o fo) (ha:DA Γ X (e::es) fr) (hn:∀ ρ ds,fr ρ=some ds->ds.length=n)
  (hst:starEach (e::es) X.env=(false,eval e X.env)::starEach es X.env:=by rfl) (hpl:(backTo pos (starEach es X.env)).any (·.1)=false:=by rfl)
  (ht:eval (.Call (.Attribute o m apos) (e::es) [] pos) X.env=(do
   let ov ← eval o X.env
   standAt apos.atName
   let (f,first) ← holding [ov] (getMethod ov m pl)
   callWith pos f first (backTo pos (starEach (e::es) X.env)) (backToKw pos (keywordEach [] X.env))):=by rfl) :
  DE Γ X (.Call (.Attribute o m apos) (e::es) [] pos) (zdK c m F fo fr):=⟨by
 obtain ⟨Ca,f,fd,ps,h0,h1,h2,h3,h4⟩:=C.ex
 refine (zp8 ho.1 h1 h2 h3 (hr.mono hk) h4 .nil zn0 ha.1 hst hpl ht).imp fun σ H Q=>?_
 rintro ⟨G₀,H₀,G,ρ,d,A,h,k⟩
 unfold zdK at h
 obtain ⟨x,hx,hq⟩:=oBd h
 clear h
 refine ⟨G₀,H₀,G,ρ,x,A,hx,fun v G1 H1 s1 r1=>?_⟩
 split at hq
 ·rename_i c' fs
  split at hq
  ·rename_i hz
   obtain ⟨rfl,hz2⟩:=hz
   obtain ⟨ds,hds,hF⟩:=oBd hq
   have r1':=r1
   cases r1 with
   | ins g1 g2 g3 g4 =>
    rw [h0] at g2
    cases g2
    rename_i _ _ us0
    have hl:List.lookup m us0=none:=by
     rcases zcA (k:=m) g3 g4 with ⟨_,z2⟩ | ⟨d',v',z1,_,_⟩
     ·exact z2
     ·rw [z1] at hz2;cases hz2
    refine ⟨_,_,_,rfl,s1.gh _ _ g1,hl,G₀,H₀,G1,ρ,ds,A.step s1,hds,fun vs G2 H2 s2 r2=>?_⟩
    show spF Γ X.K (n+1) F (_::(vs++[])) H2 Q E0
    rw [List.append_nil]
    exact ⟨G2,_,d,s2.gh,.cons (r1'.mono s2.gg) r2,by rw [qh,hn ρ ds hds],hF,fun v G' H' s r=>k v G' H' ((s1.trans s2).trans s) r⟩
  ·cases hq
 ·cases hq⟩
theorem zb0 {k j:Nat} {F:List D->Option D} {pl:Sem Bool} (C:CalM Γ X.prog X.w X.K X.mg X.base c m 1 k F) (hr:Room j X.A) (hk:k<=j) (ho:DE Γ X o fo)
  (ht:eval (.Call (.Attribute o m apos) [] [] pos) X.env=(do
   let ov ← eval o X.env
   standAt apos.atName
   let (f,first) ← holding [ov] (getMethod ov m pl)
   callWith pos f first (backTo pos (starEach [] X.env)) (backToKw pos (keywordEach [] X.env))):=by rfl) :
  DE Γ X (.Call (.Attribute o m apos) [] [] pos) (zdK c m F fo zai):=⟨by
 obtain ⟨Ca,f,fd,ps,h0,h1,h2,h3,h4⟩:=C.ex
 refine (znV ho.1 h1 h2 h3 (hr.mono hk) h4 .nil zn0 ht).imp fun σ H Q=>?_
 rintro ⟨G₀,H₀,G,ρ,d,A,h,k⟩
 unfold zdK at h
 obtain ⟨x,hx,hq⟩:=oBd h
 clear h
 refine ⟨G₀,H₀,G,ρ,x,A,hx,fun v G1 H1 s1 r1=>?_⟩
 split at hq
 ·rename_i c' fs
  split at hq
  ·rename_i hz
   obtain ⟨rfl,hz2⟩:=hz
   obtain ⟨ds,hds,hF⟩:=oBd hq
   cases hds
   have r1':=r1
   cases r1 with
   | ins g1 g2 g3 g4 =>
    rw [h0] at g2
    cases g2
    rename_i _ _ us0
    have hl:List.lookup m us0=none:=by
     rcases zcA (k:=m) g3 g4 with ⟨_,z2⟩ | ⟨d',v',z1,_,_⟩
     ·exact z2
     ·rw [z1] at hz2;cases hz2
    refine ⟨_,_,_,rfl,s1.gh _ _ g1,hl,?_⟩
    exact ⟨G1,_,d,s1.gh,.cons r1' .nil,rfl,hF,fun v G' H' s r=>k v G' H' (s1.trans s) r⟩
  ·cases hq
 ·cases hq⟩
theorem zm8 {n k j:Nat} {F:List D->Option D} (C:CalI Γ X.prog X.w X.K X.mg X.base c n k F) (hr:Room j X.A) (hk:k+1<=j) (hg:Gl X c) (ha:DA Γ X (e::es) fr) (hn:∀ ρ ds,fr ρ=some ds->ds.length=n)
  (hdb:(c==("__debug__":Str))=false:=by decide) (he:starEach (e::es) X.env=(false,eval e X.env)::starEach es X.env:=by rfl) (hpl:(backTo pos (starEach es X.env)).any (·.1)=false:=by rfl) :
  DE Γ X (.Call (.Name c p) (e::es) [] pos) (cF F fr):=⟨by
 obtain ⟨Ca,f,fd,ps,h0,h1,h2,h3,h4⟩:=C.ex
 refine (zp9 h1 h3 (hr.mono hk) hg h2 h4 .nil zn0 ha.1 hdb he hpl).imp fun σ H Q=>?_
 rintro ⟨G₀,H₀,G,ρ,d,A,h,k⟩
 unfold cF at h
 obtain ⟨ds,hd,hq⟩:=oBd h
 refine ⟨G₀,H₀,G,ρ,ds,A,hd,fun vs G1 H1 s1 r1 x dx hx hdx hne=>?_⟩
 rw [List.append_nil]
 exact ⟨x,dx,H1,G1,ds,d,vs,rfl,rfl,hx,hdx,hne,s1.gh,r1,hn ρ ds hd,hq,fun G' H' s r=>⟨rfl,k _ G' H' (s1.trans s) r⟩⟩⟩
end
def zri (n:Nat) (c:Str) (g:FS):List D->Option D:=fun ds=>(g (some (.obj c [])::ds.map (fun d=>some (Slot.sh d))++List.replicate n none)).bind fun r=>match r.1 with
 | .nx=>match r.2[0]? with
  | some (some s)=>zlV s
  | _=>none
 | _=>none
section
variable {Γ:Cn} {P:Program} {w:World} {K:PySem.W.Frag} {mg:Str->Option Value} {base:Heap} {c:Str} {attrs:List Str}
theorem Fun.okI {x qual:Str} {st:Stmt} {f C:Addr} {fd:FuncData} {N ps:List Str} {s0:Str} {k:Nat} {g:FS} (F:Fun K x qual st f fd) (S:FnScope N (s0::ps) (zaq st)) (hC:Γ.cls c=some C)
  (hbody:∀ (y:Addr) (cdv:Value) (A:Around) (outer:List Env) (s:Shared) (H:Hp) (E:XK),Room k (A.deeper (envOfC qual (zaq st) s.heap.objs.size f cdv)) ->
   DSs (Γ.mk1 y) (zlH CX0 P w K mg base N qual (zaq st) f cdv A outer s H E).nox (zbO st) g):FnOk P w K mg base CX0 (k+1) f fd (s0::ps) (spI Γ K C ps.length (zri (N.length - (ps.length+1)) c g)):=by
 refine F.ok S (fun vs H Q E h=>?_) (fun cdv A outer s H vs Q E hr h=>?_)
 ·obtain ⟨y,dx,H1,G,ds,d,us,rfl,_,_,_,_,_,r,hl,_⟩:=h
  rw [qh,r.length,hl,qh]
 ·obtain ⟨y,dx,H1,G,ds,d,us,rfl,rfl,hx,hdx,hne,gh,r,hl,hd,k⟩:=h
  refine ⟨_,(hbody y cdv A outer s _ E hr).1,?_⟩
  unfold zri at hd
  obtain ⟨⟨fl,ρ'⟩,hg,hd⟩:=oBd hd
  have s1:=Step.newOwn (o:=.own y) gh hdx
  have hx1:(upd H1 dx (.own y)) y=none:=by rw [zaz (Ne.symm hne)];exact hx
  have s2:=s1.trans (Step.newOwn (o:=.ins C dx []) s1.gh hx1)
  have hlen:us.length=ds.length:=r.length
  have A0:At (Γ.mk1 y) K G H1 G (upd (upd H1 dx (.own y)) y (.ins C dx [])) (some (.obj c [])::ds.map (fun d=>some (Slot.sh d))++List.replicate (N.length - (ps.length+1)) none) (zfs N (.ref y::us)):=by
   refine ⟨s2,by simp [zfs,hlen,hl],fun i=>if i=0 then [y] else [],fun i t e=>?_,fun i j t u hij e1 e2 b hb=>?_⟩
   ·cases i with
    | zero =>
     cases e
     exact ⟨.ref y,rfl,.obj (vs:=[]) (fs:=[]) hC hx (gh.free hx) zaL rfl .nil rfl⟩
    | succ i =>
     have e:(ds.map (fun d=>some (Slot.sh d))++List.replicate (N.length - (ps.length+1)) none)[i]?=some (some t):=e
     by_cases hi:i < ds.length
     ·rw [qw (by simpa using hi),qj] at e
      obtain ⟨d',hd',e⟩:=oMd e
      cases e
      obtain ⟨v,hv,rv⟩:=r.get hd'
      refine ⟨v,?_,.sh (rv.to1 y)⟩
      unfold zfs
      show ((us.map some)++_)[i]?=some (some v)
      rw [qw (by rw [qe,hlen];exact hi),qj,hv]
      rfl
     ·rw [qH (by simpa using hi),List.getElem?_replicate] at e
      split at e <;> cases e
   ·have hb:b∈(if i=0 then [y] else []):=hb
    show b∉(if j=0 then [y] else [])
    by_cases hi:i=0
    ·subst hi
     rw [qW (Ne.symm hij)]
     exact fun z=>by cases z
    ·rw [qW hi] at hb;cases hb
  refine ⟨G,H1,G,_,fl,ρ',A0,hg,fun σ' G' H' sm A'=>?_⟩
  cases fl with
  | nx =>
   simp only at hd
   split at hd
   ·rename_i sl hs
    obtain ⟨a,G2,e1,st2,rp⟩:=A'.done hs hd
    cases e1
    exact k G2 H' st2 rp.of1
   ·cases hd
  | rt d'=>cases hd
  | ow d'=>cases hd
  | nw d'=>cases hd
  | od d'=>cases hd
  | bk=>cases hd
  | ct=>cases hd
structure DfnM (K:PySem.W.Frag) (C:Addr) (c m qual:Str) (st:Stmt):Prop where
 ex:∃ f fd,Fun K m qual st f fd/\PySem.W.findIn K (.ref C) m=some (some (.ref f))/\PySem.W.isFn K (.ref f)=true
structure ClsOk (Γ:Cn) (K:PySem.W.Frag) (mg:Str->Option Value) (c:Str) (C:Addr):Prop where
 cn:Γ.cls c=some C
 cl:Cls K C
 mgC:mg c=some (.ref C)
 makes:PySem.W.makesIn K C=true
 kp:PySem.W.keepIn K (.ref C)=true
theorem DfnM.cal {m qual:Str} {C:Addr} {st:Stmt} {N ps:List Str} {k:Nat} {g:FS} (O:ClsOk Γ K mg c C) (F:DfnM K C c m qual st) (S:FnScope N ps (zaq st))
  (hb:∀ (kV doc pm:Value) (an:Option Addr) (cdv ct:Value) (us:List Value),us.length=ps.length->bindArgs (PySem.W.fnOf m qual (zc4 st) (zbO st) (zaq st) .none kV doc pm an cdv ct) ⟨us,[]⟩=pure (ps.zip us))
  (hbody:∀ (f:Addr) (cdv:Value) (A:Around) (outer:List Env) (s:Shared) (H:Hp) (E:XK),Room k (A.deeper (envOfC qual (zaq st) s.heap.objs.size f cdv)) ->
   DSs Γ (zlH CX0 P w K mg base N qual (zaq st) f cdv A outer s H E).nox (zbO st) g):CalM Γ P w K mg base c m ps.length (k+1) (zbY (N.length - ps.length) g):=by
 obtain ⟨f,fd,h1,h2,h3⟩:=F.ex
 exact ⟨C,f,fd,ps,O.cn,O.cl,⟨h2,h3,h1.kp⟩,h1.okD S (hbody f),h1.binds hb⟩
theorem DfnM.calI {qual:Str} {C:Addr} {st:Stmt} {N ps:List Str} {s0:Str} {k:Nat} {g:FS} (O:ClsOk Γ K mg c C) (F:DfnM K C c "__init__" qual st) (S:FnScope N (s0::ps) (zaq st))
  (hb:∀ (kV doc pm:Value) (an:Option Addr) (cdv ct:Value) (us:List Value),us.length=(s0::ps).length->bindArgs (PySem.W.fnOf "__init__" qual (zc4 st) (zbO st) (zaq st) .none kV doc pm an cdv ct) ⟨us,[]⟩=pure ((s0::ps).zip us))
  (hbody:∀ (f y:Addr) (cdv:Value) (A:Around) (outer:List Env) (s:Shared) (H:Hp) (E:XK),Room k (A.deeper (envOfC qual (zaq st) s.heap.objs.size f cdv)) ->
   DSs (Γ.mk1 y) (zlH CX0 P w K mg base N qual (zaq st) f cdv A outer s H E).nox (zbO st) g):CalI Γ P w K mg base c ps.length (k+1) (zri (N.length - (ps.length+1)) c g):=by
 obtain ⟨f,fd,h1,h2,h3⟩:=F.ex
 exact ⟨C,f,fd,s0::ps,O.cn,⟨O.makes,h2,h3,O.kp⟩,O.mgC,h1.okI S O.cn (hbody f),h1.binds hb⟩
theorem ClsOk.cf {C:Addr} (O:ClsOk Γ K mg c C) (h:∀ f∈attrs,zeY K C f):CF Γ K c attrs:=⟨C,O.cn,O.cl,h⟩
end
end L2
end
section
namespace ST
open PySem
structure Pr where
 j:Nat
 more:Nat
 i:Nat
 pt:Nat
def adv (M:Nat) (p:Pr):Pr:=if p.more > 0 then { p with j:=p.j+1,more:=p.more - 1 } else
 { j:=(SetTable.leap M p.i p.pt).1,more:=SetTable.runEnd M (SetTable.leap M p.i p.pt).1 - (SetTable.leap M p.i p.pt).1,i:=(SetTable.leap M p.i p.pt).1,pt:=(SetTable.leap M p.i p.pt).2 }
def st0 (M:Nat) (h:Int):Pr:={ j:=SetTable.bits h % (M+1),more:=SetTable.runEnd M (SetTable.bits h % (M+1)) - SetTable.bits h % (M+1),i:=SetTable.bits h % (M+1),pt:=SetTable.bits h }
def it (M:Nat) (h:Int):Nat->Pr
 | 0=>st0 M h
 | n+1=>adv M (it M h n)
def J (M:Nat) (h:Int) (n:Nat):Nat:=(it M h n).j
def lp (M:Nat) (h:Int):Nat->Nat×Nat
 | 0=>(SetTable.bits h % (M+1),SetTable.bits h)
 | r+1=>SetTable.leap M (lp M h r).1 (lp M h r).2
def zkj (M:Nat) (x:Nat×Nat):Pr:={ j:=x.1,more:=SetTable.runEnd M x.1 - x.1,i:=x.1,pt:=x.2 }
theorem zkQ (M:Nat) (h:Int) (n:Nat):∀ k,it M h (n+k)=(Nat.repeat (adv M) k (it M h n))
 | 0=>rfl
 | k+1=>by rw [← Nat.add_assoc,it,zkQ M h n k];rfl
theorem zpQ (M i:Nat):SetTable.runEnd M i - i<=9:=by
 unfold SetTable.runEnd
 split <;> omega
theorem znD (M:Nat):∀ (k:Nat) (p:Pr),k<=p.more->Nat.repeat (adv M) k p={ p with j:=p.j+k,more:=p.more - k }
 | 0,p,_=>rfl
 | k+1,p,h=>by
  rw [Nat.repeat,znD M k p (by omega)]
  unfold adv
  rw [qV (by show p.more - k > 0;omega)]
  simp only [Nat.sub_sub,Nat.add_assoc]
theorem zoT (M:Nat) (h:Int):∀ r,∃ n,n<=10*r/\it M h n=zkj M (lp M h r)
 | 0=>⟨0,qu _,rfl⟩
 | r+1=>by
  obtain ⟨n,hn,e⟩:=zoT M h r
  have hl:=zpQ M (lp M h r).1
  refine ⟨n+(SetTable.runEnd M (lp M h r).1 - (lp M h r).1)+1,by omega,?_⟩
  have e2:=znD M (SetTable.runEnd M (lp M h r).1 - (lp M h r).1) (zkj M (lp M h r)) (qu _)
  rw [it,zkQ,e,e2]
  unfold adv
  rw [qW (by show ¬ ((SetTable.runEnd M (lp M h r).1 - (lp M h r).1) - (SetTable.runEnd M (lp M h r).1 - (lp M h r).1) > 0);omega)]
  rfl
theorem zq8 (h:Int):SetTable.bits h < 2 ^ 64:=by
 unfold SetTable.bits
 have h1:=qU h (show (2 ^ 64:Int)≠0 by decide)
 have h2:=qS h (show (0:Int) < 2 ^ 64 by decide)
 omega
theorem zr4 (M:Nat) (h:Int):∀ r,(lp M h r).2=SetTable.bits h / 32 ^ r
 | 0=>by simp [lp]
 | r+1=>by
  show (lp M h r).2 / 32=_
  rw [zr4 M h r,Nat.div_div_eq_div_mul,Nat.pow_succ]
theorem zpY (M:Nat) (h:Int) {r:Nat} (hr:13<=r):(lp M h r).2=0:=by
 rw [zr4]
 refine Nat.div_eq_of_lt (qC (zq8 h) ?_)
 exact qJ (show 2 ^ 64<=32 ^ 13 by decide) (Nat.pow_le_pow_right (by decide) hr)
def fl (M i:Nat):Nat:=(i*5+1) % (M+1)
def orb (M:Nat):Nat->Nat->Nat
 | 0,i=>i
 | m+1,i=>fl M (orb M m i)
theorem zms (M:Nat) (h:Int):∀ m,(lp M h (13+m)).1=orb M m (lp M h 13).1
 | 0=>rfl
 | m+1=>by
  show (SetTable.leap M (lp M h (13+m)).1 (lp M h (13+m)).2).1=_
  rw [zpY M h (by omega),zms M h m]
  simp [SetTable.leap,orb,fl]
theorem zij (M i:Nat) (a:Nat):∀ b,orb M (a+b) i=orb M b (orb M a i)
 | 0=>rfl
 | b+1=>by rw [← Nat.add_assoc,orb,zij M i a b];rfl
def zt5 (M:Nat):Nat->Nat->List Nat
 | 0,_=>[]
 | n+1,i=>i::zt5 M n (fl M i)
theorem zkD (M:Nat):∀ m i,orb M (m+1) i=orb M m (fl M i)
 | 0,_=>rfl
 | m+1,i=>by rw [orb,zkD M m i];rfl
theorem zkE (M:Nat):∀ (n i j:Nat),j∈zt5 M n i->∃ m,m < n/\orb M m i=j
 | 0,_,_,h=>nomatch h
 | n+1,i,j,h=>by
  rcases List.mem_cons.mp h with e | h
  ·exact ⟨0,Nat.succ_pos _,e.symm⟩
  ·obtain ⟨m,hm,e⟩:=zkE M n (fl M i) j h
   exact ⟨m+1,by omega,by rw [zkD];exact e⟩
structure Full (M:Nat):Prop where
 all:∀ j,j<=M->∃ m,m < M+1/\orb M m 0=j
 back:orb M (M+1) 0=0
def chk (M:Nat):Bool:=(List.range (M+1)).all (fun j=>(zt5 M (M+1) 0).contains j) && orb M (M+1) 0==0
theorem ziv {M:Nat} (h:chk M=true):Full M:=by
 unfold chk at h
 rw [Bool.and_eq_true,List.all_eq_true] at h
 refine ⟨fun j hj=>?_,by simpa using h.2⟩
 have:=h.1 j (List.mem_range.mpr (by omega))
 exact zkE M (M+1) 0 j (by simpa using this)
theorem zs2:Full 7:=ziv (by decide +kernel)
theorem zs3:Full 31:=ziv (by decide +kernel)
theorem zqR:Full 127:=ziv (by decide +kernel)
theorem zqQ:Full 511:=ziv (by decide +kernel)
theorem Full.reach {M:Nat} (F:Full M) {i j:Nat} (hi:i<=M) (hj:j<=M):∃ m,m<=M/\orb M m i=j:=by
 obtain ⟨a,ha,ea⟩:=F.all i hi
 obtain ⟨b,hb,eb⟩:=F.all j hj
 by_cases h:a<=b
 ·refine ⟨b - a,by omega,?_⟩
  rw [← ea,← zij,show a+(b - a)=b by omega,eb]
 ·refine ⟨M+1 - a+b,by omega,?_⟩
  rw [← ea,← zij,show a+(M+1 - a+b)=(M+1)+b by omega,zij,F.back,eb]
theorem zqv (M:Nat) (h:Int):∀ r,(lp M h r).1<=M
 | 0=>Nat.lt_succ_iff.mp (Nat.mod_lt _ (Nat.succ_pos _))
 | r+1=>Nat.lt_succ_iff.mp (Nat.mod_lt _ (Nat.succ_pos _))
theorem Full.covers {M:Nat} (F:Full M) (h:Int) {j:Nat} (hj:j<=M):∃ n,n < 10*(M+15)/\J M h n=j:=by
 obtain ⟨m,hm,e⟩:=F.reach (zqv M h 13) hj
 obtain ⟨n,hn,en⟩:=zoT M h (13+m)
 refine ⟨n,by omega,?_⟩
 unfold J
 rw [en]
 show (lp M h (13+m)).1=j
 rw [zms,e]
theorem zsW (M:Nat) (h:Int):∀ n,(it M h n).j+(it M h n).more<=M
 | 0=>by
  have:=zqv M h 0
  show (lp M h 0).1+(SetTable.runEnd M (lp M h 0).1 - (lp M h 0).1)<=M
  unfold SetTable.runEnd
  split <;> omega
 | n+1=>by
  have ih:=zsW M h n
  rw [it]
  unfold adv
  split
  ·show (it M h n).j+1+((it M h n).more - 1)<=M
   omega
  ·show (SetTable.leap M (it M h n).i (it M h n).pt).1+(SetTable.runEnd M (SetTable.leap M (it M h n).i (it M h n).pt).1 - (SetTable.leap M (it M h n).i (it M h n).pt).1)<=M
   have:(SetTable.leap M (it M h n).i (it M h n).pt).1<=M:=Nat.lt_succ_iff.mp (Nat.mod_lt _ (Nat.succ_pos _))
   unfold SetTable.runEnd
   split <;> omega
theorem zuA (M:Nat) (h:Int) (n:Nat):J M h n<=M:=qJ (Nat.le_add_right _ _) (zsW M h n)
theorem Full.first {M:Nat} (F:Full M) (h:Int) (occ:Nat->Bool) (hf:∃ j,j<=M/\occ j=false):∃ n,n < 10*(M+15)/\occ (J M h n)=false/\∀ m,m < n->occ (J M h m)=true:=by
 obtain ⟨j,hj,hof⟩:=hf
 obtain ⟨n,hn,e⟩:=F.covers h hj
 have key:∀ n,n < 10*(M+15)->occ (J M h n)=false->∃ n,n < 10*(M+15)/\occ (J M h n)=false/\∀ m,m < n->occ (J M h m)=true:=by
  intro n
  induction n using Nat.strongRecOn with
  | ind n ih =>
   intro hn ho
   by_cases hx:∃ m,m < n/\occ (J M h m)=false
   ·obtain ⟨m,hm,hm2⟩:=hx
    exact ih m hm (by omega) hm2
   ·refine ⟨n,hn,ho,fun m hm=>?_⟩
    cases q:occ (J M h m) with
    | true=>rfl
    | false=>exact absurd ⟨m,hm,q⟩ hx
 exact key n hn (by rw [e];exact hof)
end ST
end
section
namespace ST
open PySem
theorem ziU (xs:Array Nat) (j:Nat) (hs:xs.toList.Pairwise (· < ·)):∀ (fuel lo hi:Nat),hi - lo<=fuel->lo<=hi->hi<=xs.size->(∀ i,i < lo->∀ v,xs[i]?=some v->v < j)->(∀ i,hi<=i->∀ v,xs[i]?=some v->j<=v) ->
  (SetTable.below.go xs j fuel lo hi<=xs.size)/\(∀ i,i < SetTable.below.go xs j fuel lo hi->∀ v,xs[i]?=some v->v < j)/\∀ i,SetTable.below.go xs j fuel lo hi<=i->∀ v,xs[i]?=some v->j<=v
 | 0,lo,hi,hf,hl,hh,h1,h2=>by
  have e:lo=hi:=by omega
  subst e
  exact ⟨hh,h1,h2⟩
 | fuel+1,lo,hi,hf,hl,hh,h1,h2=>by
  have mono:∀ a b va vb,a < b->xs[a]?=some va->xs[b]?=some vb->va < vb:=fun a b va vb hab ha hb=>by
   have:=List.pairwise_iff_getElem.mp hs a b
   obtain ⟨a1,a2⟩:=Array.getElem?_eq_some_iff.mp ha
   obtain ⟨b1,b2⟩:=Array.getElem?_eq_some_iff.mp hb
   have q:=this (by simpa using a1) (by simpa using b1) hab
   simpa [a2,b2] using q
  unfold SetTable.below.go
  by_cases hlt:lo < hi
  ·rw [qV hlt]
   have hm1:lo<=(lo+hi) / 2:=by omega
   have hm2:(lo+hi) / 2 < hi:=by omega
   have hget:∃ v,xs[(lo+hi) / 2]?=some v:=⟨xs[(lo+hi) / 2]'(by omega),by simp [show (lo+hi) / 2 < xs.size by omega]⟩
   obtain ⟨v,hv⟩:=hget
   have hd:xs.getD ((lo+hi) / 2) j=v:=by simp [Array.getD_eq_getD_getElem?,hv]
   dsimp only
   rw [hd]
   by_cases hvj:v < j
   ·rw [qV hvj]
    refine ziU xs j hs fuel _ _ (by omega) (by omega) hh (fun i hi' w hw=>?_) h2
    rcases Nat.lt_or_ge i ((lo+hi) / 2) with hi2 | hi2
    ·exact Nat.lt_trans (mono i _ w v hi2 hw hv) hvj
    ·have e:i=(lo+hi) / 2:=by omega
     subst e
     rw [hv] at hw;cases hw;exact hvj
   ·rw [qW hvj]
    refine ziU xs j hs fuel _ _ (by omega) (by omega) (by omega) h1 fun i hi' w hw=>?_
    rcases Nat.lt_or_ge ((lo+hi) / 2) i with hi2 | hi2
    ·exact qJ (by omega) (Nat.le_of_lt (mono _ i v w hi2 hv hw))
    ·have e:i=(lo+hi) / 2:=by omega
     subst e
     rw [hv] at hw;cases hw;omega
  ·rw [qW hlt]
   have e:lo=hi:=by omega
   subst e
   exact ⟨hh,h1,h2⟩
theorem ziT (xs:Array Nat) (j:Nat) (hs:xs.toList.Pairwise (· < ·)):SetTable.below xs j<=xs.size/\(∀ i,i < SetTable.below xs j->∀ v,xs[i]?=some v->v < j)/\∀ i,SetTable.below xs j<=i->∀ v,xs[i]?=some v->j<=v :=
 ziU xs j hs xs.size 0 xs.size (qu _) (Nat.zero_le _) (qu _) (fun i h=>absurd h (Nat.not_lt_zero _)) fun i h v hv=>by
  have:=(Array.getElem?_eq_some_iff.mp hv).1
  omega
theorem zhk (xs:Array Nat) (j i:Nat) (hs:xs.toList.Pairwise (· < ·)) (h:xs[i]?=some j):SetTable.below xs j=i:=by
 obtain ⟨h0,h1,h2⟩:=ziT xs j hs
 rcases Nat.lt_trichotomy (SetTable.below xs j) i with hl | hl | hl
 ·have hi:=(Array.getElem?_eq_some_iff.mp h).1
  have hg:xs[SetTable.below xs j]?=some (xs[SetTable.below xs j]'(by omega)):=by simp [show SetTable.below xs j < xs.size by omega]
  have q1:=h2 _ (qu _) _ hg
  have:=List.pairwise_iff_getElem.mp hs (SetTable.below xs j) i (by simp;omega) (by simpa using hi) hl
  obtain ⟨_,e⟩:=Array.getElem?_eq_some_iff.mp h
  simp only [Array.getElem_toList] at this
  omega
 ·exact hl
 ·have:=h1 i hl j h
  omega
structure Tb (t:SetTable) (es:Array (Int×Value)):Prop where
 full:Full t.mask
 sz:t.place.size=es.size
 dm:t.dummies=#[]
 ri:t.place.toList.Pairwise (· < ·)
 le:∀ j∈t.place.toList,j<=t.mask
 few:es.size*5 < t.mask*3
 rc:∀ (i j:Nat) (h:Int) (x:Value),t.place[i]?=some j->es[i]?=some (h,x)->∃ n,J t.mask h n=j/\∀ m,m < n->J t.mask h m∈t.place.toList
section
variable {t:SetTable} {es:Array (Int×Value)}
theorem Tb.live (T:Tb t es) {j i:Nat} (h:t.place[i]?=some j):t.slot j=.live i:=by
 unfold SetTable.slot
 rw [zhk _ _ _ T.ri h]
 simp [h]
theorem Tb.empty (T:Tb t es) {j:Nat} (h:j∉t.place.toList):t.slot j=.empty:=by
 unfold SetTable.slot
 have h1:t.place[SetTable.below t.place j]?≠some j:=fun e=>h (by
  rw [← qF] at e
  exact qM e)
 have h2:SetTable.has t.dummies j=false:=by rw [T.dm];rfl
 simp [h1,h2]
theorem Tb.occ (T:Tb t es) {j:Nat} (h:j∈t.place.toList):∃ i:Nat,t.place[i]?=some j:=by
 obtain ⟨i,hi⟩:=List.mem_iff_getElem?.mp h
 exact ⟨i,by rw [← qF];exact hi⟩
theorem Tb.fits (T:Tb t es):t.fits es.size=true:=by
 have h1:=T.sz
 have h2:=T.few
 simp only [SetTable.fits,SetTable.fill,T.dm,Array.size_empty,Bool.and_eq_true,beq_iff_eq,decide_eq_true_eq]
 omega
theorem zgH:∀ (a b:List Nat),a.Nodup->(∀ x∈a,x∈b)->a.length<=b.length
 | [],_,_,_=>Nat.zero_le _
 | x::r,b,nd,h=>by
  have hx:=h x qf
  have nd':=List.nodup_cons.mp nd
  have:=zgH r (b.erase x) nd'.2 fun y hy=>(List.mem_erase_of_ne (show y≠x from fun e=>nd'.1 (by rw [← e];exact hy))).mpr (h y (qg _ hy))
  have hl:=List.length_erase_of_mem hx
  have hp:0 < b.length:=List.length_pos_of_mem hx
  rw [qh]
  omega
theorem Tb.free (T:Tb t es):∃ j,j<=t.mask/\decide (j∈t.place.toList)=false:=by
 by_cases hx:∃ j,j<=t.mask/\j∉t.place.toList
 ·obtain ⟨j,h1,h2⟩:=hx
  exact ⟨j,h1,qK h2⟩
 ·exfalso
  have all:∀ j,j<=t.mask->j∈t.place.toList:=fun j hj=>Classical.byContradiction fun hn=>hx ⟨j,hj,hn⟩
  have h1:=zgH (List.range (t.mask+1)) t.place.toList List.nodup_range fun j hj=>all j (by have:=List.mem_range.mp hj;omega)
  have h2:=T.sz
  have h3:=T.few
  simp only [qR,Array.length_toList] at h1
  omega
theorem Tb.first (T:Tb t es) (h:Int):∃ n,n < 10*(t.mask+15)/\J t.mask h n∉t.place.toList/\∀ m,m < n->J t.mask h m∈t.place.toList:=by
 obtain ⟨n,h1,h2,h3⟩:=T.full.first h (fun j=>decide (j∈t.place.toList)) T.free
 exact ⟨n,h1,of_decide_eq_false h2,fun m hm=>of_decide_eq_true (h3 m hm)⟩
def zcT (p:Pr):SetTable.Probe:={ j:=p.j,more:=p.more,i:=p.i,perturb:=p.pt,dummy:=none }
theorem zpp (t:SetTable) (p:Pr):t.advance (zcT p)=zcT (adv t.mask p):=by
 unfold SetTable.advance adv zcT
 by_cases h:p.more > 0
 ·simp only [h,if_true]
 ·simp only [h,if_false]
theorem Tb.probe_go (T:Tb t es) (hashAt:Nat->Int) (h:Int) {n0:Nat} (hf:J t.mask h n0∉t.place.toList) (ho:∀ m,m < n0->J t.mask h m∈t.place.toList):∀ (fuel n:Nat),n<=n0->n0 < n+fuel ->
  (∃ n' i,n<=n'/\n' < n0/\t.place[i]?=some (J t.mask h n')/\hashAt i=h/\(∀ m i,n<=m->m < n'->t.place[i]?=some (J t.mask h m)->hashAt i≠h)/\SetTable.probe.go t hashAt h fuel (zcT (it t.mask h n))=some (.candidate (J t.mask h n') i (zcT (it t.mask h (n'+1))))) \/
  ((∀ m i,n<=m->m < n0->t.place[i]?=some (J t.mask h m)->hashAt i≠h)/\SetTable.probe.go t hashAt h fuel (zcT (it t.mask h n))=some (.empty (J t.mask h n0) none))
 | 0,n,h1,h2=>by omega
 | fuel+1,n,h1,h2=>by
  unfold SetTable.probe.go
  by_cases hn:n=n0
  ·subst hn
   right
   refine ⟨fun m i a b=>by omega,?_⟩
   have hs:t.slot (zcT (it t.mask h n)).j=.empty:=T.empty hf
   rw [hs]
   rfl
  ·obtain ⟨i,hi⟩:=T.occ (ho n (by omega))
   have hs:t.slot (zcT (it t.mask h n)).j=.live i:=T.live hi
   rw [hs]
   dsimp only
   by_cases hh:hashAt i=h
   ·left
    refine ⟨n,i,qu _,by omega,hi,hh,fun m i a b=>by omega,?_⟩
    rw [qV (by simpa using hh),zpp]
    rfl
   ·rw [qW (by simpa using hh),zpp]
    have inj:∀ i',t.place[i']?=some (J t.mask h n)->i'=i:=fun i' h'=>by
     rw [← zhk _ _ _ T.ri h',← zhk _ _ _ T.ri hi]
    have ext:∀ {b:Nat},(∀ m i,n+1<=m->m < b->t.place[i]?=some (J t.mask h m)->hashAt i≠h)->∀ m i,n<=m->m < b->t.place[i]?=some (J t.mask h m)->hashAt i≠h:=fun {b} q m i' a c d=>by
     by_cases e:m=n
     ·subst e
      rw [inj i' d];exact hh
     ·exact q m i' (by omega) c d
    rcases T.probe_go hashAt h hf ho fuel (n+1) (by omega) (by omega) with ⟨n',i',a,b,c,d,e,f⟩ | ⟨e,f⟩
    ·exact .inl ⟨n',i',by omega,b,c,d,ext e,f⟩
    ·exact .inr ⟨ext e,f⟩
theorem zcC {α:Type} (xs:Array α) (p:Nat) (x:α) (hp:p<=xs.size):(SetTable.insertAt xs p x).toList=xs.toList.take p++x::xs.toList.drop p:=by
 unfold SetTable.insertAt
 simp [Array.toList_extract,List.extract_eq_take_drop]
 exact List.take_of_length_le (by simp)
theorem zhW {α:Type} (l:List α) (p:Nat) (x:α) (hp:p<=l.length) (i:Nat):(l.take p++x::l.drop p)[i]?=if i < p then l[i]? else if i=p then some x else l[i - 1]?:=by
 by_cases h1:i < p
 ·rw [qV h1,qw (by rw [qB];omega),List.getElem?_take_of_lt h1]
 ·rw [qW h1,qH (by rw [qB];omega),qB,Nat.min_eq_left hp]
  by_cases h2:i=p
  ·rw [qV h2,h2];simp
  ·rw [qW h2]
   obtain ⟨k,hk⟩:∃ k,i - p=k+1:=⟨i - p - 1,by omega⟩
   rw [hk,qc,List.getElem?_drop]
   congr 1
   omega
theorem zfY {α:Type} (l:List α) (p:Nat) (x y:α):y∈l.take p++x::l.drop p↔y=x\/y∈l:=by
 rw [List.mem_append,qI]
 constructor
 ·rintro (h | h | h)
  ·exact .inr (List.mem_of_mem_take h)
  ·exact .inl h
  ·exact .inr (List.mem_of_mem_drop h)
 ·rintro (h | h)
  ·exact .inr (.inl h)
  ·have:y∈l.take p++l.drop p:=by rw [List.take_append_drop];exact h
   rcases List.mem_append.mp this with h | h
   ·exact .inl h
   ·exact .inr (.inr h)
theorem Tb.put (T:Tb t es) {h:Int} {x:Value} {n0:Nat} (hf:J t.mask h n0∉t.place.toList) (ho:∀ m,m < n0->J t.mask h m∈t.place.toList) (few:(es.size+1)*5 < t.mask*3) (pl:Bool) :
  Tb { (t.put (J t.mask h n0)).1 with plain:=pl } (SetTable.insertAt es (t.put (J t.mask h n0)).2 (h,x)):=by
 obtain ⟨b0,b1,b2⟩:=ziT t.place (J t.mask h n0) T.ri
 have bes:SetTable.below t.place (J t.mask h n0)<=es.size:=by rw [← T.sz];exact b0
 have pl1:(SetTable.insertAt t.place (SetTable.below t.place (J t.mask h n0)) (J t.mask h n0)).toList=t.place.toList.take (SetTable.below t.place (J t.mask h n0))++J t.mask h n0::t.place.toList.drop (SetTable.below t.place (J t.mask h n0)):=zcC _ _ _ b0
 have el1:(SetTable.insertAt es (SetTable.below t.place (J t.mask h n0)) (h,x)).toList=es.toList.take (SetTable.below t.place (J t.mask h n0))++(h,x)::es.toList.drop (SetTable.below t.place (J t.mask h n0)):=zcC _ _ _ bes
 have szp:(SetTable.insertAt t.place (SetTable.below t.place (J t.mask h n0)) (J t.mask h n0)).size=t.place.size+1:=by
  rw [← Array.length_toList,pl1];simp;omega
 have sze:(SetTable.insertAt es (SetTable.below t.place (J t.mask h n0)) (h,x)).size=es.size+1:=by
  rw [← Array.length_toList,el1];simp;omega
 refine ⟨T.full,?_,?_,?_,?_,?_,?_⟩
 ·show (SetTable.insertAt t.place _ _).size=_
  rw [szp]
  show _=(SetTable.insertAt es (SetTable.below t.place (J t.mask h n0)) (h,x)).size
  rw [sze,T.sz]
 ·show (if SetTable.has t.dummies (J t.mask h n0)=true then _ else t.dummies)=#[]
  rw [T.dm];rfl
 ·show (SetTable.insertAt t.place (SetTable.below t.place (J t.mask h n0)) (J t.mask h n0)).toList.Pairwise (· < ·)
  rw [pl1,List.pairwise_append,List.pairwise_cons]
  have tk:∀ a∈t.place.toList.take (SetTable.below t.place (J t.mask h n0)),a < J t.mask h n0:=fun a ha=>by
   obtain ⟨i,hi⟩:=List.mem_iff_getElem?.mp ha
   have hi':i < SetTable.below t.place (J t.mask h n0):=by
    have:=(List.getElem?_eq_some_iff.mp hi).1
    rw [qB] at this;omega
   rw [List.getElem?_take_of_lt hi',qF] at hi
   exact b1 i hi' a hi
  have dr:∀ a∈t.place.toList.drop (SetTable.below t.place (J t.mask h n0)),J t.mask h n0 < a:=fun a ha=>by
   obtain ⟨i,hi⟩:=List.mem_iff_getElem?.mp ha
   rw [List.getElem?_drop,qF] at hi
   have h1:=b2 _ (Nat.le_add_right _ i) a hi
   rcases Nat.lt_or_ge (J t.mask h n0) a with q | q
   ·exact q
   ·exact absurd (by rw [← qF] at hi;have e:a=J t.mask h n0:=(by omega);rw [e] at hi;exact qM hi) hf
  refine ⟨T.ri.sublist (List.take_sublist _ _),⟨dr,T.ri.sublist (List.drop_sublist _ _)⟩,fun a ha b hb=>?_⟩
  rcases List.mem_cons.mp hb with e | hb
  ·rw [e];exact tk a ha
  ·exact Nat.lt_trans (tk a ha) (dr b hb)
 ·intro j hj
  have hj':j∈(SetTable.insertAt t.place (SetTable.below t.place (J t.mask h n0)) (J t.mask h n0)).toList:=hj
  rw [pl1,zfY] at hj'
  rcases hj' with e | hj'
  ·rw [e];exact zuA _ _ _
  ·exact T.le j hj'
 ·show (SetTable.insertAt es (SetTable.below t.place (J t.mask h n0)) (h,x)).size*5 < t.mask*3
  rw [sze];exact few
 ·intro i j h' x' e1 e2
  have e1':(SetTable.insertAt t.place (SetTable.below t.place (J t.mask h n0)) (J t.mask h n0)).toList[i]?=some j:=by rw [qF];exact e1
  have e2':(SetTable.insertAt es (SetTable.below t.place (J t.mask h n0)) (h,x)).toList[i]?=some (h',x'):=by rw [qF];exact e2
  rw [pl1,zhW _ _ _ (by simpa using b0)] at e1'
  rw [el1,zhW _ _ _ (by simpa using bes)] at e2'
  have up:∀ {n:Nat},(∀ m,m < n->J t.mask h' m∈t.place.toList)->∀ m,m < n->J t.mask h' m∈(SetTable.insertAt t.place (SetTable.below t.place (J t.mask h n0)) (J t.mask h n0)).toList:=fun q m hm=>by
   rw [pl1,zfY];exact .inr (q m hm)
  by_cases c1:i < SetTable.below t.place (J t.mask h n0)
  ·rw [qV c1] at e1' e2'
   rw [qF] at e1' e2'
   obtain ⟨n,hn,q⟩:=T.rc i j h' x' e1' e2'
   exact ⟨n,hn,up q⟩
  ·rw [qW c1] at e1' e2'
   by_cases c2:i=SetTable.below t.place (J t.mask h n0)
   ·rw [qV c2] at e1' e2'
    cases e1'
    cases e2'
    exact ⟨n0,rfl,up ho⟩
   ·rw [qW c2] at e1' e2'
    rw [qF] at e1' e2'
    obtain ⟨n,hn,q⟩:=T.rc _ j h' x' e1' e2'
    exact ⟨n,hn,up q⟩
end
end ST
end
section
namespace ST
open PySem
def zcB (owner:Array (Option Nat)) (j:Nat):Bool:=(owner.getD j (some 0)).isNone
theorem zl6 {M:Nat} {h:Int} {n r:Nat} (e:it M h n=zkj M (lp M h r)) {k:Nat} (hk:k < SetTable.runEnd M (lp M h r).1+1 - (lp M h r).1):J M h (n+k)=(lp M h r).1+k:=by
 unfold J
 rw [zkQ,e,znD M k _ (by show k<=SetTable.runEnd M (lp M h r).1 - (lp M h r).1;omega)]
 rfl
theorem znL {M:Nat} {h:Int} {n r:Nat} (e:it M h n=zkj M (lp M h r)):it M h (n+(SetTable.runEnd M (lp M h r).1+1 - (lp M h r).1))=zkj M (lp M h (r+1)):=by
 have hge:(lp M h r).1<=SetTable.runEnd M (lp M h r).1:=by unfold SetTable.runEnd;split <;> omega
 have e2:=znD M (SetTable.runEnd M (lp M h r).1 - (lp M h r).1) (zkj M (lp M h r)) (qu _)
 rw [show n+(SetTable.runEnd M (lp M h r).1+1 - (lp M h r).1)=n+(SetTable.runEnd M (lp M h r).1 - (lp M h r).1)+1 by omega,it,zkQ,e,e2]
 unfold adv
 rw [qW (by show ¬ ((SetTable.runEnd M (lp M h r).1 - (lp M h r).1) - (SetTable.runEnd M (lp M h r).1 - (lp M h r).1) > 0);omega)]
 rfl
theorem zmR {M:Nat} {h:Int} (owner:Array (Option Nat)) {rs:Nat} (hfr:zcB owner (lp M h rs).1=true):∀ (fuel r n:Nat),it M h n=zkj M (lp M h r)->r<=rs->rs < r+fuel->(∀ m,m < n->zcB owner (J M h m)=false) ->
  ∃ n',zcB owner (J M h n')=true/\(∀ m,m < n'->zcB owner (J M h m)=false)/\SetTable.layClean.free M owner fuel (lp M h r).1 (lp M h r).2=some (J M h n')
 | 0,r,n,_,h1,h2,_=>by omega
 | fuel+1,r,n,e,h1,h2,h3=>by
  unfold SetTable.layClean.free
  cases hf:(List.range (SetTable.runEnd M (lp M h r).1+1 - (lp M h r).1)).find? (fun k=>(owner.getD ((lp M h r).1+k) (some 0)).isNone) with
  | some k =>
   have hk:=List.mem_range.mp (List.mem_of_find?_eq_some hf)
   have hp:zcB owner ((lp M h r).1+k)=true:=by
    have:=List.find?_some hf
    exact this
   refine ⟨n+k,by rw [zl6 e hk];exact hp,fun m hm=>?_,?_⟩
   ·rcases Nat.lt_or_ge m n with c | c
    ·exact h3 m c
    ·obtain ⟨d,rfl⟩:∃ d,m=n+d:=⟨m - n,by omega⟩
     rw [zl6 e (by omega)]
     obtain ⟨as,bs,hab,hno⟩:=(List.find?_eq_some_iff_append.mp hf).2
     have hd:d∈as:=by
      have hl:as=List.range k:=by
       have hlen:as.length=k:=by
        have:(List.range (SetTable.runEnd M (lp M h r).1+1 - (lp M h r).1))[as.length]?=some k:=by rw [hab];simp
        rw [List.getElem?_range] at this
        ·exact qE this
        ·have:=congrArg List.length hab
         simp at this
         omega
       have:=congrArg (List.take k) hab
       rw [List.take_range,Nat.min_eq_left (by omega),← hlen,List.take_left'] at this
       ·rw [hlen] at this;exact this.symm
       ·rfl
      rw [hl];exact List.mem_range.mpr (by omega)
     have:=hno d hd
     exact Bool.eq_false_iff.mpr (fun z=>by rw [show (owner.getD ((lp M h r).1+d) (some 0)).isNone=true from z] at this;cases this)
   ·rw [zl6 e hk]
  | none =>
   have hn:∀ k,k < SetTable.runEnd M (lp M h r).1+1 - (lp M h r).1->zcB owner (J M h (n+k))=false:=fun k hk=>by
    rw [zl6 e hk]
    have:=List.find?_eq_none.mp hf k (List.mem_range.mpr hk)
    exact Bool.eq_false_iff.mpr this
   have hge:(lp M h r).1<=SetTable.runEnd M (lp M h r).1:=by unfold SetTable.runEnd;split <;> omega
   have hr:r≠rs:=fun z=>by
    subst z
    have:=hn 0 (by omega)
    rw [zl6 e (by omega),Nat.add_zero,hfr] at this
    cases this
   exact zmR owner hfr fuel (r+1) _ (znL e) (by omega) (by omega) fun m hm=>by
    rcases Nat.lt_or_ge m n with c | c
    ·exact h3 m c
    ·obtain ⟨d,rfl⟩:∃ d,m=n+d:=⟨m - n,by omega⟩
     exact hn d (by omega)
theorem Full.free {M:Nat} (F:Full M) (h:Int) (owner:Array (Option Nat)) (hf:∃ j,j<=M/\zcB owner j=true) :
  ∃ n,zcB owner (J M h n)=true/\(∀ m,m < n->zcB owner (J M h m)=false)/\SetTable.layClean.free M owner (SetTable.turns M) (SetTable.bits h % (M+1)) (SetTable.bits h)=some (J M h n):=by
 obtain ⟨j,hj,hjf⟩:=hf
 obtain ⟨m,hm,e⟩:=F.reach (zqv M h 13) hj
 have hl:(lp M h (13+m)).1=j:=by rw [zms,e]
 exact zmR owner (rs:=13+m) (by rw [hl];exact hjf) (SetTable.turns M) 0 0 rfl (Nat.zero_le _) (by unfold SetTable.turns;omega) fun m hm=>absurd hm (Nat.not_lt_zero _)
structure Own (M:Nat) (hs:List Int) (owner:Array (Option Nat)):Prop where
 sz:owner.size=M+1
 lt:∀ (j k:Nat),owner[j]?=some (some k)->k < hs.length
 on:∀ k,k < hs.length->∃ j:Nat,owner[j]?=some (some k)
 inj:∀ (j j' k:Nat),owner[j]?=some (some k)->owner[j']?=some (some k)->j=j'
 rc:∀ (j k:Nat) h,owner[j]?=some (some k)->hs[k]?=some h->∃ n,J M h n=j/\∀ m,m < n->zcB owner (J M h m)=false
theorem zdM {owner:Array (Option Nat)} {j:Nat}:zcB owner j=true↔owner[j]?=some none:=by
 unfold zcB
 rw [Array.getD_eq_getD_getElem?]
 cases e:owner[j]? with
 | none=>simp
 | some o=>cases o <;> simp
theorem Own.empty (M:Nat):Own M [] (Array.replicate (M+1) none):=by
 have no:∀ (j k:Nat),(Array.replicate (M+1) (none:Option Nat))[j]?=some (some k)->False:=fun j k h=>by
  rw [Array.getElem?_replicate] at h
  split at h <;> cases h
 exact ⟨by simp,fun j k h=>(no j k h).elim,fun k h=>absurd h (Nat.not_lt_zero _),fun j _ k h _=>(no j k h).elim,fun j k _ h _=>(no j k h).elim⟩
theorem Own.room {M:Nat} {hs:List Int} {owner:Array (Option Nat)} (O:Own M hs owner) (hr:hs.length<=M):∃ j,j<=M/\zcB owner j=true:=by
 by_cases hx:∃ j,j<=M/\zcB owner j=true
 ·exact hx
 ·exfalso
  have all:∀ j,j<=M->∃ k,owner[j]?=some (some k):=fun j hj=>by
   have h1:zcB owner j≠true:=fun z=>hx ⟨j,hj,z⟩
   have h2:j < owner.size:=by rw [O.sz];omega
   cases q:owner[j] with
   | none=>exact absurd (zdM.mpr (by simp [h2,q])) h1
   | some k=>exact ⟨k,by simp [h2,q]⟩
  have pig:=zgH ((List.range (M+1)).map fun j=>((owner[j]?).join).getD 0) (List.range hs.length) ?_ ?_
  ·rw [qe,qR,qR] at pig
   omega
  ·refine List.nodup_iff_pairwise_ne.mpr (List.pairwise_map.mpr (List.Pairwise.imp_of_mem ?_ List.nodup_range))
   intro a b ha hb hab e
   obtain ⟨k,hk⟩:=all a (by have:=List.mem_range.mp ha;omega)
   obtain ⟨k',hk'⟩:=all b (by have:=List.mem_range.mp hb;omega)
   simp only [hk,hk',Option.join_some,Option.getD_some] at e
   subst e
   exact hab (O.inj a b k hk hk')
  ·intro x hx'
   obtain ⟨j,hj,rfl⟩:=List.mem_map.mp hx'
   obtain ⟨k,hk⟩:=all j (by have:=List.mem_range.mp hj;omega)
   simp only [hk,Option.join_some,Option.getD_some]
   exact List.mem_range.mpr (O.lt j k hk)
theorem Own.more {M:Nat} {hs:List Int} {owner:Array (Option Nat)} (O:Own M hs owner) {h:Int} {n:Nat} (hf:zcB owner (J M h n)=true) (ho:∀ m,m < n->zcB owner (J M h m)=false) :
  Own M (hs++[h]) (owner.setIfInBounds (J M h n) (some hs.length)):=by
 have hlt:J M h n < owner.size:=by rw [O.sz];have:=zuA M h n;omega
 have hold:=zdM.mp hf
 have get:∀ j:Nat,(owner.setIfInBounds (J M h n) (some hs.length))[j]?=if j=J M h n then some (some hs.length) else owner[j]?:=fun j=>by
  rw [Array.getElem?_setIfInBounds]
  by_cases e:J M h n=j
  ·subst e;simp [hlt]
  ·rw [qW e,qW (Ne.symm e)]
 have stay:∀ {j k:Nat},owner[j]?=some (some k)->(owner.setIfInBounds (J M h n) (some hs.length))[j]?=some (some k):=fun {j k} q=>by
  rw [get,qW]
  ·exact q
  ·intro e;rw [e,hold] at q;cases q
 have notfree:∀ {j:Nat},zcB owner j=false->zcB (owner.setIfInBounds (J M h n) (some hs.length)) j=false:=fun {j} q=>by
  refine Bool.eq_false_iff.mpr fun z=>?_
  have z':=zdM.mp z
  rw [get] at z'
  split at z'
  ·cases z'
  ·rw [zdM.mpr z'] at q;cases q
 refine ⟨by simp [O.sz],fun j k q=>?_,fun k hk=>?_,fun j j' k q q'=>?_,fun j k h' q q'=>?_⟩
 ·rw [get] at q
  rw [qi,qT]
  split at q
  ·cases q;omega
  ·have:=O.lt j k q;omega
 ·rw [qi,qT] at hk
  by_cases e:k=hs.length
  ·exact ⟨J M h n,by rw [get,qV rfl,e]⟩
  ·obtain ⟨j,hj⟩:=O.on k (by omega)
   exact ⟨j,stay hj⟩
 ·rw [get] at q q'
  split at q
  ·rename_i c
   cases q
   split at q'
   ·rename_i c';rw [c,c']
   ·have:=O.lt j' _ q';omega
  ·split at q'
   ·cases q'
    have:=O.lt j _ q;omega
   ·exact O.inj j j' k q q'
 ·rw [get] at q
  split at q
  ·rename_i c
   cases q
   rw [qH (qu _)] at q'
   simp at q'
   subst q'
   exact ⟨n,c.symm,fun m hm=>notfree (ho m hm)⟩
  ·have hk:=O.lt j k q
   rw [qw hk] at q'
   obtain ⟨n',e,r⟩:=O.rc j k h' q q'
   exact ⟨n',e,fun m hm=>notfree (r m hm)⟩
theorem Full.lays {M:Nat} (F:Full M) (hs:Array Int) (hr:hs.size<=M):∃ owner,SetTable.layClean M hs=some owner/\Own M hs.toList owner:=by
 have all:∀ (zcx done:List Int) (owner:Array (Option Nat)),Own M done owner->(done++zcx).length<=M->∃ owner',Own M (done++zcx) owner' /\
   zcx.foldl (fun (acc:Option (Array (Option Nat)×Nat)) h=>do
    let (owner,k) ← acc
    let j ← SetTable.layClean.free M owner (SetTable.turns M) (SetTable.bits h % (M+1)) (SetTable.bits h)
    pure (owner.setIfInBounds j (some k),k+1)) (some (owner,done.length))=some (owner',(done++zcx).length):=by
  intro zcx
  induction zcx with
  | nil=>intro done owner O _;exact ⟨owner,by rw [List.append_nil];exact O,by simp⟩
  | cons h r ih =>
   intro done owner O hl
   obtain ⟨n,h1,h2,h3⟩:=F.free h owner (O.room (by simp at hl;omega))
   have O':=O.more h1 h2
   obtain ⟨owner',O2,e⟩:=ih (done++[h]) _ O' (by simpa using hl)
   refine ⟨owner',by simpa using O2,?_⟩
   rw [List.foldl_cons]
   have e1:(do
    let (owner,k) ← some (owner,done.length)
    let j ← SetTable.layClean.free M owner (SetTable.turns M) (SetTable.bits h % (M+1)) (SetTable.bits h)
    pure (owner.setIfInBounds j (some k),k+1):Option (Array (Option Nat)×Nat))=some (owner.setIfInBounds (J M h n) (some done.length),done.length+1):=by
    show (SetTable.layClean.free M owner (SetTable.turns M) (SetTable.bits h % (M+1)) (SetTable.bits h) >>= fun j=>pure (owner.setIfInBounds j (some done.length),done.length+1))=_
    rw [h3];rfl
   rw [e1]
   rw [qi,qT] at e
   rw [e]
   simp
 obtain ⟨owner',O,e⟩:=all hs.toList [] _ (Own.empty M) (by simpa using hr)
 refine ⟨owner',?_,by simpa using O⟩
 unfold SetTable.layClean
 rw [← Array.foldl_toList]
 have e':=congrArg (Option.map (·.1)) e
 exact e'
end ST
end
section
namespace ST
open PySem
theorem zpe {α β:Type} (f:α->Option β):∀ (l:List α),(∀ k∈l,∃ y,f k=some y)->∀ i:Nat,(l.filterMap f)[i]?=(l[i]?).bind f
 | [],_,i=>by simp
 | k::r,h,i=>by
  obtain ⟨y,hy⟩:=h k qf
  rw [List.filterMap_cons_some hy]
  cases i with
  | zero=>simp [hy]
  | succ i=>simp only [qc];exact zpe f r (fun k hk=>h k (qg _ hk)) i
theorem zpd {α β:Type} (f:α->Option β):∀ (l:List α),(∀ k∈l,∃ y,f k=some y)->(l.filterMap f).length=l.length
 | [],_=>rfl
 | k::r,h=>by
  obtain ⟨y,hy⟩:=h k qf
  rw [List.filterMap_cons_some hy,qh,qh,zpd f r fun k hk=>h k (qg _ hk)]
def zd2 (M:Nat) (owner:Array (Option Nat)):List (Nat×Nat):=(List.range (M+1)).filterMap fun j=>(owner.getD j none).map (j,·)
theorem zc7 {M:Nat} {owner:Array (Option Nat)} (hsz:owner.size=M+1) {j k:Nat}:(j,k)∈zd2 M owner↔owner[j]?=some (some k):=by
 unfold zd2
 rw [List.mem_filterMap]
 constructor
 ·rintro ⟨j',hj',e⟩
  rw [Array.getD_eq_getD_getElem?] at e
  cases q:owner[j']? with
  | none=>rw [q] at e;cases e
  | some o =>
   rw [q] at e
   cases o with
   | none=>cases e
   | some k'=>cases e;exact q
 ·intro q
  have hj:j < owner.size:=(Array.getElem?_eq_some_iff.mp q).1
  exact ⟨j,List.mem_range.mpr (by omega),by rw [Array.getD_eq_getD_getElem?,q];rfl⟩
theorem zgV (M:Nat) (owner:Array (Option Nat)):((zd2 M owner).map (·.1)).Pairwise (· < ·):=by
 unfold zd2
 rw [List.pairwise_map]
 refine List.Pairwise.filterMap _ ?_ (List.pairwise_lt_range (n:=M+1))
 intro a a' haa b hb b' hb'
 obtain ⟨k,_,rfl⟩:=oMd hb
 obtain ⟨k',_,rfl⟩:=oMd hb'
 exact haa
theorem zlr {M:Nat} {hs:List Int} {owner:Array (Option Nat)} (O:Own M hs owner):((zd2 M owner).map (·.2)).Nodup:=by
 have h1:=List.pairwise_map.mp (zgV M owner)
 refine List.nodup_iff_pairwise_ne.mpr (List.pairwise_map.mpr (List.Pairwise.imp_of_mem ?_ h1))
 rintro ⟨j,k⟩ ⟨j',k'⟩ ha hb hlt e
 have e':k=k':=e
 subst e'
 have:=O.inj j j' k ((zc7 O.sz).mp ha) ((zc7 O.sz).mp hb)
 have hlt':j < j':=hlt
 omega
theorem zob {M:Nat} {hs:List Int} {owner:Array (Option Nat)} (O:Own M hs owner):(zd2 M owner).length=hs.length:=by
 have h1:=zgH ((zd2 M owner).map (·.2)) (List.range hs.length) (zlr O) fun k hk=>by
  obtain ⟨⟨j,k'⟩,hm,rfl⟩:=List.mem_map.mp hk
  exact List.mem_range.mpr (O.lt j k' ((zc7 O.sz).mp hm))
 have h2:=zgH (List.range hs.length) ((zd2 M owner).map (·.2)) List.nodup_range fun k hk=>by
  obtain ⟨j,hj⟩:=O.on k (List.mem_range.mp hk)
  exact List.mem_map.mpr ⟨(j,k),(zc7 O.sz).mpr hj,rfl⟩
 rw [qe,qR] at h1 h2
 omega
theorem Full.relaid {t:SetTable} {es:Array (Int×Value)} {wanted:Nat} (F:Full (SetTable.sizeAbove wanted - 1)) (few:es.size*5 < (SetTable.sizeAbove wanted - 1)*3) :
  ∃ t' order,t.relaid (es.map (·.1)) wanted=some (t',order)/\(order.filterMap (es[·]?)).size=es.size/\Tb t' (order.filterMap (es[·]?))/\(∀ e,e∈(order.filterMap (es[·]?)).toList↔e∈es.toList)/\t'.mask=SetTable.sizeAbove wanted - 1/\t'.led=t.led:=by
 generalize hM:SetTable.sizeAbove wanted - 1=M at F few
 obtain ⟨owner,hl,O⟩:=F.lays (es.map (·.1)) (by simp;omega)
 have hlen:(es.map (·.1)).toList.length=es.size:=by simp
 have llen:(zd2 M owner).length=es.size:=by rw [zob O,hlen]
 refine ⟨{ mask:=M,place:=((zd2 M owner).map (·.1)).toArray,dummies:=#[],finger:=t.finger,led:=t.led,moves:=t.movedTo M,plain:=t.plain },((zd2 M owner).map (·.2)).toArray,?_,?_⟩
 ·unfold SetTable.relaid
  rw [hM]
  unfold SetTable.laid
  rw [hl]
  rfl
 ·have hall:∀ k∈(zd2 M owner).map (·.2),∃ y,es[k]?=some y:=fun k hk=>by
   obtain ⟨⟨j,k'⟩,hm,rfl⟩:=List.mem_map.mp hk
   have:=O.lt j k' ((zc7 O.sz).mp hm)
   rw [hlen] at this
   exact ⟨es[k'],by simp [this]⟩
  have etl:(Array.filterMap (fun x=>es[x]?) ((zd2 M owner).map (·.2)).toArray).toList=((zd2 M owner).map (·.2)).filterMap (fun x=>es[x]?):=by simp
  have esz:(Array.filterMap (fun x=>es[x]?) ((zd2 M owner).map (·.2)).toArray).size=es.size:=by
   rw [← Array.length_toList,etl,zpd _ _ hall,qe,llen]
  refine ⟨esz,⟨F,?_,rfl,?_,?_,?_,?_⟩,fun e=>?_,rfl,rfl⟩
  ·rw [esz];simp [llen]
  ·show ((zd2 M owner).map (·.1)).toArray.toList.Pairwise (· < ·)
   exact zgV M owner
  ·intro j hj
   have hj':j∈(zd2 M owner).map (·.1):=hj
   obtain ⟨⟨j',k⟩,hm,rfl⟩:=List.mem_map.mp hj'
   have:=(Array.getElem?_eq_some_iff.mp ((zc7 O.sz).mp hm)).1
   rw [O.sz] at this
   show j'<=M
   omega
  ·rw [esz];exact few
  ·intro i j h x e1 e2
   have e1':((zd2 M owner).map (·.1))[i]?=some j:=by simpa using e1
   rw [← qF,etl,zpe _ _ hall,qj] at e2
   rw [qj] at e1'
   obtain ⟨⟨j',k⟩,hm,rfl⟩:=oMd e1'
   rw [hm] at e2
   have e2':es[k]?=some (h,x):=e2
   have ho:=(zc7 O.sz).mp (qM hm)
   obtain ⟨n,hn,q⟩:=O.rc j' k h ho (by simp [e2'])
   refine ⟨n,hn,fun m hm'=>?_⟩
   have hnf:=q m hm'
   have hle:=zuA M h m
   have hlt:J M h m < owner.size:=by rw [O.sz];omega
   cases c:owner[J M h m] with
   | none =>
    rw [zdM.mpr (by simp [hlt,c])] at hnf;cases hnf
   | some k' =>
    show J M h m∈(zd2 M owner).map (·.1)
    exact List.mem_map.mpr ⟨(J M h m,k'),(zc7 O.sz).mpr (by simp [hlt,c]),rfl⟩
  ·rw [etl,List.mem_filterMap]
   constructor
   ·rintro ⟨k,_,hk⟩
    rw [← qF] at hk
    exact qM hk
   ·intro he
    obtain ⟨k,hk⟩:=List.mem_iff_getElem?.mp he
    rw [qF] at hk
    have hlt:=(Array.getElem?_eq_some_iff.mp hk).1
    obtain ⟨j,hj⟩:=O.on k (by rw [hlen];exact hlt)
    exact ⟨k,List.mem_map.mpr ⟨(j,k),(zc7 O.sz).mpr hj,rfl⟩,hk⟩
def Mk (M:Nat):Prop:=M=7\/M=31\/M=127\/M=511
theorem Mk.full {M:Nat} (h:Mk M):Full M:=by
 rcases h with h | h | h | h <;> subst h
 ·exact zs2
 ·exact zs3
 ·exact zqR
 ·exact zqQ
theorem Mk.grow {M n:Nat} (h:Mk M) (h1:n*5 < M*3) (h2:¬ (n+1)*5 < M*3) (hn:n<=300):Mk (SetTable.sizeAbove (SetTable.grown (n+1)) - 1)/\(n+1)*5 < (SetTable.sizeAbove (SetTable.grown (n+1)) - 1)*3/\SetTable.sizeAbove (SetTable.grown (n+1))<=512:=by
 rcases h with h | h | h | h <;> subst h
 ·have:n=4:=by omega
  subst this
  exact ⟨.inr (.inl (by decide)),by decide,by decide⟩
 ·have:n=18:=by omega
  subst this
  exact ⟨.inr (.inr (.inl (by decide))),by decide,by decide⟩
 ·have:n=76:=by omega
  subst this
  exact ⟨.inr (.inr (.inr (by decide))),by decide,by decide⟩
 ·omega
end ST
end
section
namespace ST
open PySem PySem.Spec PyProof.Rows
section
variable {prog:Program} {w:World} {A:Around} {R:Result->Shared->Prop} {I:Addr} {fp wr:List Addr} {G:Array GenState->Array GenState->Prop} {n:Nat} {P:Nat->Value->Prop} {St:Nat->Shared->Prop}
def zve (prog:Program) (w:World) (A:Around) (S:Addr) (Ba:Heap->Prop) (P:Nat->Value->Prop) (n:Nat) (J:Nat->Obj->Prop):Prop :=
 ∀ (i:Nat) (v:Value) (s:Shared) (o:Obj) (Q:Bool->Shared->Prop) (E:Value->Shared->Prop),i < n->P i v->s.heap.get? S=some o->J i o->Ba s.heap ->
  (∀ b h' tk o',s.toks<=tk->Heap.SameBut S s.heap h'->h'.get? S=some o'->J (i+1) o'->Q b { s with heap:=h',toks:=tk })->wpAny (model prog w) A (setAdd S v) Q E s
theorem znI (W:WalksS prog w A.in1 I fp wr G n P St) (S:Addr) (hSf:S∉fp) (Ba:Heap->Prop) (hBa:∀ h h',Ba h->(∀ b o,b∉S::wr->h.get? b=some o->h'.get? b=some o)->Ba h') (J:Nat->Obj->Prop) (hadd:zve prog w A.in1 S Ba P n J) :
  ∀ (k i:Nat) (s:Shared) (o:Obj),n - i=k->i<=n->St i s->s.heap.get? S=some o->J i o->Ba s.heap ->
   (∀ s' o',Moved (S::wr) G s s'->s'.heap.get? S=some o'->J n o'->R (.ok (.ret .none)) s') ->
   codeAny (model prog w) A (.builtin "set.update.loop" ⟨[.ref S,.ref I],[]⟩) R s:=by
 have hSw:S∉wr:=fun h=>hSf (W.sub _ h)
 have hsub:∀ b∈wr,b∈S::wr:=fun b hb=>qg _ hb
 intro k
 induction k with
 | zero =>
  intro i s o hk hi hst hS hJ hB hR
  have hin:i=n:=by omega
  subst hin
  refine codeAny_builtin F.entry_set_update_loop ?_
  rw [Around.under_plainId F.plain_set_update_loop _]
  show wpAny _ A.in1 (pyNext (.ref I) >>= _) _ _ s
  refine qv (W.done s _ _ hst fun s' hm=>?_)
  show wpAny _ A.in1 (ret Value.none) _ _ s'
  exact qx (hR s' o (hm.mono hsub) (hm.heap S _ hSw hS) hJ)
 | succ k ih =>
  intro i s o hk hi hst hS hJ hB hR
  have hlt:i < n:=by omega
  refine codeAny_builtin F.entry_set_update_loop ?_
  rw [Around.under_plainId F.plain_set_update_loop _]
  show wpAny _ A.in1 (pyNext (.ref I) >>= _) _ _ s
  refine qv (W.item i s _ _ hlt hst fun v s' hP hst' hm=>?_)
  show wpAny _ A.in1 (holding [v] (setAdd S v) >>= _) _ _ s'
  refine qv (qQ ?_)
  refine hadd i v s' o _ _ hlt hP (hm.heap S _ hSw hS) hJ (hBa _ _ hB fun b o hb e=>hm.heap b o (fun z=>hb (hsub b z)) e) fun b h' tk o' htk hsb hS' hJ'=>?_
  refine qx ⟨plainId_quiet F.plain_set_update_loop _,ih (i+1) _ o' (by omega) hlt (W.frame _ s' _ _ hst' htk fun b hb o e=>?_) hS' hJ' ?_ fun s'' o'' hm'' hS'' hJ''=>?_⟩
  ·rw [hsb.2 b (fun h:b=S=>hSf (by rw [← h];exact hb))];exact e
  ·refine hBa _ _ (hBa _ _ hB fun b o hb e=>hm.heap b o (fun z=>hb (hsub b z)) e) fun b o hb e=>?_
   show h'.get? b=some o
   rw [hsb.2 b (fun h:b=S=>hb (by rw [h];exact qf))];exact e
  ·refine hR s'' o'' (Moved.trans W.gtrans ((hm.mono hsub).then_heap htk fun b o hb e=>?_) hm'') hS'' hJ''
   rw [hsb.2 b (fun h:b=S=>hb (by rw [h];exact qf))];exact e
end
section
variable {prog:Program} {w:World} {A:Around} {E:Value->Shared->Prop} {s:Shared}
set_option maxRecDepth 100000 in
set_option maxHeartbeats 3200000 in
theorem zgk {l:Addr} {items:Array Value} {Q:Value->Shared->Prop} (hh:A.handled=none) (hl:s.heap.IsList l items) (J:Nat->Obj->Prop)
  (hJ0:∀ led:Bool,J 0 { cls:=.type "set",dict:=none,data:=.set #[] 0 (.fresh 0 0 led) })
  (hadd:∀ A':Around,A'.units<=A.units+16->zve prog w A' s.heap.objs.size (fun h=>∀ b o,b < s.heap.objs.size->s.heap.get? b=some o->h.get? b=some o) (fun i v=>items[i]?=some v) items.size J)
  (h:∀ (h':Heap) (tk:Nat) (o:Obj),h'.get? s.heap.objs.size=some o->J items.size o ->
   (∀ b o,b < s.heap.objs.size->s.heap.get? b=some o->h'.get? b=some o)->Q (.ref s.heap.objs.size) { s with heap:=h',toks:=tk }) :
  wpAny (model prog w) A (call (.type "set") [.ref l]) Q E s:=by
 obtain ⟨c,tl,hmro⟩:=F.called_set.mro
 have hmade:=F.called_set.made
 have hsub:=F.called_set.sub
 refine wpAny_call (codeAny_of_tree ?_)
 show wpAny _ _ (callAny (.type "set") _) _ _ _
 refine qx ⟨Code.quiet_builtin _ (by decide +kernel),codeAny_builtin F.entry_type_call ?_⟩
 rw [Around.under_plain (weight_type_call_type "set" [.ref l] []) rfl]
 have h1:=F.called_set.notType
 have h2:=F.called_set.canCreate
 have hct:=F.typeCall_set_1 (.ref l)
 repeat (any_goals (first | assumption | wp_step))
 refine codeAny_mono (code_set_new_1 (.ref l) (E:=E) (Q₁:=fun obj s₁=>∃ led:Bool,obj=.ref s.heap.objs.size/\s₁={ s with heap:=s.heap.push { cls:=.type "set",dict:=none,data:=.set #[] 0 (.fresh 0 0 led) } }) fun led=>⟨led,rfl,rfl⟩) fun r s₁ hr=>?_
 cases r with
 | error e=>exact hr
 | ok fl =>
  cases fl with
  | ret obj =>
   obtain ⟨led,rfl,rfl⟩:=hr
   have hS:(s.heap.push { cls:=.type "set",dict:=none,data:=.set #[] 0 (.fresh 0 0 led) }).get? s.heap.objs.size=some { cls:=.type "set",dict:=none,data:=.set #[] 0 (.fresh 0 0 led) }:=qD _ rfl
   have hT:Shared.TypeIs { s with heap:=s.heap.push { cls:=.type "set",dict:=none,data:=.set #[] 0 (.fresh 0 0 led) } } (.ref s.heap.objs.size) "set":=⟨_,hS,rfl⟩
   have hli:=F.called_set.init.lookup
   have hbi:=F.called_set.init.bind (.ref s.heap.objs.size)
   repeat (any_goals (first | assumption | wp_step))
   refine codeAny_mono (codeAny_call_builtin (R:=wants (fun r s₂=>r=.none/\∃ h' tk o,s₂={ s with heap:=h',toks:=tk }/\h'.get? s.heap.objs.size=some o/\J items.size o /\
     (∀ b o,b < s.heap.objs.size->s.heap.get? b=some o->h'.get? b=some o)) E) F.called_set.init.plain F.entry_set_init (check_set_init_1 hT ?_)) fun r₂ s₂ hr₂=>?_
   ·obtain ⟨ol,hol,hcl,nl,hdl⟩:=hl
    obtain ⟨ocls,odict,odata,oslots⟩:=ol
    simp only at hcl hdl
    subst hcl;subst hdl
    have hol':(s.heap.push { cls:=.type "set",dict:=none,data:=.set #[] 0 (.fresh 0 0 led) }).get? l=some { cls:=.type "list",dict:=odict,data:=.seq items nl,slots:=oslots }:=qr _ hol
    have hsls:=F.sub_list_set
    have hslf:=F.sub_list_frozenset
    have hne:(Value.type "list"==Value.type "dict")=false:=by decide
    have hl1:(s.heap.push { cls:=.type "set",dict:=none,data:=.set #[] 0 (.fresh 0 0 led) }).IsList l items:=⟨_,hol',rfl,nl,rfl⟩
    unfold Builtin.«set.__init__» noKeywords Builtin.Frozenset.updateFrom
    generalize hPI:pyIter=PI
    wp_walk
    subst hPI
    refine wpAny_pyIter_list hl1 ?_
    refine qv (wpAny_runValue ?_)
    have hlS:l < s.heap.objs.size:=qt hol
    have hh3:A.in1.in1.in1.handled=none:=by simp [hh]
    have hneI:l≠(s.heap.push { cls:=.type "set",dict:=none,data:=.set #[] 0 (.fresh 0 0 led) }).objs.size:=by
     rw [Heap.size_push];exact qz (Nat.lt_succ_of_lt hlS)
    have hSf:s.heap.objs.size∉[(s.heap.push { cls:=.type "set",dict:=none,data:=.set #[] 0 (.fresh 0 0 led) }).objs.size,l]:=by
     rw [Heap.size_push];simp only [qI,List.mem_singleton,qG,or_false,not_or]
     exact ⟨qz (Nat.lt_succ_self _),Nat.ne_of_gt hlS⟩
    have hget:((s.heap.push { cls:=.type "set",dict:=none,data:=.set #[] 0 (.fresh 0 0 led) }).push { cls:=.type "list_iterator",data:=.fields #[.ref l,.int 0 0] }).get? s.heap.objs.size
       = some { cls:=.type "set",dict:=none,data:=.set #[] 0 (.fresh 0 0 led) }:=qr _ hS
    refine znI ((Walks.list hh3 _ l hneI items).toS) s.heap.objs.size
     hSf (fun h=>∀ b o,b < s.heap.objs.size->s.heap.get? b=some o->h.get? b=some o) (fun h h' hB hk b o hb e=>hk b o ?_ (hB b o hb e)) J (hadd _ (by show A.units+3<=_;omega)) (items.size - 0) 0 _ _ (by omega) (Nat.zero_le _)
     ⟨⟨_,qD _ rfl,rfl,rfl⟩,(hl1.push _)⟩ hget (hJ0 led) (fun b o hb e=>qr _ (qr _ e)) ?hR
    ·have hb1:b≠s.heap.objs.size:=qz hb
     have hb2:b≠(s.heap.push { cls:=.type "set",dict:=none,data:=.set #[] 0 (.fresh 0 0 led) }).objs.size:=by
      rw [Heap.size_push];exact qz (Nat.lt_succ_of_lt hb)
     simp only [qI,List.mem_singleton,qG,or_false,not_or];exact ⟨hb1,hb2⟩
    case hR =>
     intro s' o' hm hS' hJ'
     obtain ⟨h',g',d',tk',os'⟩:=s'
     have eg:g'=s.gens:=hm.gens
     have ed:d'=s.drawn:=hm.drawn
     have eo:os'=s.os:=hm.os
     subst eg;subst ed;subst eo
     show wpAny _ _ _ _ _ _
     refine qx ?_
     show wpAny _ _ (ret Value.none) _ _ _
     refine qx ⟨rfl,h',tk',o',rfl,hS',hJ',fun b o hb e=>?_⟩
     have hb1:b≠s.heap.objs.size:=qz hb
     have hb2:b≠(s.heap.push { cls:=.type "set",dict:=none,data:=.set #[] 0 (.fresh 0 0 led) }).objs.size:=by
      rw [Heap.size_push];exact qz (Nat.lt_succ_of_lt hb)
     exact hm.heap b o (by simp only [qI,List.mem_singleton,qG,or_false,not_or];exact ⟨hb1,hb2⟩) (qr _ (qr _ e))
   ·cases r₂ with
    | error e=>exact hr₂
    | ok fl₂ =>
     cases fl₂ with
     | ret r =>
      obtain ⟨rfl,h',tk,o',rfl,hS',hJ',hk'⟩:=hr₂
      repeat (any_goals (first | assumption | wp_step))
      exact h _ _ _ hS' hJ' hk'
     | _=>exact hr₂.elim
  | _=>exact hr.elim
end
end ST
end
section
namespace ST
open PySem PySem.Spec PyProof.Rows
def dd {κ:Type} [DecidableEq κ] (l:List κ):List κ:=l.foldl (fun a k=>if k∈a then a else a++[k]) []
theorem zkd {κ:Type} [DecidableEq κ] (l:List κ) (k:κ):dd (l++[k])=if k∈dd l then dd l else dd l++[k]:=by
 unfold dd;rw [List.foldl_append];rfl
theorem zjs {κ:Type} [DecidableEq κ] (l:List κ):(dd l).length<=l.length:=by
 have key:∀ (l a:List κ),(l.foldl (fun a k=>if k∈a then a else a++[k]) a).length<=a.length+l.length:=by
  intro l
  induction l with
  | nil=>intro a;exact qu _
  | cons k r ih =>
   intro a
   rw [List.foldl_cons]
   refine qJ (ih _) ?_
   split
   ·simp only [qh];omega
   ·simp only [qi,qh,qk];omega
 have:=key l []
 simpa [dd] using this
section
variable {prog:Program} {w:World} {κ:Type} [DecidableEq κ] {knd:KeyKind prog w κ} {A:Around} {E:Value->Shared->Prop} {s:Shared}
theorem zfZ {ks:List κ} {a:Addr} {Q:Bool->Shared->Prop} (hk:IsTupleKey knd s.heap ks a) (hsc:∀ v k,knd.is k v=true->v.scannable=true) (h:∀ b,Q b s):wpAny (model prog w) A (hashByValue 8 (.ref a)) Q E s:=by
 have hT:=hk.typeIs
 obtain ⟨o,items,n,ho,_,hd,hi⟩:=hk
 unfold hashByValue
 refine qv (wpAny_specialOf hT F.slot_tuple_hash.lookup ?_)
 refine qv (wpAny_seqItems ho hd ?_)
 refine qv ?_
 show wpAny _ _ (forIn items _ _) _ _ s
 rw [← Array.forIn_toList]
 have hall:∀ v∈items.toList,v.scannable=true:=by
  have:∀ {x:List κ} {vs:List Value},ItemsAre knd x vs->∀ v∈vs,v.scannable=true:=by
   intro x vs q
   induction q with
   | nil=>intro v hv;cases hv
   | cons h1 _ ih =>
    intro v hv
    rcases List.mem_cons.mp hv with rfl | hv
    ·exact hsc _ _ h1
    ·exact ih v hv
  exact this hi
 refine wpAny_forIn_list _ (fun zcx r s'=>s'=s/\∀ v∈zcx,v.scannable=true) _ ?_ ?_ _ _ ⟨rfl,hall⟩
 ·rintro v zcx r s' ⟨rfl,hv⟩
  rw [hashByValue_scannable _ (hv v qf)]
  refine qv (qx ?_)
  cases hp:plainKind v with
  | true =>
   simp only [Bool.not_true,qp,if_false]
   exact qx ⟨rfl,fun u hu'=>hv u (qg _ hu')⟩
  | false =>
   simp only [Bool.not_false,if_true]
   first | exact qx (qx (h _)) | exact qx (h _) | exact qv (qx (qx (qx (h _))))
 ·rintro ⟨r1,r2⟩ s' ⟨rfl,_⟩
  first | exact qx (h _) | (cases r1 <;> exact qx (h _))
theorem zfz {ks:List κ} {a:Addr} {Q:Bool->Shared->Prop} (hk:IsTupleKey knd s.heap ks a) (h:Q false s):wpAny (model prog w) A (ofAClassStatement 8 (.ref a)) Q E s:=by
 have hT:=hk.typeIs
 obtain ⟨o,items,n,ho,_,hd,hi⟩:=hk
 unfold ofAClassStatement
 refine qv (wpAny_typeOf hT ?_)
 dsimp only
 rw [qV (by decide)]
 refine qv (qx ?_)
 simp only [Bool.not_true,qp,if_false]
 refine qv (wpAny_seqItems ho hd ?_)
 refine qv ?_
 show wpAny _ _ (forIn items _ _) _ _ s
 rw [← Array.forIn_toList]
 refine wpAny_forIn_list _ (fun zcx r s'=>r.1=none/\s'=s/\∀ v∈zcx,carriedByValue v=true) _ ?_ ?_ _ _ ⟨rfl,rfl,hi.byValue⟩
 ·rintro v zcx r s' ⟨hr,rfl,hv⟩
  have e:ofAClassStatement 7 v=pure false:=by
   have:=hv v qf
   cases v with
   | ref b=>simp [carriedByValue] at this
   | _=>rfl
  rw [e]
  refine qv (qx ?_)
  simp only [qp,if_false]
  exact qx ⟨rfl,rfl,fun u hu'=>hv u (qg _ hu')⟩
 ·rintro ⟨r1,r2⟩ s' ⟨hr,rfl,_⟩
  simp only at hr
  subst hr
  exact qx h
theorem zrs {ks:List κ} {a:Addr} {Q:Bool->Shared->Prop} (hk:IsTupleKey knd s.heap ks a) (st:List Value) (hst:∀ y∈st,∃ k b,y=.ref b/\IsTupleKey knd s.heap k b) (h:Q false s):wpAny (model prog w) A (searchCouldBeSeen (.ref a) st) Q E s:=by
 unfold searchCouldBeSeen
 refine qv ?_
 refine wpAny_forIn_list _ (fun zcx r s'=>r.1=none/\s'=s/\∀ y∈zcx,∃ k b,y=.ref b/\IsTupleKey knd s.heap k b) _ ?_ ?_ _ _ ⟨rfl,rfl,hst⟩
 ·rintro v zcx r s' ⟨hr,rfl,hv⟩
  obtain ⟨k,b,rfl,hb⟩:=hv v qf
  dsimp only
  split
  ·exact qx ⟨rfl,rfl,fun u hu'=>hv u (qg _ hu')⟩
  ·refine qv (wpAny_eqIsQuiet_tuple hk ?_)
   simp only [Bool.not_true,qp,if_false]
   refine qv (wpAny_eqIsQuiet_tuple hb ?_)
   simp only [Bool.not_true,qp,if_false]
   refine qv (zfz hk ?_)
   simp only [qp,if_false]
   refine qv (zfz hb ?_)
   simp only [qp,if_false]
   exact qx ⟨rfl,rfl,fun u hu'=>hv u (qg _ hu')⟩
 ·rintro ⟨r1,r2⟩ s' ⟨hr,rfl,_⟩
  simp only at hr
  subst hr
  exact qx h
end
end ST
end
section
namespace ST
open PySem PySem.Spec PyProof.Rows
theorem zgO {t:SetTable} {es:Array (Int×Value)} (T:Tb t es) {hashAt:Nat->Int} {h:Int} {p:SetTable.Probe} {r:Option SetTable.Met} {n n0:Nat} (hp:t.probe hashAt h p=r) (hpp:p=zcT (it t.mask h n)) (hn:n<=n0) (hn0:n0 < 10*(t.mask+15))
  (hf:J t.mask h n0∉t.place.toList) (ho:∀ m,m < n0->J t.mask h m∈t.place.toList) :
  (∃ n' i,n<=n'/\n' < n0/\t.place[i]?=some (J t.mask h n')/\hashAt i=h/\(∀ m i,n<=m->m < n'->t.place[i]?=some (J t.mask h m)->hashAt i≠h)/\r=some (.candidate (J t.mask h n') i (zcT (it t.mask h (n'+1))))) \/
  ((∀ m i,n<=m->m < n0->t.place[i]?=some (J t.mask h m)->hashAt i≠h)/\r=some (.empty (J t.mask h n0) none)):=by
 subst hpp
 subst hp
 unfold SetTable.probe
 exact T.probe_go hashAt h hf ho (10*SetTable.turns t.mask) n hn (by unfold SetTable.turns;omega)
theorem zj1 {t:SetTable} {es:Array (Int×Value)} (T:Tb t es) {hashAt:Nat->Int} {h:Int} {p:SetTable.Probe} {n n0:Nat} (hp:∀ met,t.probe hashAt h p=some met->False) (hpp:p=zcT (it t.mask h n)) (hn:n<=n0) (hn0:n0 < 10*(t.mask+15))
  (hf:J t.mask h n0∉t.place.toList) (ho:∀ m,m < n0->J t.mask h m∈t.place.toList):False:=by
 rcases zgO T (r:=t.probe hashAt h p) rfl hpp hn hn0 hf ho with ⟨n',i,_,_,_,_,_,g6⟩ | ⟨_,g2⟩
 ·exact hp _ g6
 ·exact hp _ g2
section
variable {prog:Program} {w:World} {κ:Type} [DecidableEq κ] {knd:KeyKind prog w κ} {A:Around} {E:Value->Shared->Prop} {s:Shared}
def zto (knd:KeyKind prog w κ) (h:Heap) (es:Array (Int×Value)):Prop:=∀ (i:Nat) e,es[i]?=some e->∃ k b,e=(tupleKeyHash knd k,.ref b)/\IsTupleKey knd h k b
theorem Mk.odd {M:Nat} (h:Mk M):(M % 2==0)=false:=by
 rcases h with rfl | rfl | rfl | rfl <;> rfl
theorem zl1 {S a:Addr} {o:Obj} {es:Array (Int×Value)} {ep:Nat} {t:SetTable} {k:List κ} {n0:Nat} {Q:SetFound->Shared->Prop} (hu:A.units < cLine) (ho:s.heap.get? S=some o) (hd:o.data=.set es ep t) (T:Tb t es) (hM:Mk t.mask)
  (hk:IsTupleKey knd s.heap k a) (he:zto knd s.heap es) (hf:J t.mask (tupleKeyHash knd k) n0∉t.place.toList) (hocc:∀ m,m < n0->J t.mask (tupleKeyHash knd k) m∈t.place.toList) (hn0:n0 < 10*(t.mask+15))
  (hyes:∀ (i:Nat) (b:Addr),es[i]?=some (tupleKeyHash knd k,.ref b)->IsTupleKey knd s.heap k b->Q (.there none) s)
  (hno:(∀ (i:Nat) (b:Addr),es[i]?=some (tupleKeyHash knd k,.ref b)->¬ IsTupleKey knd s.heap k b)->Q (.free (J t.mask (tupleKeyHash knd k) n0) false) s) :
  ∀ (fuel n:Nat) (stand:Option SetTable.Probe),n0 - n < fuel->n<=n0->(stand.getD (t.probeStart (tupleKeyHash knd k))=zcT (it t.mask (tupleKeyHash knd k) n)) ->
   (∀ (m i:Nat) (b:Addr),m < n->t.place[i]?=some (J t.mask (tupleKeyHash knd k) m)->es[i]?=some (tupleKeyHash knd k,.ref b)->¬ IsTupleKey knd s.heap k b) ->
   wpAny (model prog w) A (setSearchFrom S (.ref a) (tupleKeyHash knd k) true fuel stand) Q E s:=by
 intro fuel
 induction fuel with
 | zero=>intro n stand h1;omega
 | succ fuel ih =>
  intro n stand h1 h2 hs hw
  unfold setSearchFrom
  refine qv (wpAny_setState_of ho hd T.fits ?_)
  dsimp only
  have hg:t.gaveWay=false:=hM.odd
  rw [hg]
  simp only [qp,if_false]
  split
  ·rename_i met hp
   rcases zgO T hp hs h2 hn0 hf hocc with ⟨n',i,g1,g2,g3,g4,g5,g6⟩ | ⟨g1,g2⟩
   ·cases g6
    have hi:i < es.size:=by
     have:=(Array.getElem?_eq_some_iff.mp g3).1
     rw [T.sz] at this
     exact this
    have hei:es[i]?=some es[i]:=by simp [hi]
    obtain ⟨k',b,e1,hb⟩:=he i _ hei
    rw [e1] at hei
    have hh:tupleKeyHash knd k'=tupleKeyHash knd k:=by
     have g4':((es[i]?).map (·.1)).getD 0=tupleKeyHash knd k:=g4
     rw [hei] at g4'
     exact g4'
    rw [hh] at hei
    have zcx:wpAny (model prog w) A (do
      let some (_,y):=es[i]? | unsupported "internal:set-entry"
      let equal ← holding [y] (eqBool y (.ref a))
      let (es',_,t') ← setState S
      if true && equal then return .there none
      let some same:=t'.sameMemory t.moves t.mask | unsupported "set.changed-during-lookup:is-the-new-block-at-the-old-address"
      let still ← match (if same then t'.slot (J t.mask (tupleKeyHash knd k) n') else .empty) with
       | .live i'=>match es'[i']? with
        | some (_,y')=>do pure (if ← isSame y' y then some i' else none)
        | none=>pure none
       | _=>pure none
      match still with
      | none=>rule "set.search.anew";setSearchFrom S (.ref a) (tupleKeyHash knd k) true fuel none
      | some i'=>if equal then return .there (some i') else setSearchFrom S (.ref a) (tupleKeyHash knd k) true fuel (some (zcT (it t.mask (tupleKeyHash knd k) (n'+1))))) Q E s:=by
     rw [hei]
     dsimp only
     refine qv (qQ (wpAny_eqBool_tuple hu hb hk ?_))
     refine qv (wpAny_setState_of ho hd T.fits ?_)
     dsimp only
     by_cases hkk:k'=k
     ·subst hkk
      rw [qP rfl]
      simp only [Bool.true_and,if_true]
      exact qx (hyes i b hei hb)
     ·rw [qK hkk]
      simp only [Bool.true_and,qp,if_false]
      have hsm:t.sameMemory t.moves t.mask=some true:=by unfold SetTable.sameMemory;simp
      rw [hsm]
      dsimp only
      simp only [if_true]
      rw [T.live g3]
      dsimp only
      rw [hei]
      dsimp only
      refine qv (wpAny_isSame_ref_self ?_)
      simp only [if_true]
      refine qv (qx ?_)
      dsimp only
      refine ih (n'+1) _ (by omega) (by omega) rfl ?_
      intro m i2 b2 hm hp2 he2
      by_cases h3:m < n
      ·exact hw m i2 b2 h3 hp2 he2
      ·by_cases h4:m=n'
       ·subst h4
        have ei:i2=i:=by
         have q1:=T.live hp2
         have q2:=T.live g3
         rw [q1] at q2
         injection q2
        subst ei
        rw [hei] at he2
        cases he2
        exact fun z=>hkk (hb.inj z)
       ·exfalso
        refine g5 m i2 (by omega) (by omega) hp2 ?_
        show ((es[i2]?).map (·.1)).getD 0=_
        rw [he2]
        rfl
    cases hled:t.led with
    | true =>
     simp only [Bool.not_true,qp,if_false]
     exact zcx
    | false =>
     simp only [Bool.not_false,if_true]
     refine qv (zrs hk _ (fun y hy=>?_) ?_)
     ·obtain ⟨e,he1,rfl⟩:=List.mem_map.mp hy
      have he2:e∈es.toList:=by
       have:=Array.mem_toList_iff.mp he1
       rw [Array.mem_filter] at this
       exact Array.mem_toList_iff.mpr this.1
      obtain ⟨j,hj,ej⟩:=List.mem_iff_getElem.mp he2
      obtain ⟨k2,b2,q1,q2⟩:=he j e (by rw [← qF,qA hj,ej])
      exact ⟨k2,b2,by rw [q1],q2⟩
     ·simp only [qp,if_false]
      exact zcx
   ·cases g2
    dsimp only
    refine qx (hno fun i b hei hb=>?_)
    have hi:i < es.size:=(Array.getElem?_eq_some_iff.mp hei).1
    have hpi:t.place[i]?=some t.place[i]! := by
     have:i < t.place.size:=by rw [T.sz];exact hi
     simp [this]
    obtain ⟨m,q1,q2⟩:=T.rc i _ _ _ hpi hei
    have hmem:J t.mask (tupleKeyHash knd k) m∈t.place.toList:=by
     rw [q1]
     rw [← qF] at hpi
     exact qM hpi
    have hm:m < n0:=by
     rcases Nat.lt_trichotomy m n0 with z | z | z
     ·exact z
     ·subst z;exact absurd hmem hf
     ·exact absurd (q2 n0 z) hf
    by_cases h3:m < n
    ·exact hw m i b h3 (by rw [q1];exact hpi) hei hb
    ·refine g1 m i (by omega) hm (by rw [q1];exact hpi) ?_
     show ((es[i]?).map (·.1)).getD 0=_
     rw [hei]
     rfl
  ·rename_i hp
   exact (zj1 T hp hs h2 hn0 hf hocc).elim
structure TS (knd:KeyKind prog w κ) (h:Heap) (ks:List (List κ)) (o:Obj):Prop where
 cls:o.ExactSet
 ex:∃ es ep t,o.data=.set es ep t/\Tb t es/\Mk t.mask/\zto knd h es/\es.size=(dd ks).length/\(∀ k∈dd ks,∃ (i:Nat) (b:Addr),es[i]?=some (tupleKeyHash knd k,.ref b)/\IsTupleKey knd h k b)/\∀ (i:Nat) (k:List κ) (b:Addr),es[i]?=some (tupleKeyHash knd k,.ref b)->IsTupleKey knd h k b->k∈dd ks
theorem IsTupleKey.mono {h h':Heap} {k:List κ} {a:Addr} (x:IsTupleKey knd h k a) (q:∀ o,h.get? a=some o->h'.get? a=some o):IsTupleKey knd h' k a:=by
 obtain ⟨o,items,n,h1,h2⟩:=x
 exact ⟨o,items,n,q o h1,h2⟩
theorem zfc {es:Array (Int×Value)} {e:Int×Value}:e∈es.toList↔∃ i:Nat,es[i]?=some e:=by
 constructor
 ·intro h
  obtain ⟨i,hi,q⟩:=List.mem_iff_getElem.mp h
  exact ⟨i,by rw [← qF,qA hi,q]⟩
 ·rintro ⟨i,h⟩
  rw [← qF] at h
  exact qM h
theorem zqq {h0:Heap} {ks:List (List κ)} {k:List κ} {a:Addr} {es es':Array (Int×Value)} (hk:IsTupleKey knd h0 k a) (hE:zto knd h0 es) (hsz:es.size=(dd ks).length) (hin:∀ k∈dd ks,∃ (i:Nat) (b:Addr),es[i]?=some (tupleKeyHash knd k,.ref b)/\IsTupleKey knd h0 k b)
  (hout:∀ (i:Nat) (k:List κ) (b:Addr),es[i]?=some (tupleKeyHash knd k,.ref b)->IsTupleKey knd h0 k b->k∈dd ks) (hnew:k∉dd ks) (mem:∀ e,e∈es'.toList↔e=(tupleKeyHash knd k,.ref a)\/e∈es.toList) (size:es'.size=es.size+1) :
  zto knd h0 es'/\es'.size=(dd (ks++[k])).length/\(∀ k'∈dd (ks++[k]),∃ (i:Nat) (b:Addr),es'[i]?=some (tupleKeyHash knd k',.ref b)/\IsTupleKey knd h0 k' b)/\∀ (i:Nat) (k':List κ) (b:Addr),es'[i]?=some (tupleKeyHash knd k',.ref b)->IsTupleKey knd h0 k' b->k'∈dd (ks++[k]):=by
 rw [zkd,qW hnew]
 refine ⟨fun i e he=>?_,by rw [size,hsz,qi,qT],fun k' hk'=>?_,fun i k' b he hb=>?_⟩
 ·rcases (mem e).mp (zfc.mpr ⟨i,he⟩) with rfl | q
  ·exact ⟨k,a,rfl,hk⟩
  ·obtain ⟨j,q⟩:=zfc.mp q
   exact hE j e q
 ·rcases List.mem_append.mp hk' with q | q
  ·obtain ⟨i,b,q1,q2⟩:=hin k' q
   obtain ⟨j,q3⟩:=zfc.mp ((mem _).mpr (.inr (zfc.mpr ⟨i,q1⟩)))
   exact ⟨j,b,q3,q2⟩
  ·rw [List.mem_singleton.mp q]
   obtain ⟨j,q3⟩:=zfc.mp ((mem _).mpr (.inl rfl))
   exact ⟨j,a,q3,hk⟩
 ·rcases (mem _).mp (zfc.mpr ⟨i,he⟩) with q | q
  ·have e:b=a:=by have:=(Prod.mk.inj q).2;injection this
   subst e
   exact List.mem_append.mpr (.inr (List.mem_singleton.mpr (hb.inj hk)))
  ·obtain ⟨j,q⟩:=zfc.mp q
   exact List.mem_append.mpr (.inl (hout j k' b q hb))
theorem zhK {h:Heap} {S:Addr} {o:Obj} {es es':Array (Int×Value)} {ep:Nat} {t t':SetTable} (ho:h.get? S=some o) (hd:o.data=.set es ep t):(h.update S (Obj.putSet es' t')).get? S=some { o with data:=.set es' (ep+1) t' }:=by
 have q:=Heap.get?_update_self (Obj.putSet es' t') ho (by rw [putSet_of es' t' hd];rfl)
 rwa [putSet_of es' t' hd] at q
set_option maxHeartbeats 1000000 in
theorem znr {S a:Addr} {o:Obj} {h0:Heap} {ks:List (List κ)} {k:List κ} {Q:Bool->Shared->Prop} (hsc:∀ v k,knd.is k v=true->v.scannable=true) (hu:A.units < cLine) (ho:s.heap.get? S=some o) (T:TS knd h0 ks o) (hk:IsTupleKey knd h0 k a)
  (hB:∀ b o,h0.get? b=some o->s.heap.get? b=some o) (hlen:ks.length<=300)
  (h:∀ b h' tk o',s.toks<=tk->Heap.SameBut S s.heap h'->h'.get? S=some o'->TS knd h0 (ks++[k]) o'->Q b { s with heap:=h',toks:=tk }):wpAny (model prog w) A (setAdd S (.ref a)) Q E s:=by
 obtain ⟨hc,es,ep,t,hd,TB,hM,hE,hsz,hin,hout⟩:=T
 have up:∀ {k:List κ} {b:Addr},IsTupleKey knd h0 k b->IsTupleKey knd s.heap k b:=fun q=>IsTupleKey.mono q fun o e=>hB _ _ e
 have down:∀ {k k':List κ} {b:Addr},IsTupleKey knd h0 k' b->IsTupleKey knd s.heap k b->k=k':=fun q1 q2=>q2.inj (up q1)
 have hE':zto knd s.heap es:=fun i e he=>by
  obtain ⟨k,b,q1,q2⟩:=hE i e he
  exact ⟨k,b,q1,up q2⟩
 have hddl:=zjs ks
 obtain ⟨n0,f1,f2,f3⟩:=TB.first (tupleKeyHash knd k)
 unfold setAdd
 refine qQ (qv (wpAny_pyHash_tuple hu (up hk) ?_))
 unfold setAddHashed setAddHashedIn
 refine qQ (qv (wpAny_setState_of (s:={ s with toks:=s.toks+(k.length+1) }) ho hd TB.fits ?_))
 dsimp only
 rw [show byScan (.ref a) es=false from rfl]
 simp only [qp,if_false]
 unfold setSearch
 refine qv (zl1 (s:={ s with toks:=s.toks+(k.length+1) }) hu ho hd TB hM (up hk) hE' f2 f3 f1 (fun i b hei hb=>?_) (fun hall=>?_) 100000 0 none ?_ (Nat.zero_le _) rfl (fun m i b hm=>by omega))
 ·
  dsimp only
  obtain ⟨k',b',q1,q2⟩:=hE i _ hei
  have:b'=b:=by
   have:=(Prod.mk.inj q1).2
   injection this with e
   exact e.symm
  subst this
  have ek:=down q2 hb
  subst ek
  have hmem:=hout i k _ hei q2
  refine qx (h false s.heap _ o (by show s.toks<=s.toks+(k.length+1);omega) (Heap.SameBut.refl S s.heap) ho ⟨hc,es,ep,t,hd,TB,hM,hE,?_⟩)
  rw [zkd,qV hmem]
  exact ⟨hsz,hin,hout⟩
 ·
  dsimp only
  have hnew:k∉dd ks:=fun hm=>by
   obtain ⟨i,b,q1,q2⟩:=hin k hm
   exact hall i b q1 (up q2)
  have hpl:SetTable.below t.place (J t.mask (tupleKeyHash knd k) n0)<=es.size:=by
   have:=(ziT t.place (J t.mask (tupleKeyHash knd k) n0) TB.ri).1
   rw [TB.sz] at this
   exact this
  have hmaskle:t.mask<=511:=by rcases hM with e | e | e | e <;> omega
  have hmem:∀ e,e∈(SetTable.insertAt es (SetTable.below t.place (J t.mask (tupleKeyHash knd k) n0)) (tupleKeyHash knd k,Value.ref a)).toList↔e=(tupleKeyHash knd k,Value.ref a)\/e∈es.toList:=fun e=>by
   rw [zcC _ _ _ hpl]
   exact zfY _ _ _ _
  have hsize:(SetTable.insertAt es (SetTable.below t.place (J t.mask (tupleKeyHash knd k) n0)) (tupleKeyHash knd k,Value.ref a)).size=es.size+1:=by
   have:=congrArg List.length (zcC es _ (tupleKeyHash knd k,Value.ref a) hpl)
   simp only [Array.length_toList,qi,qh,qB,List.length_drop] at this
   omega
  have hpsz:(SetTable.insertAt t.place (SetTable.below t.place (J t.mask (tupleKeyHash knd k) n0)) (J t.mask (tupleKeyHash knd k) n0)).size=es.size+1:=by
   have:=congrArg List.length (zcC t.place _ (J t.mask (tupleKeyHash knd k) n0) (by rw [TB.sz];exact hpl))
   have h3:=TB.sz
   simp only [Array.length_toList,qi,qh,qB,List.length_drop] at this
   omega
  refine qv (wpAny_setState_of (s:={ s with toks:=s.toks+(k.length+1) }) ho hd TB.fits ?_)
  dsimp only
  have fin:∀ (es':Array (Int×Value)) (t':SetTable) (h':Heap) (o':Obj),Tb t' es'->Mk t'.mask->(∀ e,e∈es'.toList↔e=(tupleKeyHash knd k,Value.ref a)\/e∈es.toList)->es'.size=es.size+1->Heap.SameBut S s.heap h'->h'.get? S=some o'->o'.ExactSet->(∃ ep',o'.data=.set es' ep' t')->Q true { s with heap:=h',toks:=s.toks+(k.length+1) }:=fun es' t' h' o' q1 q2 q3 q4 q5 q6 q7 q8=>by
   obtain ⟨ep',q8⟩:=q8
   obtain ⟨w1,w2,w3,w4⟩:=zqq hk hE hsz hin hout hnew q3 q4
   exact h true h' _ o' (by omega) q5 q6 ⟨q7,es',ep',t',q8,q1,q2,w1,w2,w3,w4⟩
  have zcx:∀ pl:Bool,wpAny (model prog w) A (do
    storeSet S (SetTable.insertAt es (t.put (J t.mask (tupleKeyHash knd k) n0)).2 (tupleKeyHash knd k,Value.ref a)) { (t.put (J t.mask (tupleKeyHash knd k) n0)).1 with plain:=pl }
    if (!false && SetTable.tooFull { (t.put (J t.mask (tupleKeyHash knd k) n0)).1 with plain:=pl })=true then do
     setRelay S (SetTable.grown (es.size+1))
     pure true
    else pure true) Q E { s with toks:=s.toks+(k.length+1) }:=fun pl=>by
   refine qv (wpAny_storeSet_of (s:={ s with toks:=s.toks+(k.length+1) }) ho hd ?_ (by show (SetTable.insertAt es (SetTable.below t.place (J t.mask (tupleKeyHash knd k) n0)) (tupleKeyHash knd k,Value.ref a)).size<=sizeLine;rw [hsize,sizeLine_eq];omega))
   have hg1:=zhK (es':=SetTable.insertAt es (t.put (J t.mask (tupleKeyHash knd k) n0)).2 (tupleKeyHash knd k,Value.ref a)) (t':={ (t.put (J t.mask (tupleKeyHash knd k) n0)).1 with plain:=pl }) ho hd
   have hsb1:=Heap.SameBut.update s.heap S (Obj.putSet (SetTable.insertAt es (t.put (J t.mask (tupleKeyHash knd k) n0)).2 (tupleKeyHash knd k,Value.ref a)) { (t.put (J t.mask (tupleKeyHash knd k) n0)).1 with plain:=pl })
   have hdum:(t.put (J t.mask (tupleKeyHash knd k) n0)).1.dummies=#[]:=by
    show (if SetTable.has t.dummies _ then _ else t.dummies)=#[]
    rw [TB.dm]
    rfl
   have hfill:SetTable.fill { (t.put (J t.mask (tupleKeyHash knd k) n0)).1 with plain:=pl }=es.size+1:=by
    show (SetTable.insertAt t.place _ _).size+(t.put (J t.mask (tupleKeyHash knd k) n0)).1.dummies.size=_
    rw [hdum]
    exact hpsz
   by_cases few:(es.size+1)*5 < t.mask*3
   ·have hfull:SetTable.tooFull { (t.put (J t.mask (tupleKeyHash knd k) n0)).1 with plain:=pl }=false:=by
     unfold SetTable.tooFull
     rw [hfill]
     exact qK (by show ¬ ((es.size+1)*5 ≥ t.mask*3);omega)
    rw [hfull]
    simp only [Bool.not_false,Bool.and_false,qp,if_false]
    refine qx (fin _ _ _ _ (TB.put (x:=.ref a) f2 f3 few pl) hM hmem hsize hsb1 hg1 hc ⟨_,rfl⟩)
   ·have hfull:SetTable.tooFull { (t.put (J t.mask (tupleKeyHash knd k) n0)).1 with plain:=pl }=true:=by
     unfold SetTable.tooFull
     rw [hfill]
     exact qP (by show ((es.size+1)*5 ≥ t.mask*3);omega)
    rw [hfull]
    simp only [Bool.not_false,Bool.and_true,if_true]
    obtain ⟨m1,m2,m3⟩:=hM.grow TB.few few (by omega)
    have hes1:(SetTable.insertAt es (t.put (J t.mask (tupleKeyHash knd k) n0)).2 (tupleKeyHash knd k,Value.ref a)).size=es.size+1:=hsize
    obtain ⟨t',order,r1,r2,r3,r4,r5,r6⟩:=Full.relaid (t:={ (t.put (J t.mask (tupleKeyHash knd k) n0)).1 with plain:=pl }) (es:=SetTable.insertAt es (t.put (J t.mask (tupleKeyHash knd k) n0)).2 (tupleKeyHash knd k,Value.ref a)) m1.full (by rw [hes1];exact m2)
    unfold setRelay
    have hfits:SetTable.fits { (t.put (J t.mask (tupleKeyHash knd k) n0)).1 with plain:=pl } (SetTable.insertAt es (t.put (J t.mask (tupleKeyHash knd k) n0)).2 (tupleKeyHash knd k,Value.ref a)).size=true:=by
     unfold SetTable.fits
     rw [hfill,hes1,Bool.and_eq_true]
     have:=TB.few
     exact ⟨by rw [beq_iff_eq];exact hpsz,qP (by show es.size+1<=t.mask;omega)⟩
    refine qv ?_
    refine qv (wpAny_setState_of (s:={ s with heap:=_,toks:=s.toks+(k.length+1) }) hg1 rfl hfits ?_)
    dsimp only
    rw [qW (by rw [sizeLine_eq];omega),r1]
    refine qv ?_
    show wpAny _ _ (if ((order.filterMap ((SetTable.insertAt es (t.put (J t.mask (tupleKeyHash knd k) n0)).2 (tupleKeyHash knd k,Value.ref a))[·]?)).size != (SetTable.insertAt es (t.put (J t.mask (tupleKeyHash knd k) n0)).2 (tupleKeyHash knd k,Value.ref a)).size)=true then _ else _) _ _ _
    rw [qW (by rw [r2];simp)]
    refine qx ?_
    dsimp only
    refine wpAny_storeSet_of (s:={ s with heap:=_,toks:=s.toks+(k.length+1) }) hg1 rfl ?_ (by rw [r2,hes1,sizeLine_eq];omega)
    refine qx (fin _ t' _ _ r3 (by rw [r5];exact m1) (fun e=>(r4 e).trans (hmem e)) (by rw [r2,hes1]) (hsb1.trans (Heap.SameBut.update _ S _)) (zhK hg1 rfl) hc ⟨_,rfl⟩)
  split
  ·refine qv (zfZ (s:={ s with toks:=s.toks+(k.length+1) }) (up hk) hsc fun bv=>?_)
   cases bv
   ·exact zcx false
   ·exact zcx _
  ·refine qv (qx ?_)
   exact zcx _
 ·show n0 - 0 < 100000
  have:t.mask<=511:=by rcases hM with e | e | e | e <;> omega
  omega
end
end ST
end
section
namespace L2
open PySem PySem.Spec PyProof.Rows ST
instance (priority:=high) keyBEq:BEq Key:=instBEqOfDecidableEq
instance (priority:=high) keyLaw:LawfulBEq Key:=inferInstanceAs (@LawfulBEq Key instBEqOfDecidableEq)
def zvd (n:Nat) (o:Obj):Prop:=o.ExactSet/\∃ es ep t,o.data=.set es ep t/\t.fits es.size=true/\es.size=n
def zpq (p:Addr) (n:Nat):HO:=.ext fun h=>∃ o,h.get? p=some o/\zvd n o
section
variable {X:Cx}
theorem zkL {P:Program} {w:World} (v:Value) (k:Key) (h:(zbo P w).is k v=true):v.scannable=true:=by
 rcases zbG h with ⟨i,t,rfl,rfl⟩ | ⟨x,t,rfl,rfl⟩ <;> rfl
def zvx:List V->Hp->VK->Prop:=fun xs H Q=>∃ a vs,xs=[.ref a]/\H a=some (.lst vs)/\vs.length<=300 /\
 ((∃ ks:List Key,vs=ks.map kV/\∀ p,H p=none->Q (.ref p) (upd H p (zpq p (dd ks).length))) \/
 (∃ ts:List (List Key),vs.length=ts.length/\(∀ (i:Nat) t,ts[i]?=some t->∃ b,vs[i]?=some (.ref b)/\H b=some (.tup (t.map kV)))/\∀ p,H p=none->Q (.ref p) (upd H p (zpq p (dd ts).length))))
theorem zoE (hc:X.calm=true) (hu:X.A.units+66 < cLine):zfK X (.type "set") zvx:=by
 intro pins s σ H xs us Q I r h
 obtain ⟨a,vs,rfl,ha,hl,h⟩:=h
 obtain ⟨u,rfl,ru⟩:=zfL r
 cases ru
 obtain ⟨its,rv,pl,hz⟩:=I.list (.inl (.inl ha))
 have hlen:=rv.length
 have hsz:its.toArray.size=vs.length:=by rw [qy,hlen]
 have fin:∀ (n:Nat) (h':Heap) (tk:Nat) (o:Obj),h'.get? s.heap.objs.size=some o->zvd n o->(∀ b o,b < s.heap.objs.size->s.heap.get? b=some o->h'.get? b=some o) ->
   (∀ p,H p=none->Q (.ref p) (upd H p (zpq p n)))->EP X pins σ Q (.ref s.heap.objs.size) { s with heap:=h',toks:=tk }:=fun n h' tk o ho hn hk q=>by
  refine ⟨.ref s.heap.objs.size,_,I.laid (a:=s.heap.objs.size) (o:=zpq s.heap.objs.size n) (fun b u e=>hk b u (qt e) e) (qu _) ?_,rfl,q _ I.fresh⟩
  refine ⟨⟨o,ho,hn⟩,⟨o,ho⟩,fun h1 h2 hp hk2=>?_⟩
  obtain ⟨o1,q1,q2⟩:=hp
  exact ⟨o1,hk2 o1 q1,q2⟩
 rcases h with ⟨ks,rfl,q⟩ | ⟨ts,ht,hts,q⟩
 ·
  have hkl:ks.length=its.length:=by rw [← hlen,qe]
  refine zgk (I.ok.hd hc) pl.isList (fun i o=>o.SetObjOf (zbo X.prog X.w) (fun k=>decide (k∈dd (ks.take i))) (dd (ks.take i)).length) (fun led=>?_) (fun A' hA' i v sh o Q' E' hi hv ho hJ hB hQ=>?_) fun h' tk o ho hJ hk=>?_
  ·have:=setObjOf_fresh (knd:=zbo X.prog X.w) led
   simpa [dd] using this
  ·have hi':i < ks.length:=by rw [qy] at hi;omega
   obtain ⟨u2,hu2,ru2⟩:=rv.get (i:=i) (x:=kV ks[i]) (by simp [hi'])
   have ev:v=u2:=by
    have hv':its[i]?=some v:=by simpa using hv
    rw [hu2] at hv'
    exact (qE hv').symm
   subst ev
   have hkey:=zog (P:=X.prog) (w:=X.w) ru2
   have hle:(dd (ks.take i)).length<=300:=by
    have h1:=zjs (ks.take i)
    rw [qB] at h1
    rw [qe] at hl
    omega
   unfold setAdd
   refine qQ (qv ((zbo X.prog X.w).pyHash hkey ?_))
   refine wpAny_setAddHashed_of (knd:=zbo X.prog X.w) (s:={ sh with toks:=sh.toks+1 }) hkey (zkL _ _ hkey) (hJ.setOf ho (by unfold scanBound;omega)) (by unfold scanBound;omega) fun h' hsb hS2=>?_
   obtain ⟨o',ho',hso⟩:=hS2.objOf
   refine hQ _ h' _ o' (Nat.le_succ _) hsb ho' ?_
   have htk:ks.take (i+1)=ks.take i++[ks[i]]:=by rw [List.take_succ,qA hi'];rfl
   show Obj.SetObjOf (zbo X.prog X.w) o' (fun k=>decide (k∈dd (List.take (i+1) ks))) (dd (List.take (i+1) ks)).length
   rw [htk,zkd]
   by_cases hm:ks[i]∈dd (ks.take i)
   ·rw [qV hm]
    rw [qV (by simpa using hm)] at hso
    have e:(fun k'=>decide (k'∈dd (ks.take i)) || decide (k'=ks[i]))=fun k'=>decide (k'∈dd (ks.take i)):=by
     funext k'
     by_cases hk':k'=ks[i]
     ·subst hk';simp [hm]
     ·simp [hk']
    rw [e] at hso
    exact hso
   ·rw [qW hm]
    rw [qW (by simpa using hm)] at hso
    have e:(fun k'=>decide (k'∈dd (ks.take i)) || decide (k'=ks[i]))=fun k'=>decide (k'∈dd (ks.take i)++[ks[i]]):=by
     funext k'
     rw [Bool.eq_iff_iff]
     simp
    rw [e] at hso
    simpa using hso
  ·have e:ks.take its.toArray.size=ks:=by rw [qy,← hkl];exact List.take_length
   rw [e] at hJ
   have hS:=hJ.setOf ho (by have:=zjs ks;rw [qe] at hl;unfold scanBound;omega)
   obtain ⟨o1,es,ep,t,v0,v1,v2,_,_,_,v3,v4⟩:=hS
   rw [ho] at v0
   cases v0
   exact fin _ h' tk o ho ⟨v1,es,ep,t,v2,v3,v4⟩ hk q
 ·
  have hkl:ts.length=its.length:=by rw [← hlen,ht]
  refine zgk (I.ok.hd hc) pl.isList (fun i o=>ST.TS (zbo X.prog X.w) s.heap (ts.take i) o) (fun led=>?_) (fun A' hA' i v sh o Q' E' hi hv ho hJ hB hQ=>?_) fun h' tk o ho hJ hk=>?_
  ·refine ⟨⟨rfl,rfl,rfl⟩,#[],0,SetTable.fresh 0 0 led,rfl,?_,.inl rfl,fun i e he=>by simp at he,rfl,fun k hk=>by simp [dd] at hk,fun i k b he=>by simp at he⟩
   exact ⟨zs2,rfl,rfl,by simp [SetTable.fresh],by simp [SetTable.fresh],by simp [SetTable.fresh],fun i j h x hp=>by simp [SetTable.fresh] at hp⟩
  ·have hi':i < ts.length:=by rw [qy] at hi;omega
   obtain ⟨b,hb1,hb2⟩:=hts i ts[i] (by simp [hi'])
   obtain ⟨u2,hu2,ru2⟩:=rv.get hb1
   have ev:v=u2:=by
    have hv':its[i]?=some v:=by simpa using hv
    rw [hu2] at hv'
    exact (qE hv').symm
   subst ev
   cases ru2
   have hkey:=zkO I.hok hb2
   have htk:ts.take (i+1)=ts.take i++[ts[i]]:=by rw [List.take_succ,qA hi'];rfl
   refine znr (fun v k=>zkL v k) (by omega) ho hJ hkey (fun b' o' e=>hB b' o' (qt e) e) (by rw [qB];have:=hl;omega) fun bb h' tk o' h1 h2 h3 h4=>hQ bb h' tk o' h1 h2 h3 (by show ST.TS _ _ (List.take (i+1) ts) o';rw [htk];exact h4)
  ·have e:ts.take its.toArray.size=ts:=by rw [qy,← hkl];exact List.take_length
   rw [e] at hJ
   obtain ⟨hc',es,ep,t,w1,w2,w3,w4,w5,w6,w7⟩:=hJ
   exact fin _ h' tk o ho ⟨hc',es,ep,t,w1,w2.fits,w5⟩ hk q
theorem zke:zfK X (.builtin "len") (fun xs H Q=>∃ p n,xs=[.ref p]/\H p=some (zpq p n)/\n<=300/\Q (.int n) H):=by
 intro pins s σ H xs us Q I r h
 obtain ⟨p,n,rfl,hp,hn,q⟩:=h
 obtain ⟨u,rfl,ru⟩:=zfL r
 cases ru
 obtain ⟨⟨o,ho,hex,es,ep,t,w1,w2,w3⟩,_,_⟩:=I.hok p _ hp
 exact call_len_set ho hex w1 w2 (by omega) ⟨.int n,H,I.tok _,⟨_,by rw [w3]⟩,q⟩
end
end L2
end
section
namespace L2
open PySem PySem.Spec PyProof.Rows ST
def zeZ:List D->Option (List (List Key))
 | []=>some []
 | .tup t::r=>(zgr t).bind fun k=>(zeZ r).map (k::·)
 | _::_=>none
theorem zhI {Γ:Cn} {K:PySem.W.Frag} {G H:Hp} (gh:zb4 G H):∀ {vs:List V} {ds:List D} {ts:List (List Key)},Reps Γ K G vs ds->zeZ ds=some ts->vs.length=ts.length/\∀ (i:Nat) t,ts[i]?=some t->∃ b,vs[i]?=some (.ref b)/\H b=some (.tup (t.map kV))
 | _,[],ts,r,h=>by cases r;cases h;exact ⟨rfl,fun i t e=>by simp at e⟩
 | _,d::ds,ts,.cons h1 h2,h=>by
  cases d with
  | tup t =>
   unfold zeZ at h
   obtain ⟨k,hk,h⟩:=oBd h
   obtain ⟨zs,hz,rfl⟩:=oMd h
   obtain ⟨a,us,rfl,ha,ra⟩:=h1.tup_inv
   have e:=zfD ra hk
   subst e
   obtain ⟨q1,q2⟩:=zhI gh h2 hz
   refine ⟨by rw [qh,qh,q1],fun i t' e=>?_⟩
   cases i with
   | zero=>cases e;exact ⟨a,rfl,gh _ _ ha⟩
   | succ i=>exact q2 i t' e
  | _=>cases h
def zfX:D->Option D
 | .lst l=>if l.length<=300 then match zgr l with
  | some ks=>some (.int (dd ks).length)
  | none=>(zeZ l).map fun ts=>.int (dd ts).length
  else none
 | _=>none
section
variable {Γ:Cn} {X:Cx} {e:Expr} {f:FE} {pos p p2 pos2:Pos}
theorem zm9 (hc:X.calm=true) (hu:X.A.units+66 < cLine) (hgl:Gl X "len") (hml:X.mg "len"=none) (hgs:Gl X "set") (hms:X.mg "set"=none) (h:DE Γ X e f)
  (h1:starEach ([.Call (.Name "set" p2) [e] [] pos2]:List Expr) X.env=(false,eval (.Call (.Name "set" p2) [e] [] pos2) X.env)::starEach [] X.env:=by rfl) (h2:(backTo pos (starEach [] X.env)).any (·.1)=false:=by rfl)
  (h3:starEach ([e]:List Expr) X.env=(false,eval e X.env)::starEach [] X.env:=by rfl) (h4:(backTo pos2 (starEach [] X.env)).any (·.1)=false:=by rfl) :
  DE Γ X (.Call (.Name "len" p) [.Call (.Name "set" p2) [e] [] pos2] [] pos) (b1 zfX f):=⟨by
 refine (zkC zke hgl hml (by rfl) (zd0 (zjc (zoE hc hu) hgs hms (by rfl) (zd0 h.1 zfy h3) (by decide) (by decide) h3 h4) zfy h1) (by decide) (by decide) h1 h2).imp fun σ H Q=>?_
 rintro ⟨G₀,H₀,G,ρ,d,A,hq,k⟩
 unfold b1 at hq
 obtain ⟨x,hx,hl⟩:=oBd hq
 clear hq
 refine ⟨G₀,H₀,G,ρ,x,A,hx,fun v G1 H1 s1 r1=>?_⟩
 unfold zfX at hl
 split at hl
 ·rename_i l
  split at hl
  ·rename_i hz
   obtain ⟨a,vs,rfl,ha,ra⟩:=r1.lst_inv
   have go:∀ (n:Nat),n<=300->d=.int n->∀ p,H1 p=none->∃ p' n',[V.ref p]=[V.ref p']/\(upd H1 p (zpq p n)) p'=some (zpq p' n')/\n'<=300/\Q (.int n') (upd H1 p (zpq p n)):=fun n hn ed p hp=>by
    subst ed
    refine ⟨p,n,rfl,zaL,hn,k _ G1 _ (s1.trans (Step.newOwn s1.gh hp)) (.int _)⟩
   refine ⟨a,vs,rfl,s1.gh _ _ ha,by rw [ra.length];exact hz,?_⟩
   split at hl
   ·rename_i ks hk
    refine .inl ⟨ks,zfD ra hk,go _ ?_ (qE hl).symm⟩
    have h5:=zjs ks
    have h6:ks.length=l.length:=by
     have:=zfD ra hk
     rw [← ra.length,this,qe]
    omega
   ·obtain ⟨ts,ht,e1⟩:=oMd hl
    obtain ⟨q1,q2⟩:=zhI s1.gh ra ht
    refine .inr ⟨ts,q1,q2,go _ ?_ e1.symm⟩
    have h5:=zjs ts
    have h6:=ra.length
    omega
  ·cases hl
 ·cases hl⟩
end
end L2
end
section
namespace DT
open PySem PySem.Spec PyProof.Rows
theorem zql:typeLookup (.type "list") "keys"=pure none:=by rw [typeLookup_type,builtinLookup_eq_fast];kernel_rfl
theorem zqm:typeLookup (.type "list") "__getattr__"=pure none:=by rw [typeLookup_type,builtinLookup_eq_fast];kernel_rfl
theorem zmp {l:Addr} {u:Tok} {R:Result->Shared->Prop} {prog:Program} {w:World} {A:Around} {s:Shared} {xs:Array Value} {n:Nat} (hx:s.heap.get? l=some { cls:=.type "list",data:=.seq xs n }) (hA:A.handled=none)
  (h:∀ h' tk e,Heap.NewAttrErr s.heap h' e (.ref l) "keys"->R (.error (.ref e)) { s with heap:=h',toks:=tk }) :
  codeAny (model prog w) A (.call (.builtin "list.__getattribute__") ⟨[.ref l,.str "keys" u],[]⟩) R s:=by
 obtain ⟨hp,g,d,tk,os⟩:=s
 have hT:(⟨hp,g,d,tk,os⟩:Shared).TypeIs (.ref l) "list":=⟨_,hx,rfl⟩
 have f1:=zql
 refine codeAny_call_builtin F.slot_list_getattribute.plain F.entry_list_ga (F.slot_list_getattribute.check _ _ _ _ _ _ _ _ hT (F.args_list_getattribute_2 _ _) ?_)
 unfold Builtin.«object.__getattribute__»
 repeat (any_goals (first | assumption | wp_step))
 have hsz:(Str.ofString "keys").length+100<=sizeLine:=by rw [PySem.ofString_length];decide
 refine wpAny_raiseAttrError (A:=A.in1) hA h ?_
 exact attrMsg_fits (by decide +kernel) hsz
set_option maxHeartbeats 4000000 in
theorem zmA {l:Addr} {Q:Option Value->Shared->Prop} {prog:Program} {w:World} {A:Around} {E:Value->Shared->Prop} {s:Shared} {xs:Array Value} {n:Nat} (hx:s.heap.get? l=some { cls:=.type "list",data:=.seq xs n }) (hA:A.handled=none)
  (h:∀ h' tk,(∀ b ob,s.heap.get? b=some ob->h'.get? b=some ob)->Q none { s with heap:=h',toks:=tk }) :
  wpAny (model prog w) A (getAttr? (.ref l) "keys") Q E s:=by
 obtain ⟨hp,g,d,tk,os⟩:=s
 have hT:∀ tk',(⟨hp,g,d,tk',os⟩:Shared).TypeIs (.ref l) "list":=fun _=>⟨_,hx,rfl⟩
 have f1:=sub_AttributeError
 have f2:=F.slot_list_getattribute.lookup
 have f3:=F.slot_list_getattribute.bind (.ref l)
 have f5:=zqm
 unfold getAttr? getAttrBy?
 refine qv (wpAny_mkText ?_)
 refine qv (wpAny_attempt ?_)
 unfold getAttrBy
 refine qQ (qv (wpAny_typeOf (hT _) (qv (wpAny_of_eq f2 ?_))))
 show wpAny _ _ (getAttrByItsOwn _ _ _ _ _ _) _ _ _
 unfold getAttrByItsOwn
 refine qv (m:=hookBefore (Value.type "list")) (qx ?_)
 refine qv (wpAny_attempt (qQ ?_))
 show wpAny _ _ (boundAndCalled _ _ _) _ _ _
 unfold boundAndCalled
 refine qv (wpAny_of_eq f3 ?_)
 refine wpAny_call (zmp (s:=⟨hp,g,d,tk+1,os⟩) hx hA fun h' tk' e hn=>?_)
 obtain ⟨t',u',he⟩:=hn.there
 have hE:Shared.TypeIs ⟨h',g,d,tk',os⟩ (.ref e) "AttributeError":=⟨_,he,rfl⟩
 show wpAny _ _ (getattributeRaised _ _ _ _ _ _ _) _ _ _
 unfold getattributeRaised
 refine qv (wpAny_isInstance hE f1 ?_)
 simp only [if_true]
 refine qv (m:=hookBehind (Value.type "list") none) (wpAny_of_eq f5 ?_)
 unfold hookOrError attributeErrorLeaves
 simp only [Bool.not_false,if_true]
 refine qv (wpAny_throw ?_)
 refine qv (wpAny_isInstance hE f1 ?_)
 simp only [if_true]
 exact qx (h h' tk' hn.keeps)
end DT
end
section
namespace DT
open PySem PySem.Spec PyProof.Rows
theorem zhZ:entryFor table "dict.update.loop"=some Builtin.«dict.update.loop»:=entryFor_of_tree (by kernel_rfl)
theorem zeK:plainId "dict.update.loop"=true:=by decide +kernel
section
variable {prog:Program} {w:World} {A:Around} {R:Result->Shared->Prop} {I:Addr} {fp wr:List Addr} {G:Array GenState->Array GenState->Prop} {n:Nat} {P:Nat->Value->Prop} {St:Nat->Shared->Prop}
def ztq (prog:Program) (w:World) (A:Around) (S:Addr) (h0:Heap) (P:Nat->Value->Prop) (n:Nat) (J:Nat->Obj->Prop):Prop :=
 ∀ (i:Nat) (b:Addr) (kv vv:Value) (s:Shared) (o:Obj) (Q:Unit->Shared->Prop) (E:Value->Shared->Prop),i < n->P i (.ref b)->h0.IsTuple b #[kv,vv]->s.heap.get? S=some o->J i o->(∀ b o,b < h0.objs.size->h0.get? b=some o->s.heap.get? b=some o) ->
  (∀ h' tk o',s.toks<=tk->Heap.SameBut S s.heap h'->h'.get? S=some o'->J (i+1) o'->Q () { s with heap:=h',toks:=tk })->wpAny (model prog w) A (dictSet S kv vv) Q E s
theorem zm1 (W:WalksS prog w A.in1 I fp wr G n P St) (S:Addr) (hSf:S∉fp) (h0:Heap) (hS0:h0.objs.size<=S) (hw0:∀ b∈wr,h0.objs.size<=b) (J:Nat->Obj->Prop) (hadd:ztq prog w A.in1 S h0 P n J) (hP:∀ i v,P i v->∃ b kv vv,v=.ref b/\h0.IsTuple b #[kv,vv]) :
  ∀ (k i:Nat) (c:Int) (s:Shared) (o:Obj),n - i=k->i<=n->St i s->s.heap.get? S=some o->J i o->(∀ b o,b < h0.objs.size->h0.get? b=some o->s.heap.get? b=some o) ->
   (∀ s' o',Moved (S::wr) G s s'->s'.heap.get? S=some o'->J n o'->R (.ok (.ret .none)) s') ->
   codeAny (model prog w) A (.builtin "dict.update.loop" ⟨[.ref S,.ref I,rawInt c,.none],[]⟩) R s:=by
 have hSw:S∉wr:=fun h=>hSf (W.sub _ h)
 have hsub:∀ b∈wr,b∈S::wr:=fun b hb=>qg _ hb
 have keep:∀ {h h':Heap},(∀ b o,b < h0.objs.size->h0.get? b=some o->h.get? b=some o)->(∀ b o,b∉S::wr->h.get? b=some o->h'.get? b=some o)->∀ b o,b < h0.objs.size->h0.get? b=some o->h'.get? b=some o:=fun q1 q2 b o hb e=>q2 b o (fun z=>by
  rcases List.mem_cons.mp z with z | z
  ·rw [z] at hb;exact absurd hb (Nat.not_lt.mpr hS0)
  ·exact absurd hb (Nat.not_lt.mpr (hw0 b z))) (q1 b o hb e)
 intro k
 induction k with
 | zero =>
  intro i c s o hk hi hst hS hJ hB hR
  have hin:i=n:=by omega
  subst hin
  refine codeAny_builtin zhZ ?_
  rw [Around.under_plainId zeK _]
  show wpAny _ A.in1 (pyNext (.ref I) >>= _) _ _ s
  refine qv (W.done s _ _ hst fun s' hm=>?_)
  show wpAny _ A.in1 (Builtin.Dict.addKeywords S [] >>= _) _ _ s'
  exact qv (qx (qx (hR s' o (hm.mono hsub) (hm.heap S _ hSw hS) hJ)))
 | succ k ih =>
  intro i c s o hk hi hst hS hJ hB hR
  have hlt:i < n:=by omega
  refine codeAny_builtin zhZ ?_
  rw [Around.under_plainId zeK _]
  show wpAny _ A.in1 (pyNext (.ref I) >>= _) _ _ s
  refine qv (W.item i s _ _ hlt hst fun v s' hPv hst' hm=>?_)
  obtain ⟨b,kv,vv,rfl,hb⟩:=hP i v hPv
  have hB':=keep hB fun b o hb e=>hm.heap b o (fun z=>hb (hsub b z)) e
  obtain ⟨ob,hob,hoc,nn,hod⟩:=hb
  have hob':s'.heap.get? b=some ob:=hB' b ob (qt hob) hob
  have hTb:s'.TypeIs (.ref b) "tuple":=⟨_,hob',hoc⟩
  show wpAny _ A.in1 (holding [Value.ref b] _ >>= _) _ _ s'
  refine qv (qQ ?_)
  refine qv ?_
  refine wpAny_tryCatch ?_
  unfold Builtin.Dict.pairItems
  refine qv (wpAny_typeOf hTb ?_)
  rw [qV (by decide)]
  refine qv (wpAny_seqItems hob' hod (qx ?_))
  show wpAny _ A.in1 (holding [kv,vv] (dictSet S kv vv)) _ _ s'
  refine qQ (hadd i b kv vv s' o _ _ hlt hPv ⟨ob,hob,hoc,nn,hod⟩ (hm.heap S _ hSw hS) hJ hB' fun h' tk o' htk hsb hS' hJ'=>?_)
  refine qx ⟨plainId_quiet zeK _,ih (i+1) (c+1) _ o' (by omega) hlt (W.frame _ s' _ _ hst' htk fun b hb o e=>?_) hS' hJ' ?_ fun s'' o'' hm'' hS'' hJ''=>?_⟩
  ·rw [hsb.2 b (fun h:b=S=>hSf (by rw [← h];exact hb))];exact e
  ·refine keep hB' fun b o hb e=>?_
   show h'.get? b=some o
   rw [hsb.2 b (fun h:b=S=>hb (by rw [h];exact qf))];exact e
  ·refine hR s'' o'' (Moved.trans W.gtrans ((hm.mono hsub).then_heap htk fun b o hb e=>?_) hm'') hS'' hJ''
   rw [hsb.2 b (fun h:b=S=>hb (by rw [h];exact qf))];exact e
end
section
variable {prog:Program} {w:World} {A:Around} {E:Value->Shared->Prop} {s:Shared}
theorem call_dict_gen {l:Addr} {items:Array Value} {c:Nat} {Q:Value->Shared->Prop} (hh:A.handled=none) (hl:s.heap.get? l=some { cls:=.type "list",data:=.seq items c }) (J:Nat->Obj->Prop)
  (hJ0:J 0 { cls:=.type "dict",data:=.dict #[] })
  (hadd:∀ A':Around,A'.units<=A.units+16->ztq prog w A' s.heap.objs.size s.heap (fun i v=>items[i]?=some v) items.size J)
  (hP:∀ (i:Nat) (v:Value),items[i]?=some v->∃ b kv vv,v=.ref b/\s.heap.IsTuple b #[kv,vv])
  (h:∀ (h':Heap) (tk:Nat) (o:Obj),h'.get? s.heap.objs.size=some o->J items.size o ->
   (∀ b o,b < s.heap.objs.size->s.heap.get? b=some o->h'.get? b=some o)->Q (.ref s.heap.objs.size) { s with heap:=h',toks:=tk }) :
  wpAny (model prog w) A (call (.type "dict") [.ref l]) Q E s:=by
 refine callType_codes (Q₁:=fun obj s₁=>obj=.ref s.heap.objs.size/\s₁={ s with heap:=s.heap.push { cls:=.type "dict",data:=.dict #[] } }) F.kt_called_dict (F.kt_typeCall_dict_1 _) F.entry_dict_init (kt_code_dict_new _ ⟨rfl,rfl⟩) ?_
 rintro obj s₁ ⟨rfl,rfl⟩
 have hnew:(s.heap.push { cls:=.type "dict",data:=.dict #[] }).get? s.heap.objs.size=some { cls:=.type "dict",data:=.dict #[] }:=qD _ rfl
 have hl1:(s.heap.push { cls:=.type "dict",data:=.dict #[] }).get? l=some { cls:=.type "list",data:=.seq items c }:=qr _ hl
 have hT:Shared.TypeIs { s with heap:=s.heap.push { cls:=.type "dict",data:=.dict #[] } } (.ref s.heap.objs.size) "dict":=⟨_,hnew,rfl⟩
 have hTl:Shared.TypeIs { s with heap:=s.heap.push { cls:=.type "dict",data:=.dict #[] } } (.ref l) "list":=⟨_,hl1,rfl⟩
 refine ⟨hT,F.args_dict_init_2 _ _,?_⟩
 unfold Builtin.«dict.__init__»
 refine qv ?_
 unfold Builtin.Dict.selfAndRest
 refine qv (wpAny_notOrdered_dict hT ?_)
 show wpAny _ _ (pure (s.heap.objs.size,[Value.ref l])) _ _ _
 refine qx ?_
 show wpAny _ _ (Builtin.Dict.updateFrom "dict.__init__" s.heap.objs.size (.ref l) [] .none) _ _ _
 unfold Builtin.Dict.updateFrom
 refine qv (wpAny_typeOf hTl ?_)
 rw [qV (by decide)]
 refine qv (zmA (s:={ s with heap:=s.heap.push { cls:=.type "dict",data:=.dict #[] } }) (A:=A.in1.in1) hl1 hh fun h1 tk1 hk1=>?_)
 simp only [Option.isNone_none,if_true]
 refine qv (wpAny_rule ?_)
 have hl2:h1.IsList l items:=⟨_,hk1 _ _ hl1,rfl,_,rfl⟩
 refine qv (wpAny_pyIter_list (s:={ s with heap:=h1,toks:=tk1 }) hl2 ?_)
 refine qx ⟨plainId_quiet zeK _,?_⟩
 have hlS:l < s.heap.objs.size:=qt hl
 have hsz1:s.heap.objs.size < h1.objs.size:=qt (hk1 _ _ hnew)
 have hneI:l≠h1.objs.size:=qz (Nat.lt_trans hlS hsz1)
 have hSf:s.heap.objs.size∉[h1.objs.size,l]:=by
  simp only [qI,List.mem_singleton,qG,or_false,not_or]
  exact ⟨qz hsz1,Nat.ne_of_gt hlS⟩
 have old:∀ b o,b < s.heap.objs.size->s.heap.get? b=some o->h1.get? b=some o:=fun b o _ e=>hk1 _ _ (qr _ e)
 refine zm1 ((Walks.list (A:=A.in1.in1) (by simpa using hh) _ l hneI items).toS) s.heap.objs.size hSf s.heap (qu _) (fun b hb=>?_) J (hadd _ (by show A.units+2<=_;omega)) hP (items.size - 0) 0 0 _ _ (by omega) (Nat.zero_le _)
  ⟨⟨_,qD _ rfl,rfl,rfl⟩,hl2.push _⟩ (qr _ (hk1 _ _ hnew)) hJ0 (fun b o hb e=>qr _ (old b o hb e)) fun s' o' hm hS' hJ'=>?_
 ·have:b=h1.objs.size:=by simpa using hb
  rw [this];exact Nat.le_of_lt hsz1
 ·obtain ⟨h',g',d',tk',os'⟩:=s'
  have eg:g'=s.gens:=hm.gens
  have ed:d'=s.drawn:=hm.drawn
  have eo:os'=s.os:=hm.os
  subst eg;subst ed;subst eo
  refine ⟨rfl,h h' tk' o' hS' hJ' fun b o hb e=>hm.heap b o ?_ (qr _ (old b o hb e))⟩
  simp only [qI,List.mem_singleton,qG,or_false,not_or]
  exact ⟨qz hb,qz (Nat.lt_trans hb hsz1)⟩
end
end DT
end
section
namespace L2
open PySem PySem.Spec PyProof.Rows
section
variable {κ:Type} [DecidableEq κ]
def mrg (kvs ps:List (κ×V)):List (κ×V):=ps.foldl (fun acc kv=>zhP acc kv.1 kv.2) kvs
theorem zkK (kvs ps:List (κ×V)) (p:κ×V):mrg kvs (ps++[p])=zhP (mrg kvs ps) p.1 p.2:=by unfold mrg;rw [List.foldl_append];rfl
theorem znO (kvs:List (κ×V)) (k:κ) (v:V):(zhP kvs k v).length<=kvs.length+1:=by
 unfold zhP
 split
 ·rw [qe];omega
 ·rw [qi,qT];omega
theorem zgS:∀ (ps kvs:List (κ×V)),(mrg kvs ps).length<=kvs.length+ps.length
 | [],kvs=>qu _
 | p::ps,kvs=>by
  have h1:=zgS ps (zhP kvs p.1 p.2)
  have h2:=znO kvs p.1 p.2
  show (mrg (zhP kvs p.1 p.2) ps).length<=_
  rw [qh]
  omega
end
section
variable {X:Cx}
def zrX:List V->Hp->VK->Prop:=fun xs H Q=>∃ (a:Addr) (vs:List V) (ps:List (Key×V)),xs=[.ref a]/\H a=some (.lst vs)/\vs.length=ps.length/\ps.length<=1000/\(∀ (i:Nat) p,ps[i]?=some p->∃ b,vs[i]?=some (.ref b)/\H b=some (.tup [kV p.1,p.2])) /\
 ∀ q,H q=none->Q (.ref q) (upd H q (.dK (mrg [] ps)))
theorem zmh {pins:List (Addr×Obj)} {σ:St} {H:Hp} {s:Shared} {b:Addr} {x y:V} (I:Inv X pins σ H s) (hb:H b=some (.tup [x,y])):∃ u v,zcF x u/\zcF y v/\s.heap.IsTuple b #[u,v]:=by
 obtain ⟨its,r,p,_⟩:=I.tuple (.inl (.inl hb))
 cases r with
 | cons r1 r2 =>
  cases r2 with
  | cons r2 r3 =>
   cases r3
   exact ⟨_,_,r1,r2,p⟩
theorem tuple_inj {h:Heap} {b:Addr} {x y:Array Value} (p:h.IsTuple b x) (q:h.IsTuple b y):x=y:=by
 obtain ⟨o,h1,_,n,h2⟩:=p
 obtain ⟨o',g1,_,m,g2⟩:=q
 rw [h1] at g1
 cases g1
 rw [h2] at g2
 cases g2
 rfl
theorem zly (hc:X.calm=true) (hu:X.A.units+66 < cLine):zfK X (.type "dict") zrX:=by
 intro pins s σ H xs us Q I r h
 obtain ⟨a,vs,ps,rfl,ha,hl,hz,hp,q⟩:=h
 obtain ⟨u,rfl,ru⟩:=zfL r
 cases ru
 obtain ⟨z,its,n,rv,hlen,e⟩:=I.lstM ha
 have hsz:its.toArray.size=ps.length:=by rw [qy,← hlen,hl]
 have hit:∀ (i:Nat) (v:Value),its.toArray[i]?=some v->∃ p b u w,ps[i]?=some p/\v=.ref b/\zcF (kV p.1) u/\zcF p.2 w/\s.heap.IsTuple b #[u,w]:=fun i v hv=>by
  have hi:i < ps.length:=by rw [← hsz];exact (Array.getElem?_eq_some_iff.mp hv).1
  obtain ⟨b,hb1,hb2⟩:=hp i ps[i] (by simp [hi])
  obtain ⟨u2,hu2,ru2⟩:=rv.get hb1
  have hv':its[i]?=some v:=by simpa using hv
  rw [hu2] at hv'
  cases hv'
  cases ru2
  obtain ⟨u,w,r1,r2,r3⟩:=zmh I hb2
  exact ⟨ps[i],b,u,w,by simp [hi],rfl,r1,r2,r3⟩
 refine DT.call_dict_gen (I.ok.hd hc) e (fun i o=>∃ vs',KV (mrg [] (ps.take i)) vs'/\o.IsDictOf (zbo X.prog X.w) vs') ?_ (fun A' hA' i b kv vv sh o Q' E' hi hv hb ho hJ hB hQ=>?_) (fun i v hv=>?_) fun h' tk o ho hJ hk=>?_
 ·obtain ⟨o,ho,hd⟩:=Heap.dictOf_iff.mp (Heap.DictOf.new (knd:=zbo X.prog X.w) s.heap)
  have:o={ cls:=.type "dict",data:=.dict #[] }:=by
   have:=qD s.heap (o:={ cls:=.type "dict",data:=.dict #[] }) rfl
   rw [this] at ho
   exact (qE ho).symm
  subst this
  exact ⟨[],.nil,hd⟩
 ·obtain ⟨p,b',u,w,h1,h2,h3,h4,h5⟩:=hit i _ hv
  cases h2
  have e2:=tuple_inj hb h5
  have e3:kv=u/\vv=w:=by simpa using e2
  obtain ⟨rfl,rfl⟩:=e3
  obtain ⟨vs',k1,k2⟩:=hJ
  have hle:vs'.length<=1000:=by
   have q1:=k1.length
   have q2:=zgS (ps.take i) ([]:List (Key×V))
   rw [qB,qk] at q2
   omega
  refine wpAny_dictSet_pairs (zog h3) (Heap.dictOf_iff.mpr ⟨o,ho,k2⟩) (fun h' hd' hsb=>?_) (by rw [sizeLine_eq];omega)
  obtain ⟨o',ho',hd''⟩:=Heap.dictOf_iff.mp hd'
  refine hQ h' _ o' (Nat.le_succ _) hsb ho' ⟨_,?_,hd''⟩
  have htk:ps.take (i+1)=ps.take i++[p]:=by rw [List.take_succ,h1];rfl
  rw [htk,zkK]
  exact k1.put p.1 h4
 ·obtain ⟨p,b,u,w,h1,h2,h3,h4,h5⟩:=hit i v hv
  exact ⟨b,u,w,h2,h5⟩
 ·obtain ⟨vs',k1,k2⟩:=hJ
  rw [hsz,List.take_length] at k1
  refine ⟨.ref s.heap.objs.size,_,I.laid (a:=s.heap.objs.size) (o:=.dK (mrg [] ps)) (fun b u e=>hk b u (qt e) e) (qu _) ⟨?_,?_,vs',k1,Heap.dictOf_iff.mpr ⟨o,ho,k2⟩⟩,rfl,q _ I.fresh⟩
  ·have:=zgS ps ([]:List (Key×V))
   rw [qk] at this
   rw [sizeLine_eq]
   omega
  ·exact beq_eq_false_iff_ne.mpr (Ne.symm (qz I.big))
def zrW:List V->Hp->VK->Prop:=fun xs H Q=>∃ (a:Addr) (vs:List V) (ps:List (List Key×V)),xs=[.ref a]/\H a=some (.lst vs)/\vs.length=ps.length/\ps.length<=1000/\(∀ (i:Nat) p,ps[i]?=some p->∃ b kb,vs[i]?=some (.ref b)/\H b=some (.tup [.ref kb,p.2])/\H kb=some (.tup (p.1.map kV))) /\
 ∀ q,H q=none->Q (.ref q) (upd H q (.dT (mrg [] ps)))
theorem zsI {H:Hp} {P:List Key->Addr->Prop} (hP:∀ k b,H b=some (.tup (k.map kV))->P k b):∀ {kvs:List (List Key×V)} {xs:List (List Key×Addr×Value)},KT H kvs xs->∀ x∈xs,P x.1 x.2.1:=by
 intro kvs xs q
 induction q with
 | nil=>intro x hx;cases hx
 | @cons p y ps ys hq t ih =>
  intro x hx
  rcases List.mem_cons.mp hx with rfl | hx
  ·exact hP _ _ (by rw [← hq.1];exact hq.2.1)
  ·exact ih x hx
theorem zlx (hc:X.calm=true) (hu:X.A.units+66 < cLine):zfK X (.type "dict") zrW:=by
 intro pins s σ H xs us Q I r h
 obtain ⟨a,vs,ps,rfl,ha,hl,hz,hp,q⟩:=h
 obtain ⟨u,rfl,ru⟩:=zfL r
 cases ru
 obtain ⟨z,its,n,rv,hlen,e⟩:=I.lstM ha
 have hsz:its.toArray.size=ps.length:=by rw [qy,← hlen,hl]
 have hit:∀ (i:Nat) (v:Value),its.toArray[i]?=some v->∃ p b kb w,ps[i]?=some p/\v=.ref b/\H kb=some (.tup (p.1.map kV))/\zcF p.2 w/\s.heap.IsTuple b #[.ref kb,w]:=fun i v hv=>by
  have hi:i < ps.length:=by rw [← hsz];exact (Array.getElem?_eq_some_iff.mp hv).1
  obtain ⟨b,kb,hb1,hb2,hb3⟩:=hp i ps[i] (by simp [hi])
  obtain ⟨u2,hu2,ru2⟩:=rv.get hb1
  have hv':its[i]?=some v:=by simpa using hv
  rw [hu2] at hv'
  cases hv'
  cases ru2
  obtain ⟨u,w,r1,r2,r3⟩:=zmh I hb2
  cases r1
  exact ⟨ps[i],b,kb,w,by simp [hi],rfl,hb3,r2,r3⟩
 have isk:∀ {h':Heap},(∀ b o,b < s.heap.objs.size->s.heap.get? b=some o->h'.get? b=some o)->∀ k b,H b=some (.tup (k.map kV))->(tupleKind (zbo X.prog X.w)).is h' k b:=fun hB k b hb=>ST.IsTupleKey.mono (zkO I.hok hb) fun o e=>hB _ _ (qt e) e
 refine DT.call_dict_gen (I.ok.hd hc) e (fun i o=>∃ xs',KT H (mrg [] (ps.take i)) xs'/\∃ es ep,o.ExactDict/\o.data=.dict es ep/\es.toList=xs'.map (entryOfKey (tupleKind (zbo X.prog X.w)))/\(xs'.map (·.1)).Nodup) ?_ (fun A' hA' i b kv vv sh o Q' E' hi hv hb ho hJ hB hQ=>?_) (fun i v hv=>?_) fun h' tk o ho hJ hk=>?_
 ·exact ⟨[],.nil,#[],0,⟨rfl,rfl,rfl⟩,rfl,rfl,List.nodup_nil⟩
 ·obtain ⟨p,b',kb,w,h1,h2,h3,h4,h5⟩:=hit i _ hv
  cases h2
  have e2:=tuple_inj hb h5
  have e3:kv=.ref kb/\vv=w:=by simpa using e2
  obtain ⟨rfl,rfl⟩:=e3
  obtain ⟨xs',k1,es,ep,k2,k3,k4,k5⟩:=hJ
  have hle:xs'.length<=1000:=by
   have q1:=Paired.length k1
   have q2:=zgS (ps.take i) ([]:List (List Key×V))
   rw [qB,qk] at q2
   omega
  refine wpAny_dictSet_heap (knd:=tupleKind (zbo X.prog X.w)) (show A'.units < cLine by omega) (isk hB _ _ h3) ⟨o,es,ep,ho,k2,k3,k4,zsI (isk hB) k1,k5⟩ (fun h' hd' hsb=>?_) (by rw [sizeLine_eq];omega)
  obtain ⟨o',es',ep',ho',w2,w3,w4,_,w5⟩:=hd'
  refine hQ h' _ o' (Nat.le_add_right _ _) hsb ho' ⟨_,?_,es',ep',w2,w3,w4,w5⟩
  have htk:ps.take (i+1)=ps.take i++[p]:=by rw [List.take_succ,h1];rfl
  rw [htk,zkK]
  exact k1.put p.1 h3 h4
 ·obtain ⟨p,b,kb,w,h1,h2,h3,h4,h5⟩:=hit i v hv
  exact ⟨b,_,w,h2,h5⟩
 ·obtain ⟨xs',k1,es,ep,k2,k3,k4,k5⟩:=hJ
  rw [hsz,List.take_length] at k1
  refine ⟨.ref s.heap.objs.size,_,I.laid (a:=s.heap.objs.size) (o:=.dT (mrg [] ps)) (fun b u e=>hk b u (qt e) e) (qu _) ⟨?_,?_,xs',k1.keeps fun b ys e=>?_,o,es,ep,ho,k2,k3,k4,k5⟩,rfl,q _ I.fresh⟩
  ·have:=zgS ps ([]:List (List Key×V))
   rw [qk] at this
   rw [sizeLine_eq]
   omega
  ·exact beq_eq_false_iff_ne.mpr (Ne.symm (qz I.big))
  ·rw [zaz (zau e I.fresh)];exact e
end
section
variable {Γ:Cn} {X:Cx}
def zhS:List D->Option (List (Key×D))
 | []=>some []
 | .tup [k,v]::r=>(zot k).bind fun kk=>(zhS r).map ((kk,v)::·)
 | _::_=>none
def zgP:List D->Option (List (List Key×D))
 | []=>some []
 | .tup [.tup t,v]::r=>(zgr t).bind fun kk=>(zgP r).map ((kk,v)::·)
 | _::_=>none
def zty {κ:Type} [DecidableEq κ] (ps:List (κ×D)):List (κ×D):=ps.foldl (fun acc kv=>zlj acc kv.1 kv.2) []
def zjq:List D->Option D
 | [.lst l]=>if l.length<=1000 then (zhS l).map fun ps=>.dk (zty ps) else none
 | _=>none
def zkZ:List D->Option D
 | [.lst l]=>if l.length<=1000 then (zgP l).map fun ps=>.dt (zty ps) else none
 | _=>none
theorem zmz {κ:Type} [DecidableEq κ] {K:PySem.W.Frag} {G:Hp}:∀ {us:List (κ×V)} {kvs:List (κ×D)} {acc:List (κ×V)} {acd:List (κ×D)},us.map (·.1)=kvs.map (·.1)->Reps Γ K G (us.map (·.2)) (kvs.map (·.2))->acc.map (·.1)=acd.map (·.1)->Reps Γ K G (acc.map (·.2)) (acd.map (·.2)) ->
  (mrg acc us).map (·.1)=(kvs.foldl (fun acc kv=>zlj acc kv.1 kv.2) acd).map (·.1)/\Reps Γ K G ((mrg acc us).map (·.2)) ((kvs.foldl (fun acc kv=>zlj acc kv.1 kv.2) acd).map (·.2))
 | [],[],_,_,_,_,e,r=>⟨e,r⟩
 | [],_::_,_,_,e,_,_,_=>by cases e
 | _::_,[],_,_,e,_,_,_=>by cases e
 | (k1,v)::us,(k2,d)::kvs,acc,acd,e,r,e0,r0=>by
  have e1:k1=k2:=(List.cons.inj e).1
  subst e1
  have r:Reps Γ K G (v::us.map (·.2)) (d::kvs.map (·.2)):=r
  cases r with
  | cons r1 r2 =>
   obtain ⟨w1,w2⟩:=zo3 (k:=k1) r1 e0 r0
   exact zmz (us:=us) (kvs:=kvs) (List.cons.inj e).2 r2 w1 w2
theorem zje {K:PySem.W.Frag} {G H:Hp} (gh:zb4 G H):∀ {vs:List V} {ds:List D} {ps:List (Key×D)},Reps Γ K G vs ds->zhS ds=some ps ->
  ∃ us:List (Key×V),vs.length=us.length/\us.map (·.1)=ps.map (·.1)/\Reps Γ K G (us.map (·.2)) (ps.map (·.2))/\∀ (i:Nat) p,us[i]?=some p->∃ b,vs[i]?=some (.ref b)/\H b=some (.tup [kV p.1,p.2])
 | _,[],ps,r,h=>by cases r;cases h;exact ⟨[],rfl,rfl,.nil,fun i p e=>by simp at e⟩
 | _,d::ds,ps,.cons h1 h2,h=>by
  unfold zhS at h
  split at h
  ·rename_i heq;cases heq
  ·rename_i heq
   cases heq
   obtain ⟨kk,hk,h⟩:=oBd h
   obtain ⟨zs,hz,rfl⟩:=oMd h
   obtain ⟨us,q1,q2,q3,q4⟩:=zje gh h2 hz
   obtain ⟨a,ws,rfl,ha,ra⟩:=h1.tup_inv
   obtain ⟨x,y,rfl,rx,ry⟩:=ra.two
   have ex:=zkb rx hk
   subst ex
   refine ⟨(kk,y)::us,by rw [qh,qh,q1],by simp [q2],.cons ry q3,fun i p e=>?_⟩
   cases i with
   | zero=>cases e;exact ⟨a,rfl,gh _ _ ha⟩
   | succ i=>exact q4 i p e
  ·cases h
theorem zjd {K:PySem.W.Frag} {G H:Hp} (gh:zb4 G H):∀ {vs:List V} {ds:List D} {ps:List (List Key×D)},Reps Γ K G vs ds->zgP ds=some ps ->
  ∃ us:List (List Key×V),vs.length=us.length/\us.map (·.1)=ps.map (·.1)/\Reps Γ K G (us.map (·.2)) (ps.map (·.2))/\∀ (i:Nat) p,us[i]?=some p->∃ b kb,vs[i]?=some (.ref b)/\H b=some (.tup [.ref kb,p.2])/\H kb=some (.tup (p.1.map kV))
 | _,[],ps,r,h=>by cases r;cases h;exact ⟨[],rfl,rfl,.nil,fun i p e=>by simp at e⟩
 | _,d::ds,ps,.cons h1 h2,h=>by
  unfold zgP at h
  split at h
  ·rename_i heq;cases heq
  ·rename_i heq
   cases heq
   obtain ⟨kk,hk,h⟩:=oBd h
   obtain ⟨zs,hz,rfl⟩:=oMd h
   obtain ⟨us,q1,q2,q3,q4⟩:=zjd gh h2 hz
   obtain ⟨a,ws,rfl,ha,ra⟩:=h1.tup_inv
   obtain ⟨x,y,rfl,rx,ry⟩:=ra.two
   obtain ⟨kb,ks,rfl,hkb,rk⟩:=rx.tup_inv
   have ex:=zfD rk hk
   subst ex
   refine ⟨(kk,y)::us,by rw [qh,qh,q1],by simp [q2],.cons ry q3,fun i p e=>?_⟩
   cases i with
   | zero=>cases e;exact ⟨a,kb,rfl,gh _ _ ha,gh _ _ hkb⟩
   | succ i=>exact q4 i p e
  ·cases h
theorem zkp (hc:X.calm=true) (hu:X.A.units+66 < cLine):TyD Γ X "dict" zjq:=⟨_,zly hc hu,fun {G H vs ds z} gh r h Q k=>by
 unfold zjq at h
 split at h
 ·split at h
  ·rename_i hz
   obtain ⟨ps,hp,rfl⟩:=oMd h
   obtain ⟨v,rfl,r1⟩:=r.one
   obtain ⟨a,ws,rfl,ha,ra⟩:=r1.lst_inv
   obtain ⟨us,q1,q2,q3,q4⟩:=zje gh ra hp
   refine ⟨a,ws,us,rfl,gh _ _ ha,q1,by rw [← q1,ra.length];exact hz,q4,fun p hp=>?_⟩
   have s:=Step.new (o:=.dK (mrg [] us)) gh hp
   obtain ⟨w1,w2⟩:=zmz (acc:=[]) (acd:=[]) q2 q3 rfl .nil
   exact k _ _ _ s (.dk zaL w1 (w2.mono s.gg))
  ·cases h
 ·cases h⟩
theorem znA (hc:X.calm=true) (hu:X.A.units+66 < cLine):TyD Γ X "dict" zkZ:=⟨_,zlx hc hu,fun {G H vs ds z} gh r h Q k=>by
 unfold zkZ at h
 split at h
 ·split at h
  ·rename_i hz
   obtain ⟨ps,hp,rfl⟩:=oMd h
   obtain ⟨v,rfl,r1⟩:=r.one
   obtain ⟨a,ws,rfl,ha,ra⟩:=r1.lst_inv
   obtain ⟨us,q1,q2,q3,q4⟩:=zjd gh ra hp
   refine ⟨a,ws,us,rfl,gh _ _ ha,q1,by rw [← q1,ra.length];exact hz,q4,fun p hp=>?_⟩
   have s:=Step.new (o:=.dT (mrg [] us)) gh hp
   obtain ⟨w1,w2⟩:=zmz (acc:=[]) (acd:=[]) q2 q3 rfl .nil
   exact k _ _ _ s (.dt zaL w1 (w2.mono s.gg))
  ·cases h
 ·cases h⟩
end
end L2
end
section
namespace L2
open PySem PySem.Spec PyProof.Rows
section
variable {Γ:Cn} {X:Cx} {e:Expr} {es:List Expr} {fr:FA} {pos p2:Pos} {x:Str}
def spO (Γ:Cn) (K:PySem.W.Frag) (n:Nat) (F:List D->Option (List D)):Sp:=fun vs H Q _=>∃ G ds rs,zb4 G H/\Reps Γ K G vs ds/\ds.length=n/\F ds=some rs/\∀ p us G' H',Step G H G' H'->H' p=none->Reps Γ K G' us rs->Q (.ref p) (upd H' p (.lst us))
end
structure CalO (Γ:Cn) (P:Program) (w:World) (K:PySem.W.Frag) (mg:Str->Option Value) (base:Heap) (x:Str) (n k:Nat) (F:List D->Option (List D)):Prop where
 ex:∃ f fd ps,FnOk P w K mg base CX0 k f fd ps (spO Γ K n F)/\mg x=some (.ref f)/\PySem.W.keepIn K (.ref f)=true/\zdG K fd ps []
section
variable {Γ:Cn} {X:Cx} {e:Expr} {es:List Expr} {fr:FA} {pos p:Pos}
theorem Dfn.none {P:Program} {w:World} {K:PySem.W.Frag} {mg:Str->Option Value} {base:Heap} {x:Str} {st:Stmt} {ps:List Str} {k:Nat} (F:Dfn K mg x st)
  (hb:∀ (kV doc pm:Value) (an:Option Addr) (cdv ct:Value) (us:List Value),us.length=ps.length->bindArgs (PySem.W.fnOf x x (zc4 st) (zbO st) (zaq st) .none kV doc pm an cdv ct) ⟨us,[]⟩=pure (ps.zip us))
  : Cal Γ P w K mg base x ps.length k (fun _=>Option.none):=by
 obtain ⟨f,fd,h1,h2⟩:=F.ex
 refine ⟨f,fd,ps,⟨fun vs H Q E h=>?_,fun A outer s H args us vs Q E hr I b v h=>?_⟩,h2,h1.kp,h1.binds hb⟩
 ·obtain ⟨_,_,_,_,_,_,z,_⟩:=h
  cases z
 ·obtain ⟨_,_,_,_,_,_,z,_⟩:=h
  cases z
end
end L2
end
section
namespace L2
open PySem PySem.Spec PyProof.Rows
def orG (g g':D->D->Option D) (x y:D):Option D:=match g x y with
 | some z=>some z
 | none=>g' x y
section
variable {Γ:Cn} {X:Cx} {a b c e:Expr} {fa fb:FE} {op:CmpOp} {g g':D->D->Option D}
theorem zsn {x y z:D} (h:orG g g' x y=some z):g x y=some z\/g' x y=some z:=by
 unfold orG at h
 split at h
 ·rename_i q;cases h;exact .inl q
 ·exact .inr h
theorem CmpD.or (h:CmpD Γ X op g) (h':CmpD Γ X op g'):CmpD Γ X op (orG g g'):=by
 obtain ⟨r,o,d⟩:=h.ex
 obtain ⟨r',o',d'⟩:=h'.ex
 refine ⟨_,o.or o',fun {G H v u x y z} gh r1 r2 q Q k=>?_⟩
 rcases zsn q with q | q
 ·exact .inl (d gh r1 r2 q Q k)
 ·exact .inr (d' gh r1 r2 q Q k)
def eqA:=orG eqD zuj
def neA:=orG neD zqo
theorem zti (hu:X.A.units+64 < cLine):CmpD Γ X .Eq eqA:=ziH.or (zth hu)
theorem zh2 (hu:X.A.units+64 < cLine):CmpD Γ X .NotEq neA:=zur.or (ztf hu)
theorem DfnM.mk' {K:PySem.W.Frag} {C f:Addr} {c m qual:Str} {st:Stmt} {oc:Value} {od an:Option Addr} {osl:Array (Option Value)} {kV doc pm cdv ct:Value} (a:PySem.W.findIn K (.ref C) m=some (some (.ref f))) (i:PySem.W.isFn K (.ref f)=true)
  (l:K.lookup f=some ⟨oc,od,.func (PySem.W.fnOf m qual (zc4 st) (zbO st) (zaq st) .none kV doc pm an cdv ct),osl⟩) (cd:PySem.W.codeIn K cdv qual=true) (k:PySem.W.keepIn K (.ref f)=true):DfnM K C c m qual st:=⟨f,_,zmO l cd k,a,i⟩
end
section
variable {ρ:zaX} {f1 f2 f3 f4 f5 f6 f7:FE}
theorem ln1:∀ ρ ds,zab f1 zai ρ=some ds->ds.length=1:=zdk fun _ _ h=>zoM h
theorem ln2:∀ ρ ds,zab f1 (zab f2 zai) ρ=some ds->ds.length=2:=zdk ln1
theorem ln3:∀ ρ ds,zab f1 (zab f2 (zab f3 zai)) ρ=some ds->ds.length=3:=zdk ln2
theorem ln4:∀ ρ ds,zab f1 (zab f2 (zab f3 (zab f4 zai))) ρ=some ds->ds.length=4:=zdk ln3
theorem ln5:∀ ρ ds,zab f1 (zab f2 (zab f3 (zab f4 (zab f5 zai)))) ρ=some ds->ds.length=5:=zdk ln4
theorem ln6:∀ ρ ds,zab f1 (zab f2 (zab f3 (zab f4 (zab f5 (zab f6 zai))))) ρ=some ds->ds.length=6:=zdk ln5
theorem ln7:∀ ρ ds,zab f1 (zab f2 (zab f3 (zab f4 (zab f5 (zab f6 (zab f7 zai)))))) ρ=some ds->ds.length=7:=zdk ln6
end
end L2
end
section
namespace L2
open PySem PySem.Spec PyProof.Rows
section
variable {Γ:Cn} {K:PySem.W.Frag} {G₀ H₀ G H:Hp} {ρ:zaX} {σ:St}
end
section
variable {Γ:Cn} {X:Cx} {a b c e value:Expr} {es:List Expr} {f fk fv:FE} {fr:FA} {pos pos' p dp:Pos} {g:FS} {x:Str} {sts:List Stmt}
end
end L2
end
section
namespace L2
open PySem PySem.Spec PyProof.Rows
section
variable {Γ:Cn} {X:Cx} {e c:Expr} {es:List Expr} {fr:FA} {pos p2 p pos':Pos} {x:Str} {ft:FT}
def zvr (Γ:Cn) (K:PySem.W.Frag) (n:Nat) (F:List D->Option (List (Key×D))):Sp:=fun vs H Q _=>∃ G ds rs,zb4 G H/\Reps Γ K G vs ds/\ds.length=n/\F ds=some rs/\∀ p us G' H',Step G H G' H'->H' p=none->us.map (·.1)=rs.map (·.1)->Reps Γ K G' (us.map (·.2)) (rs.map (·.2))->Q (.ref p) (upd H' p (.dK us))
structure CalD (Γ:Cn) (P:Program) (w:World) (K:PySem.W.Frag) (mg:Str->Option Value) (base:Heap) (x:Str) (n k:Nat) (F:List D->Option (List (Key×D))):Prop where
 ex:∃ f fd ps,FnOk P w K mg base CX0 k f fd ps (zvr Γ K n F)/\mg x=some (.ref f)/\PySem.W.keepIn K (.ref f)=true/\zdG K fd ps []
end
end L2
end
section
namespace L2
open PySem PySem.Spec PyProof.Rows
section
variable {X:Cx} {pins:List (Addr×Obj)} {σ:St} {H H':Hp} {s:Shared} {h':Heap}
end
section
variable {Γ:Cn} {X:Cx} {e c o tg:Expr} {es:List Expr} {fr:FA} {pos p2 p pos' apos cpos:Pos} {x:Str} {ft:FT}
mutual
theorem Rep.drop {K:PySem.W.Frag} {G G':Hp} {a:Addr} {ob:Obj} {u:List (Key×V)} (ha:G a=some (.frz ob (.dK u))) (hG:∀ b,b≠a->G' b=G b):∀ {v:V} {d:D},Rep Γ K G v d->Rep Γ K G' v d
 | _,_,.non=>.non
 | _,_,.bl b=>.bl b
 | _,_,.int i=>.int i
 | _,_,.str x=>.str x
 | _,_,.ty x=>.ty x
 | _,_,.tup h r=>.tup ((hG _ (zhy h ha (by intro z;cases z))).trans h) (Reps.drop' ha hG r)
 | _,_,.lst h r=>.lst ((hG _ (zhy h ha (by intro z;cases z))).trans h) (Reps.drop' ha hG r)
 | _,_,.scr h=>.scr (by
   rcases h with (h | ⟨ob',h⟩) | h
   ·exact .inl (.inl ((hG _ (zhy h ha (by intro z;cases z))).trans h))
   ·exact .inl (.inr ⟨ob',(hG _ (zhy h ha (by intro z;cases z))).trans h⟩)
   ·exact .inr h)
 | _,_,.dk h e r=>.dk ((hG _ (zhy h ha (by intro z;cases z))).trans h) e (Reps.drop' ha hG r)
 | _,_,.dt h e r=>.dt ((hG _ (zhy h ha (by intro z;cases z))).trans h) e (Reps.drop' ha hG r)
 | _,_,.ins h c e r=>.ins ((hG _ (zhy h ha (by intro z;cases z))).trans h) c e (Reps.drop' ha hG r)
theorem Reps.drop' {K:PySem.W.Frag} {G G':Hp} {a:Addr} {ob:Obj} {u:List (Key×V)} (ha:G a=some (.frz ob (.dK u))) (hG:∀ b,b≠a->G' b=G b):∀ {vs:List V} {ds:List D},Reps Γ K G vs ds->Reps Γ K G' vs ds
 | _,_,.nil=>.nil
 | _,_,.cons h r=>.cons (Rep.drop ha hG h) (Reps.drop' ha hG r)
end
open Classical in
end
end L2
end
section
namespace L2
open PySem PySem.Spec PyProof.Rows PyProof
section
variable {prog:Program} {w:World} {A:Around} {R:Result->Shared->Prop} {I:Addr} {fp wr:List Addr} {n:Nat} {P:Nat->Value->Prop} {St:Nat->Heap->Prop}
end
section
variable {prog:Program} {w:World} {A:Around} {E:Value->Shared->Prop} {s:Shared}
end
section
variable {Γ:Cn} {X:Cx} {e:Expr} {f:FE} {pos p:Pos}
end
end L2
end
section
namespace L2
open PySem PySem.Spec PyProof.Rows
def TDn (Γ:Cn) (K:PySem.W.Frag) (f:FE):TE:=fun σ H Q=>∃ G₀ H₀ G ρ d,At Γ K G₀ H₀ G H ρ σ/\f ρ=some d/\∀ v G' H',Step G H G' H'->Rep Γ K G' v d->NewL H G' v d->Q v H'
structure DN (Γ:Cn) (X:Cx) (e:Expr) (f:FE):Prop where
 out:PE X e (TDn Γ X.K f)
section
variable {Γ:Cn} {X:Cx} {a b c e tg iter:Expr} {es:List Expr} {fa fb fc f fe:FE} {fr fi:FA} {pos p p2 pos':Pos} {ft:FT} {g:FG} {x:Str}
variable {scope:Scope} {N':List Str} {fv:List (Option Nat)} {ifs:List Expr} {elt:Expr}
structure DBn (Γ:Cn) (X:Cx) (N':List Str) (scope:Scope) (tg:Expr) (ifs:List Expr) (elt:Expr) (g:FG) (ft:FT) (fe:FE):Prop where
 out:∀ (cl:List (Str×Addr)) (C:Addr) (s₀:Shared) (H₀:Hp) (fp:List Addr),DG Γ (zdt X N' scope cl C s₀ H₀ fp) tg g/\DTs Γ (zdt X N' scope cl C s₀ H₀ fp) ifs ft/\DN Γ (zdt X N' scope cl C s₀ H₀ fp) elt fe
end
def spN (Γ:Cn) (K:PySem.W.Frag) (n:Nat) (F:List D->Option D):Sp:=fun vs H Q _=>∃ G ds d,zb4 G H/\Reps Γ K G vs ds/\ds.length=n/\F ds=some d/\∀ v G' H',Step G H G' H'->Rep Γ K G' v d->NewL H G' v d->Q v H'
section
variable {Γ:Cn} {P:Program} {w:World} {K:PySem.W.Frag} {mg:Str->Option Value} {base:Heap}
structure CalN (Γ:Cn) (P:Program) (w:World) (K:PySem.W.Frag) (mg:Str->Option Value) (base:Heap) (x:Str) (n k:Nat) (F:List D->Option D):Prop where
 ex:∃ f fd ps,FnOk P w K mg base CX0 k f fd ps (spN Γ K n F)/\mg x=some (.ref f)/\PySem.W.keepIn K (.ref f)=true/\zdG K fd ps []
structure CalMN (Γ:Cn) (P:Program) (w:World) (K:PySem.W.Frag) (mg:Str->Option Value) (base:Heap) (c m:Str) (n k:Nat) (F:List D->Option D):Prop where
 ex:∃ C f fd ps,Γ.cls c=some C/\Cls K C/\Meth K C m f/\FnOk P w K mg base CX0 k f fd ps (spN Γ K n F)/\zdG K fd ps []
structure CalMO (Γ:Cn) (P:Program) (w:World) (K:PySem.W.Frag) (mg:Str->Option Value) (base:Heap) (c m:Str) (n k:Nat) (F:List D->Option (List D)):Prop where
 ex:∃ C f fd ps,Γ.cls c=some C/\Cls K C/\Meth K C m f/\FnOk P w K mg base CX0 k f fd ps (spO Γ K n F)/\zdG K fd ps []
end
section
variable {Γ:Cn} {X:Cx} {e o:Expr} {es:List Expr} {fo f:FE} {fr:FA} {pos p apos pos':Pos} {c m x:Str}
end
end L2
end
section
namespace Law
open PySem L2
abbrev oS (d:D):Option Slot:=some (.sh d)
end Law
namespace L2
open PySem
abbrev FQ:=List D->Option D
end L2
namespace Law
open PySem L2
theorem dC {Γ:Cn} {X:Cx} {e:Expr} {es:List Expr} {fr:FA} {p pos:Pos} {x:Str} {n k:Nat} {F:FQ} (C:Cal Γ X.prog X.w X.K X.mg X.base x n k F) {j:Nat} (hr:Room j X.A) (ha:DA Γ X (e::es) fr) (hn:∀ ρ ds,fr ρ=some ds->ds.length=n) (hk:k<=j:=by decide) (hg:Gl X x:=by exact rfl) (hdb:(x==("__debug__":Str))=false:=by decide) (he:starEach (e::es) X.env=(false,eval e X.env)::starEach es X.env:=by rfl) (hpl:(backTo pos (starEach es X.env)).any (·.1)=false:=by rfl):DE Γ X (.Call (.Name x p) (e::es) [] pos) (cF F fr):=zna C hr hk hg ha hn hdb he hpl
end Law
end
section
namespace L2
open PySem PySem.Spec PyProof.Rows
structure Fly (P:Program) (w:World) (base:Heap) (outer:List Env) (H H':Hp) (s:Shared) (B:Heap) (e:Addr) (cls a0:Value) (h:Heap):Prop where
 bst:base.StaysIn B
 keep:∀ b o,s.heap.get? b=some o->H b=none->b∉frs outer->B.get? b=some o
 slot:∀ b o,s.heap.get? b=some o->H b=none->b∈frs outer->∃ sl,h.get? b=some { o with slots:=sl }
 nofl:∀ b o,s.heap.get? b=some o->b∈frs outer->∀ vs,o.data≠.fields vs
 free:∀ b o,s.heap.get? b=some o->H b=none->H' b=none
 there:∀ b o,s.heap.get? b=some o->b∉frs outer->∃ o',B.get? b=some o'
 frf:∀ b∈frs outer,H b=none
 tups:∀ b xs,H b=some (.tup xs)->H' b=some (.tup xs)
 frzs:∀ b o u,H b=some (.frz o u)->H' b=some (.frz o u)
 tbls:∀ b ps,H b=some (.tbl ps)->∃ more,H' b=some (.tbl (ps++more))
 hok:HOk P w H' B
 fly:Heap.FlyingW B outer e cls a0 h
 new:H' e=none
section
variable {P:Program} {w:World} {base B:Heap} {outer:List Env} {H H':Hp} {s:Shared} {e:Addr} {cls a0:Value} {h h':Heap}
end
def CXO (P:Program) (w:World) (base:Heap):CXT:=fun outer H s E e s' =>
 ∃ a cls a0 B H',e=.ref a/\s'.os=s.os/\AllBare s'.gens/\Fly P w base outer H H' s B a cls a0 s'.heap/\E cls none H'
section
variable {P:Program} {w:World} {K:PySem.W.Frag} {mg:Str->Option Value} {base:Heap} {N:List Str} {qual:Str} {scope:Scope} {f:Addr} {cd:Value} {A:Around} {outer:List Env} {s₀:Shared} {H₀:Hp} {E:XK}
 {pins:List (Addr×Obj)} {σ:St} {H:Hp} {s:Shared} {h1:Heap} {e:Addr} {cls:Value} {vs:List Value}
end
end L2
end
section
namespace L2
open PySem PySem.Spec PyProof.Rows
def zuD (Γ:Cn) (K:PySem.W.Frag) (n:String) (R:Hp->Prop) (E:Ends) (H₀ G' H':Hp) (σ':St) (fl:Fl):Prop:=(fl=.rt (.ty n)->R H')/\(fl≠.rt (.ty n)->zuE Γ K E H₀ G' H' σ' fl)
def TDx (Γ:Cn) (K:PySem.W.Frag) (n:String) (R:Hp->Prop) (g:FS):TS:=fun E σ H=>∃ G₀ H₀ G ρ fl ρ',At Γ K G₀ H₀ G H ρ σ/\g ρ=some (fl,ρ')/\∀ σ' G' H',zb4 G G'->At Γ K G₀ H₀ G' H' ρ' σ'->zuD Γ K n R E H₀ G' H' σ' fl
structure DX (Γ:Cn) (X:Cx) (n:String) (R:Hp->Prop) (st:Stmt) (g:FS):Prop where
 out:PS X st (TDx Γ X.K n R g)
structure DXs (Γ:Cn) (X:Cx) (n:String) (R:Hp->Prop) (st:List Stmt) (g:FS):Prop where
 out:PSs X st (TDx Γ X.K n R g)
section
variable {Γ:Cn} {X:Cx} {n:String} {R:Hp->Prop} {c tg iter:Expr} {fi:FA} {pos:Pos} {g g':FS} {st:Stmt} {sts:List Stmt} {ft:FT} {gg:FG}
end
section
variable {Γ:Cn} {P:Program} {w:World} {K:PySem.W.Frag} {mg:Str->Option Value} {base:Heap} {N:List Str} {qual:Str} {scope:Scope} {f C:Addr} {cd:Value} {A:Around} {outer:List Env} {s₀:Shared} {H₀:Hp} {E:XK}
 {R:Hp->Prop} {n:String} {x:Str} {np cpos pos:Pos} {e₀:Expr} {zcx:List Expr} {fr:FA} {Bn newId initId:String} {bmB:List Value}
end
def spX (Γ:Cn) (K:PySem.W.Frag) (m:Nat) (F:FQ) (n:String) (C:Addr):Sp:=fun vs H Q E=>∃ G ds d,zb4 G H/\Reps Γ K G vs ds/\ds.length=m/\F ds=some d /\
 (d=.ty n->∀ G' H',Step G H G' H'->E (.ref C) none H')/\(d≠.ty n->∀ v G' H',Step G H G' H'->Rep Γ K G' v d->Q v H')
section
variable {Γ:Cn} {P:Program} {w:World} {K:PySem.W.Frag} {mg:Str->Option Value} {base:Heap}
structure CalX (Γ:Cn) (P:Program) (w:World) (K:PySem.W.Frag) (mg:Str->Option Value) (base:Heap) (x:Str) (m k:Nat) (F:FQ) (n:String) (C:Addr):Prop where
 ex:∃ f fd ps,FnOk P w K mg base (CXO P w base) k f fd ps (spX Γ K m F n C)/\mg x=some (.ref f)/\PySem.W.keepIn K (.ref f)=true/\zdG K fd ps []
end
end L2
end
section
namespace L2
open PySem PySem.Spec PyProof.Rows
def zuB (a:Addr) (cls:Value) (h:Heap):Prop:=∃ o vs,h.get? a=some o/\o.cls=cls/\o.data=.fields vs
section
variable {P:Program} {w:World} {base B:Heap} {outer:List Env} {H H':Hp} {s:Shared} {e:Addr} {cls a0:Value} {h h':Heap}
end
section
variable {X:Cx} {pins:List (Addr×Obj)} {σ:St} {H:Hp} {s:Shared} {v:Value}
end
section
variable {X:Cx} {k:Nat} {f:Addr} {fd:FuncData} {ps:List Str} {sp:Sp} {fx cx n y:Str} {p p2 p3 cp py np ap hp pos:Pos} {e:Expr} {es:List Expr} {t:TA} {cv:Value} {i j:Nat}
end
end L2
end
section
namespace L2
open PySem PySem.Spec PyProof.Rows PySem.W Builtin Builtin.ObjectAttr Builtin.Getset_descriptor
structure ExcK (K:PySem.W.Frag) (C:Addr):Prop where
 cls:∃ cd,clsIn K C=some cd
 ga:findIn K (.ref C) "__getattribute__"=some (some (.builtin "BaseException.__getattribute__"))
 noga:findIn K (.ref C) "__getattr__"=some none
 lk:findIn K (.ref C) "__class__"=some (some (.builtin "object.__class__"))
 gs:specialIn K (.builtin "object.__class__") "__get__"=some (some (.builtin "getset_descriptor.__get__"))
 takes:takesIn K (.builtin "object.__class__")=some true
 mro:mroIn K C (.type "object")=some true
 base:subIn K (.ref C) (.type "BaseException")=some true
section
variable {prog:Program} {w:World} {A:Around} {E:Value->Shared->Prop} {s:Shared} {K:PySem.W.Frag} {x C:Addr} {M:Model} {h:Heap}
end
end L2
end
section
namespace L2
open PySem PySem.Spec PyProof.Rows
section
variable {Γ:Cn} {X:Cx} {a b c e o i:Expr} {es:List Expr} {fa fb fc f fo fk fx:FE} {fr fi:FA} {pos p apos cpos:Pos}
end
end L2
end
section
namespace L2
open PySem PySem.Spec PyProof.Rows
section
variable {Γ:Cn} {X:Cx} {a:Expr} {fa:FE} {pos:Pos}
end
def zuG:V->Option Value
 | .ref a=>some (.ref a)
 | .ty n=>some (.type n)
 | _=>none
inductive TyX (K:PySem.W.Frag) (H:Hp):V->Value->Prop where
 | non:TyX K H .non (.type "NoneType")
 | exc {a C:Addr}:H a=some (.ext (zuB a (.ref C)))->ExcK K C->TyX K H (.ref a) (.ref C)
inductive IsiC (K:PySem.W.Frag) (H:Hp) (t:Value):V->Bool->Prop where
 | one {c:V} {cv:Value} {b:Bool}:zuG c=some cv->PySem.W.kitOne K t cv=some b->IsiC K H t c b
 | tup {tp:Addr} {xs:List V} {its:List Value} {b:Bool}:H tp=some (.tup xs)->xs.mapM zuG=some its->PySem.W.kitAny K t its=some b->IsiC K H t (.ref tp) b
section
variable {X:Cx}
end
structure RefK (K:PySem.W.Frag) (mg:Str->Option Value) (CP CS CR CY CH CT:Addr):Prop where
 mP:mg "NoPlan"=some (.ref CP)
 mS:mg "ShopError"=some (.ref CS)
 mR:mg "NoRow"=some (.ref CR)
 mY:mg "NoSay"=some (.ref CY)
 mH:mg "NoShop"=some (.ref CH)
 mT:mg "NoTree"=some (.ref CT)
 exm:PySem.W.exmOne K (.ref CP) (.ref CS)=some true
 k0:PySem.W.kitOne K (.type "NoneType") (.ref CP)=some false
 k2:PySem.W.kitOne K (.ref CP) (.type "ValueError")=some true
 k3:PySem.W.kitAny K (.ref CP) [.ref CR,.ref CY,.ref CH,.ref CT]=some false
 exk:ExcK K CP
end L2
end
section
namespace L2
open PySem PySem.Spec PyProof.Rows
end L2
end
section
namespace L2
open PySem PySem.Spec PyProof.Rows
section
variable {α β:Type} {t:Sem α} {f:α->Sem β}
end
end L2
end
section
namespace L2
open PySem PySem.Spec PyProof.Rows PySem.W Builtin Builtin.ObjectAttr
def zuH:List Value:=[.type "ValueError",.type "Exception",.type "BaseException",.type "object"]
structure ExC (h:Heap) (C:Addr):Prop where
 ex:∃ nm q N bs bm sn sub ab col dd k0 k1 k2 k3 k5,h.get? C=some (excClassObj nm q C N bs bm true sn sub ab col dd k0 k1 k2 k3 k5 "ValueError.__new__")/\OwnTail h zuH bm
section
variable {prog:Program} {w:World} {A:Around} {E:Value->Shared->Prop} {s:Shared} {K:PySem.W.Frag} {C fI e t:Addr}
end
end L2
end
section
namespace L2
open PySem PySem.Spec PyProof.Rows PySem.W Builtin Builtin.ObjectAttr
section
variable {prog:Program} {w:World} {A:Around} {E:Value->Shared->Prop} {s:Shared} {K:PySem.W.Frag} {C fI e t:Addr} {name:Str} {v:Value}
end
end L2
end
section
namespace L2
open PySem PySem.Spec PyProof.Rows PySem.W Builtin Builtin.ObjectAttr Builtin.Getset_descriptor
def zvL (a C dx:Addr) (h:Heap):Prop:=∃ o vs,h.get? a=some o/\o.cls=.ref C/\o.data=.fields vs/\o.dict=some dx
section
variable {prog:Program} {w:World} {A:Around} {E:Value->Shared->Prop} {s:Shared} {K:PySem.W.Frag} {x C dx:Addr} {name:Str} {v:Value} {mA:Str->Option Value}
end
end L2
end
section
namespace L2
open PySem PySem.Spec PyProof.Rows
structure XCls (K:PySem.W.Frag) (base:Heap) (C CS fI:Addr) (f:Str):Prop where
 cls:ExC base C
 sa:PySem.W.findIn K (.ref C) "__setattr__"=some (some (.builtin "object.__setattr__"))
 cd:∃ cd,PySem.W.clsIn K C=some cd/\cd.mro=.ref C::.ref CS::zuH/\cd.hasDict=true
 ob:PySem.W.mroIn K C (.type "object")=some true
 no:PySem.W.findIn K (.ref C) f=some none
 init:PySem.W.findIn K (.ref C) "__init__"=some (some (.ref fI))
 fn:PySem.W.isFn K (.ref fI)=true
 kp:PySem.W.keepIn K (.ref C)=true
section
variable {X:Cx} {pins:List (Addr×Obj)} {σ:St} {H:Hp} {s:Shared} {a C CS fI dx:Addr} {f:Str} {h':Heap}
variable {o e ea value:Expr} {es:List Expr} {ta tv:TE} {t:TA} {pos pos' p apos np cpos:Pos} {cx x:Str}
end
end L2
end
section
namespace L2
open PySem PySem.Spec PyProof.Rows
def del (G:Hp) (a:Addr):Hp:=fun b=>if b=a then none else G b
theorem zph {G:Hp} {a b:Addr} (h:b≠a):del G a b=G b:=by unfold del;rw [qW h]
section
variable {X:Cx} {k:Nat} {C CS fI:Addr} {fd:FuncData} {ps:List Str} {f x:Str} {p pos:Pos} {e:Expr} {es:List Expr} {t:TA}
end
section
variable {M:Model} {A:Around} {E:Value->Shared->Prop} {s:Shared} {env:Env}
end
section
variable {prog:Program} {w:World} {A:Around} {E:Value->Shared->Prop} {s:Shared} {env:Env}
end
end L2
end
section
namespace L2
open PySem PySem.Spec PyProof.Rows
def CXD (P:Program) (w:World) (base:Heap):CXT:=fun outer H s E e s' =>
 ∃ a C a0 B H' dx,e=.ref a/\s'.os=s.os/\AllBare s'.gens/\Fly P w base outer H H' s B a (.ref C) a0 s'.heap/\zvL a C dx s'.heap/\E (.ref C) (some dx) H'
section
variable {P:Program} {w:World} {K:PySem.W.Frag} {mg:Str->Option Value} {base:Heap} {N:List Str} {qual:Str} {scope:Scope} {f:Addr} {cd:Value} {A:Around} {outer:List Env} {s₀:Shared} {H₀:Hp} {E:XK}
 {pins:List (Addr×Obj)} {σ:St} {H:Hp} {s:Shared} {e C t dx:Addr}
end
end L2
end
section
namespace L2
open PySem PySem.Spec PyProof.Rows
def xm (p:Str):D:=.tup [.ty "raise",.str p]
def zuC (Γ:Cn) (K:PySem.W.Frag) (R:Str->Hp->Prop) (E:Ends) (H₀ G' H':Hp) (σ':St) (fl:Fl):Prop:=(∀ p,fl=.rt (xm p)->R p H')/\((∀ p,fl≠.rt (xm p))->zuE Γ K E H₀ G' H' σ' fl)
def TDy (Γ:Cn) (K:PySem.W.Frag) (R:Str->Hp->Prop) (g:FS):TS:=fun E σ H=>∃ G₀ H₀ G ρ fl ρ',At Γ K G₀ H₀ G H ρ σ/\g ρ=some (fl,ρ')/\∀ σ' G' H',zb4 G G'->At Γ K G₀ H₀ G' H' ρ' σ'->zuC Γ K R E H₀ G' H' σ' fl
structure DY (Γ:Cn) (X:Cx) (R:Str->Hp->Prop) (st:Stmt) (g:FS):Prop where
 out:PS X st (TDy Γ X.K R g)
structure DYs (Γ:Cn) (X:Cx) (R:Str->Hp->Prop) (st:List Stmt) (g:FS):Prop where
 out:PSs X st (TDy Γ X.K R g)
section
variable {Γ:Cn} {X:Cx} {R:Str->Hp->Prop} {c:Expr} {pos:Pos} {g g':FS} {st:Stmt} {sts:List Stmt} {ft:FT}
end
section
variable {Γ:Cn} {P:Program} {w:World} {K:PySem.W.Frag} {mg:Str->Option Value} {base:Heap} {N ps:List Str} {qual:Str} {scope:Scope} {f C CS fI:Addr} {fd:FuncData} {cd:Value} {A:Around} {outer:List Env} {s₀:Shared} {H₀:Hp} {E:XK}
 {R:Str->Hp->Prop} {x fl:Str} {np cpos pos:Pos} {e₀:Expr} {fr:FA} {k j:Nat}
end
end L2
end
section
namespace L2
open PySem PySem.Spec PyProof.Rows
def zvs (Γ:Cn) (K:PySem.W.Frag) (C CN:Addr) (f:Str) (n:Nat) (F:FQ):Sp:=fun vs H Q E=>∃ x dx H1 G ds d us,vs=.ref x::us/\H=upd (upd H1 dx (.own x)) x (.ins C dx [])/\H1 x=none/\H1 dx=none/\dx≠x/\zb4 G H1/\Reps Γ K G us ds/\ds.length=n/\F ds=some d /\
 (∀ p,d=xm p->∀ G' H' dz,Step G H1 G' H'->H' dz=none->E (.ref CN) (some dz) (upd H' dz (.xd [(f,.str p)])))/\((∀ p,d≠xm p)->∀ G' H',Step G H1 G' H'->Rep Γ K G' (.ref x) d->Q .non H')
section
variable {Γ:Cn} {P:Program} {w:World} {K:PySem.W.Frag} {mg:Str->Option Value} {base:Heap} {c:Str} {attrs:List Str}
structure CalIY (Γ:Cn) (P:Program) (w:World) (K:PySem.W.Frag) (mg:Str->Option Value) (base:Heap) (c:Str) (CN:Addr) (fl:Str) (n k:Nat) (F:FQ):Prop where
 ex:∃ C f fd ps,Γ.cls c=some C/\Mk K C f/\mg c=some (.ref C)/\FnOk P w K mg base (CXD P w base) k f fd ps (zvs Γ K C CN fl n F)/\zdG K fd ps []
end
section
variable {P:Program} {w:World} {base B:Heap} {outer:List Env} {H H':Hp} {s:Shared} {e C dx:Addr} {cls a0:Value} {h:Heap}
end
section
variable {X:Cx} {k:Nat} {f C:Addr} {fd:FuncData} {ps:List Str} {sp:Sp} {fx cx n y:Str} {p p2 p3 cp py np ap hp pos:Pos} {e:Expr} {es:List Expr} {t:TA} {cv:Value} {i j:Nat}
end
end L2
end
section
namespace L2
open PySem PySem.Spec PyProof.Rows
section
variable {X:Cx}
end
mutual
def zin (n:Nat):D->Bool
 | .lst l=>(l.length != n) && zjf n l
 | .tup l=>zjf n l
 | .non=>true
 | .bl _=>true
 | .int _=>true
 | .str _=>true
 | _=>false
def zjf (n:Nat):List D->Bool
 | []=>true
 | d::r=>zin n d && zjf n r
end
section
variable {Γ:Cn} {K:PySem.W.Frag} {G:Hp} {a:Addr} {ws:List V}
mutual
theorem Rep.del (ha:G a=some (.lst ws)):∀ {v:V} {d:D},Rep Γ K G v d->zin ws.length d=true->Rep Γ K (del G a) v d
 | _,_,.non,_=>.non
 | _,_,.bl b,_=>.bl b
 | _,_,.int i,_=>.int i
 | _,_,.str x,_=>.str x
 | _,_,.ty x,h=>by simp [zin] at h
 | _,_,.tup g r,h=>.tup (by rw [zph (fun z=>by rw [z,ha] at g;cases g)];exact g) (Reps.del ha r (by unfold zin at h;exact h))
 | _,_,.lst g r,h=>by
  unfold zin at h
  rw [Bool.and_eq_true] at h
  exact .lst (by
   rw [zph (fun z=>by
    rw [z,ha] at g
    cases g
    rw [r.length] at h
    simp at h)]
   exact g) (Reps.del ha r h.2)
 | _,_,.scr g,h=>by simp [zin] at h
 | _,_,.dk g e r,h=>by simp [zin] at h
 | _,_,.dt g e r,h=>by simp [zin] at h
 | _,_,.ins g c e r,h=>by simp [zin] at h
theorem Reps.del (ha:G a=some (.lst ws)):∀ {vs:List V} {ds:List D},Reps Γ K G vs ds->zjf ws.length ds=true->Reps Γ K (del G a) vs ds
 | _,_,.nil,_=>.nil
 | _,_,.cons g r,h=>by
  unfold zjf at h
  rw [Bool.and_eq_true] at h
  exact .cons (Rep.del ha g h.1) (Reps.del ha r h.2)
end
end
section
variable {Γ:Cn} {X:Cx} {e:Expr} {f:FE} {pos p2 pc:Pos}
end
end L2
end
section
namespace L2
open PySem PySem.Spec PyProof.Rows
section
variable {g g':FS} {ft:FT} {fr:FA}
end
structure RefYK (K:PySem.W.Frag) (mg:Str->Option Value) (CN CS CG CM CP CR CY CT:Addr):Prop where
 mN:mg "NoShop"=some (.ref CN)
 mS:mg "ShopError"=some (.ref CS)
 mG:mg "Gone"=some (.ref CG)
 mM:mg "NoName"=some (.ref CM)
 mP:mg "NoPlan"=some (.ref CP)
 mR:mg "NoRow"=some (.ref CR)
 mY:mg "NoSay"=some (.ref CY)
 mT:mg "NoTree"=some (.ref CT)
 exm:PySem.W.exmOne K (.ref CN) (.ref CS)=some true
 k2:PySem.W.kitOne K (.ref CN) (.type "ValueError")=some true
 k3:PySem.W.kitAny K (.ref CN) [.ref CG,.ref CM,.ref CP,.ref CR,.ref CY,.ref CT]=some false
 exk:ExcK K CN
 hd:PySem.W.hasDictIn K CN=true
 no:zeY K CN "part"
end L2
end
section
namespace L2
open PySem PySem.Spec PyProof.Rows
end L2
end
section
namespace L2
open PySem PySem.Spec PyProof.Rows
section
variable {P:Program} {w:World} {K:PySem.W.Frag} {mg:Str->Option Value} {base:Heap} {N:List Str} {qual:Str} {scope:Scope} {f:Addr} {cd:Value} {A:Around} {outer:List Env} {s₀:Shared} {H₀:Hp} {E:XK}
end
section
variable {X:Cx} {k:Nat} {f:Addr} {fd:FuncData} {ps:List Str} {sp:Sp} {fx cx n y:Str} {p p2 p3 cp py np ap hp pos:Pos} {e:Expr} {es:List Expr} {t:TA} {cv:Value} {i j:Nat}
end
def zvq (Γ:Cn) (K:PySem.W.Frag) (CN:Addr) (fl:Str) (n:Nat) (F:FQ):Sp:=fun vs H Q E=>∃ G ds d,zb4 G H/\Reps Γ K G vs ds/\ds.length=n/\F ds=some d /\
 (∀ p,d=xm p->∀ G' H' dz,Step G H G' H'->H' dz=none->E (.ref CN) (some dz) (upd H' dz (.xd [(fl,.str p)])))/\((∀ p,d≠xm p)->∀ v G' H',Step G H G' H'->Rep Γ K G' v d->Q v H')
structure CalSY (Γ:Cn) (P:Program) (w:World) (K:PySem.W.Frag) (mg:Str->Option Value) (base:Heap) (x:Str) (CN:Addr) (fl:Str) (n k:Nat) (F:FQ):Prop where
 ex:∃ f fd ps,FnOk P w K mg base (CXD P w base) k f fd ps (zvq Γ K CN fl n F)/\mg x=some (.ref f)/\PySem.W.keepIn K (.ref f)=true/\zdG K fd ps []
end L2
end
section
namespace L2
open PySem PySem.Spec PyProof.Rows
def ztz (m:Nat):D->Option (Nat×Int)
 | .int n=>(ixN m n).map fun j=>(j,n)
 | _=>none
section
variable {Γ:Cn} {X:Cx} {e:Expr} {f:FE} {pos p2 pc:Pos}
end
end L2
end
section
namespace L2
open PySem PySem.Spec PyProof.Rows
structure RefZK (K:PySem.W.Frag) (mg:Str->Option Value) (CN CS CP CR CY:Addr):Prop where
 mN:mg "NoShop"=some (.ref CN)
 mS:mg "ShopError"=some (.ref CS)
 mP:mg "NoPlan"=some (.ref CP)
 mR:mg "NoRow"=some (.ref CR)
 mY:mg "NoSay"=some (.ref CY)
 exm:PySem.W.exmOne K (.ref CN) (.ref CS)=some true
 k2:PySem.W.kitOne K (.ref CN) (.type "ValueError")=some true
 k3:PySem.W.kitAny K (.ref CN) [.ref CP,.ref CR,.ref CY]=some false
 exk:ExcK K CN
 hd:PySem.W.hasDictIn K CN=true
 no:zeY K CN "part"
end L2
end
section
namespace L2
open PySem PySem.Spec PyProof.Rows PyProof
section
variable {Γ:Cn} {X:Cx}
end
end L2
end
section
namespace L2
open PySem PySem.Spec PyProof.Rows
section
variable {Γ:Cn} {X:Cx} {a b:Expr} {fa fb:FE} {pos:Pos}
end
end L2
end
section
namespace L2
open PySem PySem.Spec PyProof.Rows
theorem zcG.len {H:Hp}:∀ {ps:List Addr} {vss:List (List V)},zcG H ps vss->ps.length=vss.length
 | [],[],_=>rfl
 | [],_::_,h=>h.elim
 | _::_,[],h=>h.elim
 | _::_,_::_,h=>by rw [qh,qh,h.2.len]
theorem zcG.at' {H:Hp}:∀ {ps:List Addr} {vss:List (List V)} {j:Nat} {vs:List V},zcG H ps vss->vss[j]?=some vs->∃ p,ps[j]?=some p/\H p=some (.lst vs)
 | [],[],_,_,_,e=>by simp at e
 | [],_::_,_,_,h,_=>h.elim
 | _::_,[],_,_,h,_=>h.elim
 | p::ps,vs::vss,0,_,h,e=>by
  cases e
  exact ⟨p,rfl,h.1⟩
 | p::ps,vs::vss,j+1,_,h,e=>h.2.at' (j:=j) e
theorem zcG.put {H:Hp}:∀ {ps:List Addr} {vss:List (List V)} {j:Nat} {p:Addr} {vs:List V},zcG H ps vss->ps.Nodup->ps[j]?=some p->zcG (upd H p (.lst vs)) ps (vss.set j vs)
 | [],[],_,_,_,_,_,e=>by simp at e
 | [],_::_,_,_,_,h,_,_=>h.elim
 | _::_,[],_,_,_,h,_,_=>h.elim
 | q::ps,us::vss,0,p,vs,h,nd,e=>by
  cases e
  refine ⟨zaL,h.2.stay fun b hb=>zaz fun z=>?_⟩
  subst z
  exact (List.nodup_cons.mp nd).1 hb
 | q::ps,us::vss,j+1,p,vs,h,nd,e=>by
  have e':ps[j]?=some p:=e
  refine ⟨?_,h.2.put (List.nodup_cons.mp nd).2 e'⟩
  rw [zaz (fun z=>(List.nodup_cons.mp nd).1 (by rw [z];exact qM e'))]
  exact h.1
section
variable {Γ:Cn} {K:PySem.W.Frag} {G:Hp}
theorem zd6.len:∀ {vss:List (List V)} {dss:List (List D)},zd6 Γ K G vss dss->vss.length=dss.length
 | [],[],_=>rfl
 | [],_::_,h=>h.elim
 | _::_,[],h=>h.elim
 | _::_,_::_,h=>by rw [qh,qh,h.2.len]
theorem zd6.at':∀ {vss:List (List V)} {dss:List (List D)} {j:Nat} {ds:List D},zd6 Γ K G vss dss->dss[j]?=some ds->∃ vs,vss[j]?=some vs/\Reps Γ K G vs ds
 | [],[],_,_,_,e=>by simp at e
 | [],_::_,_,_,h,_=>h.elim
 | _::_,[],_,_,h,_=>h.elim
 | vs::_,ds::_,0,_,h,e=>by
  cases e
  exact ⟨vs,rfl,h.1⟩
 | _::vss,_::dss,j+1,_,h,e=>h.2.at' (j:=j) e
theorem zd6.put:∀ {vss:List (List V)} {dss:List (List D)} {j:Nat} {vs:List V} {ds:List D},zd6 Γ K G vss dss->Reps Γ K G vs ds->zd6 Γ K G (vss.set j vs) (dss.set j ds)
 | [],[],_,_,_,_,_=>trivial
 | [],_::_,_,_,_,h,_=>h.elim
 | _::_,[],_,_,_,h,_=>h.elim
 | _::_,_::_,0,_,_,h,r=>⟨r,h.2⟩
 | _::_,_::_,j+1,_,_,h,r=>⟨h.1,h.2.put r⟩
theorem zd6.reps {H:Hp} (hG:zb4 G H):∀ {ps:List Addr} {vss:List (List V)} {dss:List (List D)},zcG H ps vss->zd6 Γ K G vss dss->Reps Γ K H (ps.map V.ref) (dss.map D.lst)
 | [],[],[],_,_=>.nil
 | [],_::_,_,h,_=>h.elim
 | _::_,[],_,h,_=>h.elim
 | [],[],_::_,_,h=>h.elim
 | _::_,_::_,[],_,h=>h.elim
 | _::_,_::_,_::_,h,r=>.cons (.lst h.1 (r.1.mono hG)) (r.2.reps hG h.2)
end
theorem zmF {m:Nat} {k:D} {j:Nat×Int} (h:ztz m k=some j):∃ n,k=.int n/\ixN m n=some j.1:=by
 unfold ztz at h
 split at h
 ·obtain ⟨j',h1,rfl⟩:=oMd h
  exact ⟨_,rfl,h1⟩
 ·cases h
def zec (i:Nat) (fk f:FE):FS:=fun ρ=>match ρ[i]? with
 | some (some (.oll dss))=>(fk ρ).bind fun k=>(f ρ).bind fun d=>(ztz dss.length k).bind fun j=>match dss[j.1]? with
  | some ds=>if ds.length < sizeLine then some (.nx,ρ.set i (some (.oll (dss.set j.1 (ds++[d]))))) else none
  | none=>none
 | _=>none
def zgf (i:Nat) (g:FS):FS:=fun ρ=>match ρ[i]? with
 | some (some (.oll dss))=>g (ρ.set i (some (.sh (.lst (dss.map D.lst)))))
 | _=>none
section
variable {Γ:Cn} {X:Cx} {e:Expr} {f:FE} {g:FS} {pos apos:Pos} {x:Str}
theorem At.frzLL {K:PySem.W.Frag} {G₀ H₀ G H:Hp} {ρ:zaX} {σ:St} (A:At Γ K G₀ H₀ G H ρ σ) {i:Nat} {dss:List (List D)} (hi:ρ[i]?=some (some (.oll dss))):∃ G',zb4 G G'/\At Γ K G₀ H₀ G' H (ρ.set i (some (.sh (.lst (dss.map D.lst))))) σ:=by
 obtain ⟨v,fp,h1,h2⟩:=A.get hi
 cases h2 with
 | oll q1 q2 q3 q4 q5 =>
  rename_i a ps vss
  have sm:zb4 G (fun b=>if b∈a::ps then H b else G b):=fun b o e=>by
   have:b∉a::ps:=fun z=>by rw [(q1 b z).2] at e;cases e
   show (if b∈a::ps then H b else G b)=_
   rw [qW this];exact e
  have hG':∀ b∈a::ps,(fun b=>if b∈a::ps then H b else G b) b=H b:=fun b hb=>qV hb
  refine ⟨_,sm,A.ch hi h1 (.oll q1 q2 q3 q4 q5) (fun b o e _=>e) (.sh (.lst ((hG' a qf).trans q3) (zd6.reps sm (q4.stay fun b hb=>hG' b (qg _ hb)) q5))) (fun b hb=>by cases hb) sm (fun b o e=>?_) (fun b o e hb=>qW hb)⟩
  by_cases hb:b∈a::ps
  ·replace e:(if b∈a::ps then H b else G b)=some o:=e
   rw [qV hb] at e;exact e
  ·replace e:(if b∈a::ps then H b else G b)=some o:=e
   rw [qW hb] at e;exact A.gh b o e
theorem TDs.frzLL (i:Nat):∀ E σ H,TDs Γ X.K (zgf i g) E σ H->TDs Γ X.K g E σ H:=by
 rintro E σ H ⟨G₀,H₀,G,ρ,fl,ρ',A,h,k⟩
 unfold zgf at h
 split at h
 ·rename_i ds hi
  obtain ⟨G',sm,A'⟩:=A.frzLL hi
  exact ⟨G₀,H₀,G',_,fl,ρ',A',h,fun σ1 G1 H1 sm1 A1=>k σ1 G1 H1 (sm.trans sm1) A1⟩
 ·cases h
theorem zjo {sts:List Stmt} (i:Nat) (h:DSs Γ X sts g):DSs Γ X sts (zgf i g):=⟨h.1.imp (TDs.frzLL i)⟩
theorem zix (i:Nat) {ek:Expr} {fk:FE} {vp sp cpos:Pos} (hk:DE Γ X ek fk) (h:DE Γ X e f) (hN:X.N[i]?=some x:=by rfl) (hv:Vis X.env.scope x:=by first | exact Or.inl rfl | exact Or.inr (Or.inl rfl) | exact Or.inr (Or.inr rfl)) (hd:(x==("__debug__":Str))=false:=by decide)
  (hcd:(x==("__classdict__":Str))=false:=by decide) (hpi:zkl ek:=by intro _ _;rfl)
  (hbase:attributeBase (.Subscript (.Name x vp) ek sp) "append" X.env (eval (.Subscript (.Name x vp) ek sp) X.env)=eval (.Subscript (.Name x vp) ek sp) X.env:=by rfl)
  (hfew:((backTo cpos (starEach [e] X.env)).all (fun x=>!x.1) && (backToKw cpos (keywordEach [] X.env)).all (fun x=>x.1.isSome)
   && decide ([e].length+([]:List Keyword).length+(if ([]:List Keyword).isEmpty then 0 else 1) < 30))=true:=by rfl)
  (hline:(apos.endLine==cpos.line)=true:=by rfl) (hs:starEach [e] X.env=(false,eval e X.env)::starEach [] X.env:=by rfl) (hplain:(backTo cpos (starEach [] X.env)).any (·.1)=false:=by rfl)
  (hsw:swapsWith (.Call (.Attribute (.Subscript (.Name x vp) ek sp) "append" apos) [e] [] cpos) none pos.line X.env=pure false:=by rfl) :
  DS Γ X (.Expr (.Call (.Attribute (.Subscript (.Name x vp) ek sp) "append" apos) [e] [] cpos) pos) (zec i fk f):=⟨(zj0 (znZ PySem.F.plainAttrs_list PySem.F.slot_list_append PySem.F.type_list_append zgR (zsi zo8 (zgg hN hv hd hcd) hk.1 hpi) (zd0 h.1 zfy hs) hbase hfew hline hs hplain) hsw).imp fun E σ H=>by
  rintro ⟨G₀,H₀,G,ρ,fl,ρ',A,h,k⟩
  unfold zec at h
  split at h
  ·rename_i dss hi
   obtain ⟨kd,hkd,h⟩:=oBd h
   obtain ⟨d,hd',h⟩:=oBd h
   obtain ⟨j,hj,h⟩:=oBd h
   split at h
   ·rename_i ds hds
    split at h
    ·rename_i hz
     cases h
     ·obtain ⟨n,rfl,hj'⟩:=zmF hj
      obtain ⟨v,fp,h1,h2⟩:=A.get hi
      cases h2 with
      | oll q1 q2 q3 q4 q5 =>
       rename_i a ps vss
       refine ⟨.ref a,h1,G₀,H₀,G,ρ,.int n,A,hkd,fun v1 G1 H1 s1 r1=>?_⟩
       cases r1.int_inv
       obtain ⟨vs,hvs,rvs⟩:=q5.at' hds
       obtain ⟨p,hp,hHp⟩:=q4.at' hvs
       have at1:atI (ps.map V.ref) n=some (V.ref p):=by
        unfold atI
        rw [qe,q4.len,q5.len,hj',qa,qj,hp]
        rfl
       refine .inl ⟨a,ps.map V.ref,n,.ref p,rfl,rfl,.inl (.inl (s1.hh _ _ q3)),at1,.inl ⟨rfl,vs,.inl (.inl (s1.hh _ _ hHp))⟩,G₀,H₀,G1,ρ,d,A.step s1,hd',fun u G2 H2 s2 r2=>?_⟩
       have S2:=(SR.oll (Γ:=Γ) (K:=X.K) q1 q2 q3 q4 q5).stepS (s1.trans s2)
       have A2:=(A.step s1).step s2
       refine ⟨p,vs,u,rfl,rfl,s2.hh _ _ (s1.hh _ _ hHp),by rw [rvs.length];exact hz,?_⟩
       have hpm:p∈a::ps:=qg _ (qM hp)
       refine k σ G2 _ (s1.gg.trans s2.gg) (A2.ch hi h1 S2 (fun b o e hb=>?_) (.oll (fun b hb=>⟨(q1 b hb).1,(S2.fpt b hb).2.1⟩) q2 ?_ ((q4.stay fun b hb=>?_).put (List.nodup_cons.mp q2).2 hp) ((q5.map fun r=>r.mono (s1.gg.trans s2.gg)).put ((rvs.mono (s1.gg.trans s2.gg)).append (.cons r2 .nil)))) (fun b hb=>.inl hb) (.refl _) (fun b o e=>?_) (fun _ _ _ _=>rfl))
       ·rw [zaz (fun z=>hb (by rw [z];exact hpm))];exact e
       ·rw [zaz (fun z=>(List.nodup_cons.mp q2).1 (by rw [z];exact qM hp))]
        exact s2.hh _ _ (s1.hh _ _ q3)
       ·obtain ⟨o,ho⟩:=q4.mem b hb
        rw [ho]
        exact s2.hh _ _ (s1.hh _ _ ho)
       ·rw [zaz (zau e (S2.fpt p hpm).2.1)];exact A2.gh b o e
    ·cases h
   ·cases h
  ·cases h⟩
end
end L2
end
section
namespace L2
open PySem PySem.Spec PyProof.Rows
def ztt:TE:=fun σ H Q=>∀ p,H p=none->Q (.ref p) (upd H p (.lst []))
def zuy (Γ:Cn) (K:PySem.W.Frag) (fn:zaX->Option Nat):TE:=fun σ H Q=>∃ G₀ H₀ G ρ n,At Γ K G₀ H₀ G H ρ σ/\fn ρ=some n/\∀ a ps G' H',Step G H G' H'->(∀ b∈a::ps,H b=none/\G' b=none)->(a::ps).Nodup->H' a=some (.lst (ps.map V.ref))->ps.length=n->(∀ p∈ps,H' p=some (.lst []))->Q (.ref a) H'
theorem zcG.emp {H:Hp}:∀ {ps:List Addr},(∀ p∈ps,H p=some (.lst []))->zcG H ps (List.replicate ps.length [])
 | [],_=>trivial
 | p::ps,h=>⟨h p qf,zcG.emp fun q hq=>h q (qg _ hq)⟩
theorem zd6.emp {Γ:Cn} {K:PySem.W.Frag} {G:Hp}:∀ n:Nat,zd6 Γ K G (List.replicate n []) (List.replicate n [])
 | 0=>trivial
 | n+1=>⟨.nil,zd6.emp n⟩
def znK (i:Nat) (fn:zaX->Option Nat):FS:=fun ρ=>(fn ρ).map fun n=>(.nx,ρ.set i (some (.oll (List.replicate n []))))
def zrm (fr:FA):zaX->Option Nat:=fun ρ=>(fr ρ).map List.length
section
variable {Γ:Cn} {X:Cx} {e tg iter:Expr} {es:List Expr} {fr fi:FA} {pos:Pos} {fn:zaX->Option Nat}
theorem zme:PE X (.List [] pos) ztt:=(zmc zfy).imp fun σ H Q h=>⟨Nat.zero_le _,h⟩
theorem zo0 {i:Nat}:∀ E σ H,TDs Γ X.K (znK i fn) E σ H->zrg (zuy Γ X.K fn) (zlv i) E σ H:=by
 rintro E σ H ⟨G₀,H₀,G,ρ,fl,ρ',A,h,k⟩
 unfold znK at h
 obtain ⟨n,hn,h⟩:=oMd h
 cases h
 refine ⟨G₀,H₀,G,ρ,n,A,hn,fun a ps G' H' s hf nd ha hl he=>k _ G' _ s.gg ?_⟩
 refine A.put (fp:=[]) (fp':=a::ps) (.inl rfl) (fun b o e _=>s.hh b o e) (SR.oll (vss:=List.replicate ps.length []) (fun b hb=>⟨?_,(hf b hb).2⟩) nd ha (zcG.emp he) (by rw [hl];exact zd6.emp n)) (fun b hb=>.inr (hf b hb).1) s.gg s.gh (fun b o e _=>s.out b o e) (fun b hb=>by cases hb)
 cases hb0:H₀ b with
 | none=>rfl
 | some o =>
  have z:=(hf b hb).1
  rw [A.st.hh b o hb0] at z
  cases z
variable {scope:Scope} {N':List Str} {fv:List (Option Nat)} {g:FG} {ft:FT} {ifs:List Expr}
theorem zoz (no:∀ d ρ ρ',g d ρ=some ρ'->zeQ ρ->zeQ ρ'):∀ σ H Q,zuy Γ X.K (zrm (za7 fi g ft (vC .non) fv)) σ H Q->tLC (TDi Γ X.K fi) (TDg Γ X.K g) (TDt Γ X.K ft) ztt fv σ H Q:=by
 rintro σ H Q ⟨G₀,H₀,G,ρ,n,A,h,k⟩
 unfold zrm at h
 obtain ⟨ds,h,hn⟩:=oMd h
 unfold za7 at h
 obtain ⟨xs,hx,h⟩:=oBd h
 split at h
 case isFalse=>cases h
 rename_i hz
 refine ⟨G₀,H₀,G,ρ,xs,A,hx,fun J G1 H1 s1 Y acc hacc=>?_⟩
 have gacc:G1 acc=none:=s1.gh.free hacc
 obtain ⟨A0,no0⟩:=zpc (fv:=fv) (A.step s1)
 refine ⟨fun i m ys σ' H'=>m=xs.length - i/\i<=xs.length/\ys.length<=i/\∃ G' ρ' ps zcx,At Γ X.K G1 H1 G' H' ρ' σ'/\zeQ ρ'/\H' acc=some (.lst ys)/\ys=ps.map V.ref/\(∀ b∈acc::ps,H1 b=none/\G' b=none)/\(acc::ps).Nodup/\(∀ p∈ps,H' p=some (.lst []))/\zhb g ft (vC .non) (xs.drop i) ρ'=some zcx/\ps.length+zcx.length=n,?_,?_⟩
 ·refine ⟨xs.length,rfl,Nat.zero_le _,qu _,G1,zfC fv ρ,[],ds,?_,no0,zaL,rfl,fun b hb=>?_,List.nodup_cons.mpr ⟨by simp,List.nodup_nil⟩,(fun p hp=>by cases hp),by rw [List.drop_zero];exact h,by simpa using hn⟩
  ·have sn:=Step.newOwn (o:=.lst []) s1.gh hacc
   exact ⟨sn,.ofSh A0.env.len no0 A0.env.sh⟩
  ·rw [List.mem_singleton.mp hb];exact ⟨hacc,gacc⟩
 ·rintro i m ys σ' H' ⟨hm,hi,hyi,G',ρ',ps,zcx,A',no',hacc',hys,hfr,nd,hem,hr,hd⟩
  subst hm
  subst hys
  have gacc':G' acc=none:=(hfr acc qf).2
  refine ⟨hacc',?_⟩
  by_cases hlt:i < xs.length
  ·right
   have hxi:xs[i]?=some xs[i]:=by simp [hlt]
   obtain ⟨go,yl⟩:=Y.go i _ G' H' hxi A'.st.gg A'.gh
   refine ⟨go,fun x H2 hy=>?_⟩
   obtain ⟨G2,s2,r2⟩:=yl x H2 hy
   have A2:=A'.step s2
   have hdr:xs.drop i=xs[i]::xs.drop (i+1):=List.drop_eq_getElem_cons hlt
   rw [hdr] at hr
   unfold zhb at hr
   obtain ⟨ρ1,h1,hr⟩:=oBd hr
   obtain ⟨b,h2,hr⟩:=oBd hr
   refine ⟨G1,H1,G2,ρ',_,ρ1,A2,r2,h1,fun σ2 A3=>⟨G1,H1,G2,ρ1,b,A3,h2,fun G4 H4 s4=>?_⟩⟩
   have no1:=no _ _ _ h1 no'
   have live:∀ b∈acc::ps,∃ o,H' b=some o:=fun b hb=>by
    rcases List.mem_cons.mp hb with rfl | hb
    ·exact ⟨_,hacc'⟩
    ·exact ⟨_,hem b hb⟩
   have hG4:∀ b∈acc::ps,G4 b=none:=fun b hb=>by
    obtain ⟨o,ho⟩:=live b hb
    exact (s4.out _ _ (s2.hh _ _ ho)).trans ((s2.out _ _ ho).trans (hfr b hb).2)
   have hH4:H4 acc=some (.lst (ps.map V.ref)):=s4.hh _ _ (s2.hh _ _ hacc')
   have hE4:∀ p∈ps,H4 p=some (.lst []):=fun p hp=>s4.hh _ _ (s2.hh _ _ (hem p hp))
   cases b with
   | false =>
    rw [qW qq] at hr
    refine zoi ⟨xs.length - (i+1),by omega,rfl,hlt,by omega,G4,ρ1,ps,zcx,A3.step s4,no1,hH4,rfl,fun b hb=>⟨(hfr b hb).1,hG4 b hb⟩,nd,hE4,hr,hd⟩
   | true =>
    rw [qV rfl] at hr
    obtain ⟨d,h3,hr⟩:=oBd hr
    obtain ⟨zs,h5,rfl⟩:=oMd hr
    refine zoh fun p hp=>?_
    have A4:=A3.step s4
    have s5:=Step.newOwn (o:=.lst []) A4.gh hp
    have A5:=A4.step s5
    have pne:p≠acc:=fun z=>by rw [z,hH4] at hp;cases hp
    have pnp:p∉ps:=fun z=>by rw [hE4 p z] at hp;cases hp
    have hH5:upd H4 p (.lst []) acc=some (.lst (ps.map V.ref)):=s5.hh _ _ hH4
    refine ⟨hH5,by omega,xs.length - (i+1),by omega,rfl,hlt,by rw [qi,qT];omega,G4,ρ1,ps++[p],zs,?_,no1,zaL,by rw [List.map_append];rfl,fun b hb=>?_,?_,fun q hq=>?_,h5,?_⟩
    ·refine ⟨⟨fun b o e=>?_,A5.st.gg,fun b o e=>?_,A5.st.out⟩,.ofSh A5.env.len no1 A5.env.sh⟩
     ·rw [zaz (zau e hacc)];exact A5.st.hh b o e
     ·rw [zaz (zau e (hG4 acc qf))];exact A5.st.gh b o e
    ·rcases List.mem_cons.mp hb with rfl | hb
     ·exact ⟨hacc,hG4 _ qf⟩
     ·rcases List.mem_append.mp hb with hb | hb
      ·exact ⟨(hfr b (qg _ hb)).1,hG4 b (qg _ hb)⟩
      ·rw [List.mem_singleton.mp hb]
       refine ⟨?_,A4.gh.free hp⟩
       cases hb0:H1 p with
       | none=>rfl
       | some o=>rw [A4.st.hh p o hb0] at hp;cases hp
    ·have nd':=List.nodup_cons.mp nd
     refine List.nodup_cons.mpr ⟨fun z=>?_,List.nodup_append.mpr ⟨nd'.2,by simp,fun a ha b hb z=>?_⟩⟩
     ·rcases List.mem_append.mp z with z | z
      ·exact nd'.1 z
      ·exact pne (List.mem_singleton.mp z).symm
     ·rw [List.mem_singleton.mp hb] at z
      exact pnp (z▸ha)
    ·rcases List.mem_append.mp hq with hq | hq
     ·rw [zaz (fun z=>(List.nodup_cons.mp nd).1 (by rw [← z];exact hq)),zaz (fun z=>pnp (by rw [← z];exact hq))];exact hE4 q hq
     ·rw [List.mem_singleton.mp hq,zaz pne,zaL]
    ·rw [qi,qT]
     rw [qh] at hd
     omega
  ·left
   have e:i=xs.length:=by omega
   subst e
   rw [List.drop_length] at hr
   cases hr
   refine ⟨Y.stop G' H' A'.st.gg A'.gh,?_⟩
   exact k acc ps G' H' (s1.trans A'.st) (fun b hb=>⟨s1.hh.free (hfr b hb).1,(hfr b hb).2⟩) nd hacc' (by simpa using hd) hem
theorem zqT (i:Nat) {y:Str} {py spos lp cp:Pos} {j:Nat} (hN:X.N.Nodup) (hc:X.calm=true) (S:CompScope X scope) (F:FvOk X N' scope fv) (hi:DI Γ X tg iter fi) (hb:DB Γ X N' scope tg ifs (.Constant .none j cp) g ft (vC .non))
  (hy:X.N[i]?=some y:=by rfl) (hyl:X.env.scope.names.lookup y=some .local:=by rfl) (hsw:swapsWith (.ListComp (.List [] lp) [⟨tg,iter,ifs,0⟩] scope pos) (some (.Name y py)) spos.line X.env=pure true:=by rfl) (hs:∀ x,foldedSetIterable iter X.env x=pure x:=by intro _;rfl) :
  DS Γ X (.Assign [.Name y py] (.ListComp (.List [] lp) [⟨tg,iter,ifs,0⟩] scope pos) spos) (znK i (zrm (za7 fi g ft (vC .non) fv))):=⟨(zr6 hN hy hyl hc S F hi.1 (fun cl C s₀ H₀ fp=>⟨(hb.1 cl C s₀ H₀ fp).1.pg,(hb.1 cl C s₀ H₀ fp).2.1.1,zme⟩) hsw hs).imp fun E σ H q=>zoz (hb.1 [] 0 X.s₀ X.H₀ []).1.no σ H _ (zo0 E σ H q)⟩
end
end L2
end
section
namespace L2
open PySem PySem.Spec PyProof.Rows
section
variable {Γ:Cn} {X:Cx} {pos p1 p2:Pos}
theorem zqS:∀ σ H Q,zuy Γ X.K (fun _=>some 2) σ H Q->zuL (zpC ztt (zpC ztt ztG)) σ H Q:=by
 rintro σ H Q ⟨G₀,H₀,G,ρ,n,A,h,k⟩
 cases h
 intro p hp q hq
 refine ⟨by simp [sizeLine],fun a ha=>?_⟩
 have s1:=Step.newOwn (o:=.lst []) A.gh hp
 have s2:=Step.newOwn (o:=.lst []) s1.gh hq
 have s3:=Step.newOwn (o:=.lst [V.ref p,V.ref q]) s2.gh ha
 have hp2:upd (upd H p (.lst [])) q (.lst []) p=some (.lst []):=s2.hh _ _ zaL
 have hqp:q≠p:=fun z=>by rw [z,zaL] at hq;cases hq
 have hap:a≠p:=fun z=>by rw [z,hp2] at ha;cases ha
 have haq:a≠q:=fun z=>by rw [z,zaL] at ha;cases ha
 have hq0:H q=none:=by rw [zaz hqp] at hq;exact hq
 have ha0:H a=none:=by rw [zaz haq,zaz hap] at ha;exact ha
 refine k a [p,q] G _ ((s1.trans s2).trans s3) (fun b hb=>?_) ?_ zaL rfl (fun b hb=>?_)
 ·have hb':b=a\/b=p\/b=q:=by simpa using hb
  rcases hb' with rfl | rfl | rfl
  ·exact ⟨ha0,A.gh.free ha0⟩
  ·exact ⟨hp,A.gh.free hp⟩
  ·exact ⟨hq0,A.gh.free hq0⟩
 ·simp [hap,haq,Ne.symm hqp]
 ·have hb':b=p\/b=q:=by simpa using hb
  rcases hb' with rfl | rfl
  ·rw [zaz (Ne.symm hap)];exact hp2
  ·rw [zaz (Ne.symm haq)];exact zaL
theorem zqU (i:Nat) {x:Str} {pos' lp:Pos} (hN:X.N.Nodup) (hi:X.N[i]?=some x:=by rfl) (hx:Loc X.env.scope x:=by first | exact Or.inl rfl | exact Or.inr rfl) (hs:swapsWith (.List [.List [] p1,.List [] p2] lp) (some (.Name x pos')) pos.line X.env=pure false:=by rfl) (hf:X.fn x=true\/X.env.scope.names.lookup x=some .local:=by first | exact .inl rfl | exact .inr rfl | assumption) :
  DS Γ X (.Assign [.Name x pos'] (.List [.List [] p1,.List [] p2] lp) pos) (znK i fun _=>some 2):=⟨(zl7 hN hi hx ((zmc (zd0 zme (zd0 zme zfy))).imp zqS) hs hf).imp zo0⟩
end
end L2
end
section
namespace L2
open PySem PySem.Spec PyProof.Rows PyProof
section
variable {prog:Program} {w:World} {A:Around} {E:Value->Shared->Prop} {s:Shared}
theorem zkY {it t:Addr} {items:Array Value} (hne:t≠it):∀ (n i:Nat) (s:Shared) (Q:List Value->Shared->Prop),s.heap.IsListIter it t i->s.heap.IsList t items->i+n<=items.size ->
  (∀ h':Heap,h'.IsListIter it t (i+n)->Heap.SameBut it s.heap h'->Q ((items.toList.drop i).take n) { s with heap:=h' })->wpAny (model prog w) A (draw (.ref it) n) Q E s
 | 0,i,s,Q,hit,_,_,hQ=>by
  show wpAny _ _ (pure []) Q E s
  exact qx (by simpa using hQ s.heap hit (Heap.SameBut.refl ..))
 | n+1,i,s,Q,hit,ht,hle,hQ=>by
  have hlt:i < items.size:=by omega
  show wpAny _ _ (pyNext (.ref it) >>= _) Q E s
  refine qv (wpAny_pyNext_list_item hit ht (x:=items[i]) (by simp [hlt]) fun h₁ hit₁ hs₁=>?_)
  refine qv (qQ (zkY hne n (i+1) _ _ hit₁ (ht.extBut hs₁.extBut hne) (by omega) fun h₂ hit₂ hs₂=>qx ?_))
  have hd:items.toList.drop i=items[i]::items.toList.drop (i+1):=by simp [List.drop_eq_getElem_cons,hlt]
  have:=hQ h₂ (by rw [show i+(n+1)=i+1+n by omega];exact hit₂) (hs₁.trans hs₂)
  rw [hd,List.take_succ_cons] at this
  exact this
theorem zgD {t:Addr} {items:Array Value} {Q:List Value->Shared->Prop} (hh:A.handled=none) (ht:s.heap.IsList t items)
  (hQ:∀ h',Heap.ExtBut s.heap.objs.size s.heap h'->Q items.toList { s with heap:=h' }):wpAny (model prog w) A (unpackItems (.ref t) items.size none) Q E s:=by
 have hlt:t≠s.heap.objs.size:=by obtain ⟨o,ho,_⟩:=ht;exact qz (qt ho)
 unfold unpackItems
 refine qv ?_
 ·unfold notIterableAtAll
  refine qv (wpAny_specialOf ht.typeIs slot_list_iter.lookup ?_)
  refine qx ?_
  simp only [qp,if_false]
  refine qv (qQ (wpAny_pyIter_list ht ?_))
  refine qv (qQ (zkY hlt items.size 0 _ _ ⟨_,qD _ rfl,rfl,rfl⟩ (ht.at fun o q=>qr _ q) (by omega) fun h₁ hit₁ hs₁=>?_))
  have hall:List.take items.size (List.drop 0 items.toList)=items.toList:=by
   rw [List.drop_zero];exact List.take_of_length_le (by simp)
  rw [hall]
  rw [qW (by simp)]
  have ht₁:h₁.IsList t items:=(ht.at fun o q=>qr _ q).extBut hs₁.extBut hlt
  refine qv (qQ (wpAny_pyNext_list_end hh hit₁ ht₁ (by simp) fun h₂ he₂=>?_))
  simp only [Option.isSome_none,qp,if_false]
  refine qx (hQ h₂ fun b o hb e=>he₂ b o hb (hs₁.extBut b o hb (qr _ e)))
theorem zgu {env:Env} {elts:List Expr} {x1} {pos:Pos} {t:Addr} {items:Array Value} {Q:Unit->Shared->Prop} (hh:A.handled=none) (ht:s.heap.IsList t items)
  (hn:(assignEach elts env).length=items.size) (hstar:(assignEach elts env).findIdx? (·.1)=none)
  (h:∀ h',Heap.ExtBut s.heap.objs.size s.heap h'->wpAny (model prog w) A (assignInOrder ((assignEach elts env).map (·.2)) items.toList) Q E { s with heap:=h' }) :
  wpAny (model prog w) A (assign (.Tuple elts x1 pos) env (.ref t)) Q E s:=by
 rw [assign_Tuple]
 refine qv (wpAny_standAt ?_)
 unfold unpack
 rw [hn,hstar]
 exact qv (qQ (zgD hh ht h))
end
section
variable {Γ:Cn} {X:Cx} {pos:Pos}
def zvD (K:PySem.W.Frag) (n:Nat) (t:TGs):TG:=fun v σ H Q=>∃ a xs,v=.ref a/\SqL K H a xs/\xs.length=n/\t xs σ H Q
theorem zsd {es:List Expr} {k:Nat} {t:TGs} {n:Nat} (hc:X.calm=true) (h:PGs X es t)
  (hn:(assignEach es X.env).length=n:=by rfl) (hst:(assignEach es X.env).findIdx? (·.1)=none:=by rfl):PG X (.Tuple es k pos) (zvD X.K n t):=by
 intro pins s σ H v u Q I r hw
 obtain ⟨a,xs,e1,hq,hl,hw⟩:=hw
 subst e1
 cases r
 obtain ⟨its,rv,ht,hz⟩:=I.list hq
 refine zgu (I.ok.hd hc) ht.isList (by simp [hn,← hl,rv.length]) hst fun h' hx=>?_
 have I1:Inv X pins σ H { s with heap:=h' }:=I.kept (t':=s.toks) fun b o e=>hx b o (qz (qt e)) e
 exact h pins _ σ H xs _ Q I1 (by simpa using rv) hw
end
end L2
end
section
namespace L2
open PySem PySem.Spec PyProof.Rows
section
variable {Γ:Cn} {X:Cx} {pos:Pos} {a b:Expr} {fa fb:FE}
def zg3 (n:Nat) (gs:FGs):FG:=fun d ρ=>match d with
 | .lst ds=>if ds.length=n then gs ds ρ else none
 | _=>none
theorem zjr {ts:List Expr} {k:Nat} {gs:FGs} {n:Nat} (hc:X.calm=true) (h:DGs Γ X ts gs) (hn:(assignEach ts X.env).length=n:=by rfl) (hst:(assignEach ts X.env).findIdx? (·.1)=none:=by rfl):DG Γ X (.Tuple ts k pos) (zg3 n gs):=by
 refine ⟨fun pins s σ H v u Q I r hw=>zsd hc h.pg hn hst pins s σ H v u Q I r ?_,fun ds ρ ρ' e q=>?_⟩
 ·obtain ⟨G₀,H₀,G,ρ,d,ρ',A,r,h,k⟩:=hw
  unfold zg3 at h
  split at h
  ·split at h
   ·rename_i hl
    obtain ⟨a,vs,rfl,ha,rv⟩:=r.lst_inv
    exact ⟨a,vs,rfl,.inl (.inl (A.gh _ _ ha)),by rw [rv.length];exact hl,G₀,H₀,G,ρ,_,ρ',A,rv,h,k⟩
   ·cases h
  ·cases h
 ·unfold zg3 at e
  split at e
  ·split at e
   ·exact h.no _ _ _ e q
   ·cases e
  ·cases e
def zlY:D->D->Option D
 | .int i,.int j=>if 0<=j then some (.int (i / 2 ^ j.toNat)) else none
 | _,_=>none
theorem zm6 (ha:DE Γ X a fa) (hb:DE Γ X b fb):DE Γ X (.BinOp a .RShift b pos) (b2 zlY fa fb):=ziC zsp (zeB fun x y z h=>by
 unfold zlY at h;split at h
 ·split at h <;> cases h;exact ⟨_,_,rfl,rfl,by assumption,rfl⟩
 ·cases h) ha hb
end
end L2
end
section
namespace L2
open PySem PySem.Spec PyProof.Rows
def ziV:D->D->Option D
 | .tup x,.tup y=>if x≠[]/\y≠[]/\x.length+y.length<=sizeLine then some (.tup (x++y)) else none
 | _,_=>none
section
variable {Γ:Cn} {X:Cx} {a b:Expr} {fa fb:FE} {pos:Pos}
theorem zmZ {K:PySem.W.Frag}:zjN Γ K ziV (zrY K):=by
 intro G H v u x y z gh r1 r2 h Q k
 unfold ziV at h
 split at h
 ·split at h
  ·rename_i hz
   cases h
   obtain ⟨a,vs,rfl,ha,ra⟩:=r1.tup_inv
   obtain ⟨b,us,rfl,hb,rb⟩:=r2.tup_inv
   refine ⟨a,b,vs,us,rfl,rfl,.inl (.inl (gh _ _ ha)),.inl (.inl (gh _ _ hb)),?_,by rw [ra.length,rb.length];exact hz.2.2,?_⟩
   ·intro z;subst z
    have:=ra.length
    exact hz.1 (List.length_eq_zero_iff.mp this.symm)
   ·refine ⟨fun z=>?_,fun _ p hp=>zio gh (ra.append rb) k p hp⟩
    subst z
    have:=rb.length
    exact absurd (List.length_eq_zero_iff.mp this.symm) hz.2.1
  ·cases h
 ·cases h
theorem znb (ha:DE Γ X a fa) (hb:DE Γ X b fb):DE Γ X (.BinOp a .Add b pos) (b2 ziV fa fb):=ziC zqi zmZ ha hb
end
end L2
end
section
namespace Law
open PySem L2 PySem.Spec PyProof.Rows
def top (i:Nat):Stmt:=PySem.Challenge.pw_shopbound_k11_shops_written.main.body.getD i (.Pass ⟨0,0,0,0⟩)
abbrev zdw:Stmt:=top 54
abbrev zfa:Stmt:=top 55
abbrev zdx:Stmt:=top 56
abbrev zet:Stmt:=top 57
abbrev zfb:Stmt:=top 58
abbrev zdX:Stmt:=top 59
abbrev zev:Stmt:=top 60
abbrev zdW:Stmt:=top 61
abbrev ze8:Stmt:=top 62
abbrev zfP:Stmt:=top 12
abbrev ze3:Stmt:=top 15
abbrev zfQ:Stmt:=top 17
abbrev zfT:Stmt:=top 31
abbrev zgM:Stmt:=top 16
abbrev zes:Stmt:=top 32
abbrev zgL:Stmt:=top 13
abbrev zfU:Stmt:=top 33
abbrev zep:Stmt:=top 19
abbrev zdU:Stmt:=top 34
abbrev ze4:Stmt:=top 18
abbrev zif:Stmt:=top 35
abbrev zfV:Stmt:=top 36
abbrev zgK:Stmt:=top 37
abbrev ze6:Stmt:=top 38
abbrev zig:Stmt:=top 39
abbrev zfW:Stmt:=top 40
abbrev zfS:Stmt:=top 41
abbrev zer:Stmt:=top 42
abbrev zgN:Stmt:=top 43
abbrev ze7:Stmt:=top 44
abbrev ze5:Stmt:=top 45
abbrev zdV:Stmt:=top 46
abbrev zfR:Stmt:=top 47
abbrev zeq:Stmt:=top 48
abbrev zc0:Stmt:=top 49
abbrev zjZ:Stmt:=top 51
abbrev zdc:Stmt:=zey (top 52) 0
abbrev ze9:Stmt:=top 63
abbrev zcy:Stmt:=zey (top 52) 7
abbrev zcQ:Stmt:=zey (top 52) 1
abbrev zdT:Stmt:=top 2
abbrev zc1:Stmt:=zey (top 52) 2
abbrev zen:Stmt:=top 3
abbrev zdb:Stmt:=zey (top 52) 3
abbrev ze2:Stmt:=top 4
abbrev zcP:Stmt:=zey (top 52) 4
abbrev zc2:Stmt:=zey (top 52) 5
abbrev zcO:Stmt:=zey (top 52) 6
abbrev zdS:Stmt:=top 5
abbrev zeo:Stmt:=top 6
abbrev zeu:Stmt:=top 64
abbrev zgJ:Stmt:=top 65
def zeT (mg:Str->Option Value):Tok:=match mg "LONGEST_NAME" with | some (.int _ t)=>t | _=>0
def zfr (mg:Str->Option Value):Tok:=match mg "MOST_AMOUNT" with | some (.int _ t)=>t | _=>0
def zeS (mg:Str->Option Value):Tok:=match mg "MOST_BENCHES" with | some (.int _ t)=>t | _=>0
def zfq (mg:Str->Option Value):Tok:=match mg "MOST_BREAKS" with | some (.int _ t)=>t | _=>0
def zeR (mg:Str->Option Value):Tok:=match mg "MOST_HORIZON" with | some (.int _ t)=>t | _=>0
def zgG (mg:Str->Option Value):Tok:=match mg "MOST_JOBS" with | some (.int _ t)=>t | _=>0
def zgc (mg:Str->Option Value):Tok:=match mg "MOST_LINKS" with | some (.int _ t)=>t | _=>0
def zfp (mg:Str->Option Value):Tok:=match mg "MOST_SETUPS" with | some (.int _ t)=>t | _=>0
def zgb (mg:Str->Option Value):Tok:=match mg "MOST_STEPS" with | some (.int _ t)=>t | _=>0
def zfo (mg:Str->Option Value):Tok:=match mg "MOST_STOCKS" with | some (.int _ t)=>t | _=>0
def zgF (mg:Str->Option Value):Tok:=match mg "MOST_WAYS" with | some (.int _ t)=>t | _=>0
structure Bn (mg:Str->Option Value):Prop where
 z_all:mg "all"=none
 z_bool:mg "bool"=none
 z_dict:mg "dict"=none
 z_enumerate:mg "enumerate"=none
 z_int:mg "int"=none
 z_isinstance:mg "isinstance"=none
 z_len:mg "len"=none
 z_list:mg "list"=none
 z_min:mg "min"=none
 z_range:mg "range"=none
 z_set:mg "set"=none
 z_str:mg "str"=none
 z_tuple:mg "tuple"=none
 c_LONGEST_NAME:mg "LONGEST_NAME"=some (.int 8 (zeT mg))
 c_MOST_AMOUNT:mg "MOST_AMOUNT"=some (.int 1000000 (zfr mg))
 c_MOST_BENCHES:mg "MOST_BENCHES"=some (.int 8 (zeS mg))
 c_MOST_BREAKS:mg "MOST_BREAKS"=some (.int 10 (zfq mg))
 c_MOST_HORIZON:mg "MOST_HORIZON"=some (.int 1000000 (zeR mg))
 c_MOST_JOBS:mg "MOST_JOBS"=some (.int 40 (zgG mg))
 c_MOST_LINKS:mg "MOST_LINKS"=some (.int 100 (zgc mg))
 c_MOST_SETUPS:mg "MOST_SETUPS"=some (.int 100 (zfp mg))
 c_MOST_STEPS:mg "MOST_STEPS"=some (.int 40 (zgb mg))
 c_MOST_STOCKS:mg "MOST_STOCKS"=some (.int 6 (zfo mg))
 c_MOST_WAYS:mg "MOST_WAYS"=some (.int 4 (zgF mg))
def zd5:List Str:=["benches","steps","jobs","setups","links","stocks","horizon","bench_by_name","step_by_name","setup_by_names","job_by_step"]
end Law
end
section
set_option maxHeartbeats 4000000
namespace Law
open PySem L2 PySem.Spec PyProof.Rows
variable {Γ:Cn} {P:Program} {w:World} {K:PySem.W.Frag} {mg:Str->Option Value} {base:Heap}
local macro_rules | `(tactic| trivial)=>`(tactic| exact ⟨rfl,rfl,rfl,by decide +kernel,rfl,by decide +kernel,by decide +kernel⟩)
def zcj:FQ:=zbY 6
  (zax (zbk 3 (orD (b2 eqA (vSh 0) (zaU (szF zai))) (b2 eqD (b2 zce (b2 ixD (vSh 0) (vC (.int 0))) (vC (.int 2))) (vC (.int 0))))) (zax (zbk 4 (vC (.int 0))) (zax (zbk 5 (b2 zdH (vSh 1) (vSh 1))) (zax (sIf (toB (b2 ltD (vSh 1) (cF zed (zab (vSh 0) zai)))) (zbk 4 (b2 ixD (vSh 0) (vSh 1))) zb1) (zax (sIf (toB (b2 neA (vSh 0) (zaU (szF zai)))) (zbk 5 (b2 ixD (vSh 0) (b2 zce (vSh 1) (cF zed (zab (vSh 0) zai))))) zb1) (zax (zgq 6 (szF zai)) (zax (zdY (itE (vSh 2)) (zbJ 2 (zao (zaE 7) (zao (zaE 8) zbr))) (sIf (zoI (toB (vSh 3)) (toB (b2 gtD (vSh 4) (vC (.int 1))))) (zax (zda 6 (b2 zce (vSh 4) (vSh 8))) (zbk 4 (b2 zmT (vSh 4) (vSh 8)))) (zax (zbk 5 (b2 za6 (b2 za6 (b2 zce (vSh 5) (vC (.int 1000000007))) (b2 zdH (b2 zdH (vC (.int 7919)) (vSh 7)) (vSh 7))) (b2 zdH (b2 zdH (vC (.int 104729)) (vSh 1)) (vSh 1)))) (zax (zbk 5 (b2 zce (b2 zdH (b2 za6 (vSh 5) (vC (.int 1))) (vC (.int 48271))) (vC (.int 2147483629)))) (zax (zbk 5 (b2 zce (b2 zdH (vSh 5) (vSh 5)) (vC (.int 2147483587)))) (zda 6 (b2 zce (b2 zeA (b2 zdH (vSh 5) (b2 za6 (vSh 5) (vC (.int 1)))) (vC (.int 97))) (vSh 8)))))))) (zhv 6 (zbp (vSh 6))))))))))
theorem zaT:FnScope ["_law_script","_law_k","_law_bounds","_law_free","_law_number","_law_seed","_law_found","_law_j","_law_bound"] ["_law_script","_law_k","_law_bounds"] (zaq zdw):=by trivial
theorem zgs (F:Dfn K mg "_law_numbers" zdw) (B:Bn mg)  : Cal Γ P w K mg base "_law_numbers" 3 1 (zcj) :=
 F.cal (k:=0) zaT (fun _ _ _ _ _ _ us hl=>match us,hl with | [_,_,_],_=>rfl) fun f cdv A outer s H E hr =>
  (zaf (zaV 3 zaT.nd (zup (zeW (zti (zqL hr)) (zac 0) (DO.de (zaP zae)) (zbZ _)) (zds (zeW ziH (zbA (zaG (zac 0) zad) zad) zad (zbZ _))))) (zaf (zaV 4 zaT.nd zad) (zaf (zaV 5 zaT.nd (zcL (zac 1) (zac 1))) (zaf (zbK (zcX zoC (zac 1) (zaK zdu rfl B.z_len (by rfl) (zaa (zac 0) zae)) (zbZ _)) (zal (zaV 4 zaT.nd (zaG (zac 0) (zac 1)))) zaW) (zaf (zbK (zcX (zh2 (zqL hr)) (zac 0) (DO.de (zaP zae)) (zbZ _)) (zal (zaV 5 zaT.nd (zaG (zac 0) (zbA (zac 1) (zaK zdu rfl B.z_len (by rfl) (zaa (zac 0) zae)))))) zaW) (zaf (zdi 6 zaT.nd (zaP zae)) (zaf (zch PassesOwn.never rfl (ziA rfl B.z_enumerate (zac 2)) (zb2 (n:=2) rfl (zam (zak 7 zaT.nd) (zam (zak 8 zaT.nd) zbl))) (zal (zbK (DW.dt (zpg (zaZ (zac 3)) (zmV (zcX zq3 (zac 4) zad (zbZ _))))) (zaf (zbm 6 (zbA (zac 4) (zac 8))) (zal (zaV 4 zaT.nd (zox (zac 4) (zac 8))))) (zaf (zaV 5 zaT.nd (zaF (zaF (zbA (zac 5) zad) (zcL (zcL zad (zac 7)) (zac 7))) (zcL (zcL zad (zac 1)) (zac 1)))) (zaf (zaV 5 zaT.nd (zbA (zcL (zaF (zac 5) zad) zad) zad)) (zaf (zaV 5 zaT.nd (zbA (zcL (zac 5) (zac 5)) zad)) (zal (zbm 6 (zbA (zfd (zcL (zac 5) (zaF (zac 5) zad)) zad) (zac 8)))))))))) (zcS 6 (zal (zaB (zac 6)))))))))))
def zhr:FQ:=zbY 2
  (zax (zbk 2 (vC (.str "abcdefghijklmnopqrst"))) (zax (zbk 3 (b2 ixD (vSh 2) (b2 zce (vSh 1) (vC (.int 20))))) (zax (sIf (orT (toB (b2 gtD (b2 zce (vSh 0) (vC (.int 5))) (vC (.int 0)))) (toB (b2 gtD (vSh 1) (vC (.int 19))))) (zbk 3 (b2 za6 (b2 ixD (vSh 2) (b2 zce (b2 zeA (vSh 1) (vC (.int 20))) (vC (.int 20)))) (vSh 3))) zb1) (zbp (b2 za6 (b2 za6 (b2 zdH (vC (.str "z")) (b2 zce (b2 za6 (vSh 0) (vSh 1)) (vC (.int 5)))) (vSh 3)) (b2 zdH (vC (.str "y")) (b2 zce (b2 zeA (vSh 0) (vC (.int 4))) (vC (.int 3)))))))))
theorem zdn:FnScope ["_law_pad","_law_k","_law_letters","_law_code"] ["_law_pad","_law_k"] (zaq zfa):=by trivial
theorem ziR (F:Dfn K mg "_law_name" zfa) (B:Bn mg)  : Cal Γ P w K mg base "_law_name" 2 1 (zhr) :=
 F.cal (k:=0) zdn (fun _ _ _ _ _ _ us hl=>match us,hl with | [_,_],_=>rfl) fun f cdv A outer s H E hr =>
  (zaf (zaV 2 zdn.nd za3) (zaf (zaV 3 zdn.nd (zaG (zac 2) (zbA (zac 1) zad))) (zaf (zbK (DW.dt (zc3 (zcX zq3 (zbA (zac 0) zad) zad (zbZ _)) (zcs (zcX zq3 (zac 1) zad (zbZ _))))) (zal (zaV 3 zdn.nd (zaF (zaG (zac 2) (zbA (zfd (zac 1) zad) zad)) (zac 3)))) zaW) (zal (zaB (zaF (zaF (zcL za3 (zbA (zaF (zac 0) (zac 1)) zad)) (zac 3)) (zcL za3 (zbA (zfd (zac 0) zad) zad))))))))
def zdF (zah:FQ) (zas:FQ):FQ:=zbY 8
  (zax (zgq 4 (szF zai)) (zax (zdY (itR zjL (zab (vSh 2) zai)) (zaE 5) (zax (zgq 6 (szF zai)) (zax (zbk 7 (cF zah (zab (vSh 0) (zab (b2 za6 (vC (.int 3)) (vSh 5)) (zab (b2 za6 (zaU (szF (zab (vC (.int 11)) zai))) (b2 zdH (zaU (szF (zab (vC (.int 7)) (zab (vC (.int 6)) zai)))) (vC (.int 10)))) zai))))) (zax (zbk 8 (vC (.int 0))) (zax (zdY (itR zjL (zab (b2 ixD (vSh 7) (vC (.int 0))) zai)) (zaE 9) (zax (zbk 10 (b2 za6 (vSh 8) (b2 ixD (vSh 7) (b2 za6 (vC (.int 1)) (b2 zdH (vC (.int 2)) (vSh 9)))))) (zax (zbk 11 (b2 za6 (b2 za6 (vSh 10) (vC (.int 1))) (b2 ixD (vSh 7) (b2 za6 (vC (.int 2)) (b2 zdH (vC (.int 2)) (vSh 9)))))) (zax (sIf (toB (b2 leD (vSh 11) (vSh 3))) (zda 6 (zcK (szF (zab (vSh 10) (zab (vSh 11) zai))))) zb1) (zbk 8 (b2 za6 (vSh 11) (vC (.int 1)))))))) (zhv 6 (zda 4 (zcK (szF (zab (cF zas (zab (vSh 1) (zab (vSh 5) zai))) (zab (vSh 6) zai))))))))))) (zhv 4 (zbp (vSh 4)))))
theorem zbd:FnScope ["_law_script","_law_pad","_law_many","_law_horizon","_law_found","_law_k","_law_breaks","_law_draws","_law_free","_law_j","_law_begin","_law_end"] ["_law_script","_law_pad","_law_many","_law_horizon"] (zaq zdx):=by trivial
theorem zgt {zah:FQ} {zas:FQ} (F:Dfn K mg "_law_benches" zdx) (B:Bn mg) (c__law_numbers:Cal Γ P w K mg base "_law_numbers" 3 1 zah) (c__law_name:Cal Γ P w K mg base "_law_name" 2 1 zas):Cal Γ P w K mg base "_law_benches" 4 2 (zdF zah zas) :=
 F.cal (k:=1) zbd (fun _ _ _ _ _ _ us hl=>match us,hl with | [_,_,_,_],_=>rfl) fun f cdv A outer s H E hr =>
  (zaf (zdi 4 zbd.nd (zaP zae)) (zaf (zch PassesOwn.never rfl (zcE rfl B.z_range (zaa (zac 2) zae)) (zak 5 zbd.nd) (zaf (zdi 6 zbd.nd (zaP zae)) (zaf (zaV 7 zbd.nd (dC c__law_numbers hr (zaa (zac 0) (zaa (zaF zad (zac 5)) (zaa (zaF (DO.de (zaP (zaa zad zae))) (zcL (DO.de (zaP (zaa zad (zaa zad zae)))) zad)) zae))) ln3)) (zaf (zaV 8 zbd.nd zad) (zaf (zch PassesOwn.never rfl (zcE rfl B.z_range (zaa (zaG (zac 7) zad) zae)) (zak 9 zbd.nd) (zaf (zaV 10 zbd.nd (zaF (zac 8) (zaG (zac 7) (zaF zad (zcL zad (zac 9)))))) (zaf (zaV 11 zbd.nd (zaF (zaF (zac 10) zad) (zaG (zac 7) (zaF zad (zcL zad (zac 9)))))) (zaf (zbK (zcX ziG (zac 11) (zac 3) (zbZ _)) (zal (zbm 6 (zct (zaa (zac 10) (zaa (zac 11) zae))))) zaW) (zal (zaV 8 zbd.nd (zaF (zac 11) zad))))))) (zcS 6 (zal (zbm 4 (zct (zaa (dC c__law_name hr (zaa (zac 1) (zaa (zac 5) zae)) ln2) (zaa (zac 6) zae))))))))))) (zcS 4 (zal (zaB (zac 4))))))
def zeF (zah:FQ) (zas:FQ):FQ:=zbY 7
  (zax (zgq 5 (szF zai)) (zax (zdY (itR zjL (zab (vSh 2) zai)) (zaE 6) (zax (zbk 7 (cF zah (zab (vSh 0) (zab (b2 za6 (vC (.int 11)) (vSh 6)) (zab (b2 za6 (zaU (szF (zab (vC (.int 4)) (zab (vC (.int 8)) (zab (vC (.int 5)) (zab (vC (.int 3)) zai)))))) (b2 zdH (zaU (szF (zab (b2 zdo (vC (.int 10)) (vC (.int 6))) zai))) (vC (.int 4)))) zai))))) (zax (zbk 8 (cF ziq (zab (vSh 4) (zab (b2 ixD (zaU (szF (zab (vC (.int 5)) (zab (vC (.int 40)) (zab (b2 zdo (vC (.int 10)) (vC (.int 6))) zai))))) (b2 ixD (vSh 7) (vC (.int 3)))) zai)))) (zax (zgq 9 (szF zai)) (zax (zdY (itR zjL (zab (cF ziq (zab (b2 za6 (vC (.int 1)) (b2 ixD (vSh 7) (vC (.int 0)))) (zab (cF zed (zab (vSh 3) zai)) zai))) zai)) (zaE 10) (zax (zbk 11 (b2 ixD (b2 ixD (vSh 3) (b2 zce (b2 za6 (b2 ixD (vSh 7) (vC (.int 1))) (vSh 10)) (cF zed (zab (vSh 3) zai)))) (vC (.int 0)))) (zda 9 (zcK (szF (zab (vSh 11) (zab (b2 za6 (vC (.int 1)) (b2 zce (b2 ixD (vSh 7) (b2 za6 (vC (.int 4)) (vSh 10))) (vSh 8))) zai))))))) (zhv 9 (zda 5 (zcK (szF (zab (cF zas (zab (vSh 1) (zab (b2 za6 (b2 zdH (vC (.int 20)) (b2 zce (vSh 1) (vC (.int 2)))) (vSh 6)) zai))) (zab (cF zas (zab (b2 zeA (vSh 1) (vC (.int 2))) (zab (b2 ixD (vSh 7) (vC (.int 2))) zai))) (zab (vSh 9) zai)))))))))))) (zhv 5 (zbp (vSh 5)))))
theorem zbB:FnScope ["_law_script","_law_pad","_law_many","_law_benches_here","_law_horizon","_law_found","_law_k","_law_draws","_law_most","_law_ways","_law_j","_law_bench"] ["_law_script","_law_pad","_law_many","_law_benches_here","_law_horizon"] (zaq zet):=by trivial
theorem zhF {zah:FQ} {zas:FQ} (F:Dfn K mg "_law_steps" zet) (B:Bn mg) (c__law_numbers:Cal Γ P w K mg base "_law_numbers" 3 1 zah) (c__law_name:Cal Γ P w K mg base "_law_name" 2 1 zas):Cal Γ P w K mg base "_law_steps" 5 2 (zeF zah zas) :=
 F.cal (k:=1) zbB (fun _ _ _ _ _ _ us hl=>match us,hl with | [_,_,_,_,_],_=>rfl) fun f cdv A outer s H E hr =>
  (zaf (zdi 5 zbB.nd (zaP zae)) (zaf (zch PassesOwn.never rfl (zcE rfl B.z_range (zaa (zac 2) zae)) (zak 6 zbB.nd) (zaf (zaV 7 zbB.nd (dC c__law_numbers hr (zaa (zac 0) (zaa (zaF zad (zac 6)) (zaa (zaF (DO.de (zaP (zaa zad (zaa zad (zaa zad (zaa zad zae)))))) (zcL (DO.de (zaP (zaa (zci zad zad) zae))) zad)) zae))) ln3)) (zaf (zaV 8 zbB.nd (zaK (zjH rfl) rfl B.z_min (by rfl) (zaa (zac 4) (zaa (zaG (DO.de (zaP (zaa zad (zaa zad (zaa (zci zad zad) zae))))) (zaG (zac 7) zad)) zae)))) (zaf (zdi 9 zbB.nd (zaP zae)) (zaf (zch PassesOwn.never rfl (zcE rfl B.z_range (zaa (zaK (zjH rfl) rfl B.z_min (by rfl) (zaa (zaF zad (zaG (zac 7) zad)) (zaa (zaK zdu rfl B.z_len (by rfl) (zaa (zac 3) zae)) zae))) zae)) (zak 10 zbB.nd) (zaf (zaV 11 zbB.nd (zaG (zaG (zac 3) (zbA (zaF (zaG (zac 7) zad) (zac 10)) (zaK zdu rfl B.z_len (by rfl) (zaa (zac 3) zae)))) zad)) (zal (zbm 9 (zct (zaa (zac 11) (zaa (zaF zad (zbA (zaG (zac 7) (zaF zad (zac 10))) (zac 8))) zae))))))) (zcS 9 (zal (zbm 5 (zct (zaa (dC c__law_name hr (zaa (zac 1) (zaa (zaF (zcL zad (zbA (zac 1) zad)) (zac 6)) zae)) ln2) (zaa (dC c__law_name hr (zaa (zfd (zac 1) zad) (zaa (zaG (zac 7) zad) zae)) ln2) (zaa (zac 9) zae)))))))))))) (zcS 5 (zal (zaB (zac 5))))))
def zfn (zah:FQ) (zas:FQ):FQ:=zbY 11
  (zax (zlF (zg3 4 (zao (zaE 4) (zao (zaE 5) (zao (zaE 6) (zao (zaE 7) zbr))))) (cF zah (zab (vSh 0) (zab (vC (.int 1)) (zab (zaU (szF (zab (vC (.int 9)) (zab (b2 zdo (vC (.int 10)) (vC (.int 6))) (zab (b2 zdo (vC (.int 10)) (vC (.int 6))) (zab (vC (.int 512)) zai)))))) zai))))) (zax (znK 8 (zrm (za7 (itR zjL (zab (vSh 4) zai)) (zaE 0) tT (vC .non) [none]))) (zax (zdY (itE (vSh 2)) (zbJ 2 (zao (zaE 9) (zao (zaE 10) zbr))) (zax (zbk 11 (b2 ixD (cF zah (zab (vSh 0) (zab (b2 za6 (vC (.int 11)) (vSh 9)) (zab (zaU (szF (zab (vC (.int 4)) (zab (vC (.int 8)) (zab (vC (.int 5)) (zab (vC (.int 3)) (zab (b2 zdo (vC (.int 10)) (vC (.int 6))) (zab (b2 zdo (vC (.int 10)) (vC (.int 6))) (zab (b2 zdo (vC (.int 10)) (vC (.int 6))) (zab (b2 zdo (vC (.int 10)) (vC (.int 6))) (zab (vC (.int 10)) zai))))))))))) zai)))) (vC (.int 8)))) (sIf (toB (b2 ltD (vSh 11) (vSh 4))) (zec 8 (vSh 11) (b2 ixD (vSh 10) (vC (.int 0)))) zb1))) (zax (zgq 12 (szF zai)) (zgf 8 (zax (zdY (itE (vSh 8)) (zbJ 2 (zao (zaE 9) (zao (zaE 13) zbr))) (sIf (toB (b2 neA (vSh 13) (zaU (szF zai)))) (zax (sIf (toB (b2 eqD (b2 zce (b2 zeA (vSh 7) (vC (.int 7))) (vC (.int 2))) (vC (.int 0)))) (zbk 13 (b1 zpT (vSh 13))) zb1) (zax (zbk 5 (b2 zce (b2 zdH (vSh 5) (vC (.int 7))) (b2 za6 (vSh 3) (vC (.int 1))))) (zax (zbk 6 (b2 zce (b2 zdH (vSh 6) (vC (.int 11))) (b2 za6 (vSh 3) (vC (.int 1))))) (zax (zbk 14 (b2 eqD (b2 zce (b2 zlY (vSh 7) (cF ziq (zab (vSh 9) (zab (vC (.int 8)) zai)))) (vC (.int 2))) (vC (.int 0)))) (zda 12 (zcK (szF (zab (cF zas (zab (b2 za6 (vSh 1) (vC (.int 1))) (zab (vSh 9) zai))) (zab (vSh 5) (zab (vSh 6) (zab (vSh 14) (zab (vSh 13) zai)))))))))))) zb1)) (zhv 12 (zbp (vSh 12)))))))))
theorem za0:FnScope ["_law_script","_law_pad","_law_steps_here","_law_horizon","_law_many","_law_early","_law_due","_law_order","_law_groups","_law_k","_law_step","_law_at","_law_found","_law_group","_law_ordered"] ["_law_script","_law_pad","_law_steps_here","_law_horizon"] (zaq zfb):=by trivial
theorem ziS {zah:FQ} {zas:FQ} (F:Dfn K mg "_law_jobs" zfb) (B:Bn mg) (c__law_numbers:Cal Γ P w K mg base "_law_numbers" 3 1 zah) (c__law_name:Cal Γ P w K mg base "_law_name" 2 1 zas):Cal Γ P w K mg base "_law_jobs" 4 2 (zfn zah zas) :=
 F.cal (k:=1) za0 (fun _ _ _ _ _ _ us hl=>match us,hl with | [_,_,_,_],_=>rfl) fun f cdv A outer s H E hr =>
  (zaf (zjp (dC c__law_numbers hr (zaa (zac 0) (zaa zad (zaa (DO.de (zaP (zaa zad (zaa (zci zad zad) (zaa (zci zad zad) (zaa zad zae)))))) zae))) ln3) (zjr (n:=4) rfl (zam (zak 4 za0.nd) (zam (zak 5 za0.nd) (zam (zak 6 za0.nd) (zam (zak 7 za0.nd) zbl)))))) (zaf (zqT 8 za0.nd rfl (CompScope.of rfl rfl) (FvOk.of (N':=["_law_k"]) (fv:=[none]) rfl) (zcE rfl B.z_range (zaa (zac 4) zae)) ⟨fun _ _ _ _ _=>⟨(zak 0 (show (["_law_k"]:List Str).Nodup by decide +kernel)),zaR,(zm7 (j:=0) (pos:=⟨0,0,0,0⟩))⟩⟩) (zaf (zch PassesOwn.never rfl (ziA rfl B.z_enumerate (zac 2)) (zb2 (n:=2) rfl (zam (zak 9 za0.nd) (zam (zak 10 za0.nd) zbl))) (zaf (zaV 11 za0.nd (zaG (dC c__law_numbers hr (zaa (zac 0) (zaa (zaF zad (zac 9)) (zaa (DO.de (zaP (zaa zad (zaa zad (zaa zad (zaa zad (zaa (zci zad zad) (zaa (zci zad zad) (zaa (zci zad zad) (zaa (zci zad zad) (zaa zad zae))))))))))) zae))) ln3) zad)) (zal (zbK (zcX zoC (zac 11) (zac 4) (zbZ _)) (zal (zix 8 (zac 11) (zaG (zac 10) zad))) zaW)))) (zaf (zdi 12 za0.nd (zaP zae)) (zjo 8 (zaf (zch PassesOwn.never rfl (ziA rfl B.z_enumerate (zac 8)) (zb2 (n:=2) rfl (zam (zak 9 za0.nd) (zam (zak 13 za0.nd) zbl))) (zal (zbK (zcX (zh2 (zqL hr)) (zac 13) (DO.de (zaP zae)) (zbZ _)) (zaf (zbK (zcX ziH (zbA (zfd (zac 7) zad) zad) zad (zbZ _)) (zal (zaV 13 za0.nd (zpj (zac 13)))) zaW) (zaf (zaV 5 za0.nd (zbA (zcL (zac 5) zad) (zaF (zac 3) zad))) (zaf (zaV 6 za0.nd (zbA (zcL (zac 6) zad) (zaF (zac 3) zad))) (zaf (zaV 14 za0.nd (zeW ziH (zbA (zm6 (zac 7) (zaK (zjH rfl) rfl B.z_min (by rfl) (zaa (zac 9) (zaa zad zae)))) zad) zad (zbZ _))) (zal (zbm 12 (zct (zaa (dC c__law_name hr (zaa (zaF (zac 1) zad) (zaa (zac 9) zae)) ln2) (zaa (zac 5) (zaa (zac 6) (zaa (zac 14) (zaa (zac 13) zae)))))))))))) zaW))) (zcS 12 (zal (zaB (zac 12))))))))))
def zea (zah:FQ) (zas:FQ):FQ:=zbY 9
  (zax (zgq 4 (szF zai)) (zax (zgq 5 (szF zai)) (zax (zdY (itR zjL (zab (b2 ixD (cF zah (zab (vSh 0) (zab (vC (.int 2)) (zab (zaU (szF (zab (vC (.int 21)) zai))) zai)))) (vC (.int 0))) zai)) (zaE 6) (zax (zlF (zg3 5 (zao (zaE 7) (zao (zaE 8) (zao (zaE 9) (zao (zaE 10) (zao (zaE 11) zbr)))))) (cF zah (zab (vSh 0) (zab (b2 za6 (vC (.int 30)) (vSh 6)) (zab (zaU (szF (zab (vC (.int 8)) (zab (vC (.int 6)) (zab (vC (.int 6)) (zab (vC (.int 2)) (zab (b2 zdo (vC (.int 10)) (vC (.int 6))) zai))))))) zai))))) (zax (zbk 7 (b2 ixD (b2 ixD (vSh 1) (b2 zce (vSh 7) (cF zed (zab (vSh 1) zai)))) (vC (.int 0)))) (zax (zbk 12 (zcK (szF (zab (vSh 7) (zab (cF zas (zab (b2 zeA (vSh 2) (vC (.int 2))) (zab (vSh 8) zai))) (zab (cF zas (zab (b2 zeA (vSh 2) (vC (.int 2))) (zab (vSh 9) zai))) zai)))))) (sIf (bwT 5 (toB (b2 zgQ (vSh 12) (vSh 5)))) (zax (zda 5 (vSh 12)) (zda 4 (b2 ziV (vSh 12) (zcK (szF (zab (b2 za6 (vC (.int 1)) (b2 zce (vSh 11) (cF ziq (zab (vSh 3) (zab (b2 ixD (zaU (szF (zab (vC (.int 6)) (zab (b2 zdo (vC (.int 10)) (vC (.int 6))) zai)))) (vSh 10)) zai))))) zai)))))) zb1))))) (zhv 4 (zbp (vSh 4))))))
theorem zbc:FnScope ["_law_script","_law_benches_here","_law_pad","_law_horizon","_law_found","_law_known","_law_k","_law_bench","_law_first","_law_second","_law_size","_law_raw","_law_row"] ["_law_script","_law_benches_here","_law_pad","_law_horizon"] (zaq zdX):=by trivial
theorem zhj {zah:FQ} {zas:FQ} (F:Dfn K mg "_law_setups" zdX) (B:Bn mg) (c__law_numbers:Cal Γ P w K mg base "_law_numbers" 3 1 zah) (c__law_name:Cal Γ P w K mg base "_law_name" 2 1 zas):Cal Γ P w K mg base "_law_setups" 4 2 (zea zah zas) :=
 F.cal (k:=1) zbc (fun _ _ _ _ _ _ us hl=>match us,hl with | [_,_,_,_],_=>rfl) fun f cdv A outer s H E hr =>
  (zaf (zdi 4 zbc.nd (zaP zae)) (zaf (zdi 5 zbc.nd (zaP zae)) (zaf (zch PassesOwn.never rfl (zcE rfl B.z_range (zaa (zaG (dC c__law_numbers hr (zaa (zac 0) (zaa zad (zaa (DO.de (zaP (zaa zad zae))) zae))) ln3) zad) zae)) (zak 6 zbc.nd) (zaf (zjp (dC c__law_numbers hr (zaa (zac 0) (zaa (zaF zad (zac 6)) (zaa (DO.de (zaP (zaa zad (zaa zad (zaa zad (zaa zad (zaa (zci zad zad) zae))))))) zae))) ln3) (zjr (n:=5) rfl (zam (zak 7 zbc.nd) (zam (zak 8 zbc.nd) (zam (zak 9 zbc.nd) (zam (zak 10 zbc.nd) (zam (zak 11 zbc.nd) zbl))))))) (zaf (zaV 7 zbc.nd (zaG (zaG (zac 1) (zbA (zac 7) (zaK zdu rfl B.z_len (by rfl) (zaa (zac 1) zae)))) zad)) (zaf (zaV 12 zbc.nd (zct (zaa (zac 7) (zaa (dC c__law_name hr (zaa (zfd (zac 2) zad) (zaa (zac 8) zae)) ln2) (zaa (dC c__law_name hr (zaa (zfd (zac 2) zad) (zaa (zac 9) zae)) ln2) zae))))) (zal (zbK (zs6 5 (zcX (znf (zo9 hr)) (zac 12) (zac 5) (by rfl))) (zaf (zbm 5 (zac 12)) (zal (zbm 4 (znb (zac 12) (zct (zaa (zaF zad (zbA (zac 11) (zaK (zjH rfl) rfl B.z_min (by rfl) (zaa (zac 3) (zaa (zaG (DO.de (zaP (zaa zad (zaa (zci zad zad) zae)))) (zac 10)) zae))))) zae)))))) zaW)))))) (zcS 4 (zal (zaB (zac 4)))))))
def zeH (zah:FQ):FQ:=zbY 7
  (zax (zgq 3 (szF zai)) (zax (zgq 4 (szF zai)) (zax (zdY (itR zjL (zab (b2 ixD (cF zah (zab (vSh 0) (zab (vC (.int 2)) (zab (zaU (szF (zab (vC (.int 21)) (zab (vC (.int 21)) zai)))) zai)))) (vC (.int 1))) zai)) (zaE 5) (zax (zlF (zg3 4 (zao (zaE 6) (zao (zaE 7) (zao (zaE 8) (zao (zaE 9) zbr))))) (cF zah (zab (vSh 0) (zab (b2 za6 (vC (.int 41)) (vSh 5)) (zab (zaU (szF (zab (vC (.int 40)) (zab (vC (.int 40)) (zab (vC (.int 3)) (zab (b2 zdo (vC (.int 10)) (vC (.int 6))) zai)))))) zai))))) (zax (zbk 6 (b2 ixD (b2 ixD (vSh 1) (b2 zce (vSh 6) (cF zed (zab (vSh 1) zai)))) (vC (.int 0)))) (zax (zbk 7 (b2 ixD (b2 ixD (vSh 1) (b2 zce (vSh 7) (cF zed (zab (vSh 1) zai)))) (vC (.int 0)))) (sIf (bwT 4 (zoI (toB (b2 neA (vSh 6) (vSh 7))) (toB (b2 zgQ (zcK (szF (zab (vSh 6) (zab (vSh 7) zai)))) (vSh 4))))) (zax (zda 4 (zcK (szF (zab (vSh 6) (zab (vSh 7) zai))))) (zda 3 (zcK (szF (zab (vSh 6) (zab (vSh 7) (zab (b2 zce (vSh 9) (cF ziq (zab (b2 za6 (vSh 2) (vC (.int 1))) (zab (b2 ixD (zaU (szF (zab (vC (.int 1)) (zab (vC (.int 8)) (zab (b2 za6 (b2 zdo (vC (.int 10)) (vC (.int 6))) (vC (.int 1))) zai))))) (vSh 8)) zai)))) zai))))))) zb1))))) (zhv 3 (zbp (vSh 3))))))
theorem zbn:FnScope ["_law_script","_law_steps_here","_law_horizon","_law_found","_law_known","_law_k","_law_one","_law_other","_law_size","_law_raw"] ["_law_script","_law_steps_here","_law_horizon"] (zaq zev):=by trivial
theorem zhH {zah:FQ} (F:Dfn K mg "_law_links" zev) (B:Bn mg) (c__law_numbers:Cal Γ P w K mg base "_law_numbers" 3 1 zah):Cal Γ P w K mg base "_law_links" 3 2 (zeH zah) :=
 F.cal (k:=1) zbn (fun _ _ _ _ _ _ us hl=>match us,hl with | [_,_,_],_=>rfl) fun f cdv A outer s H E hr =>
  (zaf (zdi 3 zbn.nd (zaP zae)) (zaf (zdi 4 zbn.nd (zaP zae)) (zaf (zch PassesOwn.never rfl (zcE rfl B.z_range (zaa (zaG (dC c__law_numbers hr (zaa (zac 0) (zaa zad (zaa (DO.de (zaP (zaa zad (zaa zad zae)))) zae))) ln3) zad) zae)) (zak 5 zbn.nd) (zaf (zjp (dC c__law_numbers hr (zaa (zac 0) (zaa (zaF zad (zac 5)) (zaa (DO.de (zaP (zaa zad (zaa zad (zaa zad (zaa (zci zad zad) zae)))))) zae))) ln3) (zjr (n:=4) rfl (zam (zak 6 zbn.nd) (zam (zak 7 zbn.nd) (zam (zak 8 zbn.nd) (zam (zak 9 zbn.nd) zbl)))))) (zaf (zaV 6 zbn.nd (zaG (zaG (zac 1) (zbA (zac 6) (zaK zdu rfl B.z_len (by rfl) (zaa (zac 1) zae)))) zad)) (zaf (zaV 7 zbn.nd (zaG (zaG (zac 1) (zbA (zac 7) (zaK zdu rfl B.z_len (by rfl) (zaa (zac 1) zae)))) zad)) (zal (zbK (zs6 4 (DW.dt (zpg (zcX (zh2 (zqL hr)) (zac 6) (zac 7) (zbZ _)) (zmV (zcX (znf (zo9 hr)) (zct (zaa (zac 6) (zaa (zac 7) zae))) (zac 4) (by rfl)))))) (zaf (zbm 4 (zct (zaa (zac 6) (zaa (zac 7) zae)))) (zal (zbm 3 (zct (zaa (zac 6) (zaa (zac 7) (zaa (zbA (zac 9) (zaK (zjH rfl) rfl B.z_min (by rfl) (zaa (zaF (zac 2) zad) (zaa (zaG (DO.de (zaP (zaa zad (zaa zad (zaa (zaF (zci zad zad) zad) zae))))) (zac 8)) zae)))) zae))))))) zaW)))))) (zcS 3 (zal (zaB (zac 3)))))))
def zd9 (zah:FQ) (zas:FQ):FQ:=zbY 14
  (zax (zgq 3 (szF zai)) (zax (zdY (itR zjL (zab (b2 ixD (cF zah (zab (vSh 0) (zab (vC (.int 2)) (zab (zaU (szF (zab (vC (.int 21)) (zab (vC (.int 21)) (zab (vC (.int 7)) zai))))) zai)))) (vC (.int 2))) zai)) (zaE 4) (zax (zbk 5 (zaU (szF (zab (vC (.int 2)) (zab (b2 za6 (b2 zdo (vC (.int 10)) (vC (.int 6))) (vC (.int 1))) (zab (b2 za6 (b2 zdo (vC (.int 10)) (vC (.int 6))) (vC (.int 1))) (zab (b2 zdo (vC (.int 2)) (vC (.int 40))) (zab (b2 zdo (vC (.int 2)) (vC (.int 40))) (zab (b2 zdo (vC (.int 10)) (vC (.int 6))) zai))))))))) (zax (zlF (zg3 6 (zao (zaE 6) (zao (zaE 7) (zao (zaE 8) (zao (zaE 9) (zao (zaE 10) (zao (zaE 11) zbr))))))) (cF zah (zab (vSh 0) (zab (b2 za6 (vC (.int 52)) (vSh 4)) (zab (vSh 5) zai))))) (zax (zbk 7 (b2 zce (vSh 7) (b2 ixD (zaU (szF (zab (vC (.int 20)) (zab (b2 za6 (b2 zdo (vC (.int 10)) (vC (.int 6))) (vC (.int 1))) zai)))) (vSh 6)))) (zax (znK 12 fun _=>some 2) (zax (zdY (itE (vSh 2)) (zbJ 2 (zao (zaE 13) (zao (zaE 14) zbr))) (zax (zbk 15 (b2 za6 (vC (.int 1)) (b2 zce (b2 za6 (vSh 11) (b2 zdH (vC (.int 7919)) (vSh 13))) (b2 ixD (zaU (szF (zab (vC (.int 9)) (zab (b2 zdo (vC (.int 10)) (vC (.int 6))) zai)))) (vSh 6))))) (zax (sIf (toB (b2 eqD (b2 zce (b2 zlY (vSh 9) (vSh 13)) (vC (.int 2))) (vC (.int 1)))) (zec 12 (vC (.int 0)) (zcK (szF (zab (b2 ixD (vSh 14) (vC (.int 0))) (zab (vSh 15) zai))))) zb1) (sIf (toB (b2 eqD (b2 zce (b2 zlY (vSh 10) (vSh 13)) (vC (.int 2))) (vC (.int 1)))) (zec 12 (vC (.int 1)) (zcK (szF (zab (b2 ixD (vSh 14) (vC (.int 0))) (zab (vSh 15) zai))))) zb1)))) (zax (zbk 16 (zcK (szF (zab (cF zas (zab (b2 za6 (vSh 1) (vC (.int 2))) (zab (vSh 4) zai))) (zab (b2 zce (vSh 8) (b2 za6 (vSh 7) (vC (.int 1)))) (zab (vSh 7) zai)))))) (zgf 12 (zda 3 (b2 ziV (vSh 16) (zcK (szF (zab (b2 ixD (vSh 12) (vC (.int 0))) (zab (b1 zpT (b2 ixD (vSh 12) (vC (.int 1)))) zai)))))))))))))) (zhv 3 (zbp (vSh 3)))))
theorem zaO:FnScope ["_law_script","_law_pad","_law_steps_here","_law_found","_law_k","_law_bounds","_law_size","_law_room","_law_first","_law_takes","_law_puts","_law_raw","_law_some","_law_j","_law_step","_law_amount","_law_row"] ["_law_script","_law_pad","_law_steps_here"] (zaq zdW):=by trivial
theorem zhi {zah:FQ} {zas:FQ} (F:Dfn K mg "_law_stocks" zdW) (B:Bn mg) (c__law_numbers:Cal Γ P w K mg base "_law_numbers" 3 1 zah) (c__law_name:Cal Γ P w K mg base "_law_name" 2 1 zas):Cal Γ P w K mg base "_law_stocks" 3 2 (zd9 zah zas) :=
 F.cal (k:=1) zaO (fun _ _ _ _ _ _ us hl=>match us,hl with | [_,_,_],_=>rfl) fun f cdv A outer s H E hr =>
  (zaf (zdi 3 zaO.nd (zaP zae)) (zaf (zch PassesOwn.never rfl (zcE rfl B.z_range (zaa (zaG (dC c__law_numbers hr (zaa (zac 0) (zaa zad (zaa (DO.de (zaP (zaa zad (zaa zad (zaa zad zae))))) zae))) ln3) zad) zae)) (zak 4 zaO.nd) (zaf (zaV 5 zaO.nd (DO.de (zaP (zaa zad (zaa (zaF (zci zad zad) zad) (zaa (zaF (zci zad zad) zad) (zaa (zci zad zad) (zaa (zci zad zad) (zaa (zci zad zad) zae))))))))) (zaf (zjp (dC c__law_numbers hr (zaa (zac 0) (zaa (zaF zad (zac 4)) (zaa (zac 5) zae))) ln3) (zjr (n:=6) rfl (zam (zak 6 zaO.nd) (zam (zak 7 zaO.nd) (zam (zak 8 zaO.nd) (zam (zak 9 zaO.nd) (zam (zak 10 zaO.nd) (zam (zak 11 zaO.nd) zbl)))))))) (zaf (zaV 7 zaO.nd (zbA (zac 7) (zaG (DO.de (zaP (zaa zad (zaa (zaF (zci zad zad) zad) zae)))) (zac 6)))) (zaf (zqU 12 zaO.nd) (zaf (zch PassesOwn.never rfl (ziA rfl B.z_enumerate (zac 2)) (zb2 (n:=2) rfl (zam (zak 13 zaO.nd) (zam (zak 14 zaO.nd) zbl))) (zaf (zaV 15 zaO.nd (zaF zad (zbA (zaF (zac 11) (zcL zad (zac 13))) (zaG (DO.de (zaP (zaa zad (zaa (zci zad zad) zae)))) (zac 6))))) (zaf (zbK (zcX ziH (zbA (zm6 (zac 9) (zac 13)) zad) zad (zbZ _)) (zal (zix 12 zad (zct (zaa (zaG (zac 14) zad) (zaa (zac 15) zae))))) zaW) (zal (zbK (zcX ziH (zbA (zm6 (zac 10) (zac 13)) zad) zad (zbZ _)) (zal (zix 12 zad (zct (zaa (zaG (zac 14) zad) (zaa (zac 15) zae))))) zaW))))) (zaf (zaV 16 zaO.nd (zct (zaa (dC c__law_name hr (zaa (zaF (zac 1) zad) (zaa (zac 4) zae)) ln2) (zaa (zbA (zac 8) (zaF (zac 7) zad)) (zaa (zac 7) zae))))) (zjo 12 (zal (zbm 3 (znb (zac 16) (zct (zaa (zaG (zac 12) zad) (zaa (zpj (zaG (zac 12) zad)) zae)))))))))))))) (zcS 3 (zal (zaB (zac 3))))))
def zfl (zah:FQ) (zbh:FQ) (zbE:FQ) (zbT:FQ) (zbw:FQ) (zbF:FQ) (zbv:FQ):FQ:=zbY 13
  (zax (zlF (zg3 6 (zao (zaE 1) (zao (zaE 2) (zao (zaE 3) (zao (zaE 4) (zao (zaE 5) (zao (zaE 6) zbr))))))) (cF zah (zab (vSh 0) (zab (vC (.int 0)) (zab (zaU (szF (zab (vC (.int 60)) (zab (vC (.int 8)) (zab (vC (.int 3)) (zab (vC (.int 40)) (zab (vC (.int 3)) (zab (b2 zdo (vC (.int 10)) (vC (.int 6))) zai)))))))) zai))))) (zax (zbk 7 (b2 za6 (vC (.int 1)) (b2 zce (vSh 6) (b2 ixD (zaU (szF (zab (vC (.int 12)) (zab (vC (.int 400)) (zab (b2 zdo (vC (.int 10)) (vC (.int 6))) zai))))) (vSh 5))))) (zax (zbk 8 (cF zbh (zab (vSh 0) (zab (vSh 1) (zab (b2 za6 (vC (.int 1)) (vSh 2)) (zab (vSh 7) zai)))))) (zax (zbk 9 (cF zbE (zab (vSh 0) (zab (vSh 1) (zab (b2 za6 (vC (.int 1)) (b2 zce (vSh 4) (b2 ixD (zaU (szF (zab (vC (.int 3)) (zab (vC (.int 8)) (zab (vC (.int 40)) zai))))) (vSh 3)))) (zab (vSh 8) (zab (vSh 7) zai))))))) (zax (zbk 10 (cF zbT (zab (vSh 0) (zab (vSh 1) (zab (vSh 9) (zab (vSh 7) zai)))))) (zax (zbk 11 (cF zbw (zab (vSh 0) (zab (vSh 8) (zab (vSh 1) (zab (vSh 7) zai)))))) (zax (zbk 12 (cF zbF (zab (vSh 0) (zab (vSh 9) (zab (vSh 7) zai))))) (zax (zbk 13 (cF zbv (zab (vSh 0) (zab (vSh 1) (zab (vSh 9) zai))))) (zbp (zaU (szF (zab (vSh 8) (zab (vSh 9) (zab (vSh 10) (zab (vSh 11) (zab (vSh 12) (zab (vSh 13) (zab (vSh 7) zai))))))))))))))))))
theorem zbb:FnScope ["_law_script","_law_pad","_law_many","_law_size","_law_count","_law_long","_law_raw","_law_horizon","_law_benches_here","_law_steps_here","_law_jobs_here","_law_setups_here","_law_links_here","_law_stocks_here"] ["_law_script"] (zaq ze8):=by trivial
theorem ziP {zah:FQ} {zbh:FQ} {zbE:FQ} {zbT:FQ} {zbw:FQ} {zbF:FQ} {zbv:FQ} (F:Dfn K mg "_law_shop" ze8) (B:Bn mg) (c__law_numbers:Cal Γ P w K mg base "_law_numbers" 3 1 zah) (c__law_benches:Cal Γ P w K mg base "_law_benches" 4 2 zbh) (c__law_steps:Cal Γ P w K mg base "_law_steps" 5 2 zbE) (c__law_jobs:Cal Γ P w K mg base "_law_jobs" 4 2 zbT) (c__law_setups:Cal Γ P w K mg base "_law_setups" 4 2 zbw) (c__law_links:Cal Γ P w K mg base "_law_links" 3 2 zbF) (c__law_stocks:Cal Γ P w K mg base "_law_stocks" 3 2 zbv):Cal Γ P w K mg base "_law_shop" 1 3 (zfl zah zbh zbE zbT zbw zbF zbv) :=
 F.cal (k:=2) zbb (fun _ _ _ _ _ _ us hl=>match us,hl with | [_],_=>rfl) fun f cdv A outer s H E hr =>
  (zaf (zjp (dC c__law_numbers hr (zaa (zac 0) (zaa zad (zaa (DO.de (zaP (zaa zad (zaa zad (zaa zad (zaa zad (zaa zad (zaa (zci zad zad) zae)))))))) zae))) ln3) (zjr (n:=6) rfl (zam (zak 1 zbb.nd) (zam (zak 2 zbb.nd) (zam (zak 3 zbb.nd) (zam (zak 4 zbb.nd) (zam (zak 5 zbb.nd) (zam (zak 6 zbb.nd) zbl)))))))) (zaf (zaV 7 zbb.nd (zaF zad (zbA (zac 6) (zaG (DO.de (zaP (zaa zad (zaa zad (zaa (zci zad zad) zae))))) (zac 5))))) (zaf (zaV 8 zbb.nd (dC c__law_benches hr (zaa (zac 0) (zaa (zac 1) (zaa (zaF zad (zac 2)) (zaa (zac 7) zae)))) ln4)) (zaf (zaV 9 zbb.nd (dC c__law_steps hr (zaa (zac 0) (zaa (zac 1) (zaa (zaF zad (zbA (zac 4) (zaG (DO.de (zaP (zaa zad (zaa zad (zaa zad zae))))) (zac 3)))) (zaa (zac 8) (zaa (zac 7) zae))))) ln5)) (zaf (zaV 10 zbb.nd (dC c__law_jobs hr (zaa (zac 0) (zaa (zac 1) (zaa (zac 9) (zaa (zac 7) zae)))) ln4)) (zaf (zaV 11 zbb.nd (dC c__law_setups hr (zaa (zac 0) (zaa (zac 8) (zaa (zac 1) (zaa (zac 7) zae)))) ln4)) (zaf (zaV 12 zbb.nd (dC c__law_links hr (zaa (zac 0) (zaa (zac 9) (zaa (zac 7) zae))) ln3)) (zaf (zaV 13 zbb.nd (dC c__law_stocks hr (zaa (zac 0) (zaa (zac 1) (zaa (zac 9) zae))) ln3)) (zal (zaB (DO.de (zaP (zaa (zac 8) (zaa (zac 9) (zaa (zac 10) (zaa (zac 11) (zaa (zac 12) (zaa (zac 13) (zaa (zac 7) zae)))))))))))))))))))
def zf4:FQ:=zbY 0
  (zbp (zeX (cF zgz (zab (vSh 0) (zab (vC (.ty "int")) zai))) (ztx (cF zgz (zab (vSh 0) (zab (vC (.ty "bool")) zai))))))
theorem zjS:FnScope ["thing"] ["thing"] (zaq zfP):=by trivial
theorem zjv (F:Dfn K mg "is_whole" zfP) (B:Bn mg)  : Cal Γ P w K mg base "is_whole" 1 1 (zf4) :=
 F.cal (k:=0) zjS (fun _ _ _ _ _ _ us hl=>match us,hl with | [_],_=>rfl) fun f cdv A outer s H E hr =>
  (zal (zaB (zcY (zaK zfH rfl B.z_isinstance (by rfl) (zaa (zac 0) (zaa (ziB rfl B.z_int (by rfl)) zae))) (zds (ztb (zaK zfH rfl B.z_isinstance (by rfl) (zaa (zac 0) (zaa (ziB rfl B.z_bool (by rfl)) zae))))))))
def zfi (zb7:FQ):FQ:=zbY 0
  (zbp (zeX (cF zb7 (zab (vSh 0) zai)) (chD leD leD (vSh 1) (vSh 0) (vSh 2))))
theorem zi4:FnScope ["thing","least","most"] ["thing","least","most"] (zaq ze3):=by trivial
theorem ziK {zb7:FQ} (F:Dfn K mg "is_within" ze3) (B:Bn mg) (c_is_whole:Cal Γ P w K mg base "is_whole" 1 1 zb7):Cal Γ P w K mg base "is_within" 3 2 (zfi zb7) :=
 F.cal (k:=1) zi4 (fun _ _ _ _ _ _ us hl=>match us,hl with | [_,_,_],_=>rfl) fun f cdv A outer s H E hr =>
  (zal (zaB (zcY (dC c_is_whole hr (zaa (zac 0) zae) ln1) (zds (ziE ziG ziG (zac 1) (zac 0) (zac 2))))))
def zf5:FQ:=zbY 0
  (zbp (zeX (cF zgz (zab (vSh 0) (zab (vC (.ty "tuple")) zai))) (b2 eqD (cF zed (zab (vSh 0) zai)) (vSh 1))))
theorem zjT:FnScope ["thing","many"] ["thing","many"] (zaq zfQ):=by trivial
theorem zjw (F:Dfn K mg "is_tuple" zfQ) (B:Bn mg)  : Cal Γ P w K mg base "is_tuple" 2 1 (zf5) :=
 F.cal (k:=0) zjT (fun _ _ _ _ _ _ us hl=>match us,hl with | [_,_],_=>rfl) fun f cdv A outer s H E hr =>
  (zal (zaB (zcY (zaK zfH rfl B.z_isinstance (by rfl) (zaa (zac 0) (zaa (ziB rfl B.z_tuple (by rfl)) zae))) (zds (zeW ziH (zaK zdu rfl B.z_len (by rfl) (zaa (zac 0) zae)) (zac 1) (zbZ _))))))
def zf8 (zan:FQ) (zap:FQ):FQ:=zbY 0
  (zax (sIf (orT (zcd (toB (cF zap (zab (vSh 0) (zab (vC (.int 2)) zai))))) (orT (zcd (toB (cF zan (zab (b2 ixD (vSh 0) (vC (.int 0))) (zab (vC (.int 0)) (zab (vSh 1) zai)))))) (zcd (toB (cF zan (zab (b2 ixD (vSh 0) (vC (.int 1))) (zab (vC (.int 0)) (zab (vSh 1) zai)))))))) (zbp (vC (.bl false))) zb1) (zbp (b2 ltD (b2 ixD (vSh 0) (vC (.int 0))) (b2 ixD (vSh 0) (vC (.int 1))))))
theorem zjW:FnScope ["row","horizon"] ["row","horizon"] (zaq zfT):=by trivial
theorem zjz {zan:FQ} {zap:FQ} (F:Dfn K mg "is_break" zfT) (B:Bn mg) (c_is_within:Cal Γ P w K mg base "is_within" 3 2 zan) (c_is_tuple:Cal Γ P w K mg base "is_tuple" 2 1 zap):Cal Γ P w K mg base "is_break" 2 3 (zf8 zan zap) :=
 F.cal (k:=2) zjW (fun _ _ _ _ _ _ us hl=>match us,hl with | [_,_],_=>rfl) fun f cdv A outer s H E hr =>
  (zaf (zbK (DW.dt (zc3 (za4 (zaZ (dC c_is_tuple hr (zaa (zac 0) (zaa zad zae)) ln2))) (zc3 (za4 (zaZ (dC c_is_within hr (zaa (zaG (zac 0) zad) (zaa zad (zaa (zac 1) zae))) ln3))) (zcs (za4 (zaZ (dC c_is_within hr (zaa (zaG (zac 0) zad) (zaa zad (zaa (zac 1) zae))) ln3))))))) (zal (zaB zd3)) zaW) (zal (zaB (zeW zoC (zaG (zac 0) zad) (zaG (zac 0) zad) (zbZ _)))))
def zhn:FQ:=zbY 0
  (zbp (zeX (cF zgz (zab (vSh 0) (zab (vC (.ty "list")) zai))) (chD leD leD (vSh 1) (cF zed (zab (vSh 0) zai)) (vSh 2))))
theorem zlf:FnScope ["thing","least","most"] ["thing","least","most"] (zaq zgM):=by trivial
theorem zkh (F:Dfn K mg "is_list" zgM) (B:Bn mg)  : Cal Γ P w K mg base "is_list" 3 1 (zhn) :=
 F.cal (k:=0) zlf (fun _ _ _ _ _ _ us hl=>match us,hl with | [_,_,_],_=>rfl) fun f cdv A outer s H E hr =>
  (zal (zaB (zcY (zaK zfH rfl B.z_isinstance (by rfl) (zaa (zac 0) (zaa (ziB rfl B.z_list (by rfl)) zae))) (zds (ziE ziG ziG (zac 1) (zaK zdu rfl B.z_len (by rfl) (zaa (zac 0) zae)) (zac 2))))))
def zgn (zca:FQ) (zar:FQ):FQ:=zbY 0
  (zax (sIf (orT (zcd (toB (cF zar (zab (vSh 0) (zab (vC (.int 0)) (zab (vC (.int 10)) zai)))))) (zcd (toB (cF zjJ (zab (zaU (za7 (itF (vSh 0)) (zaE 0) tT (cF zca (zab (vSh 0) (zab (vSh 1) zai))) [none,some 1])) zai))))) (zbp (vC (.bl false))) zb1) (zbp (cF zjJ (zab (zaU (za7 (itR zpS (zab (vC (.int 1)) (zab (cF zed (zab (vSh 0) zai)) zai))) (zaE 0) tT (b2 ltD (b2 ixD (b2 ixD (vSh 1) (b2 zrA (vSh 0) (vC (.int 1)))) (vC (.int 1))) (b2 ixD (b2 ixD (vSh 1) (vSh 0)) (vC (.int 0)))) [none,some 0])) zai))))
theorem zie:FnScope ["breaks","horizon"] ["breaks","horizon"] (zaq zes):=by trivial
theorem zhE {zca:FQ} {zar:FQ} (F:Dfn K mg "are_breaks" zes) (B:Bn mg) (c_is_break:Cal Γ P w K mg base "is_break" 2 3 zca) (c_is_list:Cal Γ P w K mg base "is_list" 3 1 zar):Cal Γ P w K mg base "are_breaks" 2 4 (zgn zca zar) :=
 F.cal (k:=3) zie (fun _ _ _ _ _ _ us hl=>match us,hl with | [_,_],_=>rfl) fun f cdv A outer s H E hr =>
  (zaf (zbK (DW.dt (zc3 (za4 (zaZ (dC c_is_list hr (zaa (zac 0) (zaa zad (zaa (zcm rfl B.c_MOST_BREAKS) zae))) ln3))) (zcs (za4 (zaZ (zaK (zef rfl) rfl B.z_all (by rfl) (zaa (DO.de (zbW rfl (CompScope.of rfl rfl) (FvOk.of (N':=["row","horizon"]) (fv:=[none,some 1]) rfl) (za5 (zac 0)) ⟨fun _ _ _ _ _=>⟨(zak 0 (show (["row","horizon"]:List Str).Nodup by decide +kernel)),zaR,(dC c_is_break hr (zaa (zac 0) (zaa (zac 1) zae)) ln2)⟩⟩)) zae))))))) (zal (zaB zd3)) zaW) (zal (zaB (zaK (zef rfl) rfl B.z_all (by rfl) (zaa (DO.de (zbW rfl (CompScope.of rfl rfl) (FvOk.of (N':=["place","breaks"]) (fv:=[none,some 0]) rfl) (zm2 rfl B.z_range (zaa zad (zaa (zaK zdu rfl B.z_len (by rfl) (zaa (zac 0) zae)) zae))) ⟨fun _ _ _ _ _=>⟨(zak 0 (show (["place","breaks"]:List Str).Nodup by decide +kernel)),zaR,(zeW zoC (zaG (zaG (zac 1) (zta (zac 0) zad)) zad) (zaG (zaG (zac 1) (zac 0)) zad) (zbZ _))⟩⟩)) zae)))))
def zjK:FQ:=zbY 0
  (zax (sIf (orT (zcd (toB (cF zgz (zab (vSh 0) (zab (vC (.ty "str")) zai))))) (zcd (toB (chD leD leD (vC (.int 1)) (cF zed (zab (vSh 0) zai)) (vC (.int 8)))))) (zbp (vC (.bl false))) zb1) (zbp (cF zjJ (zab (zaU (za7 (itS (vSh 0)) (zaE 0) tT (chD leD leD (vC (.str "a")) (vSh 0) (vC (.str "z"))) [none])) zai))))
theorem zle:FnScope ["thing"] ["thing"] (zaq zgL):=by trivial
theorem zkg (F:Dfn K mg "is_name" zgL) (B:Bn mg)  : Cal Γ P w K mg base "is_name" 1 1 (zjK) :=
 F.cal (k:=0) zle (fun _ _ _ _ _ _ us hl=>match us,hl with | [_],_=>rfl) fun f cdv A outer s H E hr =>
  (zaf (zbK (DW.dt (zc3 (za4 (zaZ (zaK zfH rfl B.z_isinstance (by rfl) (zaa (zac 0) (zaa (ziB rfl B.z_str (by rfl)) zae))))) (zcs (za4 (zop ziG ziG zad (zaK zdu rfl B.z_len (by rfl) (zaa (zac 0) zae)) (zcm rfl B.c_LONGEST_NAME)))))) (zal (zaB zd3)) zaW) (zal (zaB (zaK (zef rfl) rfl B.z_all (by rfl) (zaa (DO.de (zbW rfl (CompScope.of rfl rfl) (FvOk.of (N':=["sign"]) (fv:=[none]) rfl) (zs9 (zac 0)) ⟨fun _ _ _ _ _=>⟨(zak 0 (show (["sign"]:List Str).Nodup by decide +kernel)),zaR,(ziE ziG ziG za3 (zac 0) za3)⟩⟩)) zae)))))
def zf9 (zbN:FQ) (zaA:FQ) (zap:FQ):FQ:=zbY 0
  (zbp (zeX (cF zap (zab (vSh 0) (zab (vC (.int 2)) zai))) (zeX (cF zaA (zab (b2 ixD (vSh 0) (vC (.int 0))) zai)) (cF zbN (zab (b2 ixD (vSh 0) (vC (.int 1))) (zab (vSh 1) zai))))))
theorem zjX:FnScope ["row","horizon"] ["row","horizon"] (zaq zfU):=by trivial
theorem zjA {zbN:FQ} {zaA:FQ} {zap:FQ} (F:Dfn K mg "is_bench" zfU) (B:Bn mg) (c_are_breaks:Cal Γ P w K mg base "are_breaks" 2 4 zbN) (c_is_name:Cal Γ P w K mg base "is_name" 1 1 zaA) (c_is_tuple:Cal Γ P w K mg base "is_tuple" 2 1 zap):Cal Γ P w K mg base "is_bench" 2 5 (zf9 zbN zaA zap) :=
 F.cal (k:=4) zjX (fun _ _ _ _ _ _ us hl=>match us,hl with | [_,_],_=>rfl) fun f cdv A outer s H E hr =>
  (zal (zaB (zcY (dC c_is_tuple hr (zaa (zac 0) (zaa zad zae)) ln2) (zcY (dC c_is_name hr (zaa (zaG (zac 0) zad) zae) ln1) (zds (dC c_are_breaks hr (zaa (zaG (zac 0) zad) (zaa (zac 1) zae)) ln2))))))
def zcZ:FQ:=zbY 0
  (zbp (b2 eqD (b1 zfX (vSh 0)) (cF zed (zab (vSh 0) zai))))
theorem zib:FnScope ["things"] ["things"] (zaq zep):=by trivial
theorem zhB (F:Dfn K mg "are_unlike" zep) (B:Bn mg)  : Cal Γ P w K mg base "are_unlike" 1 1 (zcZ) :=
 F.cal (k:=0) zib (fun _ _ _ _ _ _ us hl=>match us,hl with | [_],_=>rfl) fun f cdv A outer s H E hr =>
  (zal (zaB (zeW ziH (zm9 rfl (zo9 hr) rfl B.z_len rfl B.z_set (zac 0)) (zaK zdu rfl B.z_len (by rfl) (zaa (zac 0) zae)) (zbZ _))))
def zfI (zcb:FQ) (zar:FQ) (zaj:FQ):FQ:=zbY 0
  (zax (sIf (orT (zcd (toB (cF zar (zab (vSh 0) (zab (vC (.int 1)) (zab (vC (.int 8)) zai)))))) (zcd (toB (cF zjJ (zab (zaU (za7 (itF (vSh 0)) (zaE 0) tT (cF zcb (zab (vSh 0) (zab (vSh 1) zai))) [none,some 1])) zai))))) (zbp (vC (.bl false))) zb1) (zbp (cF zaj (zab (zaU (za7 (itF (vSh 0)) (zaE 0) tT (b2 ixD (vSh 0) (vC (.int 0))) [none])) zai))))
theorem zht:FnScope ["benches","horizon"] ["benches","horizon"] (zaq zdU):=by trivial
theorem zhg {zcb:FQ} {zar:FQ} {zaj:FQ} (F:Dfn K mg "are_benches" zdU) (B:Bn mg) (c_is_bench:Cal Γ P w K mg base "is_bench" 2 5 zcb) (c_is_list:Cal Γ P w K mg base "is_list" 3 1 zar) (c_are_unlike:Cal Γ P w K mg base "are_unlike" 1 1 zaj):Cal Γ P w K mg base "are_benches" 2 6 (zfI zcb zar zaj) :=
 F.cal (k:=5) zht (fun _ _ _ _ _ _ us hl=>match us,hl with | [_,_],_=>rfl) fun f cdv A outer s H E hr =>
  (zaf (zbK (DW.dt (zc3 (za4 (zaZ (dC c_is_list hr (zaa (zac 0) (zaa zad (zaa (zcm rfl B.c_MOST_BENCHES) zae))) ln3))) (zcs (za4 (zaZ (zaK (zef rfl) rfl B.z_all (by rfl) (zaa (DO.de (zbW rfl (CompScope.of rfl rfl) (FvOk.of (N':=["row","horizon"]) (fv:=[none,some 1]) rfl) (za5 (zac 0)) ⟨fun _ _ _ _ _=>⟨(zak 0 (show (["row","horizon"]:List Str).Nodup by decide +kernel)),zaR,(dC c_is_bench hr (zaa (zac 0) (zaa (zac 1) zae)) ln2)⟩⟩)) zae))))))) (zal (zaB zd3)) zaW) (zal (zaB (dC c_are_unlike hr (zaa (DO.de (zbW rfl (CompScope.of rfl rfl) (FvOk.of (N':=["row"]) (fv:=[none]) rfl) (za5 (zac 0)) ⟨fun _ _ _ _ _=>⟨(zak 0 (show (["row"]:List Str).Nodup by decide +kernel)),zaR,(zaG (zac 0) zad)⟩⟩)) zae) ln1))))
def zfj (zaA:FQ):FQ:=zbY 0
  (zbp (zeX (cF zaA (zab (vSh 0) zai)) (b2 zsX (vSh 0) (vSh 1))))
theorem zi5:FnScope ["thing","names"] ["thing","names"] (zaq ze4):=by trivial
theorem ziL {zaA:FQ} (F:Dfn K mg "is_one_of" ze4) (B:Bn mg) (c_is_name:Cal Γ P w K mg base "is_name" 1 1 zaA):Cal Γ P w K mg base "is_one_of" 2 2 (zfj zaA) :=
 F.cal (k:=1) zi5 (fun _ _ _ _ _ _ us hl=>match us,hl with | [_,_],_=>rfl) fun f cdv A outer s H E hr =>
  (zal (zaB (zcY (dC c_is_name hr (zaa (zac 0) zae) ln1) (zds (zeW (ztg (zo9 hr)) (zac 0) (zac 1) (by rfl))))))
def ziW (zan:FQ) (zav:FQ) (zap:FQ):FQ:=zbY 0
  (zbp (zeX (cF zap (zab (vSh 0) (zab (vC (.int 2)) zai))) (zeX (cF zav (zab (b2 ixD (vSh 0) (vC (.int 0))) (zab (vSh 1) zai))) (cF zan (zab (b2 ixD (vSh 0) (vC (.int 1))) (zab (vC (.int 1)) (zab (vSh 2) zai)))))))
theorem zl3:FnScope ["row","bench_names","horizon"] ["row","bench_names","horizon"] (zaq zif):=by trivial
theorem zlz {zan:FQ} {zav:FQ} {zap:FQ} (F:Dfn K mg "is_way" zif) (B:Bn mg) (c_is_within:Cal Γ P w K mg base "is_within" 3 2 zan) (c_is_one_of:Cal Γ P w K mg base "is_one_of" 2 2 zav) (c_is_tuple:Cal Γ P w K mg base "is_tuple" 2 1 zap):Cal Γ P w K mg base "is_way" 3 3 (ziW zan zav zap) :=
 F.cal (k:=2) zl3 (fun _ _ _ _ _ _ us hl=>match us,hl with | [_,_,_],_=>rfl) fun f cdv A outer s H E hr =>
  (zal (zaB (zcY (dC c_is_tuple hr (zaa (zac 0) (zaa zad zae)) ln2) (zcY (dC c_is_one_of hr (zaa (zaG (zac 0) zad) (zaa (zac 1) zae)) ln2) (zds (dC c_is_within hr (zaa (zaG (zac 0) zad) (zaa zad (zaa (zac 2) zae))) ln3))))))
def zh4 (zc9:FQ) (zar:FQ) (zaj:FQ):FQ:=zbY 0
  (zax (sIf (orT (zcd (toB (cF zar (zab (vSh 0) (zab (vC (.int 1)) (zab (vC (.int 4)) zai)))))) (zcd (toB (cF zjJ (zab (zaU (za7 (itF (vSh 0)) (zaE 0) tT (cF zc9 (zab (vSh 0) (zab (vSh 1) (zab (vSh 2) zai)))) [none,some 1,some 2])) zai))))) (zbp (vC (.bl false))) zb1) (zbp (cF zaj (zab (zaU (za7 (itF (vSh 0)) (zaE 0) tT (b2 ixD (vSh 0) (vC (.int 0))) [none])) zai))))
theorem zjY:FnScope ["ways","bench_names","horizon"] ["ways","bench_names","horizon"] (zaq zfV):=by trivial
theorem zjB {zc9:FQ} {zar:FQ} {zaj:FQ} (F:Dfn K mg "are_ways" zfV) (B:Bn mg) (c_is_way:Cal Γ P w K mg base "is_way" 3 3 zc9) (c_is_list:Cal Γ P w K mg base "is_list" 3 1 zar) (c_are_unlike:Cal Γ P w K mg base "are_unlike" 1 1 zaj):Cal Γ P w K mg base "are_ways" 3 4 (zh4 zc9 zar zaj) :=
 F.cal (k:=3) zjY (fun _ _ _ _ _ _ us hl=>match us,hl with | [_,_,_],_=>rfl) fun f cdv A outer s H E hr =>
  (zaf (zbK (DW.dt (zc3 (za4 (zaZ (dC c_is_list hr (zaa (zac 0) (zaa zad (zaa (zcm rfl B.c_MOST_WAYS) zae))) ln3))) (zcs (za4 (zaZ (zaK (zef rfl) rfl B.z_all (by rfl) (zaa (DO.de (zbW rfl (CompScope.of rfl rfl) (FvOk.of (N':=["row","bench_names","horizon"]) (fv:=[none,some 1,some 2]) rfl) (za5 (zac 0)) ⟨fun _ _ _ _ _=>⟨(zak 0 (show (["row","bench_names","horizon"]:List Str).Nodup by decide +kernel)),zaR,(dC c_is_way hr (zaa (zac 0) (zaa (zac 1) (zaa (zac 2) zae))) ln3)⟩⟩)) zae))))))) (zal (zaB zd3)) zaW) (zal (zaB (dC c_are_unlike hr (zaa (DO.de (zbW rfl (CompScope.of rfl rfl) (FvOk.of (N':=["row"]) (fv:=[none]) rfl) (za5 (zac 0)) ⟨fun _ _ _ _ _=>⟨(zak 0 (show (["row"]:List Str).Nodup by decide +kernel)),zaR,(zaG (zac 0) zad)⟩⟩)) zae) ln1))))
def zhm (zaA:FQ) (zap:FQ) (zcu:FQ):FQ:=zbY 0
  (zax (sIf (orT (zcd (toB (cF zap (zab (vSh 0) (zab (vC (.int 3)) zai))))) (orT (zcd (toB (cF zaA (zab (b2 ixD (vSh 0) (vC (.int 0))) zai)))) (zcd (toB (cF zaA (zab (b2 ixD (vSh 0) (vC (.int 1))) zai)))))) (zbp (vC (.bl false))) zb1) (zbp (cF zcu (zab (b2 ixD (vSh 0) (vC (.int 2))) (zab (vSh 1) (zab (vSh 2) zai))))))
theorem zld:FnScope ["row","bench_names","horizon"] ["row","bench_names","horizon"] (zaq zgK):=by trivial
theorem zkf {zaA:FQ} {zap:FQ} {zcu:FQ} (F:Dfn K mg "is_step" zgK) (B:Bn mg) (c_is_name:Cal Γ P w K mg base "is_name" 1 1 zaA) (c_is_tuple:Cal Γ P w K mg base "is_tuple" 2 1 zap) (c_are_ways:Cal Γ P w K mg base "are_ways" 3 4 zcu):Cal Γ P w K mg base "is_step" 3 5 (zhm zaA zap zcu) :=
 F.cal (k:=4) zld (fun _ _ _ _ _ _ us hl=>match us,hl with | [_,_,_],_=>rfl) fun f cdv A outer s H E hr =>
  (zaf (zbK (DW.dt (zc3 (za4 (zaZ (dC c_is_tuple hr (zaa (zac 0) (zaa zad zae)) ln2))) (zc3 (za4 (zaZ (dC c_is_name hr (zaa (zaG (zac 0) zad) zae) ln1))) (zcs (za4 (zaZ (dC c_is_name hr (zaa (zaG (zac 0) zad) zae) ln1))))))) (zal (zaB zd3)) zaW) (zal (zaB (dC c_are_ways hr (zaa (zaG (zac 0) zad) (zaa (zac 1) (zaa (zac 2) zae))) ln3))))
def zhp (zcI:FQ) (zar:FQ) (zaj:FQ):FQ:=zbY 0
  (zax (sIf (orT (zcd (toB (cF zar (zab (vSh 0) (zab (vC (.int 1)) (zab (vC (.int 40)) zai)))))) (zcd (toB (cF zjJ (zab (zaU (za7 (itF (vSh 0)) (zaE 0) tT (cF zcI (zab (vSh 0) (zab (vSh 1) (zab (vSh 2) zai)))) [none,some 1,some 2])) zai))))) (zbp (vC (.bl false))) zb1) (zbp (cF zaj (zab (zaU (za7 (itF (vSh 0)) (zaE 0) tT (b2 ixD (vSh 0) (vC (.int 0))) [none])) zai))))
theorem zi7:FnScope ["steps","bench_names","horizon"] ["steps","bench_names","horizon"] (zaq ze6):=by trivial
theorem ziN {zcI:FQ} {zar:FQ} {zaj:FQ} (F:Dfn K mg "are_steps" ze6) (B:Bn mg) (c_is_step:Cal Γ P w K mg base "is_step" 3 5 zcI) (c_is_list:Cal Γ P w K mg base "is_list" 3 1 zar) (c_are_unlike:Cal Γ P w K mg base "are_unlike" 1 1 zaj):Cal Γ P w K mg base "are_steps" 3 6 (zhp zcI zar zaj) :=
 F.cal (k:=5) zi7 (fun _ _ _ _ _ _ us hl=>match us,hl with | [_,_,_],_=>rfl) fun f cdv A outer s H E hr =>
  (zaf (zbK (DW.dt (zc3 (za4 (zaZ (dC c_is_list hr (zaa (zac 0) (zaa zad (zaa (zcm rfl B.c_MOST_STEPS) zae))) ln3))) (zcs (za4 (zaZ (zaK (zef rfl) rfl B.z_all (by rfl) (zaa (DO.de (zbW rfl (CompScope.of rfl rfl) (FvOk.of (N':=["row","bench_names","horizon"]) (fv:=[none,some 1,some 2]) rfl) (za5 (zac 0)) ⟨fun _ _ _ _ _=>⟨(zak 0 (show (["row","bench_names","horizon"]:List Str).Nodup by decide +kernel)),zaR,(dC c_is_step hr (zaa (zac 0) (zaa (zac 1) (zaa (zac 2) zae))) ln3)⟩⟩)) zae))))))) (zal (zaB zd3)) zaW) (zal (zaB (dC c_are_unlike hr (zaa (DO.de (zbW rfl (CompScope.of rfl rfl) (FvOk.of (N':=["row"]) (fv:=[none]) rfl) (za5 (zac 0)) ⟨fun _ _ _ _ _=>⟨(zak 0 (show (["row"]:List Str).Nodup by decide +kernel)),zaR,(zaG (zac 0) zad)⟩⟩)) zae) ln1))))
def zk8 (zaA:FQ) (zap:FQ) (zan:FQ) (zav:FQ) (zar:FQ):FQ:=zbY 0
  (zax (sIf (orT (zcd (toB (cF zap (zab (vSh 0) (zab (vC (.int 5)) zai))))) (orT (zcd (toB (cF zaA (zab (b2 ixD (vSh 0) (vC (.int 0))) zai)))) (zcd (toB (cF zgz (zab (b2 ixD (vSh 0) (vC (.int 3))) (zab (vC (.ty "bool")) zai))))))) (zbp (vC (.bl false))) zb1) (zax (sIf (orT (zcd (toB (cF zan (zab (b2 ixD (vSh 0) (vC (.int 1))) (zab (vC (.int 0)) (zab (vSh 2) zai)))))) (zcd (toB (cF zan (zab (b2 ixD (vSh 0) (vC (.int 2))) (zab (vC (.int 0)) (zab (vSh 2) zai))))))) (zbp (vC (.bl false))) zb1) (zbp (zeX (cF zar (zab (b2 ixD (vSh 0) (vC (.int 4))) (zab (vC (.int 1)) (zab (cF zed (zab (vSh 1) zai)) zai)))) (cF zjJ (zab (zaU (za7 (itF (b2 ixD (vSh 0) (vC (.int 4)))) (zaE 0) tT (cF zav (zab (vSh 0) (zab (vSh 1) zai))) [none,some 1])) zai))))))
theorem zl4:FnScope ["row","step_names","horizon"] ["row","step_names","horizon"] (zaq zig):=by trivial
theorem zlA {zaA:FQ} {zap:FQ} {zan:FQ} {zav:FQ} {zar:FQ} (F:Dfn K mg "is_job" zig) (B:Bn mg) (c_is_name:Cal Γ P w K mg base "is_name" 1 1 zaA) (c_is_tuple:Cal Γ P w K mg base "is_tuple" 2 1 zap) (c_is_within:Cal Γ P w K mg base "is_within" 3 2 zan) (c_is_one_of:Cal Γ P w K mg base "is_one_of" 2 2 zav) (c_is_list:Cal Γ P w K mg base "is_list" 3 1 zar):Cal Γ P w K mg base "is_job" 3 3 (zk8 zaA zap zan zav zar) :=
 F.cal (k:=2) zl4 (fun _ _ _ _ _ _ us hl=>match us,hl with | [_,_,_],_=>rfl) fun f cdv A outer s H E hr =>
  (zaf (zbK (DW.dt (zc3 (za4 (zaZ (dC c_is_tuple hr (zaa (zac 0) (zaa zad zae)) ln2))) (zc3 (za4 (zaZ (dC c_is_name hr (zaa (zaG (zac 0) zad) zae) ln1))) (zcs (za4 (zaZ (zaK zfH rfl B.z_isinstance (by rfl) (zaa (zaG (zac 0) zad) (zaa (ziB rfl B.z_bool (by rfl)) zae))))))))) (zal (zaB zd3)) zaW) (zaf (zbK (DW.dt (zc3 (za4 (zaZ (dC c_is_within hr (zaa (zaG (zac 0) zad) (zaa zad (zaa (zac 2) zae))) ln3))) (zcs (za4 (zaZ (dC c_is_within hr (zaa (zaG (zac 0) zad) (zaa zad (zaa (zac 2) zae))) ln3)))))) (zal (zaB zd3)) zaW) (zal (zaB (zcY (dC c_is_list hr (zaa (zaG (zac 0) zad) (zaa zad (zaa (zaK zdu rfl B.z_len (by rfl) (zaa (zac 1) zae)) zae))) ln3) (zds (zaK (zef rfl) rfl B.z_all (by rfl) (zaa (DO.de (zbW rfl (CompScope.of rfl rfl) (FvOk.of (N':=["name","step_names"]) (fv:=[none,some 1]) rfl) (za5 (zaG (zac 0) zad)) ⟨fun _ _ _ _ _=>⟨(zak 0 (show (["name","step_names"]:List Str).Nodup by decide +kernel)),zaR,(dC c_is_one_of hr (zaa (zac 0) (zaa (zac 1) zae)) ln2)⟩⟩)) zae))))))))
def zh5 (zdv:FQ) (zar:FQ) (zaj:FQ):FQ:=zbY 2
  (zax (sIf (orT (zcd (toB (cF zar (zab (vSh 0) (zab (vC (.int 0)) (zab (vC (.int 40)) zai)))))) (zcd (toB (cF zjJ (zab (zaU (za7 (itF (vSh 0)) (zaE 0) tT (cF zdv (zab (vSh 0) (zab (vSh 1) (zab (vSh 2) zai)))) [none,some 1,some 2])) zai))))) (zbp (vC (.bl false))) zb1) (zax (zgq 3 (szF zai)) (zax (zdY (itF (vSh 0)) (zaE 4) (zi9 3 (b2 ixD (vSh 4) (vC (.int 4))))) (zhv 3 (zbp (zeX (cF zaj (zab (zaU (za7 (itF (vSh 0)) (zaE 0) tT (b2 ixD (vSh 0) (vC (.int 0))) [none])) zai)) (cF zaj (zab (vSh 3) zai))))))))
theorem ze0:FnScope ["jobs","step_names","horizon","members","row"] ["jobs","step_names","horizon"] (zaq zfW):=by trivial
theorem zjC {zdv:FQ} {zar:FQ} {zaj:FQ} (F:Dfn K mg "are_jobs" zfW) (B:Bn mg) (c_is_job:Cal Γ P w K mg base "is_job" 3 3 zdv) (c_is_list:Cal Γ P w K mg base "is_list" 3 1 zar) (c_are_unlike:Cal Γ P w K mg base "are_unlike" 1 1 zaj):Cal Γ P w K mg base "are_jobs" 3 4 (zh5 zdv zar zaj) :=
 F.cal (k:=3) ze0 (fun _ _ _ _ _ _ us hl=>match us,hl with | [_,_,_],_=>rfl) fun f cdv A outer s H E hr =>
  (zaf (zbK (DW.dt (zc3 (za4 (zaZ (dC c_is_list hr (zaa (zac 0) (zaa zad (zaa (zcm rfl B.c_MOST_JOBS) zae))) ln3))) (zcs (za4 (zaZ (zaK (zef rfl) rfl B.z_all (by rfl) (zaa (DO.de (zbW rfl (CompScope.of rfl rfl) (FvOk.of (N':=["row","step_names","horizon"]) (fv:=[none,some 1,some 2]) rfl) (za5 (zac 0)) ⟨fun _ _ _ _ _=>⟨(zak 0 (show (["row","step_names","horizon"]:List Str).Nodup by decide +kernel)),zaR,(dC c_is_job hr (zaa (zac 0) (zaa (zac 1) (zaa (zac 2) zae))) ln3)⟩⟩)) zae))))))) (zal (zaB zd3)) zaW) (zaf (zdi 3 ze0.nd (zaP zae)) (zaf (zch PassesOwn.never rfl (za5 (zac 0)) (zak 4 ze0.nd) (zal (zcD 3 (zaG (zac 4) zad)))) (zcS 3 (zal (zaB (zcY (dC c_are_unlike hr (zaa (DO.de (zbW rfl (CompScope.of rfl rfl) (FvOk.of (N':=["row"]) (fv:=[none]) rfl) (za5 (zac 0)) ⟨fun _ _ _ _ _=>⟨(zak 0 (show (["row"]:List Str).Nodup by decide +kernel)),zaR,(zaG (zac 0) zad)⟩⟩)) zae) ln1) (zds (dC c_are_unlike hr (zaa (zac 3) zae) ln1)))))))))
def zf7 (zav:FQ) (zap:FQ) (zan:FQ) (zaA:FQ):FQ:=zbY 0
  (zax (sIf (orT (zcd (toB (cF zap (zab (vSh 0) (zab (vC (.int 4)) zai))))) (zcd (toB (cF zav (zab (b2 ixD (vSh 0) (vC (.int 0))) (zab (vSh 1) zai)))))) (zbp (vC (.bl false))) zb1) (zbp (zeX (cF zaA (zab (b2 ixD (vSh 0) (vC (.int 1))) zai)) (zeX (cF zaA (zab (b2 ixD (vSh 0) (vC (.int 2))) zai)) (cF zan (zab (b2 ixD (vSh 0) (vC (.int 3))) (zab (vC (.int 1)) (zab (vSh 2) zai))))))))
theorem zjV:FnScope ["row","bench_names","horizon"] ["row","bench_names","horizon"] (zaq zfS):=by trivial
theorem zjy {zav:FQ} {zap:FQ} {zan:FQ} {zaA:FQ} (F:Dfn K mg "is_setup" zfS) (B:Bn mg) (c_is_one_of:Cal Γ P w K mg base "is_one_of" 2 2 zav) (c_is_tuple:Cal Γ P w K mg base "is_tuple" 2 1 zap) (c_is_within:Cal Γ P w K mg base "is_within" 3 2 zan) (c_is_name:Cal Γ P w K mg base "is_name" 1 1 zaA):Cal Γ P w K mg base "is_setup" 3 3 (zf7 zav zap zan zaA) :=
 F.cal (k:=2) zjV (fun _ _ _ _ _ _ us hl=>match us,hl with | [_,_,_],_=>rfl) fun f cdv A outer s H E hr =>
  (zaf (zbK (DW.dt (zc3 (za4 (zaZ (dC c_is_tuple hr (zaa (zac 0) (zaa zad zae)) ln2))) (zcs (za4 (zaZ (dC c_is_one_of hr (zaa (zaG (zac 0) zad) (zaa (zac 1) zae)) ln2)))))) (zal (zaB zd3)) zaW) (zal (zaB (zcY (dC c_is_name hr (zaa (zaG (zac 0) zad) zae) ln1) (zcY (dC c_is_name hr (zaa (zaG (zac 0) zad) zae) ln1) (zds (dC c_is_within hr (zaa (zaG (zac 0) zad) (zaa zad (zaa (zac 2) zae))) ln3)))))))
def zgm (zb9:FQ) (zar:FQ) (zaj:FQ):FQ:=zbY 0
  (zax (sIf (orT (zcd (toB (cF zar (zab (vSh 0) (zab (vC (.int 0)) (zab (vC (.int 100)) zai)))))) (zcd (toB (cF zjJ (zab (zaU (za7 (itF (vSh 0)) (zaE 0) tT (cF zb9 (zab (vSh 0) (zab (vSh 1) (zab (vSh 2) zai)))) [none,some 1,some 2])) zai))))) (zbp (vC (.bl false))) zb1) (zbp (cF zaj (zab (zaU (za7 (itF (vSh 0)) (zaE 0) tT (slF (vSh 0) pN (pS (vC (.int 3)))) [none])) zai))))
theorem zid:FnScope ["setups","bench_names","horizon"] ["setups","bench_names","horizon"] (zaq zer):=by trivial
theorem zhD {zb9:FQ} {zar:FQ} {zaj:FQ} (F:Dfn K mg "are_setups" zer) (B:Bn mg) (c_is_setup:Cal Γ P w K mg base "is_setup" 3 3 zb9) (c_is_list:Cal Γ P w K mg base "is_list" 3 1 zar) (c_are_unlike:Cal Γ P w K mg base "are_unlike" 1 1 zaj):Cal Γ P w K mg base "are_setups" 3 4 (zgm zb9 zar zaj) :=
 F.cal (k:=3) zid (fun _ _ _ _ _ _ us hl=>match us,hl with | [_,_,_],_=>rfl) fun f cdv A outer s H E hr =>
  (zaf (zbK (DW.dt (zc3 (za4 (zaZ (dC c_is_list hr (zaa (zac 0) (zaa zad (zaa (zcm rfl B.c_MOST_SETUPS) zae))) ln3))) (zcs (za4 (zaZ (zaK (zef rfl) rfl B.z_all (by rfl) (zaa (DO.de (zbW rfl (CompScope.of rfl rfl) (FvOk.of (N':=["row","bench_names","horizon"]) (fv:=[none,some 1,some 2]) rfl) (za5 (zac 0)) ⟨fun _ _ _ _ _=>⟨(zak 0 (show (["row","bench_names","horizon"]:List Str).Nodup by decide +kernel)),zaR,(dC c_is_setup hr (zaa (zac 0) (zaa (zac 1) (zaa (zac 2) zae))) ln3)⟩⟩)) zae))))))) (zal (zaB zd3)) zaW) (zal (zaB (dC c_are_unlike hr (zaa (DO.de (zbW rfl (CompScope.of rfl rfl) (FvOk.of (N':=["row"]) (fv:=[none]) rfl) (za5 (zac 0)) ⟨fun _ _ _ _ _=>⟨(zak 0 (show (["row"]:List Str).Nodup by decide +kernel)),zaR,(zgC (zac 0) ziz (ziy zad))⟩⟩)) zae) ln1))))
def zho (zav:FQ) (zap:FQ) (zan:FQ):FQ:=zbY 0
  (zax (sIf (orT (zcd (toB (cF zap (zab (vSh 0) (zab (vC (.int 3)) zai))))) (orT (zcd (toB (cF zav (zab (b2 ixD (vSh 0) (vC (.int 0))) (zab (vSh 1) zai))))) (zcd (toB (cF zav (zab (b2 ixD (vSh 0) (vC (.int 1))) (zab (vSh 1) zai))))))) (zbp (vC (.bl false))) zb1) (zbp (zeX (b2 neA (b2 ixD (vSh 0) (vC (.int 0))) (b2 ixD (vSh 0) (vC (.int 1)))) (cF zan (zab (b2 ixD (vSh 0) (vC (.int 2))) (zab (vC (.int 0)) (zab (vSh 2) zai)))))))
theorem zlg:FnScope ["row","step_names","horizon"] ["row","step_names","horizon"] (zaq zgN):=by trivial
theorem zki {zav:FQ} {zap:FQ} {zan:FQ} (F:Dfn K mg "is_link" zgN) (B:Bn mg) (c_is_one_of:Cal Γ P w K mg base "is_one_of" 2 2 zav) (c_is_tuple:Cal Γ P w K mg base "is_tuple" 2 1 zap) (c_is_within:Cal Γ P w K mg base "is_within" 3 2 zan):Cal Γ P w K mg base "is_link" 3 3 (zho zav zap zan) :=
 F.cal (k:=2) zlg (fun _ _ _ _ _ _ us hl=>match us,hl with | [_,_,_],_=>rfl) fun f cdv A outer s H E hr =>
  (zaf (zbK (DW.dt (zc3 (za4 (zaZ (dC c_is_tuple hr (zaa (zac 0) (zaa zad zae)) ln2))) (zc3 (za4 (zaZ (dC c_is_one_of hr (zaa (zaG (zac 0) zad) (zaa (zac 1) zae)) ln2))) (zcs (za4 (zaZ (dC c_is_one_of hr (zaa (zaG (zac 0) zad) (zaa (zac 1) zae)) ln2))))))) (zal (zaB zd3)) zaW) (zal (zaB (zcY (zeW (zh2 (zqL hr)) (zaG (zac 0) zad) (zaG (zac 0) zad) (zbZ _)) (zds (dC c_is_within hr (zaa (zaG (zac 0) zad) (zaa zad (zaa (zac 2) zae))) ln3))))))
def zhq (zcJ:FQ) (zar:FQ) (zaj:FQ):FQ:=zbY 0
  (zax (sIf (orT (zcd (toB (cF zar (zab (vSh 0) (zab (vC (.int 0)) (zab (vC (.int 100)) zai)))))) (zcd (toB (cF zjJ (zab (zaU (za7 (itF (vSh 0)) (zaE 0) tT (cF zcJ (zab (vSh 0) (zab (vSh 1) (zab (vSh 2) zai)))) [none,some 1,some 2])) zai))))) (zbp (vC (.bl false))) zb1) (zbp (cF zaj (zab (zaU (za7 (itF (vSh 0)) (zaE 0) tT (slF (vSh 0) pN (pS (vC (.int 2)))) [none])) zai))))
theorem zi8:FnScope ["links","step_names","horizon"] ["links","step_names","horizon"] (zaq ze7):=by trivial
theorem ziO {zcJ:FQ} {zar:FQ} {zaj:FQ} (F:Dfn K mg "are_links" ze7) (B:Bn mg) (c_is_link:Cal Γ P w K mg base "is_link" 3 3 zcJ) (c_is_list:Cal Γ P w K mg base "is_list" 3 1 zar) (c_are_unlike:Cal Γ P w K mg base "are_unlike" 1 1 zaj):Cal Γ P w K mg base "are_links" 3 4 (zhq zcJ zar zaj) :=
 F.cal (k:=3) zi8 (fun _ _ _ _ _ _ us hl=>match us,hl with | [_,_,_],_=>rfl) fun f cdv A outer s H E hr =>
  (zaf (zbK (DW.dt (zc3 (za4 (zaZ (dC c_is_list hr (zaa (zac 0) (zaa zad (zaa (zcm rfl B.c_MOST_LINKS) zae))) ln3))) (zcs (za4 (zaZ (zaK (zef rfl) rfl B.z_all (by rfl) (zaa (DO.de (zbW rfl (CompScope.of rfl rfl) (FvOk.of (N':=["row","step_names","horizon"]) (fv:=[none,some 1,some 2]) rfl) (za5 (zac 0)) ⟨fun _ _ _ _ _=>⟨(zak 0 (show (["row","step_names","horizon"]:List Str).Nodup by decide +kernel)),zaR,(dC c_is_link hr (zaa (zac 0) (zaa (zac 1) (zaa (zac 2) zae))) ln3)⟩⟩)) zae))))))) (zal (zaB zd3)) zaW) (zal (zaB (dC c_are_unlike hr (zaa (DO.de (zbW rfl (CompScope.of rfl rfl) (FvOk.of (N':=["row"]) (fv:=[none]) rfl) (za5 (zac 0)) ⟨fun _ _ _ _ _=>⟨(zak 0 (show (["row"]:List Str).Nodup by decide +kernel)),zaR,(zgC (zac 0) ziz (ziy zad))⟩⟩)) zae) ln1))))
def zfk (zan:FQ) (zav:FQ) (zap:FQ):FQ:=zbY 0
  (zbp (zeX (cF zap (zab (vSh 0) (zab (vC (.int 2)) zai))) (zeX (cF zav (zab (b2 ixD (vSh 0) (vC (.int 0))) (zab (vSh 1) zai))) (cF zan (zab (b2 ixD (vSh 0) (vC (.int 1))) (zab (vC (.int 1)) (zab (vC (.int 1000000)) zai)))))))
theorem zi6:FnScope ["row","step_names"] ["row","step_names"] (zaq ze5):=by trivial
theorem ziM {zan:FQ} {zav:FQ} {zap:FQ} (F:Dfn K mg "is_amount" ze5) (B:Bn mg) (c_is_within:Cal Γ P w K mg base "is_within" 3 2 zan) (c_is_one_of:Cal Γ P w K mg base "is_one_of" 2 2 zav) (c_is_tuple:Cal Γ P w K mg base "is_tuple" 2 1 zap):Cal Γ P w K mg base "is_amount" 2 3 (zfk zan zav zap) :=
 F.cal (k:=2) zi6 (fun _ _ _ _ _ _ us hl=>match us,hl with | [_,_],_=>rfl) fun f cdv A outer s H E hr =>
  (zal (zaB (zcY (dC c_is_tuple hr (zaa (zac 0) (zaa zad zae)) ln2) (zcY (dC c_is_one_of hr (zaa (zaG (zac 0) zad) (zaa (zac 1) zae)) ln2) (zds (dC c_is_within hr (zaa (zaG (zac 0) zad) (zaa zad (zaa (zcm rfl B.c_MOST_AMOUNT) zae))) ln3))))))
def zfJ (zbQ:FQ) (zar:FQ) (zaj:FQ):FQ:=zbY 0
  (zax (sIf (orT (zcd (toB (cF zar (zab (vSh 0) (zab (vC (.int 0)) (zab (cF zed (zab (vSh 1) zai)) zai)))))) (zcd (toB (cF zjJ (zab (zaU (za7 (itF (vSh 0)) (zaE 0) tT (cF zbQ (zab (vSh 0) (zab (vSh 1) zai))) [none,some 1])) zai))))) (zbp (vC (.bl false))) zb1) (zbp (cF zaj (zab (zaU (za7 (itF (vSh 0)) (zaE 0) tT (b2 ixD (vSh 0) (vC (.int 0))) [none])) zai))))
theorem zhu:FnScope ["rows","step_names"] ["rows","step_names"] (zaq zdV):=by trivial
theorem zhh {zbQ:FQ} {zar:FQ} {zaj:FQ} (F:Dfn K mg "are_amounts" zdV) (B:Bn mg) (c_is_amount:Cal Γ P w K mg base "is_amount" 2 3 zbQ) (c_is_list:Cal Γ P w K mg base "is_list" 3 1 zar) (c_are_unlike:Cal Γ P w K mg base "are_unlike" 1 1 zaj):Cal Γ P w K mg base "are_amounts" 2 4 (zfJ zbQ zar zaj) :=
 F.cal (k:=3) zhu (fun _ _ _ _ _ _ us hl=>match us,hl with | [_,_],_=>rfl) fun f cdv A outer s H E hr =>
  (zaf (zbK (DW.dt (zc3 (za4 (zaZ (dC c_is_list hr (zaa (zac 0) (zaa zad (zaa (zaK zdu rfl B.z_len (by rfl) (zaa (zac 1) zae)) zae))) ln3))) (zcs (za4 (zaZ (zaK (zef rfl) rfl B.z_all (by rfl) (zaa (DO.de (zbW rfl (CompScope.of rfl rfl) (FvOk.of (N':=["row","step_names"]) (fv:=[none,some 1]) rfl) (za5 (zac 0)) ⟨fun _ _ _ _ _=>⟨(zak 0 (show (["row","step_names"]:List Str).Nodup by decide +kernel)),zaR,(dC c_is_amount hr (zaa (zac 0) (zaa (zac 1) zae)) ln2)⟩⟩)) zae))))))) (zal (zaB zd3)) zaW) (zal (zaB (dC c_are_unlike hr (zaa (DO.de (zbW rfl (CompScope.of rfl rfl) (FvOk.of (N':=["row"]) (fv:=[none]) rfl) (za5 (zac 0)) ⟨fun _ _ _ _ _=>⟨(zak 0 (show (["row"]:List Str).Nodup by decide +kernel)),zaR,(zaG (zac 0) zad)⟩⟩)) zae) ln1))))
def zf6 (zaA:FQ) (zap:FQ) (zan:FQ) (zbu:FQ):FQ:=zbY 0
  (zax (sIf (orT (zcd (toB (cF zap (zab (vSh 0) (zab (vC (.int 5)) zai))))) (zcd (toB (cF zaA (zab (b2 ixD (vSh 0) (vC (.int 0))) zai))))) (zbp (vC (.bl false))) zb1) (zax (sIf (orT (zcd (toB (cF zan (zab (b2 ixD (vSh 0) (vC (.int 2))) (zab (vC (.int 0)) (zab (vC (.int 1000000)) zai)))))) (zcd (toB (cF zan (zab (b2 ixD (vSh 0) (vC (.int 1))) (zab (vC (.int 0)) (zab (b2 ixD (vSh 0) (vC (.int 2))) zai))))))) (zbp (vC (.bl false))) zb1) (zbp (zeX (cF zbu (zab (b2 ixD (vSh 0) (vC (.int 3))) (zab (vSh 1) zai))) (cF zbu (zab (b2 ixD (vSh 0) (vC (.int 4))) (zab (vSh 1) zai)))))))
theorem zjU:FnScope ["row","step_names"] ["row","step_names"] (zaq zfR):=by trivial
theorem zjx {zaA:FQ} {zap:FQ} {zan:FQ} {zbu:FQ} (F:Dfn K mg "is_stock" zfR) (B:Bn mg) (c_is_name:Cal Γ P w K mg base "is_name" 1 1 zaA) (c_is_tuple:Cal Γ P w K mg base "is_tuple" 2 1 zap) (c_is_within:Cal Γ P w K mg base "is_within" 3 2 zan) (c_are_amounts:Cal Γ P w K mg base "are_amounts" 2 4 zbu):Cal Γ P w K mg base "is_stock" 2 5 (zf6 zaA zap zan zbu) :=
 F.cal (k:=4) zjU (fun _ _ _ _ _ _ us hl=>match us,hl with | [_,_],_=>rfl) fun f cdv A outer s H E hr =>
  (zaf (zbK (DW.dt (zc3 (za4 (zaZ (dC c_is_tuple hr (zaa (zac 0) (zaa zad zae)) ln2))) (zcs (za4 (zaZ (dC c_is_name hr (zaa (zaG (zac 0) zad) zae) ln1)))))) (zal (zaB zd3)) zaW) (zaf (zbK (DW.dt (zc3 (za4 (zaZ (dC c_is_within hr (zaa (zaG (zac 0) zad) (zaa zad (zaa (zcm rfl B.c_MOST_AMOUNT) zae))) ln3))) (zcs (za4 (zaZ (dC c_is_within hr (zaa (zaG (zac 0) zad) (zaa zad (zaa (zaG (zac 0) zad) zae))) ln3)))))) (zal (zaB zd3)) zaW) (zal (zaB (zcY (dC c_are_amounts hr (zaa (zaG (zac 0) zad) (zaa (zac 1) zae)) ln2) (zds (dC c_are_amounts hr (zaa (zaG (zac 0) zad) (zaa (zac 1) zae)) ln2)))))))
def zgl (zb8:FQ) (zar:FQ) (zaj:FQ):FQ:=zbY 0
  (zax (sIf (orT (zcd (toB (cF zar (zab (vSh 0) (zab (vC (.int 0)) (zab (vC (.int 6)) zai)))))) (zcd (toB (cF zjJ (zab (zaU (za7 (itF (vSh 0)) (zaE 0) tT (cF zb8 (zab (vSh 0) (zab (vSh 1) zai))) [none,some 1])) zai))))) (zbp (vC (.bl false))) zb1) (zbp (cF zaj (zab (zaU (za7 (itF (vSh 0)) (zaE 0) tT (b2 ixD (vSh 0) (vC (.int 0))) [none])) zai))))
theorem zic:FnScope ["stocks","step_names"] ["stocks","step_names"] (zaq zeq):=by trivial
theorem zhC {zb8:FQ} {zar:FQ} {zaj:FQ} (F:Dfn K mg "are_stocks" zeq) (B:Bn mg) (c_is_stock:Cal Γ P w K mg base "is_stock" 2 5 zb8) (c_is_list:Cal Γ P w K mg base "is_list" 3 1 zar) (c_are_unlike:Cal Γ P w K mg base "are_unlike" 1 1 zaj):Cal Γ P w K mg base "are_stocks" 2 6 (zgl zb8 zar zaj) :=
 F.cal (k:=5) zic (fun _ _ _ _ _ _ us hl=>match us,hl with | [_,_],_=>rfl) fun f cdv A outer s H E hr =>
  (zaf (zbK (DW.dt (zc3 (za4 (zaZ (dC c_is_list hr (zaa (zac 0) (zaa zad (zaa (zcm rfl B.c_MOST_STOCKS) zae))) ln3))) (zcs (za4 (zaZ (zaK (zef rfl) rfl B.z_all (by rfl) (zaa (DO.de (zbW rfl (CompScope.of rfl rfl) (FvOk.of (N':=["row","step_names"]) (fv:=[none,some 1]) rfl) (za5 (zac 0)) ⟨fun _ _ _ _ _=>⟨(zak 0 (show (["row","step_names"]:List Str).Nodup by decide +kernel)),zaR,(dC c_is_stock hr (zaa (zac 0) (zaa (zac 1) zae)) ln2)⟩⟩)) zae))))))) (zal (zaB zd3)) zaW) (zal (zaB (dC c_are_unlike hr (zaa (DO.de (zbW rfl (CompScope.of rfl rfl) (FvOk.of (N':=["row"]) (fv:=[none]) rfl) (za5 (zac 0)) ⟨fun _ _ _ _ _=>⟨(zak 0 (show (["row"]:List Str).Nodup by decide +kernel)),zaR,(zaG (zac 0) zad)⟩⟩)) zae) ln1))))
def zeg (zan:FQ) (zbD:FQ) (zb5:FQ) (zcv:FQ) (zbM:FQ) (zb6:FQ) (zbL:FQ):FQ:=zbY 2
  (zax (sIf (zcd (toB (cF zan (zab (vSh 6) (zab (vC (.int 1)) (zab (vC (.int 1000000)) zai)))))) (zbp (vC (.str "horizon"))) zb1) (zax (sIf (zcd (toB (cF zbD (zab (vSh 0) (zab (vSh 6) zai))))) (zbp (vC (.str "benches"))) zb1) (zax (zbk 7 (zaU (za7 (itF (vSh 0)) (zaE 0) tT (b2 ixD (vSh 0) (vC (.int 0))) [none]))) (zax (sIf (zcd (toB (cF zb5 (zab (vSh 1) (zab (vSh 7) (zab (vSh 6) zai)))))) (zbp (vC (.str "steps"))) zb1) (zax (zbk 8 (zaU (za7 (itF (vSh 1)) (zaE 0) tT (b2 ixD (vSh 0) (vC (.int 0))) [none]))) (zax (sIf (zcd (toB (cF zcv (zab (vSh 2) (zab (vSh 8) (zab (vSh 6) zai)))))) (zbp (vC (.str "jobs"))) zb1) (zax (sIf (zcd (toB (cF zbM (zab (vSh 3) (zab (vSh 7) (zab (vSh 6) zai)))))) (zbp (vC (.str "setups"))) zb1) (zax (sIf (zcd (toB (cF zb6 (zab (vSh 4) (zab (vSh 8) (zab (vSh 6) zai)))))) (zbp (vC (.str "links"))) zb1) (zax (sIf (zcd (toB (cF zbL (zab (vSh 5) (zab (vSh 8) zai))))) (zbp (vC (.str "stocks"))) zb1) (zbp (vC .non)))))))))))
theorem zcN:FnScope ["benches","steps","jobs","setups","links","stocks","horizon","bench_names","step_names"] ["benches","steps","jobs","setups","links","stocks","horizon"] (zaq zc0):=by trivial
theorem zfE {zan:FQ} {zbD:FQ} {zb5:FQ} {zcv:FQ} {zbM:FQ} {zb6:FQ} {zbL:FQ} (F:Dfn K mg "first_bad_part" zc0) (B:Bn mg) (c_is_within:Cal Γ P w K mg base "is_within" 3 2 zan) (c_are_benches:Cal Γ P w K mg base "are_benches" 2 6 zbD) (c_are_steps:Cal Γ P w K mg base "are_steps" 3 6 zb5) (c_are_jobs:Cal Γ P w K mg base "are_jobs" 3 4 zcv) (c_are_setups:Cal Γ P w K mg base "are_setups" 3 4 zbM) (c_are_links:Cal Γ P w K mg base "are_links" 3 4 zb6) (c_are_stocks:Cal Γ P w K mg base "are_stocks" 2 6 zbL):Cal Γ P w K mg base "first_bad_part" 7 7 (zeg zan zbD zb5 zcv zbM zb6 zbL) :=
 F.cal (k:=6) zcN (fun _ _ _ _ _ _ us hl=>match us,hl with | [_,_,_,_,_,_,_],_=>rfl) fun f cdv A outer s H E hr =>
  (zaf (zbK (za4 (zaZ (dC c_is_within hr (zaa (zac 6) (zaa zad (zaa (zcm rfl B.c_MOST_HORIZON) zae))) ln3))) (zal (zaB za3)) zaW) (zaf (zbK (za4 (zaZ (dC c_are_benches hr (zaa (zac 0) (zaa (zac 6) zae)) ln2))) (zal (zaB za3)) zaW) (zaf (zoq 7 zcN.nd rfl (CompScope.of rfl rfl) (FvOk.of (N':=["row"]) (fv:=[none]) rfl) (za5 (zac 0)) ⟨fun _ _ _ _ _=>⟨(zak 0 (show (["row"]:List Str).Nodup by decide +kernel)),zaR,(zaG (zac 0) zad)⟩⟩) (zaf (zbK (za4 (zaZ (dC c_are_steps hr (zaa (zac 1) (zaa (zac 7) (zaa (zac 6) zae))) ln3))) (zal (zaB za3)) zaW) (zaf (zoq 8 zcN.nd rfl (CompScope.of rfl rfl) (FvOk.of (N':=["row"]) (fv:=[none]) rfl) (za5 (zac 1)) ⟨fun _ _ _ _ _=>⟨(zak 0 (show (["row"]:List Str).Nodup by decide +kernel)),zaR,(zaG (zac 0) zad)⟩⟩) (zaf (zbK (za4 (zaZ (dC c_are_jobs hr (zaa (zac 2) (zaa (zac 8) (zaa (zac 6) zae))) ln3))) (zal (zaB za3)) zaW) (zaf (zbK (za4 (zaZ (dC c_are_setups hr (zaa (zac 3) (zaa (zac 7) (zaa (zac 6) zae))) ln3))) (zal (zaB za3)) zaW) (zaf (zbK (za4 (zaZ (dC c_are_links hr (zaa (zac 4) (zaa (zac 8) (zaa (zac 6) zae))) ln3))) (zal (zaB za3)) zaW) (zaf (zbK (za4 (zaZ (dC c_are_stocks hr (zaa (zac 5) (zaa (zac 8) zae)) ln2))) (zal (zaB za3)) zaW) (zal (zaB zm7)))))))))))
def zdE (zaD:FQ):FQ:=zbY 0
  (zax (sIf (toB (cF zgz (zab (vSh 0) (zab (vC (.ty "list")) zai)))) (zbp (zaU (za7 (itF (vSh 0)) (zaE 0) tT (cF zaD (zab (vSh 0) zai)) [none]))) zb1) (zax (sIf (toB (cF zgz (zab (vSh 0) (zab (vC (.ty "tuple")) zai)))) (zbp (cF zlO (zab (zaU (za7 (itF (vSh 0)) (zaE 0) tT (cF zaD (zab (vSh 0) zai)) [none])) zai))) zb1) (zbp (vSh 0))))
theorem znJ:FnScope ["thing"] ["thing"] (zaq zjZ):=by trivial
theorem zni {k:Nat} {zaD:FQ} (F:Dfn K mg "fresh" zjZ) (B:Bn mg) (c_fresh:Cal Γ P w K mg base "fresh" 1 k zaD):Cal Γ P w K mg base "fresh" 1 (k+1) (zdE zaD) :=
 F.cal (k:=k) znJ (fun _ _ _ _ _ _ us hl=>match us,hl with | [_],_=>rfl) fun f cdv A outer s H E hr =>
  (zaf (zbK (zaZ (zaK zfH rfl B.z_isinstance (by rfl) (zaa (zac 0) (zaa (ziB rfl B.z_list (by rfl)) zae)))) (zal (zaB (DO.de (zbW rfl (CompScope.of rfl rfl) (FvOk.of (N':=["part"]) (fv:=[none]) rfl) (za5 (zac 0)) ⟨fun _ _ _ _ _=>⟨(zak 0 (show (["part"]:List Str).Nodup by decide +kernel)),zaR,(zna c_fresh hr (qu _) rfl (zaa (zac 0) zae) ln1)⟩⟩)))) zaW) (zaf (zbK (zaZ (zaK zfH rfl B.z_isinstance (by rfl) (zaa (zac 0) (zaa (ziB rfl B.z_tuple (by rfl)) zae)))) (zal (zaB (zba znz rfl B.z_tuple (by rfl) (zaa (DO.de (zbW rfl (CompScope.of rfl rfl) (FvOk.of (N':=["part"]) (fv:=[none]) rfl) (za5 (zac 0)) ⟨fun _ _ _ _ _=>⟨(zak 0 (show (["part"]:List Str).Nodup by decide +kernel)),zaR,(zna c_fresh hr (qu _) rfl (zaa (zac 0) zae) ln1)⟩⟩)) zae)))) zaW) (zal (zaB (zac 0)))))
def zeJ (zbj:FQ) (zaD:FQ):FQ:=zri 3 "Shop"
  (zax (zbk 8 (cF zbj (zab (vSh 1) (zab (vSh 2) (zab (vSh 3) (zab (vSh 4) (zab (vSh 5) (zab (vSh 6) (zab (vSh 7) zai))))))))) (zax (sIf (toB (b2 zmH (vSh 8) (vC .non))) sNo zb1) (zax (zfx "Shop" "benches" 0 (cF zaD (zab (vSh 1) zai))) (zax (zfx "Shop" "steps" 0 (cF zaD (zab (vSh 2) zai))) (zax (zfx "Shop" "jobs" 0 (cF zaD (zab (vSh 3) zai))) (zax (zfx "Shop" "setups" 0 (cF zaD (zab (vSh 4) zai))) (zax (zfx "Shop" "links" 0 (cF zaD (zab (vSh 5) zai))) (zax (zfx "Shop" "stocks" 0 (cF zaD (zab (vSh 6) zai))) (zax (zfx "Shop" "horizon" 0 (vSh 7)) (zax (zfx "Shop" "bench_by_name" 0 (cF zjq (zab (zaU (za7 (itF (zhw "Shop" "benches" 0)) (zaE 0) tT (zcK (szF (zab (b2 ixD (vSh 0) (vC (.int 0))) (zab (vSh 0) zai)))) [none])) zai))) (zax (zfx "Shop" "step_by_name" 0 (cF zjq (zab (zaU (za7 (itF (zhw "Shop" "steps" 0)) (zaE 0) tT (zcK (szF (zab (b2 ixD (vSh 0) (vC (.int 0))) (zab (vSh 0) zai)))) [none])) zai))) (zax (zfx "Shop" "setup_by_names" 0 (cF zkZ (zab (zaU (za7 (itF (zhw "Shop" "setups" 0)) (zaE 0) tT (zcK (szF (zab (slF (vSh 0) pN (pS (vC (.int 3)))) (zab (b2 ixD (vSh 0) (vC (.int 3))) zai)))) [none])) zai))) (zax (zrh "Shop" "job_by_step" 0) (zdY (itF (zhw "Shop" "jobs" 0)) (zaE 9) (zdY (itF (b2 ixD (vSh 9) (vC (.int 4)))) (zaE 10) (zdy "Shop" "job_by_step" 0 (vSh 10) (vSh 9)))))))))))))))))
theorem zck:FnScope ["self","benches","steps","jobs","setups","links","stocks","horizon","part","row","step"] ["self","benches","steps","jobs","setups","links","stocks","horizon"] (zaq zdc):=by trivial
theorem zf3 {zbj:FQ} {zaD:FQ} {C:Addr} (O:ClsOk Γ K mg "Shop" C) (F:DfnM K C "Shop" "__init__" "Shop.__init__" zdc) (B:Bn mg) (c_first_bad_part:Cal Γ P w K mg base "first_bad_part" 7 7 zbj) (c_fresh:Cal Γ P w K mg base "fresh" 1 8 zaD) (cf_Shop:CF Γ K "Shop" zd5):CalI Γ P w K mg base "Shop" 7 9 (zeJ zbj zaD) :=
 DfnM.calI (k:=8) O F zck (fun _ _ _ _ _ _ us hl=>match us,hl with | [_,_,_,_,_,_,_,_],_=>rfl) fun f y cdv A outer s H E hr =>
  (zaf (zaV 8 zck.nd (dC (c_first_bad_part.re y) hr (zaa (zac 1) (zaa (zac 2) (zaa (zac 3) (zaa (zac 4) (zaa (zac 5) (zaa (zac 6) (zaa (zac 7) zae))))))) ln7)) (zaf (zbK (zcX zoD (zac 8) zm7 (zbZ _)) (zal zum) zaW) (zaf (zdB 0 (cf_Shop.re y) (.head _) (dC (c_fresh.re y) hr (zaa (zac 1) zae) ln1)) (zaf (zdB 0 (cf_Shop.re y) (.tail _ (.head _)) (dC (c_fresh.re y) hr (zaa (zac 2) zae) ln1)) (zaf (zdB 0 (cf_Shop.re y) (.tail _ (.tail _ (.head _))) (dC (c_fresh.re y) hr (zaa (zac 3) zae) ln1)) (zaf (zdB 0 (cf_Shop.re y) (.tail _ (.tail _ (.tail _ (.head _)))) (dC (c_fresh.re y) hr (zaa (zac 4) zae) ln1)) (zaf (zdB 0 (cf_Shop.re y) (.tail _ (.tail _ (.tail _ (.tail _ (.head _))))) (dC (c_fresh.re y) hr (zaa (zac 5) zae) ln1)) (zaf (zdB 0 (cf_Shop.re y) (.tail _ (.tail _ (.tail _ (.tail _ (.tail _ (.head _)))))) (dC (c_fresh.re y) hr (zaa (zac 6) zae) ln1)) (zaf (zdB 0 (cf_Shop.re y) (.tail _ (.tail _ (.tail _ (.tail _ (.tail _ (.tail _ (.head _))))))) (zac 7)) (zaf (zdB 0 (cf_Shop.re y) (.tail _ (.tail _ (.tail _ (.tail _ (.tail _ (.tail _ (.tail _ (.head _)))))))) (zba (zkp rfl (zo9 hr)) rfl B.z_dict (by rfl) (zaa (DO.de (zbW rfl (CompScope.of rfl rfl) (FvOk.of (N':=["row"]) (fv:=[none]) rfl) (za5 (ziD 0 (cf_Shop.re y) (.head _))) ⟨fun _ _ _ _ _=>⟨(zak 0 (show (["row"]:List Str).Nodup by decide +kernel)),zaR,(zct (zaa (zaG (zac 0) zad) (zaa (zac 0) zae)))⟩⟩)) zae))) (zaf (zdB 0 (cf_Shop.re y) (.tail _ (.tail _ (.tail _ (.tail _ (.tail _ (.tail _ (.tail _ (.tail _ (.head _))))))))) (zba (zkp rfl (zo9 hr)) rfl B.z_dict (by rfl) (zaa (DO.de (zbW rfl (CompScope.of rfl rfl) (FvOk.of (N':=["row"]) (fv:=[none]) rfl) (za5 (ziD 0 (cf_Shop.re y) (.tail _ (.head _)))) ⟨fun _ _ _ _ _=>⟨(zak 0 (show (["row"]:List Str).Nodup by decide +kernel)),zaR,(zct (zaa (zaG (zac 0) zad) (zaa (zac 0) zae)))⟩⟩)) zae))) (zaf (zdB 0 (cf_Shop.re y) (.tail _ (.tail _ (.tail _ (.tail _ (.tail _ (.tail _ (.tail _ (.tail _ (.tail _ (.head _)))))))))) (zba (znA rfl (zo9 hr)) rfl B.z_dict (by rfl) (zaa (DO.de (zbW rfl (CompScope.of rfl rfl) (FvOk.of (N':=["row"]) (fv:=[none]) rfl) (za5 (ziD 0 (cf_Shop.re y) (.tail _ (.tail _ (.tail _ (.head _)))))) ⟨fun _ _ _ _ _=>⟨(zak 0 (show (["row"]:List Str).Nodup by decide +kernel)),zaR,(zct (zaa (zgC (zac 0) ziz (ziy zad)) (zaa (zaG (zac 0) zad) zae)))⟩⟩)) zae))) (zaf (zs7 0 (cf_Shop.re y) (.tail _ (.tail _ (.tail _ (.tail _ (.tail _ (.tail _ (.tail _ (.tail _ (.tail _ (.tail _ (.head _)))))))))))) (zal (zch PassesOwn.never rfl (za5 (ziD 0 (cf_Shop.re y) (.tail _ (.tail _ (.head _))))) (zak 9 zck.nd) (zal (zch PassesOwn.never rfl (za5 (zaG (zac 9) zad)) (zak 10 zck.nd) (zal (zmW 0 (zo9 hr) (cf_Shop.re y) (.tail _ (.tail _ (.tail _ (.tail _ (.tail _ (.tail _ (.tail _ (.tail _ (.tail _ (.tail _ (.head _))))))))))) (zac 10) (zac 9))))))))))))))))))))
def zfm:FQ:=zbY 18
  (zax (zgq 1 (szF (zab (b2 za6 (vC (.str "horizon ")) (cF zeN (zab (b2 ixD (vSh 0) (vC (.int 6))) zai))) zai))) (zax (zdY (itF (b2 ixD (vSh 0) (vC (.int 0)))) (zbJ 2 (zao (zaE 2) (zao (zaE 3) zbr))) (zax (zbk 4 (zaU (za7 (itF (vSh 3)) (zbJ 2 (zao (zaE 0) (zao (zaE 1) zbr))) tT (b2 za6 (b2 za6 (cF zeN (zab (vSh 0) zai)) (vC (.str "-"))) (cF zeN (zab (vSh 1) zai))) [none,none]))) (zda 1 (mF zdl (vC (.str " ")) (zab (b2 za6 (zaU (szF (zab (vC (.str "bench")) (zab (vSh 2) zai)))) (vSh 4)) zai))))) (zax (zdY (itF (b2 ixD (vSh 0) (vC (.int 1)))) (zbJ 3 (zao (zaE 2) (zao (zaE 5) (zao (zaE 6) zbr)))) (zax (zbk 4 (zaU (za7 (itF (vSh 6)) (zbJ 2 (zao (zaE 0) (zao (zaE 1) zbr))) tT (b2 za6 (b2 za6 (vSh 0) (vC (.str "/"))) (cF zeN (zab (vSh 1) zai))) [none,none]))) (zda 1 (mF zdl (vC (.str " ")) (zab (b2 za6 (zaU (szF (zab (vC (.str "step")) (zab (vSh 2) (zab (vSh 5) zai))))) (vSh 4)) zai))))) (zax (zdY (itF (b2 ixD (vSh 0) (vC (.int 2)))) (zbJ 5 (zao (zaE 2) (zao (zaE 7) (zao (zaE 8) (zao (zaE 9) (zao (zaE 10) zbr)))))) (zax (zbk 4 (zaU (szF (zab (vC (.str "job")) (zab (vSh 2) (zab (cF zeN (zab (vSh 7) zai)) (zab (cF zeN (zab (vSh 8) zai)) zai))))))) (zda 1 (mF zdl (vC (.str " ")) (zab (b2 za6 (b2 za6 (vSh 4) (zaU (szF (zab (b2 ixD (zaU (szF (zab (vC (.str "of")) (zab (vC (.str "in")) zai)))) (cF ztA (zab (vSh 9) zai))) zai)))) (vSh 10)) zai))))) (zax (zdY (itF (b2 ixD (vSh 0) (vC (.int 3)))) (zaE 11) (zda 1 (mF zdl (vC (.str " ")) (zab (b2 za6 (b2 za6 (zaU (szF (zab (vC (.str "setup")) zai))) (cF zoc (zab (slF (vSh 11) pN (pS (vC (.int 3)))) zai))) (zaU (szF (zab (cF zeN (zab (b2 ixD (vSh 11) (vC (.int 3))) zai)) zai)))) zai)))) (zax (zdY (itF (b2 ixD (vSh 0) (vC (.int 4)))) (zbJ 3 (zao (zaE 12) (zao (zaE 13) (zao (zaE 14) zbr)))) (zda 1 (b2 za6 (b2 za6 (b2 za6 (b2 za6 (b2 za6 (vC (.str "link ")) (vSh 12)) (vC (.str " "))) (vSh 13)) (vC (.str " "))) (cF zeN (zab (vSh 14) zai))))) (zax (zdY (itF (b2 ixD (vSh 0) (vC (.int 5)))) (zbJ 5 (zao (zaE 2) (zao (zaE 15) (zao (zaE 16) (zao (zaE 17) (zao (zaE 18) zbr)))))) (zax (zbk 4 (zaU (szF (zab (vC (.str "stock")) (zab (vSh 2) (zab (cF zeN (zab (vSh 15) zai)) (zab (cF zeN (zab (vSh 16) zai)) zai))))))) (zax (zbk 4 (b2 za6 (vSh 4) (zaU (za7 (itF (vSh 17)) (zbJ 2 (zao (zaE 0) (zao (zaE 1) zbr))) tT (b2 za6 (b2 za6 (vSh 0) (vC (.str "-"))) (cF zeN (zab (vSh 1) zai))) [none,none])))) (zax (zbk 4 (b2 za6 (vSh 4) (zaU (za7 (itF (vSh 18)) (zbJ 2 (zao (zaE 0) (zao (zaE 1) zbr))) tT (b2 za6 (b2 za6 (vSh 0) (vC (.str "+"))) (cF zeN (zab (vSh 1) zai))) [none,none])))) (zda 1 (mF zdl (vC (.str " ")) (zab (vSh 4) zai))))))) (zhv 1 (zbp (vSh 1))))))))))
theorem zay:FnScope ["_law_parts","_law_rows_here","_law_name_here","_law_breaks","_law_words","_law_kind","_law_ways","_law_early","_law_due","_law_ordered","_law_some","_law_row","_law_one","_law_other","_law_gap","_law_first","_law_room","_law_takes","_law_puts"] ["_law_parts"] (zaq ze9):=by trivial
theorem ziQ (F:Dfn K mg "_law_rows" ze9) (B:Bn mg)  : Cal Γ P w K mg base "_law_rows" 1 1 (zfm) :=
 F.cal (k:=0) zay (fun _ _ _ _ _ _ us hl=>match us,hl with | [_],_=>rfl) fun f cdv A outer s H E hr =>
  (zaf (zdi 1 zay.nd (zaP (zaa (zaF za3 (zba zc5 rfl B.z_str (by rfl) (zaa (zaG (zac 0) zad) zae))) zae))) (zaf (zch PassesOwn.never rfl (za5 (zaG (zac 0) zad)) (zb2 (n:=2) rfl (zam (zak 2 zay.nd) (zam (zak 3 zay.nd) zbl))) (zaf (zoq 4 zay.nd rfl (CompScope.of rfl rfl) (FvOk.of (N':=["_law_b","_law_e"]) (fv:=[none,none]) rfl) (za5 (zac 3)) ⟨fun _ _ _ _ _=>⟨(zb2 (n:=2) rfl (zam (zak 0 (show (["_law_b","_law_e"]:List Str).Nodup by decide +kernel)) (zam (zak 1 (show (["_law_b","_law_e"]:List Str).Nodup by decide +kernel)) zbl))),zaR,(zaF (zaF (zba zc5 rfl B.z_str (by rfl) (zaa (zac 0) zae)) za3) (zba zc5 rfl B.z_str (by rfl) (zaa (zac 1) zae)))⟩⟩) (zal (zbm 1 (zg9 PySem.F.plainAttrs_str PySem.F.slot_str_join PySem.F.type_str_join zdf za3 (zaa (zaF (DO.de (zaP (zaa za3 (zaa (zac 2) zae)))) (zac 4)) zae)))))) (zaf (zch PassesOwn.never rfl (za5 (zaG (zac 0) zad)) (zb2 (n:=3) rfl (zam (zak 2 zay.nd) (zam (zak 5 zay.nd) (zam (zak 6 zay.nd) zbl)))) (zaf (zoq 4 zay.nd rfl (CompScope.of rfl rfl) (FvOk.of (N':=["_law_bench","_law_length"]) (fv:=[none,none]) rfl) (za5 (zac 6)) ⟨fun _ _ _ _ _=>⟨(zb2 (n:=2) rfl (zam (zak 0 (show (["_law_bench","_law_length"]:List Str).Nodup by decide +kernel)) (zam (zak 1 (show (["_law_bench","_law_length"]:List Str).Nodup by decide +kernel)) zbl))),zaR,(zaF (zaF (zac 0) za3) (zba zc5 rfl B.z_str (by rfl) (zaa (zac 1) zae)))⟩⟩) (zal (zbm 1 (zg9 PySem.F.plainAttrs_str PySem.F.slot_str_join PySem.F.type_str_join zdf za3 (zaa (zaF (DO.de (zaP (zaa za3 (zaa (zac 2) (zaa (zac 5) zae))))) (zac 4)) zae)))))) (zaf (zch PassesOwn.never rfl (za5 (zaG (zac 0) zad)) (zb2 (n:=5) rfl (zam (zak 2 zay.nd) (zam (zak 7 zay.nd) (zam (zak 8 zay.nd) (zam (zak 9 zay.nd) (zam (zak 10 zay.nd) zbl)))))) (zaf (zaV 4 zay.nd (DO.de (zaP (zaa za3 (zaa (zac 2) (zaa (zba zc5 rfl B.z_str (by rfl) (zaa (zac 7) zae)) (zaa (zba zc5 rfl B.z_str (by rfl) (zaa (zac 8) zae)) zae))))))) (zal (zbm 1 (zg9 PySem.F.plainAttrs_str PySem.F.slot_str_join PySem.F.type_str_join zdf za3 (zaa (zaF (zaF (zac 4) (DO.de (zaP (zaa (zaG (DO.de (zaP (zaa za3 (zaa za3 zae)))) (zba zrv rfl B.z_int (by rfl) (zaa (zac 9) zae))) zae)))) (zac 10)) zae)))))) (zaf (zch PassesOwn.never rfl (za5 (zaG (zac 0) zad)) (zak 11 zay.nd) (zal (zbm 1 (zg9 PySem.F.plainAttrs_str PySem.F.slot_str_join PySem.F.type_str_join zdf za3 (zaa (zaF (zaF (DO.de (zaP (zaa za3 zae))) (zba zpA rfl B.z_list (by rfl) (zaa (zgC (zac 11) ziz (ziy zad)) zae))) (DO.de (zaP (zaa (zba zc5 rfl B.z_str (by rfl) (zaa (zaG (zac 11) zad) zae)) zae)))) zae))))) (zaf (zch PassesOwn.never rfl (za5 (zaG (zac 0) zad)) (zb2 (n:=3) rfl (zam (zak 12 zay.nd) (zam (zak 13 zay.nd) (zam (zak 14 zay.nd) zbl)))) (zal (zbm 1 (zaF (zaF (zaF (zaF (zaF za3 (zac 12)) za3) (zac 13)) za3) (zba zc5 rfl B.z_str (by rfl) (zaa (zac 14) zae)))))) (zaf (zch PassesOwn.never rfl (za5 (zaG (zac 0) zad)) (zb2 (n:=5) rfl (zam (zak 2 zay.nd) (zam (zak 15 zay.nd) (zam (zak 16 zay.nd) (zam (zak 17 zay.nd) (zam (zak 18 zay.nd) zbl)))))) (zaf (zaV 4 zay.nd (DO.de (zaP (zaa za3 (zaa (zac 2) (zaa (zba zc5 rfl B.z_str (by rfl) (zaa (zac 15) zae)) (zaa (zba zc5 rfl B.z_str (by rfl) (zaa (zac 16) zae)) zae))))))) (zaf (zaV 4 zay.nd (zaF (zac 4) (DO.de (zbW rfl (CompScope.of rfl rfl) (FvOk.of (N':=["_law_step","_law_amount"]) (fv:=[none,none]) rfl) (za5 (zac 17)) ⟨fun _ _ _ _ _=>⟨(zb2 (n:=2) rfl (zam (zak 0 (show (["_law_step","_law_amount"]:List Str).Nodup by decide +kernel)) (zam (zak 1 (show (["_law_step","_law_amount"]:List Str).Nodup by decide +kernel)) zbl))),zaR,(zaF (zaF (zac 0) za3) (zba zc5 rfl B.z_str (by rfl) (zaa (zac 1) zae)))⟩⟩)))) (zaf (zaV 4 zay.nd (zaF (zac 4) (DO.de (zbW rfl (CompScope.of rfl rfl) (FvOk.of (N':=["_law_step","_law_amount"]) (fv:=[none,none]) rfl) (za5 (zac 18)) ⟨fun _ _ _ _ _=>⟨(zb2 (n:=2) rfl (zam (zak 0 (show (["_law_step","_law_amount"]:List Str).Nodup by decide +kernel)) (zam (zak 1 (show (["_law_step","_law_amount"]:List Str).Nodup by decide +kernel)) zbl))),zaR,(zaF (zaF (zac 0) za3) (zba zc5 rfl B.z_str (by rfl) (zaa (zac 1) zae)))⟩⟩)))) (zal (zbm 1 (zg9 PySem.F.plainAttrs_str PySem.F.slot_str_join PySem.F.type_str_join zdf za3 (zaa (zac 4) zae)))))))) (zcS 1 (zal (zaB (zac 1)))))))))))
def zcH:FQ:=zbY 0
  (zbp (zmS "Shop" "horizon" (vSh 0)))
theorem ze1:FnScope ["self"] ["self"] (zaq zcy):=by trivial
theorem zeP {C:Addr} (O:ClsOk Γ K mg "Shop" C) (F:DfnM K C "Shop" "last_moment" "Shop.last_moment" zcy) (B:Bn mg) (cf_Shop:CF Γ K "Shop" zd5):CalM Γ P w K mg base "Shop" "last_moment" 1 1 (zcH) :=
 DfnM.cal (k:=0) O F ze1 (fun _ _ _ _ _ _ us hl=>match us,hl with | [_],_=>rfl) fun f cdv A outer s H E hr =>
  (zal (zaB (zg8 cf_Shop (.tail _ (.tail _ (.tail _ (.tail _ (.tail _ (.tail _ (.head _))))))) (zac 0))))
def zdP (zaD:FQ):FQ:=zbY 0
  (zbp (cF zaD (zab (zmS "Shop" "benches" (vSh 0)) zai)))
theorem zfw:FnScope ["self"] ["self"] (zaq zcQ):=by trivial
theorem zfg {zaD:FQ} {C:Addr} (O:ClsOk Γ K mg "Shop" C) (F:DfnM K C "Shop" "bench_rows" "Shop.bench_rows" zcQ) (B:Bn mg) (c_fresh:Cal Γ P w K mg base "fresh" 1 8 zaD) (cf_Shop:CF Γ K "Shop" zd5):CalM Γ P w K mg base "Shop" "bench_rows" 1 9 (zdP zaD) :=
 DfnM.cal (k:=8) O F zfw (fun _ _ _ _ _ _ us hl=>match us,hl with | [_],_=>rfl) fun f cdv A outer s H E hr =>
  (zal (zaB (dC c_fresh hr (zaa (zg8 cf_Shop (.head _) (zac 0)) zae) ln1)))
def zd8:FQ:=zbY 0
  (zbp (mF zdl (vC (.str " ")) (zab (b2 za6 (zaU (szF (zab (vC (.str "bench")) (zab (vSh 0) zai)))) (zaU (za7 (itF (vSh 1)) (zbJ 2 (zao (zaE 0) (zao (zaE 1) zbr))) tT (fsF (zab (vSh 0) (zab (vC (.str "-")) (zab (vSh 1) zai)))) [none,none]))) zai)))
theorem zhs:FnScope ["name","breaks"] ["name","breaks"] (zaq zdT):=by trivial
theorem zhf (F:Dfn K mg "shown_bench" zdT) (B:Bn mg)  : Cal Γ P w K mg base "shown_bench" 2 1 (zd8) :=
 F.cal (k:=0) zhs (fun _ _ _ _ _ _ us hl=>match us,hl with | [_,_],_=>rfl) fun f cdv A outer s H E hr =>
  (zal (zaB (zg9 PySem.F.plainAttrs_str PySem.F.slot_str_join PySem.F.type_str_join zdf za3 (zaa (zaF (DO.de (zaP (zaa za3 (zaa (zac 0) zae)))) (DO.de (zbW rfl (CompScope.of rfl rfl) (FvOk.of (N':=["begin","end"]) (fv:=[none,none]) rfl) (za5 (zac 1)) ⟨fun _ _ _ _ _=>⟨(zb2 (n:=2) rfl (zam (zak 0 (show (["begin","end"]:List Str).Nodup by decide +kernel)) (zam (zak 1 (show (["begin","end"]:List Str).Nodup by decide +kernel)) zbl))),zaR,(zkc (zc6 (zac 0) (zcl (zc6 (zac 1) zg7))))⟩⟩))) zae))))
def zeh (zaD:FQ):FQ:=zbY 0
  (zbp (cF zaD (zab (zmS "Shop" "steps" (vSh 0)) zai)))
theorem zfN:FnScope ["self"] ["self"] (zaq zc1):=by trivial
theorem zfF {zaD:FQ} {C:Addr} (O:ClsOk Γ K mg "Shop" C) (F:DfnM K C "Shop" "step_rows" "Shop.step_rows" zc1) (B:Bn mg) (c_fresh:Cal Γ P w K mg base "fresh" 1 8 zaD) (cf_Shop:CF Γ K "Shop" zd5):CalM Γ P w K mg base "Shop" "step_rows" 1 9 (zeh zaD) :=
 DfnM.cal (k:=8) O F zfN (fun _ _ _ _ _ _ us hl=>match us,hl with | [_],_=>rfl) fun f cdv A outer s H E hr =>
  (zal (zaB (dC c_fresh hr (zaa (zg8 cf_Shop (.tail _ (.head _)) (zac 0)) zae) ln1)))
def zeD:FQ:=zbY 0
  (zbp (mF zdl (vC (.str " ")) (zab (b2 za6 (zaU (szF (zab (vC (.str "step")) (zab (vSh 0) (zab (vSh 1) zai))))) (zaU (za7 (itF (vSh 2)) (zbJ 2 (zao (zaE 0) (zao (zaE 1) zbr))) tT (fsF (zab (vSh 0) (zab (vC (.str "/")) (zab (vSh 1) zai)))) [none,none]))) zai)))
theorem zia:FnScope ["name","kind","ways"] ["name","kind","ways"] (zaq zen):=by trivial
theorem zhz (F:Dfn K mg "shown_step" zen) (B:Bn mg)  : Cal Γ P w K mg base "shown_step" 3 1 (zeD) :=
 F.cal (k:=0) zia (fun _ _ _ _ _ _ us hl=>match us,hl with | [_,_,_],_=>rfl) fun f cdv A outer s H E hr =>
  (zal (zaB (zg9 PySem.F.plainAttrs_str PySem.F.slot_str_join PySem.F.type_str_join zdf za3 (zaa (zaF (DO.de (zaP (zaa za3 (zaa (zac 0) (zaa (zac 1) zae))))) (DO.de (zbW rfl (CompScope.of rfl rfl) (FvOk.of (N':=["bench","length"]) (fv:=[none,none]) rfl) (za5 (zac 2)) ⟨fun _ _ _ _ _=>⟨(zb2 (n:=2) rfl (zam (zak 0 (show (["bench","length"]:List Str).Nodup by decide +kernel)) (zam (zak 1 (show (["bench","length"]:List Str).Nodup by decide +kernel)) zbl))),zaR,(zkc (zc6 (zac 0) (zcl (zc6 (zac 1) zg7))))⟩⟩))) zae))))
def zeI (zaD:FQ):FQ:=zbY 0
  (zbp (cF zaD (zab (zmS "Shop" "jobs" (vSh 0)) zai)))
theorem zgp:FnScope ["self"] ["self"] (zaq zdb):=by trivial
theorem zf2 {zaD:FQ} {C:Addr} (O:ClsOk Γ K mg "Shop" C) (F:DfnM K C "Shop" "job_rows" "Shop.job_rows" zdb) (B:Bn mg) (c_fresh:Cal Γ P w K mg base "fresh" 1 8 zaD) (cf_Shop:CF Γ K "Shop" zd5):CalM Γ P w K mg base "Shop" "job_rows" 1 9 (zeI zaD) :=
 DfnM.cal (k:=8) O F zgp (fun _ _ _ _ _ _ us hl=>match us,hl with | [_],_=>rfl) fun f cdv A outer s H E hr =>
  (zal (zaB (dC c_fresh hr (zaa (zg8 cf_Shop (.tail _ (.tail _ (.head _))) (zac 0)) zae) ln1)))
def zfh:FQ:=zbY 1
  (zax (zbk 5 (ifD (toB (vSh 3)) (vC (.str "in")) (vC (.str "of")))) (zbp (mF zdl (vC (.str " ")) (zab (b2 za6 (zaU (szF (zab (vC (.str "job")) (zab (vSh 0) (zab (cF zeN (zab (vSh 1) zai)) (zab (cF zeN (zab (vSh 2) zai)) (zab (vSh 5) zai))))))) (vSh 4)) zai))))
theorem zge:FnScope ["name","early","due","ordered","steps","word"] ["name","early","due","ordered","steps"] (zaq ze2):=by trivial
theorem ziJ (F:Dfn K mg "shown_job" ze2) (B:Bn mg)  : Cal Γ P w K mg base "shown_job" 5 1 (zfh) :=
 F.cal (k:=0) zge (fun _ _ _ _ _ _ us hl=>match us,hl with | [_,_,_,_,_],_=>rfl) fun f cdv A outer s H E hr =>
  (zaf (zaV 5 zge.nd (zow (zaZ (zac 3)) za3 za3)) (zal (zaB (zg9 PySem.F.plainAttrs_str PySem.F.slot_str_join PySem.F.type_str_join zdf za3 (zaa (zaF (DO.de (zaP (zaa za3 (zaa (zac 0) (zaa (zba zc5 rfl B.z_str (by rfl) (zaa (zac 1) zae)) (zaa (zba zc5 rfl B.z_str (by rfl) (zaa (zac 2) zae)) (zaa (zac 5) zae))))))) (zac 4)) zae)))))
def zdO (zaD:FQ):FQ:=zbY 0
  (zbp (cF zaD (zab (zmS "Shop" "setups" (vSh 0)) zai)))
theorem zfv:FnScope ["self"] ["self"] (zaq zcP):=by trivial
theorem zff {zaD:FQ} {C:Addr} (O:ClsOk Γ K mg "Shop" C) (F:DfnM K C "Shop" "setup_rows" "Shop.setup_rows" zcP) (B:Bn mg) (c_fresh:Cal Γ P w K mg base "fresh" 1 8 zaD) (cf_Shop:CF Γ K "Shop" zd5):CalM Γ P w K mg base "Shop" "setup_rows" 1 9 (zdO zaD) :=
 DfnM.cal (k:=8) O F zfv (fun _ _ _ _ _ _ us hl=>match us,hl with | [_],_=>rfl) fun f cdv A outer s H E hr =>
  (zal (zaB (dC c_fresh hr (zaa (zg8 cf_Shop (.tail _ (.tail _ (.tail _ (.head _)))) (zac 0)) zae) ln1)))
def zei (zaD:FQ):FQ:=zbY 0
  (zbp (cF zaD (zab (zmS "Shop" "links" (vSh 0)) zai)))
theorem zfO:FnScope ["self"] ["self"] (zaq zc2):=by trivial
theorem zfG {zaD:FQ} {C:Addr} (O:ClsOk Γ K mg "Shop" C) (F:DfnM K C "Shop" "link_rows" "Shop.link_rows" zc2) (B:Bn mg) (c_fresh:Cal Γ P w K mg base "fresh" 1 8 zaD) (cf_Shop:CF Γ K "Shop" zd5):CalM Γ P w K mg base "Shop" "link_rows" 1 9 (zei zaD) :=
 DfnM.cal (k:=8) O F zfO (fun _ _ _ _ _ _ us hl=>match us,hl with | [_],_=>rfl) fun f cdv A outer s H E hr =>
  (zal (zaB (dC c_fresh hr (zaa (zg8 cf_Shop (.tail _ (.tail _ (.tail _ (.tail _ (.head _))))) (zac 0)) zae) ln1)))
def zdN (zaD:FQ):FQ:=zbY 0
  (zbp (cF zaD (zab (zmS "Shop" "stocks" (vSh 0)) zai)))
theorem zfu:FnScope ["self"] ["self"] (zaq zcO):=by trivial
theorem zfe {zaD:FQ} {C:Addr} (O:ClsOk Γ K mg "Shop" C) (F:DfnM K C "Shop" "stock_rows" "Shop.stock_rows" zcO) (B:Bn mg) (c_fresh:Cal Γ P w K mg base "fresh" 1 8 zaD) (cf_Shop:CF Γ K "Shop" zd5):CalM Γ P w K mg base "Shop" "stock_rows" 1 9 (zdN zaD) :=
 DfnM.cal (k:=8) O F zfu (fun _ _ _ _ _ _ us hl=>match us,hl with | [_],_=>rfl) fun f cdv A outer s H E hr =>
  (zal (zaB (dC c_fresh hr (zaa (zg8 cf_Shop (.tail _ (.tail _ (.tail _ (.tail _ (.tail _ (.head _)))))) (zac 0)) zae) ln1)))
def zd7:FQ:=zbY 1
  (zax (zgq 5 (szF (zab (vC (.str "stock")) (zab (vSh 0) (zab (cF zeN (zab (vSh 1) zai)) (zab (cF zeN (zab (vSh 2) zai)) zai)))))) (zax (zi9 5 (zaU (za7 (itF (vSh 3)) (zbJ 2 (zao (zaE 0) (zao (zaE 1) zbr))) tT (fsF (zab (vSh 0) (zab (vC (.str "-")) (zab (vSh 1) zai)))) [none,none]))) (zax (zi9 5 (zaU (za7 (itF (vSh 4)) (zbJ 2 (zao (zaE 0) (zao (zaE 1) zbr))) tT (fsF (zab (vSh 0) (zab (vC (.str "+")) (zab (vSh 1) zai)))) [none,none]))) (zhv 5 (zbp (mF zdl (vC (.str " ")) (zab (vSh 5) zai)))))))
theorem zeU:FnScope ["name","first","room","takes","puts","words"] ["name","first","room","takes","puts"] (zaq zdS):=by trivial
theorem zhe (F:Dfn K mg "shown_stock" zdS) (B:Bn mg)  : Cal Γ P w K mg base "shown_stock" 5 1 (zd7) :=
 F.cal (k:=0) zeU (fun _ _ _ _ _ _ us hl=>match us,hl with | [_,_,_,_,_],_=>rfl) fun f cdv A outer s H E hr =>
  (zaf (zdi 5 zeU.nd (zaP (zaa za3 (zaa (zac 0) (zaa (zba zc5 rfl B.z_str (by rfl) (zaa (zac 1) zae)) (zaa (zba zc5 rfl B.z_str (by rfl) (zaa (zac 2) zae)) zae)))))) (zaf (zcD 5 (DO.de (zbW rfl (CompScope.of rfl rfl) (FvOk.of (N':=["step","amount"]) (fv:=[none,none]) rfl) (za5 (zac 3)) ⟨fun _ _ _ _ _=>⟨(zb2 (n:=2) rfl (zam (zak 0 (show (["step","amount"]:List Str).Nodup by decide +kernel)) (zam (zak 1 (show (["step","amount"]:List Str).Nodup by decide +kernel)) zbl))),zaR,(zkc (zc6 (zac 0) (zcl (zc6 (zac 1) zg7))))⟩⟩))) (zaf (zcD 5 (DO.de (zbW rfl (CompScope.of rfl rfl) (FvOk.of (N':=["step","amount"]) (fv:=[none,none]) rfl) (za5 (zac 4)) ⟨fun _ _ _ _ _=>⟨(zb2 (n:=2) rfl (zam (zak 0 (show (["step","amount"]:List Str).Nodup by decide +kernel)) (zam (zak 1 (show (["step","amount"]:List Str).Nodup by decide +kernel)) zbl))),zaR,(zkc (zc6 (zac 0) (zcl (zc6 (zac 1) zg7))))⟩⟩))) (zcS 5 (zal (zaB (zg9 PySem.F.plainAttrs_str PySem.F.slot_str_join PySem.F.type_str_join zdf za3 (zaa (zac 5) zae))))))))
def zeE (zaC:FQ) (zaJ:FQ) (zbt:FQ) (zaM:FQ) (zbC:FQ) (zaQ:FQ) (zbP:FQ) (zaI:FQ) (zaN:FQ) (zaH:FQ) (zbs:FQ):FQ:=zbY 2
  (zax (zbk 1 (zdK "Shop" "last_moment" zaC (vSh 0) zai)) (zax (zgq 2 (szF (zab (fsF (zab (vC (.str "horizon ")) (zab (vSh 1) zai))) zai))) (zax (zi9 2 (zaU (za7 (itF (zdK "Shop" "bench_rows" zaJ (vSh 0) zai)) (zbJ 2 (zao (zaE 0) (zao (zaE 1) zbr))) tT (cF zbt (zab (vSh 0) (zab (vSh 1) zai))) [none,none]))) (zax (zi9 2 (zaU (za7 (itF (zdK "Shop" "step_rows" zaM (vSh 0) zai)) (zbJ 3 (zao (zaE 0) (zao (zaE 1) (zao (zaE 2) zbr)))) tT (cF zbC (zab (vSh 0) (zab (vSh 1) (zab (vSh 2) zai)))) [none,none,none]))) (zax (zi9 2 (zaU (za7 (itF (zdK "Shop" "job_rows" zaQ (vSh 0) zai)) (zbJ 5 (zao (zaE 0) (zao (zaE 1) (zao (zaE 2) (zao (zaE 3) (zao (zaE 4) zbr)))))) tT (cF zbP (zab (vSh 0) (zab (vSh 1) (zab (vSh 2) (zab (vSh 3) (zab (vSh 4) zai)))))) [none,none,none,none,none]))) (zax (zi9 2 (zaU (za7 (itF (zdK "Shop" "setup_rows" zaI (vSh 0) zai)) (zbJ 4 (zao (zaE 0) (zao (zaE 1) (zao (zaE 2) (zao (zaE 3) zbr))))) tT (fsF (zab (vC (.str "setup ")) (zab (vSh 0) (zab (vC (.str " ")) (zab (vSh 1) (zab (vC (.str " ")) (zab (vSh 2) (zab (vC (.str " ")) (zab (vSh 3) zai))))))))) [none,none,none,none]))) (zax (zi9 2 (zaU (za7 (itF (zdK "Shop" "link_rows" zaN (vSh 0) zai)) (zbJ 3 (zao (zaE 0) (zao (zaE 1) (zao (zaE 2) zbr)))) tT (fsF (zab (vC (.str "link ")) (zab (vSh 0) (zab (vC (.str " ")) (zab (vSh 1) (zab (vC (.str " ")) (zab (vSh 2) zai))))))) [none,none,none]))) (zax (zi9 2 (zaU (za7 (itF (zdK "Shop" "stock_rows" zaH (vSh 0) zai)) (zbJ 5 (zao (zaE 0) (zao (zaE 1) (zao (zaE 2) (zao (zaE 3) (zao (zaE 4) zbr)))))) tT (cF zbs (zab (vSh 0) (zab (vSh 1) (zab (vSh 2) (zab (vSh 3) (zab (vSh 4) zai)))))) [none,none,none,none,none]))) (zhv 2 (zbp (mF zdl (vC (.str "\n")) (zab (vSh 2) zai))))))))))))
theorem zdQ:FnScope ["shop","horizon","rows"] ["shop"] (zaq zeo):=by trivial
theorem zhA {zaC:FQ} {zaJ:FQ} {zbt:FQ} {zaM:FQ} {zbC:FQ} {zaQ:FQ} {zbP:FQ} {zaI:FQ} {zaN:FQ} {zaH:FQ} {zbs:FQ} (F:Dfn K mg "shown_shop" zeo) (B:Bn mg) (c_Shop_last_moment:CalM Γ P w K mg base "Shop" "last_moment" 1 1 zaC) (c_Shop_bench_rows:CalM Γ P w K mg base "Shop" "bench_rows" 1 9 zaJ) (c_shown_bench:Cal Γ P w K mg base "shown_bench" 2 1 zbt) (c_Shop_step_rows:CalM Γ P w K mg base "Shop" "step_rows" 1 9 zaM) (c_shown_step:Cal Γ P w K mg base "shown_step" 3 1 zbC) (c_Shop_job_rows:CalM Γ P w K mg base "Shop" "job_rows" 1 9 zaQ) (c_shown_job:Cal Γ P w K mg base "shown_job" 5 1 zbP) (c_Shop_setup_rows:CalM Γ P w K mg base "Shop" "setup_rows" 1 9 zaI) (c_Shop_link_rows:CalM Γ P w K mg base "Shop" "link_rows" 1 9 zaN) (c_Shop_stock_rows:CalM Γ P w K mg base "Shop" "stock_rows" 1 9 zaH) (c_shown_stock:Cal Γ P w K mg base "shown_stock" 5 1 zbs):Cal Γ P w K mg base "shown_shop" 1 10 (zeE zaC zaJ zbt zaM zbC zaQ zbP zaI zaN zaH zbs) :=
 F.cal (k:=9) zdQ (fun _ _ _ _ _ _ us hl=>match us,hl with | [_],_=>rfl) fun f cdv A outer s H E hr =>
  (zaf (zaV 1 zdQ.nd (zb0 c_Shop_last_moment hr (by decide) (zac 0))) (zaf (zdi 2 zdQ.nd (zaP (zaa (zkc (zcl (zc6 (zac 1) zg7))) zae))) (zaf (zcD 2 (DO.de (zbW rfl (CompScope.of rfl rfl) (FvOk.of (N':=["name","breaks"]) (fv:=[none,none]) rfl) (za5 (zb0 c_Shop_bench_rows hr (by decide) (zac 0))) ⟨fun _ _ _ _ _=>⟨(zb2 (n:=2) rfl (zam (zak 0 (show (["name","breaks"]:List Str).Nodup by decide +kernel)) (zam (zak 1 (show (["name","breaks"]:List Str).Nodup by decide +kernel)) zbl))),zaR,(dC c_shown_bench hr (zaa (zac 0) (zaa (zac 1) zae)) ln2)⟩⟩))) (zaf (zcD 2 (DO.de (zbW rfl (CompScope.of rfl rfl) (FvOk.of (N':=["name","kind","ways"]) (fv:=[none,none,none]) rfl) (za5 (zb0 c_Shop_step_rows hr (by decide) (zac 0))) ⟨fun _ _ _ _ _=>⟨(zb2 (n:=3) rfl (zam (zak 0 (show (["name","kind","ways"]:List Str).Nodup by decide +kernel)) (zam (zak 1 (show (["name","kind","ways"]:List Str).Nodup by decide +kernel)) (zam (zak 2 (show (["name","kind","ways"]:List Str).Nodup by decide +kernel)) zbl)))),zaR,(dC c_shown_step hr (zaa (zac 0) (zaa (zac 1) (zaa (zac 2) zae))) ln3)⟩⟩))) (zaf (zcD 2 (DO.de (zbW rfl (CompScope.of rfl rfl) (FvOk.of (N':=["name","early","due","ordered","steps"]) (fv:=[none,none,none,none,none]) rfl) (za5 (zb0 c_Shop_job_rows hr (by decide) (zac 0))) ⟨fun _ _ _ _ _=>⟨(zb2 (n:=5) rfl (zam (zak 0 (show (["name","early","due","ordered","steps"]:List Str).Nodup by decide +kernel)) (zam (zak 1 (show (["name","early","due","ordered","steps"]:List Str).Nodup by decide +kernel)) (zam (zak 2 (show (["name","early","due","ordered","steps"]:List Str).Nodup by decide +kernel)) (zam (zak 3 (show (["name","early","due","ordered","steps"]:List Str).Nodup by decide +kernel)) (zam (zak 4 (show (["name","early","due","ordered","steps"]:List Str).Nodup by decide +kernel)) zbl)))))),zaR,(dC c_shown_job hr (zaa (zac 0) (zaa (zac 1) (zaa (zac 2) (zaa (zac 3) (zaa (zac 4) zae))))) ln5)⟩⟩))) (zaf (zcD 2 (DO.de (zbW rfl (CompScope.of rfl rfl) (FvOk.of (N':=["bench","first","second","moments"]) (fv:=[none,none,none,none]) rfl) (za5 (zb0 c_Shop_setup_rows hr (by decide) (zac 0))) ⟨fun _ _ _ _ _=>⟨(zb2 (n:=4) rfl (zam (zak 0 (show (["bench","first","second","moments"]:List Str).Nodup by decide +kernel)) (zam (zak 1 (show (["bench","first","second","moments"]:List Str).Nodup by decide +kernel)) (zam (zak 2 (show (["bench","first","second","moments"]:List Str).Nodup by decide +kernel)) (zam (zak 3 (show (["bench","first","second","moments"]:List Str).Nodup by decide +kernel)) zbl))))),zaR,(zkc (zcl (zc6 (zac 0) (zcl (zc6 (zac 1) (zcl (zc6 (zac 2) (zcl (zc6 (zac 3) zg7)))))))))⟩⟩))) (zaf (zcD 2 (DO.de (zbW rfl (CompScope.of rfl rfl) (FvOk.of (N':=["one","other","gap"]) (fv:=[none,none,none]) rfl) (za5 (zb0 c_Shop_link_rows hr (by decide) (zac 0))) ⟨fun _ _ _ _ _=>⟨(zb2 (n:=3) rfl (zam (zak 0 (show (["one","other","gap"]:List Str).Nodup by decide +kernel)) (zam (zak 1 (show (["one","other","gap"]:List Str).Nodup by decide +kernel)) (zam (zak 2 (show (["one","other","gap"]:List Str).Nodup by decide +kernel)) zbl)))),zaR,(zkc (zcl (zc6 (zac 0) (zcl (zc6 (zac 1) (zcl (zc6 (zac 2) zg7)))))))⟩⟩))) (zaf (zcD 2 (DO.de (zbW rfl (CompScope.of rfl rfl) (FvOk.of (N':=["name","first","room","takes","puts"]) (fv:=[none,none,none,none,none]) rfl) (za5 (zb0 c_Shop_stock_rows hr (by decide) (zac 0))) ⟨fun _ _ _ _ _=>⟨(zb2 (n:=5) rfl (zam (zak 0 (show (["name","first","room","takes","puts"]:List Str).Nodup by decide +kernel)) (zam (zak 1 (show (["name","first","room","takes","puts"]:List Str).Nodup by decide +kernel)) (zam (zak 2 (show (["name","first","room","takes","puts"]:List Str).Nodup by decide +kernel)) (zam (zak 3 (show (["name","first","room","takes","puts"]:List Str).Nodup by decide +kernel)) (zam (zak 4 (show (["name","first","room","takes","puts"]:List Str).Nodup by decide +kernel)) zbl)))))),zaR,(dC c_shown_stock hr (zaa (zac 0) (zaa (zac 1) (zaa (zac 2) (zaa (zac 3) (zaa (zac 4) zae))))) ln5)⟩⟩))) (zcS 2 (zal (zaB (zg9 PySem.F.plainAttrs_str PySem.F.slot_str_join PySem.F.type_str_join zdf za3 (zaa (zac 2) zae)))))))))))))
def zeG (zaQ:FQ) (zaM:FQ) (zaJ:FQ) (zaN:FQ) (zaI:FQ) (zaC:FQ) (zaH:FQ):FQ:=zbY 1
  (zax (zbk 1 (zaU (szF (zab (zdK "Shop" "bench_rows" zaJ (vSh 0) zai) (zab (zdK "Shop" "step_rows" zaM (vSh 0) zai) (zab (zdK "Shop" "job_rows" zaQ (vSh 0) zai) zai)))))) (zax (zbk 1 (b2 za6 (vSh 1) (zaU (szF (zab (zdK "Shop" "setup_rows" zaI (vSh 0) zai) (zab (zdK "Shop" "link_rows" zaN (vSh 0) zai) zai)))))) (zbp (b2 za6 (vSh 1) (zaU (szF (zab (zdK "Shop" "stock_rows" zaH (vSh 0) zai) (zab (zdK "Shop" "last_moment" zaC (vSh 0) zai) zai))))))))
theorem zdR:FnScope ["_law_shop_here","_law_found"] ["_law_shop_here"] (zaq zeu):=by trivial
theorem zhG {zaQ:FQ} {zaM:FQ} {zaJ:FQ} {zaN:FQ} {zaI:FQ} {zaC:FQ} {zaH:FQ} (F:Dfn K mg "_law_lists" zeu) (B:Bn mg) (c_Shop_job_rows:CalM Γ P w K mg base "Shop" "job_rows" 1 9 zaQ) (c_Shop_step_rows:CalM Γ P w K mg base "Shop" "step_rows" 1 9 zaM) (c_Shop_bench_rows:CalM Γ P w K mg base "Shop" "bench_rows" 1 9 zaJ) (c_Shop_link_rows:CalM Γ P w K mg base "Shop" "link_rows" 1 9 zaN) (c_Shop_setup_rows:CalM Γ P w K mg base "Shop" "setup_rows" 1 9 zaI) (c_Shop_last_moment:CalM Γ P w K mg base "Shop" "last_moment" 1 1 zaC) (c_Shop_stock_rows:CalM Γ P w K mg base "Shop" "stock_rows" 1 9 zaH):Cal Γ P w K mg base "_law_lists" 1 10 (zeG zaQ zaM zaJ zaN zaI zaC zaH) :=
 F.cal (k:=9) zdR (fun _ _ _ _ _ _ us hl=>match us,hl with | [_],_=>rfl) fun f cdv A outer s H E hr =>
  (zaf (zaV 1 zdR.nd (DO.de (zaP (zaa (zb0 c_Shop_bench_rows hr (by decide) (zac 0)) (zaa (zb0 c_Shop_step_rows hr (by decide) (zac 0)) (zaa (zb0 c_Shop_job_rows hr (by decide) (zac 0)) zae)))))) (zaf (zaV 1 zdR.nd (zaF (zac 1) (DO.de (zaP (zaa (zb0 c_Shop_setup_rows hr (by decide) (zac 0)) (zaa (zb0 c_Shop_link_rows hr (by decide) (zac 0)) zae)))))) (zal (zaB (zaF (zac 1) (DO.de (zaP (zaa (zb0 c_Shop_stock_rows hr (by decide) (zac 0)) (zaa (zb0 c_Shop_last_moment hr (by decide) (zac 0)) zae)))))))))
def ztn (zbR:FQ) (zbf:FQ) (zbS:FQ) (zbi:FQ) (zbz:FQ):FQ:=zbY 6
  (zax (zbk 1 (cF zbR (zab (vSh 0) zai))) (zax (zbk 2 (cF zbf (zab (b2 ixD (vSh 1) (vC (.int 0))) (zab (b2 ixD (vSh 1) (vC (.int 1))) (zab (b2 ixD (vSh 1) (vC (.int 2))) (zab (b2 ixD (vSh 1) (vC (.int 3))) (zab (b2 ixD (vSh 1) (vC (.int 4))) (zab (b2 ixD (vSh 1) (vC (.int 5))) (zab (b2 ixD (vSh 1) (vC (.int 6))) zai))))))))) (zax (zbk 3 (mF zdl (vC (.str "\n")) (zab (cF zbS (zab (vSh 1) zai)) zai))) (zax (zdY (itR zjL (zab (vC (.int 2)) zai)) (zaE 4) (zax (zbk 5 (cF zbi (zab (vSh 2) zai))) (sIf (orT (zcd (toB (cF zgz (zab (vSh 5) (zab (vC (.ty "str")) zai))))) (orT (toB (b2 neA (vSh 5) (vSh 3))) (toB (b2 neA (cF zbz (zab (vSh 2) zai)) (vSh 1))))) (zbp (vC (.bl false))) zb1))) (zax (zbk 6 (cF zbf (zab (zaU (szF (zab (zcK (szF (zab (vC (.str "a")) (zab (zaU (szF zai)) zai)))) zai))) (zab (zaU (szF (zab (zcK (szF (zab (vC (.str "a")) (zab (vC (.str "b")) (zab (zaU (szF (zab (zcK (szF (zab (vC (.str "a")) (zab (vC (.int 1)) zai)))) zai))) zai))))) zai))) (zab (zaU (szF zai)) (zab (zaU (szF zai)) (zab (zaU (szF zai)) (zab (zaU (szF zai)) (zab (vC (.int 1)) zai))))))))) (zbp (b2 eqD (cF zbi (zab (vSh 6) zai)) (vC (.str "horizon 1\nbench a\nstep a b a/1")))))))))
theorem zgI:FnScope ["_law_script","_law_parts","_law_shop_here","_law_due","_law_turn","_law_found","_law_one"] ["_law_script"] (zaq zgJ):=by trivial
theorem zq6 {zbR:FQ} {zbf:FQ} {zbS:FQ} {zbi:FQ} {zbz:FQ} (B:Bn mg) (c__law_shop:Cal Γ P w K mg base "_law_shop" 1 3 zbR) (c_Shop___init__:CalI Γ P w K mg base "Shop" 7 9 zbf) (c__law_rows:Cal Γ P w K mg base "_law_rows" 1 1 zbS) (c_shown_shop:Cal Γ P w K mg base "shown_shop" 1 10 zbi) (c__law_lists:Cal Γ P w K mg base "_law_lists" 1 10 zbz) (f:Addr) (cdv:Value) (A:Around) (outer:List Env) (s:Shared) (H:Hp) (E:XK) (hr:Room 10 (A.deeper (envOfC "law" (zaq zgJ) s.heap.objs.size f cdv))):DSs Γ (zlH CX0 P w K mg base ["_law_script","_law_parts","_law_shop_here","_law_due","_law_turn","_law_found","_law_one"] "law" (zaq zgJ) f cdv A outer s H E).nox (zbO zgJ)
  (zax (zbk 1 (cF zbR (zab (vSh 0) zai))) (zax (zbk 2 (cF zbf (zab (b2 ixD (vSh 1) (vC (.int 0))) (zab (b2 ixD (vSh 1) (vC (.int 1))) (zab (b2 ixD (vSh 1) (vC (.int 2))) (zab (b2 ixD (vSh 1) (vC (.int 3))) (zab (b2 ixD (vSh 1) (vC (.int 4))) (zab (b2 ixD (vSh 1) (vC (.int 5))) (zab (b2 ixD (vSh 1) (vC (.int 6))) zai))))))))) (zax (zbk 3 (mF zdl (vC (.str "\n")) (zab (cF zbS (zab (vSh 1) zai)) zai))) (zax (zdY (itR zjL (zab (vC (.int 2)) zai)) (zaE 4) (zax (zbk 5 (cF zbi (zab (vSh 2) zai))) (sIf (orT (zcd (toB (cF zgz (zab (vSh 5) (zab (vC (.ty "str")) zai))))) (orT (toB (b2 neA (vSh 5) (vSh 3))) (toB (b2 neA (cF zbz (zab (vSh 2) zai)) (vSh 1))))) (zbp (vC (.bl false))) zb1))) (zax (zbk 6 (cF zbf (zab (zaU (szF (zab (zcK (szF (zab (vC (.str "a")) (zab (zaU (szF zai)) zai)))) zai))) (zab (zaU (szF (zab (zcK (szF (zab (vC (.str "a")) (zab (vC (.str "b")) (zab (zaU (szF (zab (zcK (szF (zab (vC (.str "a")) (zab (vC (.int 1)) zai)))) zai))) zai))))) zai))) (zab (zaU (szF zai)) (zab (zaU (szF zai)) (zab (zaU (szF zai)) (zab (zaU (szF zai)) (zab (vC (.int 1)) zai))))))))) (zbp (b2 eqD (cF zbi (zab (vSh 6) zai)) (vC (.str "horizon 1\nbench a\nstep a b a/1"))))))))) :=
  (zaf (zaV 1 zgI.nd (dC c__law_shop hr (zaa (zac 0) zae) ln1)) (zaf (zaV 2 zgI.nd (zm8 c_Shop___init__ hr (by decide) rfl (zaa (zaG (zac 1) zad) (zaa (zaG (zac 1) zad) (zaa (zaG (zac 1) zad) (zaa (zaG (zac 1) zad) (zaa (zaG (zac 1) zad) (zaa (zaG (zac 1) zad) (zaa (zaG (zac 1) zad) zae))))))) ln7)) (zaf (zaV 3 zgI.nd (zg9 PySem.F.plainAttrs_str PySem.F.slot_str_join PySem.F.type_str_join zdf za3 (zaa (dC c__law_rows hr (zaa (zac 1) zae) ln1) zae))) (zaf (zch PassesOwn.never rfl (zcE rfl B.z_range (zaa zad zae)) (zak 4 zgI.nd) (zaf (zaV 5 zgI.nd (dC c_shown_shop hr (zaa (zac 2) zae) ln1)) (zal (zbK (DW.dt (zc3 (za4 (zaZ (zaK zfH rfl B.z_isinstance (by rfl) (zaa (zac 5) (zaa (ziB rfl B.z_str (by rfl)) zae))))) (zc3 (zcX (zh2 (zqL hr)) (zac 5) (zac 3) (zbZ _)) (zcs (zcX (zh2 (zqL hr)) (dC c__law_lists hr (zaa (zac 2) zae) ln1) (zac 1) (zbZ _)))))) (zal (zaB zd3)) zaW)))) (zaf (zaV 6 zgI.nd (zm8 c_Shop___init__ hr (by decide) rfl (zaa (DO.de (zaP (zaa (zct (zaa za3 (zaa (DO.de (zaP zae)) zae))) zae))) (zaa (DO.de (zaP (zaa (zct (zaa za3 (zaa za3 (zaa (DO.de (zaP (zaa (zct (zaa za3 (zaa zad zae))) zae))) zae)))) zae))) (zaa (DO.de (zaP zae)) (zaa (DO.de (zaP zae)) (zaa (DO.de (zaP zae)) (zaa (DO.de (zaP zae)) (zaa zad zae))))))) ln7)) (zal (zaB (zeW ziH (dC c_shown_shop hr (zaa (zac 6) zae) ln1) za3 (zbZ _)))))))))
end Law
end
section
namespace Law
open PySem L2 PySem.Spec PyProof.Rows
def zah:FQ:=zcj
def zas:FQ:=zhr
def zbh:FQ:=zdF zah zas
def zbE:FQ:=zeF zah zas
def zbT:FQ:=zfn zah zas
def zbw:FQ:=zea zah zas
def zbF:FQ:=zeH zah
def zbv:FQ:=zd9 zah zas
def zbR:FQ:=zfl zah zbh zbE zbT zbw zbF zbv
def zb7:FQ:=zf4
def zan:FQ:=zfi zb7
def zap:FQ:=zf5
def zca:FQ:=zf8 zan zap
def zar:FQ:=zhn
def zbN:FQ:=zgn zca zar
def zaA:FQ:=zjK
def zcb:FQ:=zf9 zbN zaA zap
def zaj:FQ:=zcZ
def zbD:FQ:=zfI zcb zar zaj
def zav:FQ:=zfj zaA
def zc9:FQ:=ziW zan zav zap
def zcu:FQ:=zh4 zc9 zar zaj
def zcI:FQ:=zhm zaA zap zcu
def zb5:FQ:=zhp zcI zar zaj
def zdv:FQ:=zk8 zaA zap zan zav zar
def zcv:FQ:=zh5 zdv zar zaj
def zb9:FQ:=zf7 zav zap zan zaA
def zbM:FQ:=zgm zb9 zar zaj
def zcJ:FQ:=zho zav zap zan
def zb6:FQ:=zhq zcJ zar zaj
def zbQ:FQ:=zfk zan zav zap
def zbu:FQ:=zfJ zbQ zar zaj
def zb8:FQ:=zf6 zaA zap zan zbu
def zbL:FQ:=zgl zb8 zar zaj
def zbj:FQ:=zeg zan zbD zb5 zcv zbM zb6 zbL
def zdD:Nat->FQ
 | 0=>fun _=>none
 | n+1=>zdE (zdD n)
def zaD:FQ:=zdD 8
def zbf:FQ:=zeJ zbj zaD
def zbS:FQ:=zfm
def zaC:FQ:=zcH
def zaJ:FQ:=zdP zaD
def zbt:FQ:=zd8
def zaM:FQ:=zeh zaD
def zbC:FQ:=zeD
def zaQ:FQ:=zeI zaD
def zbP:FQ:=zfh
def zaI:FQ:=zdO zaD
def zaN:FQ:=zei zaD
def zaH:FQ:=zdN zaD
def zbs:FQ:=zd7
def zbi:FQ:=zeE zaC zaJ zbt zaM zbC zaQ zbP zaI zaN zaH zbs
def zbz:FQ:=zeG zaQ zaM zaJ zaN zaI zaC zaH
def zre:FQ:=ztn zbR zbf zbS zbi zbz
end Law
end
section
namespace Law
open PySem L2
theorem i2:zjl "int" "int"=some true:=rfl
theorem i3:zjl "int" "bool"=some false:=rfl
theorem i5:zjl "bool" "bool"=some true:=rfl
theorem j1:zjl "str" "str"=some true:=rfl
theorem k1:zjl "list" "list"=some true:=rfl
theorem k2:zjl "tuple" "list"=some false:=rfl
theorem k3:zjl "tuple" "tuple"=some true:=rfl
theorem k4:zjl "str" "list"=some false:=rfl
theorem k5:zjl "str" "tuple"=some false:=rfl
theorem k6:zjl "int" "list"=some false:=rfl
theorem k7:zjl "int" "tuple"=some false:=rfl
theorem k8:zjl "bool" "list"=some false:=rfl
theorem k9:zjl "bool" "tuple"=some false:=rfl
theorem k10:zjl "NoneType" "list"=some false:=rfl
theorem k11:zjl "NoneType" "tuple"=some false:=rfl
theorem sz1:(1<=sizeLine)=True:=by simp [sizeLine]
theorem sz2:(1+1<=sizeLine)=True:=by simp [sizeLine]
theorem sz3:(1+1+1<=sizeLine)=True:=by simp [sizeLine]
theorem sz5:(1+1+1+1+1<=sizeLine)=True:=by simp [sizeLine]
theorem sz7:(1+1+1+1+1+1+1<=sizeLine)=True:=by simp [sizeLine]
section
variable {x0 x1 x2 x3 x4:D} {r:List D}
theorem zeC {α:Type} (l:List α) (n:Nat):atI l (n:Int)=l[n]?:=by
 unfold atI ixN
 rw [qV (by omega)]
 by_cases h:n < l.length
 ·rw [qV (by omega)];simp
 ·rw [qW (by omega)];simp;omega
theorem zlG:ixD (.tup (x0::r)) (.int 0)=some x0:=zeC _ 0
theorem znv:ixD (.tup (x0::x1::r)) (.int 1)=some x1:=zeC _ 1
theorem zsV:ixD (.tup (x0::x1::x2::r)) (.int 2)=some x2:=zeC _ 2
theorem zsU:ixD (.tup (x0::x1::x2::x3::r)) (.int 3)=some x3:=zeC _ 3
theorem zsT:ixD (.tup (x0::x1::x2::x3::x4::r)) (.int 4)=some x4:=zeC _ 4
end
theorem zq2 {fe:FE} {r:zaX} {f:D->D}:∀ {xs:List D} {a:Option Slot},(∀ x∈xs,fe (oS x::r)=some (f x))->zhb (zaE 0) tT fe xs (a::r)=some (xs.map f)
 | [],_,_=>rfl
 | x::xs,a,h=>by
  have h1:=h x qf
  have ih:=zq2 (xs:=xs) (a:=oS x) fun y hy=>h y (qg _ hy)
  simp only [zhb,zaE,List.set_cons_zero,qa,tT,if_true,h1,ih,qd,ql]
theorem znl:∀ {l:List D},(∀ x∈l,x=.bl true)->∃ bs:List Bool,zrn l=some bs/\bs.all id=true
 | [],_=>⟨[],rfl,rfl⟩
 | x::r,h=>by
  obtain ⟨bs,h1,h2⟩:=znl (l:=r) fun y hy=>h y (qg _ hy)
  have hx:=h x qf
  subst hx
  exact ⟨true::bs,by simp [zrn,h1],by simpa using h2⟩
theorem zcn {fi:FA} {fe:FE} {fv:List (Option Nat)} {ρ r:zaX} {a:Option Slot} {xs:List D} (h1:fi ρ=some xs) (h2:xs.length<=sizeLine) (h3:zfC fv ρ=a::r) (h:∀ x∈xs,fe (oS x::r)=some (.bl true)) :
  cF zjJ (zab (zaU (za7 fi (zaE 0) tT fe fv)) zai) ρ=some (.bl true):=by
 have c:=zq2 (a:=a) (f:=fun _=>.bl true) h
 obtain ⟨bs,e1,e2⟩:=znl (l:=xs.map fun _=>D.bl true) (by simp)
 simp only [cF,zab,zai,zaU,za7,h1,qa,qV h2,h3,c,qd,zjJ,e1]
 simpa using e2
theorem zcW {fi:FA} {fe:FE} {fv:List (Option Nat)} {ρ r:zaX} {a:Option Slot} {xs:List D} {f:D->D} (h1:fi ρ=some xs) (h2:xs.length<=sizeLine) (h3:zfC fv ρ=a::r) (h:∀ x∈xs,fe (oS x::r)=some (f x)) :
  zaU (za7 fi (zaE 0) tT fe fv) ρ=some (.lst (xs.map f)):=by
 simp only [zaU,za7,h1,qa,qV h2,h3,zq2 (a:=a) h,qd]
theorem zcq {gg:FG} {body:FS} {xs:List D} {ρ:zaX} (I:Nat->zaX->Prop) (h0:I 0 ρ) (hs:∀ i x ρ,xs[i]?=some x->I i ρ->∃ ρ1 ρ2,gg x ρ=some ρ1/\body ρ1=some (.nx,ρ2)/\I (i+1) ρ2) :
  ∃ ρ',zhY gg body xs ρ=some (.nx,ρ')/\I xs.length ρ':=by
 have key:∀ (ys:List D) (k:Nat) (ρ:zaX),xs.drop k=ys->I k ρ->∃ ρ',zhY gg body ys ρ=some (.nx,ρ')/\I (k+ys.length) ρ':=by
  intro ys
  induction ys with
  | nil=>intro k ρ _ hk;exact ⟨ρ,rfl,hk⟩
  | cons y r ih =>
   intro k ρ hd hk
   have hy:xs[k]?=some y:=by
    have:(xs.drop k)[0]?=some y:=by rw [hd];rfl
    simpa using this
   obtain ⟨ρ1,ρ2,h1,h2,h3⟩:=hs k y ρ hy hk
   have hd':xs.drop (k+1)=r:=by rw [← List.drop_drop,hd];rfl
   obtain ⟨ρ',h4,h5⟩:=ih (k+1) ρ2 hd' h3
   refine ⟨ρ',?_,by rw [qh];rwa [show k+1+r.length=k+(r.length+1) by omega] at h5⟩
   simp only [zhY,h1,qa,h2,h4]
 obtain ⟨ρ',h1,h2⟩:=key xs 0 ρ rfl h0
 exact ⟨ρ',h1,by rwa [Nat.zero_add] at h2⟩
theorem ztl:(2:Int) ^ 62=4611686018427387904:=by decide +kernel
theorem zpR {i j:Int} (h:0<=i/\i<=1000000/\0<=j/\j<=1000000):zpS [.int i,.int j]=some ((List.range (j - i).toNat).map fun k:Nat=>D.int (i+k)):=by
 unfold zpS
 rw [ztl]
 exact qV ⟨by omega,by omega,by omega,by omega⟩
theorem zdZ {j:Int} (h:0<=j/\j<=1000000):zjL [.int j]=some ((List.range j.toNat).map fun i:Nat=>D.int (0+i)):=by
 unfold zjL
 rw [ztl]
 exact qV ⟨by omega,by omega⟩
theorem zeV {g:List D->Option (List D)} {fr:FA} {ρ:zaX} {ds r:List D} (h1:fr ρ=some ds) (h2:g ds=some r):itR g fr ρ=some r:=by
 unfold itR;rw [h1];exact h2
theorem zaw {g:D->D->Option D} {fa fb:FE} {ρ:zaX} {x y z:D} (h1:fa ρ=some x) (h2:fb ρ=some y) (h3:g x y=some z):b2 g fa fb ρ=some z:=by
 unfold b2;rw [h1,qa,h2,qa];exact h3
theorem za8 {g:FQ} {fr:FA} {ρ:zaX} {ds:List D} {z:D} (h1:fr ρ=some ds) (h2:g ds=some z):cF g fr ρ=some z:=by
 unfold cF;rw [h1];exact h2
theorem zag {f:FE} {fr:FA} {ρ:zaX} {d:D} {ds:List D} (h1:f ρ=some d) (h2:fr ρ=some ds):zab f fr ρ=some (d::ds):=by
 unfold zab;rw [h1,qa,h2];rfl
theorem zat {ρ:zaX}:zai ρ=some []:=rfl
theorem zoS {n:Nat} {g:FS} {ds:List D} {d:D} {ρ':zaX} (h:g (ds.map (fun d=>some (Slot.sh d))++List.replicate n none)=some (.rt d,ρ')):zbY n g ds=some d:=by
 unfold zbY;rw [h];rfl
theorem zbg {n:Nat} {g:FS} {ds:List D} {d:D} (ρ:zaX) {ρ':zaX} (e:ds.map (fun d=>some (Slot.sh d))++List.replicate n none=ρ) (h:g ρ=some (.rt d,ρ')):zbY n g ds=some d:=by
 subst e;exact zoS h
theorem zbe {f:FE} {ρ:zaX} {d:D} (h:f ρ=some d):zbp f ρ=some (.rt d,ρ):=by unfold zbp;rw [h];rfl
theorem zbx {f:FE} {ρ:zaX} {b:Bool} (h:f ρ=some (.bl b)):toB f ρ=some b:=by unfold toB;rw [h];rfl
theorem zg2 {A:FE} {X E:FS} {ρ:zaX} (hA:A ρ=some (.bl true)):zax (sIf (zcd (toB A)) X zb1) E ρ=E ρ:=by
 simp only [zax,sIf,zcd,zbx hA,qd,qa,Bool.not_true,qp,if_false,zb1]
theorem zez {A B:FE} {X E:FS} {ρ:zaX} (hA:A ρ=some (.bl true)) (hB:B ρ=some (.bl true)):zax (sIf (orT (zcd (toB A)) (zcd (toB B))) X zb1) E ρ=E ρ:=by
 simp only [zax,sIf,orT,zcd,zbx hA,zbx hB,qd,qa,Bool.not_true,qp,if_false,zb1]
theorem zsZ {A B C:FE} {X E:FS} {ρ:zaX} (hA:A ρ=some (.bl true)) (hB:B ρ=some (.bl true)) (hC:C ρ=some (.bl true)):zax (sIf (orT (zcd (toB A)) (orT (zcd (toB B)) (zcd (toB C)))) X zb1) E ρ=E ρ:=by
 simp only [zax,sIf,orT,zcd,zbx hA,zbx hB,zbx hC,qd,qa,Bool.not_true,qp,if_false,zb1]
theorem zpo {A B:FE} {ρ:zaX} (hA:A ρ=some (.bl true)) (hB:B ρ=some (.bl true)):zeX A B ρ=some (.bl true):=by
 simp only [zeX,hA,hB,qa]
theorem zaS {i:Nat} {f:FE} {g:FS} {ρ:zaX} {d:D} (h:f ρ=some d):zax (zbk i f) g ρ=g (ρ.set i (oS d)):=by
 simp only [zax,zbk,h,qd,qa]
theorem zlK (i:Int):zb7 [.int i]=some (.bl true):=by
 simp only [zb7,zf4,zbY,zbp,zeX,ztx,cF,zab,zai,vSh,vC,zgz,tyD,ql,qL,qo,qO,List.replicate,qb,qa,qd,Bool.not_false,i2,i3]
theorem zbH (i a b:Int) (h:a<=i/\i<=b):zan [.int i,.int a,.int b]=some (.bl true):=by
 simp only [zan,zfi,zlK,zbY,zbp,zeX,cF,zab,zai,vSh,chD,leD,ql,qL,qo,qO,List.replicate,qb,qc,qa,qd,qP h.1,qP h.2]
theorem zdA (l:List D) (a b:Int) (h:a<=l.length/\(l.length:Int)<=b):zar [.lst l,.int a,.int b]=some (.bl true):=by
 simp only [zar,zhn,zbY,zbp,zeX,cF,zab,zai,vSh,vC,chD,zgz,tyD,zed,leD,ql,qL,qo,qO,List.replicate,qb,qc,qa,qd,k1,qP h.1,qP h.2]
theorem zgv (l:List D) (n:Int) (h:(l.length:Int)=n):zap [.tup l,.int n]=some (.bl true):=by
 simp only [zap,zf5,zbY,zbp,zeX,cF,zab,zai,vSh,vC,b2,zgz,tyD,zed,eqD,eqS,ql,qL,qo,qO,List.replicate,qb,qc,qa,qd,k3,qP h]
section
variable {a b c d e:D}
theorem zts:zap [.tup [a,b],.int 2]=some (.bl true):=zgv _ _ rfl
theorem zuJ:zap [.tup [a,b,c],.int 3]=some (.bl true):=zgv _ _ rfl
theorem zvf:zap [.tup [a,b,c,d],.int 4]=some (.bl true):=zgv _ _ rfl
theorem zuI:zap [.tup [a,b,c,d,e],.int 5]=some (.bl true):=zgv _ _ rfl
end
def dIv (p:Int×Int):D:=.tup [.int p.1,.int p.2]
theorem zoG (p:Int×Int) (h:Int) (h1:0<=p.1) (h2:p.1 < p.2) (h3:p.2<=h):zca [dIv p,.int h]=some (.bl true):=by
 simp only [zca,zf8,dIv,zbY,zax,sIf,zbp,zb1,orT,zcd,toB,cF,zab,zai,vSh,vC,b2,ltD,zlG,znv,ql,qL,qo,qO,List.replicate,qb,qc,qa,qd,if_false,Bool.not_true,qp,zts,zbH p.1 0 h ⟨h1,by omega⟩,zbH p.2 0 h ⟨by omega,h3⟩,qP h2]
def az (c:Nat):Bool:=!ltS ⟨#[c]⟩ "a" && !ltS "z" ⟨#[c]⟩
theorem zux {c:Nat} (h:az c=true):c<=122:=by
 have z:("z":Str)=⟨#[122]⟩:=by decide +kernel
 unfold az ltS at h
 rw [z] at h
 simp only [Bool.and_eq_true,Bool.not_eq_true',decide_eq_false_iff_not] at h
 have h2:=h.2
 rcases Nat.lt_or_ge 122 c with q | q
 ·exact absurd (show ([122]:List Nat) < [c] from List.Lex.rel q) h2
 ·exact q
theorem zoB (c:Nat) (r:zaX):chD leD leD (vC (.str "a")) (vSh 0) (vC (.str "z")) (oS (.str ⟨#[c]⟩)::r)=some (.bl (az c)):=by
 simp only [chD,vC,vSh,qb,qa,leD,az]
 cases ltS ⟨#[c]⟩ "a" <;> simp
def zaY (x:Str):Bool:=decide (1<=x.length) && decide (x.length<=8) && x.cps.toList.all az
theorem za2 {x:Str} (h:zaY x=true):1<=x.length/\x.length<=8:=by
 unfold zaY at h
 simp only [Bool.and_eq_true,decide_eq_true_eq] at h
 exact h.1
theorem zkJ {x:Str} (h:zaY x=true):∀ c∈x.cps.toList,az c=true:=by
 unfold zaY at h
 simp only [Bool.and_eq_true,List.all_eq_true] at h
 exact h.2
theorem zex {x:Str} (h:zaY x=true):zaA [.str x]=some (.bl true):=by
 obtain ⟨h1,h2⟩:=za2 h
 have hz:x.length<=sizeLine:=by unfold sizeLine;omega
 have hl:(x.cps.toList.map fun c=>D.str ⟨#[c]⟩).length<=sizeLine:=by simpa [Str.length] using hz
 have e1:decide ((1:Int)<=(x.length:Nat))=true:=qP (by omega)
 have e2:decide (((x.length:Nat):Int)<=8)=true:=qP (by omega)
 have ha:=zcn (fi:=itS (vSh 0)) (fe:=chD leD leD (vC (.str "a")) (vSh 0) (vC (.str "z"))) (fv:=[none]) (ρ:=[oS (.str x)]) (r:=[]) (a:=none) (xs:=x.cps.toList.map fun c=>D.str ⟨#[c]⟩)
  (by simp [itS,vSh,zlX]) hl rfl (fun y hy=>by
   obtain ⟨c,hc,rfl⟩:=List.mem_map.mp hy
   rw [zoB,zkJ h c hc])
 refine zoS (ρ':=[oS (.str x)]) ((zez ?_ ?_).trans (zbe ha))
 ·rfl
 ·show chD leD leD (vC (.int 1)) (cF zed (zab (vSh 0) zai)) (vC (.int 8)) [oS (.str x)]=_
  simp only [cF,zab,zai,vSh,vC,chD,zed,leD,qb,qa,qd,qV hz,e1,e2]
theorem zgw {x:Str} (h:zaY x=true):PyData.strOk x=true:=by
 unfold PyData.strOk
 rw [Array.all_eq_true']
 intro c hc
 have:=zux (zkJ h c (by simpa using hc))
 exact qP (by omega)
theorem zii:∀ (ns:List Str),zjM (ns.map D.str)=some (ns.map PyData.str)
 | []=>by simp [zjM]
 | x::r=>by simp [zjM,pdD,zii r]
theorem zfA:∀ {ns:List Str},(∀ x∈ns,zaY x=true)->PyData.canLayAll0 (ns.map PyData.str)=true
 | [],_=>by simp [PyData.canLayAll0]
 | x::r,h=>by
  simp only [ql,PyData.canLayAll0,PyData.canLay0,zgw (h x qf),Bool.true_and]
  exact zfA fun y hy=>h y (qg _ hy)
theorem zk7 (x:Str):∀ (ns:List Str),((ns.map PyData.str).any fun z=>PyData.eqv z (.str x))=decide (x∈ns)
 | []=>by simp
 | y::r=>by
  have ih:=zk7 x r
  rw [ql,List.any_cons,ih]
  simp only [PyData.eqv]
  by_cases e:y=x
  ·subst e;simp
  ·have:x≠y:=fun z=>e z.symm
   simp [e,this]
theorem zqK {x:Str} {ns:List Str} (hx:zaY x=true) (hn:∀ y∈ns,zaY y=true):zsX (.str x) (.lst (ns.map D.str))=some (.bl (decide (x∈ns))):=by
 have sh:SeqAt.shaped (.str x)=true:=by simp [SeqAt.shaped,PyData.canLay0,zgw hx,PyData.depth]
 simp only [zsX,inX,pdD,zii,qd,qa,sh,zfA hn,and_self,if_true,zk7]
theorem zdJ {x:Str} {ns:List Str} (hx:x∈ns) (hn:∀ y∈ns,zaY y=true):zav [.str x,.lst (ns.map D.str)]=some (.bl true):=by
 simp only [zav,zfj,zbY,zbp,zeX,cF,zab,zai,vSh,b2,ql,qL,qo,qO,List.replicate,qb,qc,qa,qd,zex (hn x hx),zqK (hn x hx) hn,qP hx]
theorem zk0 {κ:Type} [DecidableEq κ] {l:List κ} (h:l.Nodup):ST.dd l=l:=by
 have key:∀ (l a:List κ),(a++l).Nodup->l.foldl (fun a k=>if k∈a then a else a++[k]) a=a++l:=by
  intro l
  induction l with
  | nil=>intro a _;simp
  | cons x r ih =>
   intro a hn
   have hx:x∉a:=by
    intro z
    rw [List.nodup_append] at hn
    exact hn.2.2 x z x qf rfl
   rw [List.foldl_cons,qW hx,ih (a++[x]) (by simpa using hn)]
   simp
 simpa [ST.dd] using key l [] (by simpa using h)
theorem zeM:∀ (ns:List Str),zgr (ns.map D.str)=some (ns.map Sum.inr)
 | []=>by simp [zgr]
 | x::r=>by simp [zgr,zot,zeM r]
theorem zco {ns:List Str} (h:ns.Nodup) (hl:ns.length<=300):zaj [.lst (ns.map D.str)]=some (.bl true):=by
 have hd:(ns.map (Sum.inr:Str->Key)).Nodup:=List.Pairwise.map _ (fun a b hab z=>hab (Sum.inr.inj z)) h
 simp only [zaj,zcZ,zbY,zbp,cF,zab,zai,vSh,b1,b2,zed,eqD,eqS,ql,qL,qo,qO,List.replicate,qb,qa,qd,zfX,qe,qV hl,zeM,zk0 hd]
 simp
theorem zga:∀ (ts:List (List Str)),zeZ (ts.map fun t=>.tup (t.map D.str))=some (ts.map fun t=>t.map Sum.inr)
 | []=>by simp [zeZ]
 | t::r=>by simp [zeZ,zeM,zga r]
theorem zgE {ts:List (List Str)} (h:ts.Nodup) (hl:ts.length<=300):zaj [.lst (ts.map fun t=>.tup (t.map D.str))]=some (.bl true):=by
 have inj:∀ a b:List Str,a.map (Sum.inr:Str->Key)=b.map Sum.inr->a=b:=fun a b z=>(List.map_inj_right (fun x y q=>Sum.inr.inj q)).mp z
 have hd:(ts.map fun t=>t.map (Sum.inr:Str->Key)).Nodup:=List.Pairwise.map _ (fun a b hab z=>hab (inj a b z)) h
 cases ts with
 | nil=>simp only [zaj,zcZ,zbY,zbp,cF,zab,zai,vSh,b1,b2,zed,eqD,eqS,ql,qL,qo,qO,List.replicate,qb,qa,qd,qk,zfX,zgr,ST.dd];simp
 | cons t r =>
  have e:zgr ((t::r).map fun t=>D.tup (t.map D.str))=none:=by simp [zgr,zot]
  simp only [zaj,zcZ,zbY,zbp,b2,b1,vSh,ql,qL,qo,qO,List.replicate,qb,qa,zfX,cF,zab,zai,zed,qd]
  rw [qV (by simpa using hl)]
  have e':=e
  rw [ql] at e'
  rw [e']
  have t':=zga (t::r)
  rw [ql] at t'
  rw [t']
  rw [qd,zk0 hd]
  simp [eqD,eqS]
end Law
end
section
namespace Law
open PySem L2
structure BenchT where
 nm:Str
 br:List (Int×Int)
structure StepT where
 nm:Str
 kd:Str
 ws:List (Str×Int)
structure JobT where
 nm:Str
 ea:Int
 du:Int
 od:Bool
 ms:List Str
structure SetT where
 b:Str
 p:Str
 q:Str
 n:Int
structure LinkT where
 a:Str
 b:Str
 g:Int
structure StockT where
 nm:Str
 lo:Int
 hi:Int
 tk:List (Str×Int)
 pt:List (Str×Int)
def dW (w:Str×Int):D:=.tup [.str w.1,.int w.2]
def za1 (b:BenchT):D:=.tup [.str b.nm,.lst (b.br.map dIv)]
def za9 (s:StepT):D:=.tup [.str s.nm,.str s.kd,.lst (s.ws.map dW)]
def zcg (j:JobT):D:=.tup [.str j.nm,.int j.ea,.int j.du,.bl j.od,.lst (j.ms.map D.str)]
def zd4 (u:SetT):D:=.tup [.str u.b,.str u.p,.str u.q,.int u.n]
def zb3 (l:LinkT):D:=.tup [.str l.a,.str l.b,.int l.g]
def zby (k:StockT):D:=.tup [.str k.nm,.int k.lo,.int k.hi,.lst (k.tk.map dW),.lst (k.pt.map dW)]
structure GoodB (h:Int) (b:BenchT):Prop where
 nm:zaY b.nm=true
 len:b.br.length<=10
 iv:∀ p∈b.br,0<=p.1/\p.1 < p.2/\p.2<=h
 gap:∀ (i:Nat) p q,b.br[i]?=some p->b.br[i+1]?=some q->p.2 < q.1
structure GoodS (bn:List Str) (h:Int) (s:StepT):Prop where
 nm:zaY s.nm=true
 kd:zaY s.kd=true
 l1:1<=s.ws.length
 l4:s.ws.length<=4
 ws:∀ w∈s.ws,w.1∈bn/\1<=w.2/\w.2<=h
 nd:(s.ws.map (·.1)).Nodup
structure GoodJ (sn:List Str) (h:Int) (j:JobT):Prop where
 nm:zaY j.nm=true
 ea:0<=j.ea/\j.ea<=h
 du:0<=j.du/\j.du<=h
 l1:1<=j.ms.length
 ln:j.ms.length<=sn.length
 ms:∀ m∈j.ms,m∈sn
structure GoodU (bn:List Str) (h:Int) (u:SetT):Prop where
 b:u.b∈bn
 p:zaY u.p=true
 q:zaY u.q=true
 n:1<=u.n/\u.n<=h
structure GoodL (sn:List Str) (h:Int) (l:LinkT):Prop where
 a:l.a∈sn
 b:l.b∈sn
 ne:l.a≠l.b
 g:0<=l.g/\l.g<=h
structure GoodA (sn:List Str) (am:List (Str×Int)):Prop where
 ln:am.length<=sn.length
 ws:∀ w∈am,w.1∈sn/\1<=w.2/\w.2<=1000000
 nd:(am.map (·.1)).Nodup
structure GoodK (sn:List Str) (k:StockT):Prop where
 nm:zaY k.nm=true
 lo:0<=k.lo/\k.lo<=k.hi
 hi:0<=k.hi/\k.hi<=1000000
 tk:GoodA sn k.tk
 pt:GoodA sn k.pt
structure Good (bs:List BenchT) (ss:List StepT) (js:List JobT) (us:List SetT) (ls:List LinkT) (ks:List StockT) (hz:Int):Prop where
 hh:1<=hz/\hz<=1000000
 bl:1<=bs.length/\bs.length<=8
 b:∀ x∈bs,GoodB hz x
 bn:(bs.map (·.nm)).Nodup
 sl:1<=ss.length/\ss.length<=40
 s:∀ x∈ss,GoodS (bs.map (·.nm)) hz x
 sn:(ss.map (·.nm)).Nodup
 jl:js.length<=40
 j:∀ x∈js,GoodJ (ss.map (·.nm)) hz x
 jn:(js.map (·.nm)).Nodup
 jm:(js.flatMap (·.ms)).Nodup
 ul:us.length<=100
 u:∀ x∈us,GoodU (bs.map (·.nm)) hz x
 un:(us.map fun u=>[u.b,u.p,u.q]).Nodup
 ll:ls.length<=100
 l:∀ x∈ls,GoodL (ss.map (·.nm)) hz x
 ln:(ls.map fun l=>[l.a,l.b]).Nodup
 kl:ks.length<=6
 k:∀ x∈ks,GoodK (ss.map (·.nm)) x
 kn:(ks.map (·.nm)).Nodup
theorem ixL (l:List D) (n:Nat):ixD (.lst l) (.int (n:Int))=l[n]?:=zeC l n
theorem szN {n k:Nat} (h:n<=k) (hk:k<=1000):n<=sizeLine:=by unfold sizeLine;omega
section
variable {h:Int} {bn sn:List Str}
theorem zs0 {br:List (Int×Int)} (len:br.length<=10) (gap:∀ (i:Nat) p q,br[i]?=some p->br[i+1]?=some q->p.2 < q.1) :
  cF zjJ (zab (zaU (za7 (itR zpS (zab (vC (.int 1)) (zab (cF zed (zab (vSh 0) zai)) zai))) (zaE 0) tT (b2 ltD (b2 ixD (b2 ixD (vSh 1) (b2 zrA (vSh 0) (vC (.int 1)))) (vC (.int 1))) (b2 ixD (b2 ixD (vSh 1) (vSh 0)) (vC (.int 0)))) [none,some 0])) zai) [oS (.lst (br.map dIv)),oS (.int h)]=some (.bl true):=by
 have e0:itR zpS (zab (vC (.int 1)) (zab (cF zed (zab (vSh 0) zai)) zai)) [oS (.lst (br.map dIv)),oS (.int h)]=some ((List.range (((br.map dIv).length:Int) - 1).toNat).map fun k:Nat=>D.int (1+k)):=by
  exact zeV rfl (zpR (i:=1) (j:=((br.map dIv).length:Nat)) (by rw [qe];omega))
 refine zcn (r:=[oS (.lst (br.map dIv))]) (a:=none) e0 ?_ rfl fun x hx=>?_
 ·simp only [qe,qR]
  exact szN (k:=10) (by omega) (by decide)
 ·obtain ⟨k,hk,rfl⟩:=List.mem_map.mp hx
  rw [List.mem_range,qe] at hk
  have hk1:k < br.length:=by omega
  have hk2:k+1 < br.length:=by omega
  have e1:br[k]?=some br[k]:=by simp [hk1]
  have e2:br[k+1]?=some br[k+1]:=by simp [hk2]
  have g:=gap k _ _ e1 e2
  have a1:ixD (.lst (br.map dIv)) (.int (1+(k:Int) - 1))=some (dIv br[k]):=by
   have:(1+(k:Int) - 1)=((k:Nat):Int):=by omega
   rw [this,ixL,qj,e1];rfl
  have a2:ixD (.lst (br.map dIv)) (.int (1+(k:Int)))=some (dIv br[k+1]):=by
   have:(1+(k:Int))=((k+1:Nat):Int):=by omega
   rw [this,ixL,qj,e2];rfl
  simp only [vSh,vC,b2,ltD,zrA,qb,qc,qa,a1,a2]
  simp only [dIv,zlG,znv,qa,qP g]
theorem znk {br:List (Int×Int)} (len:br.length<=10) (iv:∀ p∈br,0<=p.1/\p.1 < p.2/\p.2<=h) (gap:∀ (i:Nat) p q,br[i]?=some p->br[i+1]?=some q->p.2 < q.1) :
  zbN [.lst (br.map dIv),.int h]=some (.bl true):=by
 refine zbg [oS (.lst (br.map dIv)),oS (.int h)] rfl ((zez ?_ (zcn (r:=[oS (.int h)]) (a:=none) (xs:=br.map dIv) rfl (by rw [qe];exact szN len (by decide)) rfl fun x hx=>?_)).trans (zbe (zs0 len gap)))
 ·exact zdA _ 0 10 ⟨by omega,by rw [qe];omega⟩
 ·obtain ⟨p,hp,rfl⟩:=List.mem_map.mp hx
  obtain ⟨h1,h2,h3⟩:=iv p hp
  exact zoG p h h1 h2 h3
theorem zoH {b:BenchT} (g:GoodB h b):zcb [za1 b,.int h]=some (.bl true):=by
 simp only [zcb,zf9,za1,zbY,zbp,zeX,cF,zab,zai,vSh,vC,b2,zlG,znv,ql,qL,qo,qO,List.replicate,qb,qc,qa,qd,zts,zex g.nm,znk g.len g.iv g.gap]
theorem zdp {α:Type} {f:α->D} {nm:α->Str} {xs:List α} {i:Nat} {ρ:zaX} {fv:List (Option Nat)} (hf:∀ x,∃ r,f x=.tup (.str (nm x)::r)) (h1:vSh i ρ=some (.lst (xs.map f))) (h2:xs.length<=sizeLine) (h3:zfC fv ρ=[none]) :
  zaU (za7 (itF (vSh i)) (zaE 0) tT (b2 ixD (vSh 0) (vC (.int 0))) fv) ρ=some (.lst ((xs.map nm).map D.str)):=by
 have hc:=zcW (fi:=itF (vSh i)) (fe:=b2 ixD (vSh 0) (vC (.int 0))) (fv:=fv) (ρ:=ρ) (r:=[]) (a:=none) (xs:=xs.map f) (f:=fun d=>match d with | .tup (x::_)=>x | _=>.non) (by unfold itF;rw [h1];rfl) (by rw [qe];exact h2) h3 (fun x hx=>by
  obtain ⟨y,_,rfl⟩:=List.mem_map.mp hx
  obtain ⟨r,e⟩:=hf y
  simp only [b2,vSh,vC,qb,qa,e,zlG])
 rw [hc]
 congr 2
 rw [qm,qm]
 refine List.map_congr_left fun x _=>?_
 obtain ⟨r,e⟩:=hf x
 simp [e]
theorem zlB {bs:List BenchT} (l1:1<=bs.length) (l8:bs.length<=8) (g:∀ x∈bs,GoodB h x) (nd:(bs.map (·.nm)).Nodup):zbD [.lst (bs.map za1),.int h]=some (.bl true):=by
 refine zbg [oS (.lst (bs.map za1)),oS (.int h)] rfl ((zez ?_ (zcn (r:=[oS (.int h)]) (a:=none) (xs:=bs.map za1) rfl (by rw [qe];exact szN l8 (by decide)) rfl fun x hx=>?_)).trans (zbe ?_))
 ·exact zdA _ 1 8 ⟨by rw [qe];omega,by rw [qe];omega⟩
 ·obtain ⟨p,hp,rfl⟩:=List.mem_map.mp hx
  exact zoH (g p hp)
 ·have:=zdp (i:=0) (fv:=[none]) (ρ:=[oS (.lst (bs.map za1)),oS (.int h)]) (f:=za1) (nm:=(·.nm)) (xs:=bs) (fun x=>⟨_,rfl⟩) rfl (szN l8 (by decide)) rfl
  simp only [cF,zab,zai,this,qa,qd]
  exact zco nd (by rw [qe];omega)
theorem zrp {w:Str×Int} (hb:∀ y∈bn,zaY y=true) (g:w.1∈bn/\1<=w.2/\w.2<=h):zc9 [dW w,.lst (bn.map D.str),.int h]=some (.bl true):=by
 simp only [zc9,ziW,dW,zbY,zbp,zeX,cF,zab,zai,vSh,vC,b2,zlG,znv,ql,qL,qo,qO,List.replicate,qb,qc,qa,qd,zts,zdJ g.1 hb,zbH w.2 1 h g.2]
theorem zpr {ws:List (Str×Int)} (hb:∀ y∈bn,zaY y=true) (l1:1<=ws.length) (l4:ws.length<=4) (g:∀ w∈ws,w.1∈bn/\1<=w.2/\w.2<=h) (nd:(ws.map (·.1)).Nodup):zcu [.lst (ws.map dW),.lst (bn.map D.str),.int h]=some (.bl true):=by
 refine zbg [oS (.lst (ws.map dW)),oS (.lst (bn.map D.str)),oS (.int h)] rfl ((zez ?_ (zcn (r:=[oS (.lst (bn.map D.str)),oS (.int h)]) (a:=none) (xs:=ws.map dW) rfl (by rw [qe];exact szN l4 (by decide)) rfl fun x hx=>?_)).trans (zbe ?_))
 ·exact zdA _ 1 4 ⟨by rw [qe];omega,by rw [qe];omega⟩
 ·obtain ⟨p,hp,rfl⟩:=List.mem_map.mp hx
  exact zrp hb (g p hp)
 ·have:=zdp (i:=0) (fv:=[none]) (ρ:=[oS (.lst (ws.map dW)),oS (.lst (bn.map D.str)),oS (.int h)]) (f:=dW) (nm:=(·.1)) (xs:=ws) (fun x=>⟨_,rfl⟩) rfl (szN l4 (by decide)) rfl
  simp only [cF,zab,zai,this,qa,qd]
  exact zco nd (by rw [qe];omega)
theorem zpE {s:StepT} (hb:∀ y∈bn,zaY y=true) (g:GoodS bn h s):zcI [za9 s,.lst (bn.map D.str),.int h]=some (.bl true):=by
 simp only [zcI,zhm,za9,zbY,zax,sIf,zbp,zb1,orT,zcd,toB,cF,zab,zai,vSh,vC,b2,zlG,znv,zsV,ql,qL,qo,qO,List.replicate,qb,qc,qa,qd,if_false,Bool.not_true,qp,zuJ,zex g.nm,zex g.kd,zpr hb g.l1 g.l4 g.ws g.nd]
theorem znC {ss:List StepT} (hb:∀ y∈bn,zaY y=true) (l1:1<=ss.length) (l4:ss.length<=40) (g:∀ s∈ss,GoodS bn h s) (nd:(ss.map (·.nm)).Nodup):zb5 [.lst (ss.map za9),.lst (bn.map D.str),.int h]=some (.bl true):=by
 refine zbg [oS (.lst (ss.map za9)),oS (.lst (bn.map D.str)),oS (.int h)] rfl ((zez ?_ (zcn (r:=[oS (.lst (bn.map D.str)),oS (.int h)]) (a:=none) (xs:=ss.map za9) rfl (by rw [qe];exact szN l4 (by decide)) rfl fun x hx=>?_)).trans (zbe ?_))
 ·exact zdA _ 1 40 ⟨by rw [qe];omega,by rw [qe];omega⟩
 ·obtain ⟨p,hp,rfl⟩:=List.mem_map.mp hx
  exact zpE hb (g p hp)
 ·have:=zdp (i:=0) (fv:=[none]) (ρ:=[oS (.lst (ss.map za9)),oS (.lst (bn.map D.str)),oS (.int h)]) (f:=za9) (nm:=(·.nm)) (xs:=ss) (fun x=>⟨_,rfl⟩) rfl (szN l4 (by decide)) rfl
  simp only [cF,zab,zai,this,qa,qd]
  exact zco nd (by rw [qe];omega)
end
end Law
end
section
namespace Law
open PySem L2
theorem zj4 (a b:Str):neA (.str a) (.str b)=some (.bl (!decide (a=b))):=rfl
theorem zvb {a b c d:D}:zku none (some 3) (.tup [a,b,c,d])=some (.tup [a,b,c]):=rfl
theorem zvE {a b c:D}:zku none (some 2) (.tup [a,b,c])=some (.tup [a,b]):=rfl
theorem zkV {α β:Type} {f:α->List β} {m:Nat}:∀ {l:List α},(∀ x∈l,(f x).length<=m)->(l.flatMap f).length<=l.length*m
 | [],_=>by simp
 | x::r,h=>by
  have h1:=h x qf
  have h2:=zkV (l:=r) fun y hy=>h y (qg _ hy)
  rw [List.flatMap_cons,qi,qh,Nat.succ_mul]
  omega
section
variable {h:Int} {bn sn:List Str}
theorem zsO {j:JobT} (hs:∀ y∈sn,zaY y=true) (hl:sn.length<=40) (g:GoodJ sn h j):zdv [zcg j,.lst (sn.map D.str),.int h]=some (.bl true):=by
 refine zbg [oS (zcg j),oS (.lst (sn.map D.str)),oS (.int h)] rfl ((zsZ ?_ ?_ ?_).trans ((zez ?_ ?_).trans (zbe (zpo ?_ (zcn (r:=[oS (.lst (sn.map D.str))]) (a:=none) (xs:=j.ms.map D.str) ?_ ?_ rfl fun x hx=>?_)))))
 ·exact zuI
 ·simp only [zcg,cF,zab,zai,vSh,vC,b2,zlG,qb,qa,qd,zex g.nm]
 ·simp only [zcg,cF,zab,zai,vSh,vC,b2,zgz,tyD,zsU,qb,qa,qd,i5]
 ·simp only [zcg,cF,zab,zai,vSh,vC,b2,znv,qb,qc,qa,qd,zbH _ 0 h g.ea]
 ·simp only [zcg,cF,zab,zai,vSh,vC,b2,zsV,qb,qc,qa,qd,zbH _ 0 h g.du]
 ·simp only [zcg,cF,zab,zai,vSh,vC,b2,zed,zsT,qb,qc,qa,qd]
  exact zdA _ _ _ ⟨by rw [qe];have:=g.l1;omega,by rw [qe,qe];have:=g.ln;omega⟩
 ·simp only [zcg,vSh,vC,b2,itF,zjk,zsT,qb,qa]
 ·rw [qe];exact szN (qJ g.ln hl) (by decide)
 ·obtain ⟨m,hm,rfl⟩:=List.mem_map.mp hx
  simp only [cF,zab,zai,vSh,qb,qc,qa,qd,zdJ (g.ms m hm) hs]
theorem zlm {js:List JobT} {S H:Option Slot} (hl:js.length<=40) (g:∀ j∈js,j.ms.length<=40) :
  ∃ z,zhY (zaE 4) (zi9 3 (b2 ixD (vSh 4) (vC (.int 4)))) (js.map zcg) [oS (.lst (js.map zcg)),S,H,some (.own []),none]=some (.nx,[oS (.lst (js.map zcg)),S,H,some (.own ((js.flatMap (·.ms)).map D.str)),z]):=by
 obtain ⟨ρ',h1,z,h2⟩:=zcq (gg:=zaE 4) (body:=zi9 3 (b2 ixD (vSh 4) (vC (.int 4)))) (xs:=js.map zcg) (ρ:=[oS (.lst (js.map zcg)),S,H,some (.own []),none])
  (fun i ρ=>∃ z,ρ=[oS (.lst (js.map zcg)),S,H,some (.own (((js.take i).flatMap (·.ms)).map D.str)),z]) ⟨none,by simp⟩ (fun i x ρ hx hI=>by
   obtain ⟨z,rfl⟩:=hI
   rw [qj] at hx
   obtain ⟨j,hj,rfl⟩:=oMd hx
   have hm:j∈js:=qM hj
   have t1:((js.take i).flatMap (·.ms)).length<=(js.take i).length*40:=zkV fun y hy=>g y (List.mem_of_mem_take hy)
   have t2:(js.take i).length<=40:=by rw [qB];omega
   have t3:=g j hm
   have tk:js.take (i+1)=js.take i++[j]:=by rw [List.take_add_one,hj];rfl
   have sz:(((js.take i).flatMap (·.ms)).map D.str).length+(j.ms.map D.str).length<=sizeLine:=by
    rw [qe,qe];unfold sizeLine;omega
   refine ⟨_,[oS (.lst (js.map zcg)),S,H,some (.own (((js.take (i+1)).flatMap (·.ms)).map D.str)),oS (zcg j)],rfl,?_,_,rfl⟩
   have e:b2 ixD (vSh 4) (vC (.int 4)) [oS (.lst (js.map zcg)),S,H,some (.own (((js.take i).flatMap (·.ms)).map D.str)),oS (zcg j)]=some (.lst (j.ms.map D.str)):=by
    simp only [zcg,vSh,vC,b2,zsT,qb,qc,qa]
   simp only [zi9,List.set_cons_zero,List.set_cons_succ,qb,qc,e,qa,qV sz,tk]
   simp)
 refine ⟨z,?_⟩
 rw [h1,h2,qe,List.take_length]
theorem zqG {js:List JobT} (hs:∀ y∈sn,zaY y=true) (hl:sn.length<=40) (l4:js.length<=40) (g:∀ j∈js,GoodJ sn h j) (nd:(js.map (·.nm)).Nodup) (nm:(js.flatMap (·.ms)).Nodup) (ml:(js.flatMap (·.ms)).length<=300):zcv [.lst (js.map zcg),.lst (sn.map D.str),.int h]=some (.bl true):=by
 obtain ⟨z,hz⟩:=zlm (js:=js) (S:=oS (.lst (sn.map D.str))) (H:=oS (.int h)) l4 fun j hj=>qJ (g j hj).ln hl
 refine zbg [oS (.lst (js.map zcg)),oS (.lst (sn.map D.str)),oS (.int h),none,none] (ρ':=[oS (.lst (js.map zcg)),oS (.lst (sn.map D.str)),oS (.int h),oS (.lst ((js.flatMap (·.ms)).map D.str)),z]) rfl ((zez ?_ (zcn (r:=[oS (.lst (sn.map D.str)),oS (.int h)]) (a:=none) (xs:=js.map zcg) rfl (by rw [qe];exact szN l4 (by decide)) rfl fun x hx=>?_)).trans ?_)
 ·exact zdA _ 0 40 ⟨by omega,by rw [qe];omega⟩
 ·obtain ⟨p,hp,rfl⟩:=List.mem_map.mp hx
  simp only [cF,zab,zai,vSh,qb,qc,qa,qd,zsO hs hl (g p hp)]
 ·have nn:=zdp (i:=0) (fv:=[none]) (ρ:=[oS (.lst (js.map zcg)),oS (.lst (sn.map D.str)),oS (.int h),oS (.lst ((js.flatMap (·.ms)).map D.str)),z]) (f:=zcg) (nm:=(·.nm)) (xs:=js) (fun x=>⟨_,rfl⟩) rfl (szN l4 (by decide)) rfl
  have u1:cF zaj (zab (zaU (za7 (itF (vSh 0)) (zaE 0) tT (b2 ixD (vSh 0) (vC (.int 0))) [none])) zai) [oS (.lst (js.map zcg)),oS (.lst (sn.map D.str)),oS (.int h),oS (.lst ((js.flatMap (·.ms)).map D.str)),z]=some (.bl true) :=
   za8 (zag nn zat) (zco nd (by rw [qe];omega))
  have u2:cF zaj (zab (vSh 3) zai) [oS (.lst (js.map zcg)),oS (.lst (sn.map D.str)),oS (.int h),oS (.lst ((js.flatMap (·.ms)).map D.str)),z]=some (.bl true) :=
   za8 (zag rfl zat) (zco nm ml)
  have r:=zbe (zpo u1 u2)
  have z0:(0<=sizeLine)=True:=by simp
  simp only [zax,zgq,szF,zai,qa,qd,qk,z0,if_true,List.set_cons_zero,List.set_cons_succ,zdY,itF,vSh,qb,zjk]
  rw [hz]
  simp only [qa,zhv,qb,qc,List.set_cons_zero,List.set_cons_succ]
  exact r
theorem znH {u:SetT} (hb:∀ y∈bn,zaY y=true) (g:GoodU bn h u):zb9 [zd4 u,.lst (bn.map D.str),.int h]=some (.bl true):=by
 simp only [zb9,zf7,zd4,zbY,zax,sIf,zbp,zb1,zeX,orT,zcd,toB,cF,zab,zai,vSh,vC,b2,zlG,znv,zsV,zsU,ql,qL,qo,qO,List.replicate,qb,qc,qa,qd,if_false,Bool.not_true,qp,zvf,zdJ g.b hb,zex g.p,zex g.q,zbH _ 1 h g.n]
theorem zlZ {us:List SetT} (hb:∀ y∈bn,zaY y=true) (l4:us.length<=100) (g:∀ u∈us,GoodU bn h u) (nd:(us.map fun u=>[u.b,u.p,u.q]).Nodup):zbM [.lst (us.map zd4),.lst (bn.map D.str),.int h]=some (.bl true):=by
 refine zbg [oS (.lst (us.map zd4)),oS (.lst (bn.map D.str)),oS (.int h)] rfl ((zez ?_ (zcn (r:=[oS (.lst (bn.map D.str)),oS (.int h)]) (a:=none) (xs:=us.map zd4) rfl (by rw [qe];exact szN l4 (by decide)) rfl fun x hx=>?_)).trans (zbe (za8 (zag (zcW (r:=[]) (a:=none) (xs:=us.map zd4) (f:=fun d=>match d with | .tup [a,b,c,d]=>.tup [a,b,c] | _=>.non) rfl (by rw [qe];exact szN l4 (by decide)) rfl fun x hx=>?_) zat) ?_)))
 ·exact zdA _ 0 100 ⟨by omega,by rw [qe];omega⟩
 ·obtain ⟨p,hp,rfl⟩:=List.mem_map.mp hx
  simp only [cF,zab,zai,vSh,qb,qc,qa,qd,znH hb (g p hp)]
 ·obtain ⟨p,hp,rfl⟩:=List.mem_map.mp hx
  simp only [vSh,vC,slF,pN,pS,qb,qa,zd4,zvb]
 ·have:=zgE nd (by rw [qe];omega)
  rw [qm] at this ⊢
  exact this
theorem zqx {l:LinkT} (hs:∀ y∈sn,zaY y=true) (g:GoodL sn h l):zcJ [zb3 l,.lst (sn.map D.str),.int h]=some (.bl true):=by
 have:=g.ne
 simp only [zcJ,zho,zb3,zbY,zax,sIf,zbp,zb1,zeX,orT,zcd,toB,cF,zab,zai,vSh,vC,b2,zlG,znv,zsV,ql,qL,qo,qO,List.replicate,qb,qc,qa,qd,if_false,Bool.not_true,Bool.not_false,qp,zuJ,zdJ g.a hs,zdJ g.b hs,zj4,qK g.ne,zbH _ 0 h g.g]
theorem zod {ls:List LinkT} (hs:∀ y∈sn,zaY y=true) (l4:ls.length<=100) (g:∀ l∈ls,GoodL sn h l) (nd:(ls.map fun l=>[l.a,l.b]).Nodup):zb6 [.lst (ls.map zb3),.lst (sn.map D.str),.int h]=some (.bl true):=by
 refine zbg [oS (.lst (ls.map zb3)),oS (.lst (sn.map D.str)),oS (.int h)] rfl ((zez ?_ (zcn (r:=[oS (.lst (sn.map D.str)),oS (.int h)]) (a:=none) (xs:=ls.map zb3) rfl (by rw [qe];exact szN l4 (by decide)) rfl fun x hx=>?_)).trans (zbe (za8 (zag (zcW (r:=[]) (a:=none) (xs:=ls.map zb3) (f:=fun d=>match d with | .tup [a,b,c]=>.tup [a,b] | _=>.non) rfl (by rw [qe];exact szN l4 (by decide)) rfl fun x hx=>?_) zat) ?_)))
 ·exact zdA _ 0 100 ⟨by omega,by rw [qe];omega⟩
 ·obtain ⟨p,hp,rfl⟩:=List.mem_map.mp hx
  simp only [cF,zab,zai,vSh,qb,qc,qa,qd,zqx hs (g p hp)]
 ·obtain ⟨p,hp,rfl⟩:=List.mem_map.mp hx
  simp only [vSh,vC,slF,pN,pS,qb,qa,zb3,zvE]
 ·have:=zgE nd (by rw [qe];omega)
  rw [qm] at this ⊢
  exact this
theorem zno {w:Str×Int} (hs:∀ y∈sn,zaY y=true) (g:w.1∈sn/\1<=w.2/\w.2<=1000000):zbQ [dW w,.lst (sn.map D.str)]=some (.bl true):=by
 simp only [zbQ,zfk,dW,zbY,zbp,zeX,cF,zab,zai,vSh,vC,b2,zlG,znv,ql,qL,qo,qO,List.replicate,qb,qc,qa,qd,zts,zdJ g.1 hs,zbH w.2 1 1000000 g.2]
theorem zh3 {ws:List (Str×Int)} (hs:∀ y∈sn,zaY y=true) (hl:sn.length<=40) (g:GoodA sn ws):zbu [.lst (ws.map dW),.lst (sn.map D.str)]=some (.bl true):=by
 have l4:ws.length<=40:=qJ g.ln hl
 refine zbg [oS (.lst (ws.map dW)),oS (.lst (sn.map D.str))] rfl ((zez ?_ (zcn (r:=[oS (.lst (sn.map D.str))]) (a:=none) (xs:=ws.map dW) rfl (by rw [qe];exact szN l4 (by decide)) rfl fun x hx=>?_)).trans (zbe ?_))
 ·have e:=zdA (ws.map dW) 0 ((sn.map D.str).length:Nat) ⟨by omega,by rw [qe,qe];have:=g.ln;omega⟩
  simp only [cF,zab,zai,vSh,vC,zed,qb,qc,qa,qd]
  exact e
 ·obtain ⟨p,hp,rfl⟩:=List.mem_map.mp hx
  simp only [cF,zab,zai,vSh,qb,qc,qa,qd,zno hs (g.ws p hp)]
 ·have:=zdp (i:=0) (fv:=[none]) (ρ:=[oS (.lst (ws.map dW)),oS (.lst (sn.map D.str))]) (f:=dW) (nm:=(·.1)) (xs:=ws) (fun x=>⟨_,rfl⟩) rfl (szN l4 (by decide)) rfl
  exact za8 (zag this zat) (zco g.nd (by rw [qe];omega))
theorem znB {k:StockT} (hs:∀ y∈sn,zaY y=true) (hl:sn.length<=40) (g:GoodK sn k):zb8 [zby k,.lst (sn.map D.str)]=some (.bl true):=by
 simp only [zb8,zf6,zby,zbY,zax,sIf,zbp,zb1,zeX,orT,zcd,toB,cF,zab,zai,vSh,vC,b2,zlG,znv,zsV,zsU,zsT,ql,qL,qo,qO,List.replicate,qb,qc,qa,qd,if_false,Bool.not_true,qp,zuI,zex g.nm,zbH _ 0 1000000 g.hi,zbH _ 0 _ g.lo,zh3 hs hl g.tk,zh3 hs hl g.pt]
theorem zlS {ks:List StockT} (hs:∀ y∈sn,zaY y=true) (hl:sn.length<=40) (l4:ks.length<=6) (g:∀ k∈ks,GoodK sn k) (nd:(ks.map (·.nm)).Nodup):zbL [.lst (ks.map zby),.lst (sn.map D.str)]=some (.bl true):=by
 refine zbg [oS (.lst (ks.map zby)),oS (.lst (sn.map D.str))] rfl ((zez ?_ (zcn (r:=[oS (.lst (sn.map D.str))]) (a:=none) (xs:=ks.map zby) rfl (by rw [qe];exact szN l4 (by decide)) rfl fun x hx=>?_)).trans (zbe ?_))
 ·exact zdA _ 0 6 ⟨by omega,by rw [qe];omega⟩
 ·obtain ⟨p,hp,rfl⟩:=List.mem_map.mp hx
  simp only [cF,zab,zai,vSh,qb,qc,qa,qd,znB hs hl (g p hp)]
 ·have:=zdp (i:=0) (fv:=[none]) (ρ:=[oS (.lst (ks.map zby)),oS (.lst (sn.map D.str))]) (f:=zby) (nm:=(·.nm)) (xs:=ks) (fun x=>⟨_,rfl⟩) rfl (szN l4 (by decide)) rfl
  exact za8 (zag this zat) (zco nd (by rw [qe];omega))
end
section
variable {bs:List BenchT} {ss:List StepT} {js:List JobT} {us:List SetT} {ls:List LinkT} {ks:List StockT} {h:Int}
theorem Good.bnn (g:Good bs ss js us ls ks h):∀ y∈bs.map (·.nm),zaY y=true:=fun y hy=>by
 obtain ⟨b,hb,rfl⟩:=List.mem_map.mp hy
 exact (g.b b hb).nm
theorem Good.snn (g:Good bs ss js us ls ks h):∀ y∈ss.map (·.nm),zaY y=true:=fun y hy=>by
 obtain ⟨b,hb,rfl⟩:=List.mem_map.mp hy
 exact (g.s b hb).nm
theorem zmg (g:Good bs ss js us ls ks h) (ml:(js.flatMap (·.ms)).length<=300):zbj [.lst (bs.map za1),.lst (ss.map za9),.lst (js.map zcg),.lst (us.map zd4),.lst (ls.map zb3),.lst (ks.map zby),.int h]=some .non:=by
 have hb:=g.bnn
 have hs:=g.snn
 have hl:(ss.map (·.nm)).length<=40:=by rw [qe];exact g.sl.2
 have n1:∀ z:Option Slot,zaU (za7 (itF (vSh 0)) (zaE 0) tT (b2 ixD (vSh 0) (vC (.int 0))) [none]) [oS (.lst (bs.map za1)),oS (.lst (ss.map za9)),oS (.lst (js.map zcg)),oS (.lst (us.map zd4)),oS (.lst (ls.map zb3)),oS (.lst (ks.map zby)),oS (.int h),none,none]=some (.lst ((bs.map (·.nm)).map D.str)):=fun z =>
  zdp (f:=za1) (nm:=(·.nm)) (xs:=bs) (fun x=>⟨_,rfl⟩) rfl (szN g.bl.2 (by decide)) rfl
 have n2:zaU (za7 (itF (vSh 1)) (zaE 0) tT (b2 ixD (vSh 0) (vC (.int 0))) [none]) [oS (.lst (bs.map za1)),oS (.lst (ss.map za9)),oS (.lst (js.map zcg)),oS (.lst (us.map zd4)),oS (.lst (ls.map zb3)),oS (.lst (ks.map zby)),oS (.int h),oS (.lst ((bs.map (·.nm)).map D.str)),none]=some (.lst ((ss.map (·.nm)).map D.str)) :=
  zdp (f:=za9) (nm:=(·.nm)) (xs:=ss) (fun x=>⟨_,rfl⟩) rfl (szN g.sl.2 (by decide)) rfl
 refine zbg [oS (.lst (bs.map za1)),oS (.lst (ss.map za9)),oS (.lst (js.map zcg)),oS (.lst (us.map zd4)),oS (.lst (ls.map zb3)),oS (.lst (ks.map zby)),oS (.int h),none,none] rfl ((zg2 ?_).trans ((zg2 ?_).trans ((zaS (n1 none)).trans ((zg2 ?_).trans ((zaS n2).trans ((zg2 ?_).trans ((zg2 ?_).trans ((zg2 ?_).trans ((zg2 ?_).trans (zbe rfl))))))))))
 ·exact zbH h 1 1000000 g.hh
 ·exact zlB g.bl.1 g.bl.2 g.b g.bn
 ·exact znC hb g.sl.1 g.sl.2 g.s g.sn
 ·exact zqG hs hl g.jl g.j g.jn g.jm ml
 ·exact zlZ hb g.ul g.u g.un
 ·exact zod hs g.ll g.l g.ln
 ·exact zlS hs hl g.kl g.k g.kn
end
end Law
end
section
namespace Law
open PySem L2
def Pl:Nat->D->Prop
 | 0,_=>False
 | n+1,.lst l=>l.length<=sizeLine/\∀ x∈l,Pl n x
 | n+1,.tup l=>l.length<=sizeLine/\∀ x∈l,Pl n x
 | _+1,.non=>True
 | _+1,.bl _=>True
 | _+1,.int _=>True
 | _+1,.str _=>True
 | _+1,_=>False
theorem zcp {ft:FT} {X E:FS} {ρ:zaX} (h:ft ρ=some false):zax (sIf ft X zb1) E ρ=E ρ:=by
 simp only [zax,sIf,h,qa,qp,if_false,zb1]
theorem zlP {ft:FT} {A B E:FS} {ρ ρ':zaX} {d:D} (h:ft ρ=some true) (h2:A ρ=some (.rt d,ρ')):zax (sIf ft A B) E ρ=some (.rt d,ρ'):=by
 simp only [zax,sIf,h,qa,if_true,h2]
theorem ziw:∀ (n:Nat) (d:D),Pl n d->zdD n [d]=some d
 | 0,_,h=>h.elim
 | n+1,.lst l,h=>by
  refine zbg [oS (.lst l)] rfl (zlP (zbx (b:=true) ?_) (zbe ?_))
  ·simp only [cF,zab,zai,vSh,vC,zgz,tyD,qb,qa,qd,k1]
  ·have:=zcW (fi:=itF (vSh 0)) (fe:=cF (zdD n) (zab (vSh 0) zai)) (fv:=[none]) (ρ:=[oS (.lst l)]) (r:=[]) (a:=none) (xs:=l) (f:=fun x=>x) rfl h.1 rfl (fun x hx=>by simp only [cF,zab,zai,vSh,qb,qa,qd,ziw n x (h.2 x hx)])
   rw [List.map_id'] at this
   exact this
 | n+1,.tup l,h=>by
  refine zbg [oS (.tup l)] rfl ((zcp (zbx (b:=false) ?_)).trans (zlP (zbx (b:=true) ?_) (zbe (za8 (zag (d:=.lst l) ?_ zat) rfl))))
  ·simp only [cF,zab,zai,vSh,vC,zgz,tyD,qb,qa,qd,k2]
  ·simp only [cF,zab,zai,vSh,vC,zgz,tyD,qb,qa,qd,k3]
  ·have:=zcW (fi:=itF (vSh 0)) (fe:=cF (zdD n) (zab (vSh 0) zai)) (fv:=[none]) (ρ:=[oS (.tup l)]) (r:=[]) (a:=none) (xs:=l) (f:=fun x=>x) rfl h.1 rfl (fun x hx=>by simp only [cF,zab,zai,vSh,qb,qa,qd,ziw n x (h.2 x hx)])
   rw [List.map_id'] at this
   exact this
 | n+1,.non,h=>by
  show zdE (zdD n) [.non]=some .non
  unfold zdE
  refine zbg [oS .non] rfl ((zcp (zbx (b:=false) ?_)).trans ((zcp (zbx (b:=false) ?_)).trans (zbe (f:=vSh 0) rfl))) <;> simp only [cF,zab,zai,vSh,vC,zgz,tyD,qb,qa,qd,k10,k11]
 | n+1,.bl b,h=>by
  show zdE (zdD n) [.bl b]=some (.bl b)
  unfold zdE
  refine zbg [oS (.bl b)] rfl ((zcp (zbx (b:=false) ?_)).trans ((zcp (zbx (b:=false) ?_)).trans (zbe (f:=vSh 0) rfl))) <;> simp only [cF,zab,zai,vSh,vC,zgz,tyD,qb,qa,qd,k8,k9]
 | n+1,.int b,h=>by
  show zdE (zdD n) [.int b]=some (.int b)
  unfold zdE
  refine zbg [oS (.int b)] rfl ((zcp (zbx (b:=false) ?_)).trans ((zcp (zbx (b:=false) ?_)).trans (zbe (f:=vSh 0) rfl))) <;> simp only [cF,zab,zai,vSh,vC,zgz,tyD,qb,qa,qd,k6,k7]
 | n+1,.str b,h=>by
  show zdE (zdD n) [.str b]=some (.str b)
  unfold zdE
  refine zbg [oS (.str b)] rfl ((zcp (zbx (b:=false) ?_)).trans ((zcp (zbx (b:=false) ?_)).trans (zbe (f:=vSh 0) rfl))) <;> simp only [cF,zab,zai,vSh,vC,zgz,tyD,qb,qa,qd,k4,k4,k5]
theorem zee {d:D} (h:Pl 8 d):zaD [d]=some d:=ziw 8 d h
theorem zde {n:Nat} {α:Type} {f:α->D} {xs:List α} (hl:xs.length<=1000) (h:∀ x∈xs,Pl n (f x)):Pl (n+1) (.lst (xs.map f)) :=
 ⟨by rw [qe];exact szN hl (by decide),fun x hx=>by
  obtain ⟨y,hy,rfl⟩:=List.mem_map.mp hx
  exact h y hy⟩
theorem zr9 {n:Nat} {xs:List Str} (hl:xs.length<=1000):Pl (n+2) (.lst (xs.map D.str)):=zde hl fun x _=>(trivial:Pl (n+1) (.str x))
theorem ztZ {n:Nat} {xs:List (Str×Int)} (hl:xs.length<=1000):Pl (n+3) (.lst (xs.map dW)):=zde hl fun x _=>⟨by simp [sizeLine],by
 intro y hy
 simp only [qI,qG,or_false] at hy
 rcases hy with rfl | rfl <;> trivial⟩
theorem zkB {n:Nat} {h:Int} {b:BenchT} (g:GoodB h b):Pl (n+4) (za1 b):=⟨by simp [sizeLine],by
 intro y hy
 simp only [qI,qG,or_false] at hy
 rcases hy with rfl | rfl
 ·trivial
 ·exact zde (by have:=g.len;omega) fun x _=>⟨by simp [sizeLine],by
   intro y hy
   simp only [qI,qG,or_false] at hy
   rcases hy with rfl | rfl <;> trivial⟩⟩
theorem zl8 {n:Nat} {bn:List Str} {h:Int} {s:StepT} (g:GoodS bn h s):Pl (n+4) (za9 s):=⟨by simp [sizeLine],by
 intro y hy
 simp only [qI,qG,or_false] at hy
 rcases hy with rfl | rfl | rfl
 ·trivial
 ·trivial
 ·exact ztZ (by have:=g.l4;omega)⟩
theorem zoW {n:Nat} {sn:List Str} {h:Int} {j:JobT} (hl:sn.length<=40) (g:GoodJ sn h j):Pl (n+3) (zcg j):=⟨by simp [sizeLine],by
 intro y hy
 simp only [qI,qG,or_false] at hy
 rcases hy with rfl | rfl | rfl | rfl | rfl
 ·trivial
 ·trivial
 ·trivial
 ·trivial
 ·exact zr9 (by have:=g.ln;omega)⟩
theorem zoV {n:Nat} {u:SetT}:Pl (n+2) (zd4 u):=⟨by simp [sizeLine],by
 intro y hy
 simp only [qI,qG,or_false] at hy
 rcases hy with rfl | rfl | rfl | rfl <;> trivial⟩
theorem zl9 {n:Nat} {u:LinkT}:Pl (n+2) (zb3 u):=⟨by simp [sizeLine],by
 intro y hy
 simp only [qI,qG,or_false] at hy
 rcases hy with rfl | rfl | rfl <;> trivial⟩
theorem zkA {n:Nat} {sn:List Str} {k:StockT} (hl:sn.length<=40) (g:GoodK sn k):Pl (n+4) (zby k):=⟨by simp [sizeLine],by
 intro y hy
 simp only [qI,qG,or_false] at hy
 rcases hy with rfl | rfl | rfl | rfl | rfl
 ·trivial
 ·trivial
 ·trivial
 ·exact ztZ (by have:=g.tk.ln;omega)
 ·exact ztZ (by have:=g.pt.ln;omega)⟩
theorem zhR {α:Type} {nm:α->Str} {f:α->D}:∀ (xs:List α),zhS (xs.map fun x=>.tup [.str (nm x),f x])=some (xs.map fun x=>(.inr (nm x),f x))
 | []=>rfl
 | x::r=>by simp only [ql,zhS,zot,qa,zhR r,qd]
theorem zhQ {α:Type} {t:α->List Str} {f:α->D}:∀ (xs:List α),zgP (xs.map fun x=>.tup [.tup ((t x).map D.str),f x])=some (xs.map fun x=>((t x).map Sum.inr,f x))
 | []=>rfl
 | x::r=>by simp only [ql,zgP,zeM,qa,zhQ r,qd]
theorem zhT {κ:Type} [DecidableEq κ] {ps:List (κ×D)} (h:(ps.map (·.1)).Nodup):zty ps=ps:=by
 have key:∀ (l a:List (κ×D)),((a++l).map (·.1)).Nodup->l.foldl (fun acc kv=>zlj acc kv.1 kv.2) a=a++l:=by
  intro l
  induction l with
  | nil=>intro a _;simp
  | cons x r ih =>
   intro a hn
   have hx:(a.any fun kv=>decide (kv.1=x.1))=false:=by
    rw [List.any_eq_false]
    intro y hy z
    rw [List.map_append,List.nodup_append] at hn
    exact hn.2.2 y.1 (List.mem_map_of_mem hy) x.1 (by simp) (of_decide_eq_true z)
   rw [List.foldl_cons]
   have e:zlj a x.1 x.2=a++[x]:=by
    unfold zlj
    rw [hx]
    rfl
   rw [e,ih (a++[x]) (by simpa using hn)]
   simp
 simpa [zty] using key ps [] (by simpa using h)
theorem zgy {β:Type}:∀ {fs:List (Str×β)} {i:Nat} {k:Str} {d:β},(fs.map (·.1)).Nodup->fs[i]?=some (k,d)->fs.lookup k=some d
 | [],i,k,d,_,h=>by simp at h
 | (a,b)::r,0,k,d,_,h=>by
  simp only [qb,Option.some.injEq,Prod.mk.injEq] at h
  obtain ⟨rfl,rfl⟩:=h
  simp [List.lookup]
 | (a,b)::r,i+1,k,d,nd,h=>by
  rw [qc] at h
  rw [ql,List.nodup_cons] at nd
  have ne:k≠a:=by
   intro z
   subst z
   exact nd.1 (List.mem_map_of_mem (f:=(·.1)) (qM h))
  have hb:(k==a)=false:=by simpa using ne
  simp only [List.lookup,hb]
  exact zgy nd.2 h
theorem zgU {β:Type}:∀ {fs:List (Str×β)} {k:Str},k∉fs.map (·.1)->fs.lookup k=none
 | [],_,_=>rfl
 | (a,b)::r,k,h=>by
  rw [ql,qI,not_or] at h
  have hb:(k==a)=false:=by simpa using h.1
  simp only [List.lookup,hb]
  exact zgU h.2
end Law
end
section
namespace Law
open PySem L2
def znu (j:JobT) (acc:List (Key×D)) (m:Str):List (Key×D):=zlj acc (.inr m) (zcg j)
def jkv (js:List JobT):List (Key×D):=js.foldl (fun acc j=>j.ms.foldl (znu j) acc) []
theorem znP {κ:Type} [DecidableEq κ] (kvs:List (κ×D)) (k:κ) (v:D):(zlj kvs k v).length<=kvs.length+1:=by
 unfold zlj
 split
 ·rw [qe];omega
 ·rw [qi];simp
theorem zg1 (j:JobT):∀ (ms:List Str) (acc:List (Key×D)),(ms.foldl (znu j) acc).length<=acc.length+ms.length
 | [],acc=>by simp
 | m::r,acc=>by
  rw [List.foldl_cons]
  have h1:=zg1 j r (znu j acc m)
  have h2:(znu j acc m).length<=acc.length+1:=znP _ _ _
  rw [qh];omega
theorem zmD {m:Nat}:∀ {js:List JobT} (acc:List (Key×D)),(∀ j∈js,j.ms.length<=m)->(js.foldl (fun acc j=>j.ms.foldl (znu j) acc) acc).length<=acc.length+js.length*m
 | [],acc,_=>by simp
 | j::r,acc,h=>by
  rw [List.foldl_cons]
  have h1:=zmD (js:=r) (j.ms.foldl (znu j) acc) fun y hy=>h y (qg _ hy)
  have h2:=zg1 j j.ms acc
  have h3:=h j qf
  rw [qh,Nat.succ_mul];omega
def zmQ (bs:List BenchT) (ss:List StepT) (js:List JobT) (us:List SetT) (ls:List LinkT) (ks:List StockT) (h:Int):List (Str×D) :=
 [("benches",.lst (bs.map za1)),("steps",.lst (ss.map za9)),("jobs",.lst (js.map zcg)),("setups",.lst (us.map zd4)),("links",.lst (ls.map zb3)),("stocks",.lst (ks.map zby)),("horizon",.int h),
 ("bench_by_name",.dk (bs.map fun b=>(.inr b.nm,za1 b))),("step_by_name",.dk (ss.map fun s=>(.inr s.nm,za9 s))),("setup_by_names",.dt (us.map fun u=>([u.b,u.p,u.q].map Sum.inr,.int u.n)))]
def zrj (bs:List BenchT) (ss:List StepT) (js:List JobT) (us:List SetT) (ls:List LinkT) (ks:List StockT) (h:Int):List (Str×D):=zmQ bs ss js us ls ks h++[(("job_by_step":Str),D.dk (jkv js))]
def zcw (bs:List BenchT) (ss:List StepT) (js:List JobT) (us:List SetT) (ls:List LinkT) (ks:List StockT) (h:Int):D:=.ins "Shop" (zrj bs ss js us ls ks h)
def zgh:List Str:=["benches","steps","jobs","setups","links","stocks","horizon","bench_by_name","step_by_name","setup_by_names","job_by_step"]
theorem zis:zgh.Nodup:=by decide +kernel
theorem zmn {α:Type} {l:List α} (h:l.Nodup) (n:Nat):(l.take n).Nodup:=List.Sublist.nodup (List.take_sublist n l) h
section
variable {fs:List (Str×D)} {f:Str} {fv:FE} {r:zaX} {g:FS} {d:D}
theorem zdz (n:Nat) (hk:zgh[n]?=some f) (hf:fs.map (·.1)=zgh.take n) (h:fv (some (.obj "Shop" fs)::r)=some d):zax (zfx "Shop" f 0 fv) g (some (.obj "Shop" fs)::r)=g (some (.obj "Shop" (fs++[(f,d)]))::r):=by
 have hno:fs.lookup f=none:=zgU (by
  rw [hf]
  intro z
  obtain ⟨i,hi⟩:=List.getElem?_of_mem z
  have hin:i < n:=by
   rcases Nat.lt_or_ge i n with q | q
   ·exact q
   ·rw [List.getElem?_eq_none (by rw [qB];omega)] at hi;cases hi
  rw [List.getElem?_take_of_lt hin] at hi
  have:=(List.getElem?_inj (List.getElem?_eq_some_iff.mp hi).1 zis).mp (hi.trans hk.symm)
  omega)
 have hlen:fs.length < 100:=by
  have:=congrArg List.length hf
  rw [qe,qB] at this
  have k:zgh.length=11:=rfl
  omega
 simp only [zax,zfx,h,qa,qb,hno,hlen,and_self,if_true,List.set_cons_zero]
theorem zik (n i:Nat) (hf:fs.map (·.1)=zgh.take n) (h:fs[i]?=some (f,d)):zhw "Shop" f 0 (some (.obj "Shop" fs)::r)=some d:=by
 have e:fs.lookup f=some d:=zgy (by rw [hf];exact zmn zis n) h
 show (if some ("Shop":Str)=some ("Shop":Str) then fs.lookup f else none)=some d
 rw [qV rfl,e]
end
theorem zm0 {α:Type} {f:α->D} {nm:α->Str} {xs:List α} {fo:FE} {ρ:zaX} (hf:∀ x,∃ r,f x=.tup (.str (nm x)::r)) (h1:fo ρ=some (.lst (xs.map f))) (h2:xs.length<=1000) (nd:(xs.map nm).Nodup) :
  cF zjq (zab (zaU (za7 (itF fo) (zaE 0) tT (zcK (szF (zab (b2 ixD (vSh 0) (vC (.int 0))) (zab (vSh 0) zai)))) [none])) zai) ρ=some (.dk (xs.map fun x=>(.inr (nm x),f x))):=by
 have hc:=zcW (fi:=itF fo) (fe:=zcK (szF (zab (b2 ixD (vSh 0) (vC (.int 0))) (zab (vSh 0) zai)))) (fv:=[none]) (ρ:=ρ) (r:=[]) (a:=none) (xs:=xs.map f) (f:=fun d=>.tup [match d with | .tup (x::_)=>x | _=>.non,d]) (by unfold itF;rw [h1];rfl) (by rw [qe];exact szN h2 (by decide)) rfl (fun x hx=>by
  obtain ⟨y,_,rfl⟩:=List.mem_map.mp hx
  obtain ⟨r,e⟩:=hf y
  simp only [zab,zai,vSh,vC,b2,zcK,szF,zlG,qb,qa,qd,if_true,qh,qk,Nat.zero_add,sz2,e])
 have e:(xs.map f).map (fun d=>D.tup [match d with | .tup (x::_)=>x | _=>.non,d])=xs.map fun x=>.tup [.str (nm x),f x]:=by
  rw [qm]
  refine List.map_congr_left fun x _=>?_
  obtain ⟨r,e⟩:=hf x
  simp [e]
 rw [e] at hc
 have kn:((xs.map fun x=>((.inr (nm x):Key),f x)).map (·.1)).Nodup:=by
  rw [qm]
  have:=List.Pairwise.map (S:=fun a b:Key=>a≠b) (Sum.inr:Str->Key) (fun a b hab z=>hab (Sum.inr.inj z)) nd
  rw [qm] at this
  exact this
 refine za8 (zag hc zat) ?_
 show (if _ then _ else _)=_
 rw [qV (by rw [qe];exact h2),zhR,qd,zhT kn]
theorem zov {us:List SetT} {fo:FE} {ρ:zaX} (h1:fo ρ=some (.lst (us.map zd4))) (h2:us.length<=1000) (nd:(us.map fun u=>[u.b,u.p,u.q]).Nodup) :
  cF zkZ (zab (zaU (za7 (itF fo) (zaE 0) tT (zcK (szF (zab (slF (vSh 0) pN (pS (vC (.int 3)))) (zab (b2 ixD (vSh 0) (vC (.int 3))) zai)))) [none])) zai) ρ=some (.dt (us.map fun u=>([u.b,u.p,u.q].map Sum.inr,.int u.n))):=by
 have hc:=zcW (fi:=itF fo) (fe:=zcK (szF (zab (slF (vSh 0) pN (pS (vC (.int 3)))) (zab (b2 ixD (vSh 0) (vC (.int 3))) zai)))) (fv:=[none]) (ρ:=ρ) (r:=[]) (a:=none) (xs:=us.map zd4) (f:=fun d=>match d with | .tup [a,b,c,d]=>.tup [.tup [a,b,c],d] | _=>.non) (by unfold itF;rw [h1];rfl) (by rw [qe];exact szN h2 (by decide)) rfl (fun x hx=>by
  obtain ⟨y,_,rfl⟩:=List.mem_map.mp hx
  simp only [zab,zai,vSh,vC,b2,zcK,szF,slF,pN,pS,zsU,qb,qa,qd,if_true,qh,qk,Nat.zero_add,sz2,zd4,zvb])
 rw [qm] at hc
 have kn:((us.map fun u=>([u.b,u.p,u.q].map (Sum.inr:Str->Key),D.int u.n)).map (·.1)).Nodup:=by
  rw [qm]
  have inj:∀ a b:List Str,a.map (Sum.inr:Str->Key)=b.map Sum.inr->a=b:=fun a b z=>(List.map_inj_right (fun x y q=>Sum.inr.inj q)).mp z
  have:=List.Pairwise.map (S:=fun a b:List Key=>a≠b) (List.map (Sum.inr:Str->Key)) (fun a b hab z=>hab (inj a b z)) nd
  rw [qm] at this
  exact this
 refine za8 (zag hc zat) ?_
 show (if _ then _ else _)=_
 have e:=zhQ (t:=fun u:SetT=>[u.b,u.p,u.q]) (f:=fun u=>.int u.n) us
 rw [qV (by rw [qe];exact h2)]
 have e2:zgP (us.map ((fun d=>match d with | .tup [a,b,c,d]=>D.tup [.tup [a,b,c],d] | _=>.non) ∘ zd4))=some (us.map fun u=>([u.b,u.p,u.q].map Sum.inr,.int u.n)):=e
 rw [e2,qd,zhT kn]
section
variable {bs:List BenchT} {ss:List StepT} {js:List JobT} {us:List SetT} {ls:List LinkT} {ks:List StockT} {h:Int}
theorem zg4:(zmQ bs ss js us ls ks h).map (·.1)=zgh.take 10:=rfl
theorem zjm:(zrj bs ss js us ls ks h).map (·.1)=zgh:=rfl
abbrev r9 (bs:List BenchT) (ss:List StepT) (js:List JobT) (us:List SetT) (ls:List LinkT) (ks:List StockT) (h:Int) (a b:Option Slot):zaX:=[oS (.lst (bs.map za1)),oS (.lst (ss.map za9)),oS (.lst (js.map zcg)),oS (.lst (us.map zd4)),oS (.lst (ls.map zb3)),oS (.lst (ks.map zby)),oS (.int h),oS .non,a,b]
abbrev ob (bs:List BenchT) (ss:List StepT) (js:List JobT) (us:List SetT) (ls:List LinkT) (ks:List StockT) (h:Int) (kvs:List (Key×D)):Option Slot:=some (.objd "Shop" (zmQ bs ss js us ls ks h) "job_by_step" kvs)
theorem zr1 {j:JobT} {m:Str} {kvs:List (Key×D)} (hl:kvs.length < 100000):zdy "Shop" "job_by_step" 0 (vSh 10) (vSh 9) (ob bs ss js us ls ks h kvs::r9 bs ss js us ls ks h (oS (zcg j)) (oS (.str m)))=some (.nx,ob bs ss js us ls ks h (znu j kvs m)::r9 bs ss js us ls ks h (oS (zcg j)) (oS (.str m))):=by
 have hno:(zmQ bs ss js us ls ks h).lookup ("job_by_step":Str)=none:=zgU (by rw [zg4];decide +kernel)
 simp only [zdy,vSh,qb,qc,qa,zot,hno,hl,and_self,if_true,List.set_cons_zero,znu]
theorem zoj {j:JobT} {acc:List (Key×D)} {z:Option Slot} (hl:acc.length+j.ms.length < 100000):∃ z',zdY (itF (b2 ixD (vSh 9) (vC (.int 4)))) (zaE 10) (zdy "Shop" "job_by_step" 0 (vSh 10) (vSh 9)) (ob bs ss js us ls ks h acc::r9 bs ss js us ls ks h (oS (zcg j)) z)=some (.nx,ob bs ss js us ls ks h (j.ms.foldl (znu j) acc)::r9 bs ss js us ls ks h (oS (zcg j)) z'):=by
 obtain ⟨ρ',h1,z',h2⟩:=zcq (gg:=zaE 10) (body:=zdy "Shop" "job_by_step" 0 (vSh 10) (vSh 9)) (xs:=j.ms.map D.str) (ρ:=ob bs ss js us ls ks h acc::r9 bs ss js us ls ks h (oS (zcg j)) z)
  (fun i ρ=>∃ z,ρ=ob bs ss js us ls ks h ((j.ms.take i).foldl (znu j) acc)::r9 bs ss js us ls ks h (oS (zcg j)) z) ⟨z,by simp⟩ (fun i x ρ hx hI=>by
   obtain ⟨z,rfl⟩:=hI
   rw [qj] at hx
   obtain ⟨m,hm,rfl⟩:=oMd hx
   have tk:j.ms.take (i+1)=j.ms.take i++[m]:=by rw [List.take_add_one,hm];rfl
   have hlen:=zg1 j (j.ms.take i) acc
   rw [qB] at hlen
   refine ⟨_,_,rfl,zr1 (by omega),oS (.str m),?_⟩
   rw [tk,List.foldl_append];rfl)
 refine ⟨z',?_⟩
 have e:itF (b2 ixD (vSh 9) (vC (.int 4))) (ob bs ss js us ls ks h acc::r9 bs ss js us ls ks h (oS (zcg j)) z)=some (j.ms.map D.str):=by
  simp only [vSh,vC,b2,itF,zjk,zsT,qb,qc,qa,zcg]
 unfold zdY
 rw [e,qa,h1,h2,qe,List.take_length]
theorem zn1 (hj:js.length<=40) (hm:∀ j∈js,j.ms.length<=40):∃ z z',zhY (zaE 9) (zdY (itF (b2 ixD (vSh 9) (vC (.int 4)))) (zaE 10) (zdy "Shop" "job_by_step" 0 (vSh 10) (vSh 9))) (js.map zcg) (ob bs ss js us ls ks h []::r9 bs ss js us ls ks h none none)=some (.nx,ob bs ss js us ls ks h (jkv js)::r9 bs ss js us ls ks h z z'):=by
 obtain ⟨ρ',h1,z,z',h2⟩:=zcq (gg:=zaE 9) (body:=zdY (itF (b2 ixD (vSh 9) (vC (.int 4)))) (zaE 10) (zdy "Shop" "job_by_step" 0 (vSh 10) (vSh 9))) (xs:=js.map zcg) (ρ:=ob bs ss js us ls ks h []::r9 bs ss js us ls ks h none none)
  (fun i ρ=>∃ z z',ρ=ob bs ss js us ls ks h (jkv (js.take i))::r9 bs ss js us ls ks h z z') ⟨none,none,by simp [jkv]⟩ (fun i x ρ hx hI=>by
   obtain ⟨z,z',rfl⟩:=hI
   rw [qj] at hx
   obtain ⟨j,hjm,rfl⟩:=oMd hx
   have tk:js.take (i+1)=js.take i++[j]:=by rw [List.take_add_one,hjm];rfl
   have hlen:=zmD (m:=40) (js:=js.take i) [] fun y hy=>hm y (List.mem_of_mem_take hy)
   rw [qB,qk] at hlen
   have h4:=hm j (qM hjm)
   obtain ⟨w,hw⟩:=zoj (bs:=bs) (ss:=ss) (js:=js) (us:=us) (ls:=ls) (ks:=ks) (h:=h) (j:=j) (acc:=jkv (js.take i)) (z:=z') (by unfold jkv;omega)
   refine ⟨_,_,rfl,hw,oS (zcg j),w,?_⟩
   rw [tk]
   unfold jkv
   rw [List.foldl_append];rfl)
 refine ⟨z,z',?_⟩
 rw [h1,h2,qe,List.take_length]
theorem zmJ (g:Good bs ss js us ls ks h) (ml:(js.flatMap (·.ms)).length<=300):zbf [.lst (bs.map za1),.lst (ss.map za9),.lst (js.map zcg),.lst (us.map zd4),.lst (ls.map zb3),.lst (ks.map zby),.int h]=some (zcw bs ss js us ls ks h):=by
 have hl:(ss.map (·.nm)).length<=40:=by rw [qe];exact g.sl.2
 have f1:=zee (d:=.lst (bs.map za1)) (zde (by have:=g.bl.2;omega) fun x hx=>zkB (g.b x hx))
 have f2:=zee (d:=.lst (ss.map za9)) (zde (by have:=g.sl.2;omega) fun x hx=>zl8 (g.s x hx))
 have f3:=zee (d:=.lst (js.map zcg)) (zde (by have:=g.jl;omega) fun x hx=>zoW hl (g.j x hx))
 have f4:=zee (d:=.lst (us.map zd4)) (zde (by have:=g.ul;omega) fun x hx=>zoV)
 have f5:=zee (d:=.lst (ls.map zb3)) (zde (by have:=g.ll;omega) fun x hx=>zl9)
 have f6:=zee (d:=.lst (ks.map zby)) (zde (by have:=g.kl;omega) fun x hx=>zkA hl (g.k x hx))
 obtain ⟨z,z',ho⟩:=zn1 (bs:=bs) (ss:=ss) (us:=us) (ls:=ls) (ks:=ks) (h:=h) g.jl fun j hj=>qJ (g.j j hj).ln hl
 have key:∀ (G:FS) (ρ':zaX),G (some (.obj "Shop" [])::[oS (.lst (bs.map za1)),oS (.lst (ss.map za9)),oS (.lst (js.map zcg)),oS (.lst (us.map zd4)),oS (.lst (ls.map zb3)),oS (.lst (ks.map zby)),oS (.int h),none,none,none])=some (.nx,ob bs ss js us ls ks h (jkv js)::ρ') ->
   zri 3 "Shop" G [.lst (bs.map za1),.lst (ss.map za9),.lst (js.map zcg),.lst (us.map zd4),.lst (ls.map zb3),.lst (ks.map zby),.int h]=some (zcw bs ss js us ls ks h):=fun G ρ' e=>by
  unfold zri
  show (G (some (.obj "Shop" [])::[oS (.lst (bs.map za1)),oS (.lst (ss.map za9)),oS (.lst (js.map zcg)),oS (.lst (us.map zd4)),oS (.lst (ls.map zb3)),oS (.lst (ks.map zby)),oS (.int h),none,none,none])).bind _=_
  rw [e]
  rfl
 refine key _ (r9 bs ss js us ls ks h z z') ((zaS (za8 rfl (zmg g ml))).trans ?_)
 show zax _ _ (some (.obj "Shop" [])::r9 bs ss js us ls ks h none none)=_
 refine (zcp (zbx (b:=false) rfl)).trans ?_
 refine (zdz 0 rfl rfl (za8 rfl f1)).trans ?_
 refine (zdz 1 rfl rfl (za8 rfl f2)).trans ?_
 refine (zdz 2 rfl rfl (za8 rfl f3)).trans ?_
 refine (zdz 3 rfl rfl (za8 rfl f4)).trans ?_
 refine (zdz 4 rfl rfl (za8 rfl f5)).trans ?_
 refine (zdz 5 rfl rfl (za8 rfl f6)).trans ?_
 refine (zdz 6 rfl rfl (d:=.int h) rfl).trans ?_
 refine (zdz 7 rfl rfl (zm0 (f:=za1) (nm:=(·.nm)) (xs:=bs) (fun x=>⟨_,rfl⟩) (zik 7 0 rfl rfl) (by have:=g.bl.2;omega) g.bn)).trans ?_
 refine (zdz 8 rfl rfl (zm0 (f:=za9) (nm:=(·.nm)) (xs:=ss) (fun x=>⟨_,rfl⟩) (zik 8 1 rfl rfl) (by have:=g.sl.2;omega) g.sn)).trans ?_
 refine (zdz 9 rfl rfl (zov (us:=us) (zik 9 3 rfl rfl) (by have:=g.ul;omega) g.un)).trans ?_
 have hno:(zmQ bs ss js us ls ks h).lookup ("job_by_step":Str)=none:=zgU (by rw [zg4];decide +kernel)
 have hle:(zmQ bs ss js us ls ks h).length < 100:=by simp [zmQ]
 have e1:zrh "Shop" "job_by_step" 0 (some (.obj "Shop" (zmQ bs ss js us ls ks h))::r9 bs ss js us ls ks h none none)=some (.nx,ob bs ss js us ls ks h []::r9 bs ss js us ls ks h none none):=by
  simp only [zrh,qb,hno,hle,and_self,if_true,List.set_cons_zero]
 have e2:itF (zhw "Shop" "jobs" 0) (ob bs ss js us ls ks h []::r9 bs ss js us ls ks h none none)=some (js.map zcg):=by
  have lk:(zmQ bs ss js us ls ks h).lookup ("jobs":Str)=some (.lst (js.map zcg)):=zgy (i:=2) (by rw [zg4];exact zmn zis 10) rfl
  have n1:("jobs":Str)≠"job_by_step":=by decide +kernel
  have e:zhw "Shop" "jobs" 0 (ob bs ss js us ls ks h []::r9 bs ss js us ls ks h none none)=some (.lst (js.map zcg)):=by
   show (if some ("Shop":Str)=some ("Shop":Str) then (if ("jobs":Str)="job_by_step" then none else (zmQ bs ss js us ls ks h).lookup ("jobs":Str)) else none)=_
   rw [qV rfl,qW n1,lk]
  unfold itF
  rw [e];rfl
 show zax (zrh "Shop" "job_by_step" 0) (zdY (itF (zhw "Shop" "jobs" 0)) (zaE 9) (zdY (itF (b2 ixD (vSh 9) (vC (.int 4)))) (zaE 10) (zdy "Shop" "job_by_step" 0 (vSh 10) (vSh 9)))) (some (.obj "Shop" (zmQ bs ss js us ls ks h))::r9 bs ss js us ls ks h none none)=_
 unfold zax
 rw [e1,qa]
 show zdY _ _ _ _=_
 unfold zdY
 rw [e2,qa]
 exact ho
end
end Law
end
section
namespace Law
open PySem L2
theorem zfB {ft:FT} {g g':FS} {ρ:zaX} {b:Bool} (h:ft ρ=some b):sIf ft g g' ρ=if b=true then g ρ else g' ρ:=by unfold sIf;rw [h];rfl
theorem zcr {g g':FS} {ρ ρ1:zaX} (h:g ρ=some (.nx,ρ1)):zax g g' ρ=g' ρ1:=by unfold zax;rw [h];rfl
theorem zgx {i:Nat} {f:FE} {ρ:zaX} {d:D} (h:f ρ=some d):zbk i f ρ=some (.nx,ρ.set i (oS d)):=by unfold zbk;rw [h];rfl
theorem znn {i:Nat} {f:FE} {ρ:zaX} {ds:List D} {d:D} (h1:ρ[i]?=some (some (.own ds))) (h2:f ρ=some d) (h3:ds.length < sizeLine):zda i f ρ=some (.nx,ρ.set i (some (.own (ds++[d])))):=by
 unfold zda
 rw [h1]
 show (f ρ).bind _=_
 rw [h2,qa,qV h3]
theorem zdI {i:Nat} {g:FS} {ρ:zaX}:zax (zgq i (szF zai)) g ρ=g (ρ.set i (some (.own []))):=by
 have z0:(0<=sizeLine)=True:=by simp
 simp only [zax,zgq,szF,zai,qa,qd,qk,z0,if_true]
theorem zdr {i:Nat} {g:FS} {ρ:zaX} {ds:List D} (h1:ρ[i]?=some (some (.own ds))):zhv i g ρ=g (ρ.set i (oS (.lst ds))):=by unfold zhv;rw [h1]
theorem zdh {fi:FA} {gg:FG} {body:FS} {ρ:zaX} {xs:List D} (h:fi ρ=some xs):zdY fi gg body ρ=zhY gg body xs ρ:=by unfold zdY;rw [h];rfl
theorem zbU {a b:Int} (h:0 < b):zce (.int a) (.int b)=some (.int (a % b)):=qV h
theorem zg6 {a b:Int} (h:0 < b/\b < 1073741824):zeA (.int a) (.int b)=some (.int (a / b)):=qV h
theorem zuv:(2:Int) ^ 64=18446744073709551616:=by decide +kernel
theorem zdq {a b:Int} (h:(-1000000000000 < a/\a < 1000000000000)\/(-1000000000000 < b/\b < 1000000000000)):zdH (.int a) (.int b)=some (.int (a*b)):=by
 show (if _ then _ else _)=_
 rw [zuv]
 exact qV (by omega)
def zim:FS:=sIf (zoI (toB (vSh 3)) (toB (b2 gtD (vSh 4) (vC (.int 1))))) (zax (zda 6 (b2 zce (vSh 4) (vSh 8))) (zbk 4 (b2 zmT (vSh 4) (vSh 8)))) (zax (zbk 5 (b2 za6 (b2 za6 (b2 zce (vSh 5) (vC (.int 1000000007))) (b2 zdH (b2 zdH (vC (.int 7919)) (vSh 7)) (vSh 7))) (b2 zdH (b2 zdH (vC (.int 104729)) (vSh 1)) (vSh 1)))) (zax (zbk 5 (b2 zce (b2 zdH (b2 za6 (vSh 5) (vC (.int 1))) (vC (.int 48271))) (vC (.int 2147483629)))) (zax (zbk 5 (b2 zce (b2 zdH (vSh 5) (vSh 5)) (vC (.int 2147483587)))) (zda 6 (b2 zce (b2 zeA (b2 zdH (vSh 5) (b2 za6 (vSh 5) (vC (.int 1)))) (vC (.int 97))) (vSh 8))))))
abbrev nE (ns:List Int) (k:Nat) (bs:List Int) (fr:Bool) (n sd:Int) (ds:List Int) (a b:Option Slot):zaX:=[oS (.scr ns),oS (.int k),oS (.lst (bs.map D.int)),oS (.bl fr),oS (.int n),oS (.int sd),some (.own (ds.map D.int)),a,b]
theorem zsF {s:Int} (h:0 < s/\s < 4398046511104):s.natAbs.log2 < 9000:=by
 have h1:s.natAbs≠0:=by omega
 have h3:(2:Nat) ^ 42=4398046511104:=by decide
 have h2:s.natAbs < 2 ^ 42:=by rw [h3];omega
 have:=(Nat.log2_lt h1).mpr h2
 omega
theorem zoo {a b:Int} (h:0 < b/\b < 4398046511104):zmT (.int a) (.int b)=some (.int (a / b)):=qV ⟨h.1,zsF h⟩
theorem zn4 {ns bs ds:List Int} {k t:Nat} {fr:Bool} {n sd s:Int} (hk:k<=1000) (ht:t<=100) (hs:0 < s/\s < 4398046511104) (hl:ds.length<=100):∃ n' sd' d,zim (nE ns k bs fr n sd ds (oS (.int t)) (oS (.int s)))=some (.nx,nE ns k bs fr n' sd' (ds++[d]) (oS (.int t)) (oS (.int s)))/\0<=d/\d < s:=by
 obtain ⟨c,hc⟩:∃ c,zoI (toB (vSh 3)) (toB (b2 gtD (vSh 4) (vC (.int 1)))) (nE ns k bs fr n sd ds (oS (.int t)) (oS (.int s)))=some c:=by
  cases fr with
  | false=>exact ⟨false,rfl⟩
  | true=>exact ⟨_,rfl⟩
 have hsz:(ds.map D.int).length < sizeLine:=by rw [qe];unfold sizeLine;omega
 unfold zim
 rw [zfB hc]
 cases c with
 | true =>
  refine ⟨n / s,sd,n % s,(zcr (znn rfl (zaw rfl rfl (zbU hs.1)) hsz)).trans (zgx (zaw rfl rfl (zoo hs))) |>.trans ?_,qU _ (by omega),qS _ hs.1⟩
  simp [nE]
 | false =>
  have q1:0<=sd % 1000000007:=qU _ (by decide)
  have q2:sd % 1000000007 < 1000000007:=qS _ (by decide)
  let s1:Int:=sd % 1000000007+7919*(t:Int)*t+104729*(k:Int)*k
  let s2:Int:=(s1+1)*48271 % 2147483629
  let s3:Int:=s2*s2 % 2147483587
  have r1:0<=s2/\s2 < 2147483629:=⟨qU _ (by decide),qS _ (by decide)⟩
  have r2:0<=s3/\s3 < 2147483587:=⟨qU _ (by decide),qS _ (by decide)⟩
  refine ⟨n,s3,s3*(s3+1) / 97 % s,(zaS (d:=.int s1) (zaw (zaw (zaw rfl rfl (zbU (by decide))) (zaw (zaw rfl rfl (zdq (.inl (by decide)))) rfl (zdq (.inr (by omega)))) rfl) (zaw (zaw rfl rfl (zdq (.inl (by decide)))) rfl (zdq (.inr (by omega)))) rfl)).trans ((zaS (d:=.int s2) (zaw (zaw (zaw rfl rfl rfl) rfl (zdq (.inr (by decide)))) rfl (zbU (by decide)))).trans ((zaS (d:=.int s3) (zaw (zaw rfl rfl (zdq (.inl (by omega)))) rfl (zbU (by decide)))).trans (znn rfl (zaw (zaw (zaw rfl (zaw rfl rfl rfl) (zdq (.inl (by omega)))) rfl (zg6 (by decide))) rfl (zbU hs.1)) hsz))) |>.trans ?_,qU _ (by omega),qS _ hs.1⟩
  simp [nE]
theorem zgB {xs:List D} {i:Nat} {d:D} (h:(xs.mapIdx fun i d=>D.tup [.int i,d])[i]?=some d):∃ x,xs[i]?=some x/\d=.tup [.int i,x]:=by
 rw [List.getElem?_mapIdx] at h
 obtain ⟨x,hx,rfl⟩:=oMd h
 exact ⟨x,hx,rfl⟩
end Law
end
section
namespace Law
open PySem L2
theorem zgA {ft:FT} {i:Nat} {f:FE} {g:FS} {ρ:zaX} {d:D} (h:ft ρ=some true) (h2:f ρ=some d):zax (sIf ft (zbk i f) zb1) g ρ=g (ρ.set i (oS d)):=by
 unfold zax sIf zbk
 rw [h]
 simp [h2]
theorem zkN:∀ ns:List Int,PyData.canLayAll0 (ns.map PyData.int)=true
 | []=>rfl
 | n::ns=>by simp [PyData.canLayAll0,PyData.canLay0,zkN ns]
theorem zh0:∀ ns:List Int,PyData.depthAll (ns.map PyData.int)=0
 | []=>rfl
 | n::ns=>by simp [PyData.depthAll,PyData.depth,zh0 ns]
theorem zjR (ns:List Int):SeqAt.shaped (.list (ns.map PyData.int))=true:=by
 simp [SeqAt.shaped,PyData.canLay0,zkN ns,PyData.depth,zh0]
theorem zhM:SeqAt.shaped (.list [])=true:=by simp [SeqAt.shaped,PyData.canLay0,PyData.canLayAll0,PyData.depth,PyData.depthAll]
theorem zmU (ns:List Int):eqX (.scr ns) (.lst [])=some (PyData.eqv (.list (ns.map PyData.int)) (.list [])):=by
 show (if SeqAt.shaped (.list (ns.map PyData.int))=true/\SeqAt.shaped (.list [])=true then _ else _)=_
 rw [qV ⟨zjR ns,zhM⟩]
theorem zs4 (n:Int) (ns:List Int):eqA (.scr (n::ns)) (.lst [])=some (.bl false):=by
 show (eqX (.scr (n::ns)) (.lst [])).map D.bl=_
 rw [zmU];rfl
theorem zsC (n:Int) (ns:List Int):neA (.scr (n::ns)) (.lst [])=some (.bl true):=by
 show (eqX (.scr (n::ns)) (.lst [])).map (fun b=>D.bl (!b))=_
 rw [zmU];rfl
theorem zl2 {ns:List Int} {j:Nat} (h:j < ns.length):∃ n,ixD (.scr ns) (.int (j:Int))=some (.int n):=by
 refine ⟨ns[j],?_⟩
 show (atI ns (j:Int)).map D.int=_
 rw [zeC]
 simp [h]
theorem zil (ns:List Int) (k:Nat) (hk:k<=1000) (bs:List Int) (hs:∀ s∈bs,0 < s/\s < 4398046511104) (hl:bs.length<=100) (fr:Bool) (n0 sd0:Int) :
  ∃ ρ',zhY (zbJ 2 (zao (zaE 7) (zao (zaE 8) zbr))) zim ((bs.map D.int).mapIdx fun i d=>D.tup [.int i,d]) (nE ns k bs fr n0 sd0 [] none none)=some (.nx,ρ')/\∃ n sd ds a b,ρ'=nE ns k bs fr n sd ds a b/\ds.length=bs.length/\∀ (j:Nat) s,bs[j]?=some s->∃ d,ds[j]?=some d/\0<=d/\d < s:=by
 obtain ⟨ρ',h1,n,sd,ds,a,b,h2,h3,h4⟩:=zcq (gg:=zbJ 2 (zao (zaE 7) (zao (zaE 8) zbr))) (body:=zim) (xs:=(bs.map D.int).mapIdx fun i d=>D.tup [.int i,d]) (ρ:=nE ns k bs fr n0 sd0 [] none none)
  (fun i ρ=>∃ n sd ds a b,ρ=nE ns k bs fr n sd ds a b/\ds.length=i/\∀ (j:Nat) s,j < i->bs[j]?=some s->∃ d,ds[j]?=some d/\0<=d/\d < s) ⟨n0,sd0,[],none,none,rfl,rfl,fun j s hj=>by omega⟩ (fun i x ρ hx hI=>by
   obtain ⟨n,sd,ds,a,b,rfl,hlen,hb⟩:=hI
   obtain ⟨y,hy,rfl⟩:=zgB hx
   rw [qj] at hy
   obtain ⟨s,hsi,rfl⟩:=oMd hy
   have hi:i < bs.length:=(List.getElem?_eq_some_iff.mp hsi).1
   obtain ⟨n',sd',d,e1,e2,e3⟩:=zn4 (ns:=ns) (n:=n) (sd:=sd) (k:=k) (t:=i) (bs:=bs) (ds:=ds) (fr:=fr) hk (by omega) (hs s (qM hsi)) (by omega)
   refine ⟨_,_,rfl,e1,n',sd',ds++[d],_,_,rfl,by rw [qi,hlen];rfl,fun j s' hj hs'=>?_⟩
   by_cases hji:j=i
   ·subst hji
    rw [hsi] at hs'
    cases hs'
    exact ⟨d,by rw [qH (by omega),hlen,Nat.sub_self];rfl,e2,e3⟩
   ·obtain ⟨d',q1,q2⟩:=hb j s' (by omega) hs'
    exact ⟨d',by rw [qw (by omega)];exact q1,q2⟩)
 rw [List.length_mapIdx,qe] at h3 h4
 exact ⟨ρ',h1,n,sd,ds,a,b,h2,h3,fun j s hj=>h4 j s (List.getElem?_eq_some_iff.mp hj).1 hj⟩
theorem zbI (ns:List Int) (k:Nat) (hk:k<=1000) (bs:List Int) (hs:∀ s∈bs,0 < s/\s < 4398046511104) (hl:bs.length<=100) :
  ∃ ds:List Int,zah [.scr ns,.int (k:Int),.lst (bs.map D.int)]=some (.lst (ds.map D.int))/\ds.length=bs.length/\∀ (i:Nat) s,bs[i]?=some s->∃ d,ds[i]?=some d/\0<=d/\d < s:=by
 have kk:zdH (.int (k:Int)) (.int (k:Int))=some (.int ((k:Int)*k)):=zdq (.inl (by omega))
 have e4:∀ (a b c d e f:Option Slot),toB (b2 ltD (vSh 1) (cF zed (zab (vSh 0) zai))) [oS (.scr ns),oS (.int k),oS (.lst (bs.map D.int)),a,b,c,d,e,f]=some (decide (k < ns.length)):=fun a b c d e f=>by
  simp only [toB,cF,zab,zai,vSh,b2,zed,ltD,qb,qc,qa,qd]
  exact congrArg some (decide_eq_decide.mpr Int.ofNat_lt)
 cases ns with
 | nil =>
  obtain ⟨ρ',h1,n,sd,ds,a,b,h2,h3,h4⟩:=zil [] k hk bs hs hl true 0 ((k:Int)*k)
  refine ⟨ds,?_,h3,h4⟩
  unfold zah zcj
  refine zbg (ρ':=(nE [] k bs true n sd ds a b).set 6 (oS (.lst (ds.map D.int)))) [oS (.scr []),oS (.int k),oS (.lst (bs.map D.int)),none,none,none,none,none,none] rfl ?_
  exact (zaS (d:=.bl true) (by kernel_rfl)).trans ((zaS (d:=.int 0) rfl).trans ((zaS (zaw rfl rfl kk)).trans ((zcp (e4 _ _ _ _ _ _)).trans ((zcp (zbx (b:=false) (by kernel_rfl))).trans (zdI.trans ((zcr ((zdh (xs:=(bs.map D.int).mapIdx fun i d=>D.tup [.int i,d]) rfl).trans (h1.trans (by rw [h2])))).trans ((zdr rfl).trans (zbe (f:=vSh 6) rfl))))))))
 | cons m r =>
  obtain ⟨m0,hm0⟩:=zl2 (ns:=m::r) (j:=0) (by simp)
  obtain ⟨m1,hm1⟩:=zl2 (ns:=m::r) (j:=k % (r.length+1)) (by rw [qh];exact Nat.mod_lt _ (by omega))
  have e0:∀ (a b c d e f:Option Slot),zaU (szF zai) [oS (.scr (m::r)),oS (.int k),oS (.lst (bs.map D.int)),a,b,c,d,e,f]=some (.lst []):=fun a b c d e f=>by kernel_rfl
  have e1:orD (b2 eqA (vSh 0) (zaU (szF zai))) (b2 eqD (b2 zce (b2 ixD (vSh 0) (vC (.int 0))) (vC (.int 2))) (vC (.int 0))) [oS (.scr (m::r)),oS (.int k),oS (.lst (bs.map D.int)),none,none,none,none,none,none]=some (.bl (decide (m0 % 2=0))):=by
   unfold orD
   rw [zaw (z:=.bl false) rfl (e0 _ _ _ _ _ _) (zs4 m r)]
   exact zaw (zaw (zaw rfl rfl hm0) rfl (zbU (by decide))) rfl rfl
  have e2:∀ (a b c d e f:Option Slot),b2 ixD (vSh 0) (b2 zce (vSh 1) (cF zed (zab (vSh 0) zai))) [oS (.scr (m::r)),oS (.int k),oS (.lst (bs.map D.int)),a,b,c,d,e,f]=some (.int m1):=fun a b c d e f=>by
   refine zaw (y:=.int ((k % (r.length+1):Nat):Int)) rfl (zaw (y:=.int ((r.length+1:Nat):Int)) rfl (za8 (zag rfl zat) rfl) ?_) hm1
   exact zbU (by omega)
  have e3:∀ (a b c d e f:Option Slot),toB (b2 neA (vSh 0) (zaU (szF zai))) [oS (.scr (m::r)),oS (.int k),oS (.lst (bs.map D.int)),a,b,c,d,e,f]=some true:=fun a b c d e f=>zbx (zaw rfl (e0 _ _ _ _ _ _) (zsC m r))
  by_cases hlt:k < (m::r).length
  ·obtain ⟨n0,hn0⟩:=zl2 hlt
   obtain ⟨ρ',h1,n,sd,ds,a,b,h2,h3,h4⟩:=zil (m::r) k hk bs hs hl (decide (m0 % 2=0)) n0 m1
   refine ⟨ds,?_,h3,h4⟩
   unfold zah zcj
   refine zbg (ρ':=(nE (m::r) k bs (decide (m0 % 2=0)) n sd ds a b).set 6 (oS (.lst (ds.map D.int)))) [oS (.scr (m::r)),oS (.int k),oS (.lst (bs.map D.int)),none,none,none,none,none,none] rfl ?_
   exact (zaS e1).trans ((zaS (d:=.int 0) rfl).trans ((zaS (zaw rfl rfl kk)).trans ((zgA ((e4 _ _ _ _ _ _).trans (by rw [qP hlt])) (zaw rfl rfl hn0)).trans ((zgA (e3 _ _ _ _ _ _) (e2 _ _ _ _ _ _)).trans (zdI.trans ((zcr ((zdh (xs:=(bs.map D.int).mapIdx fun i d=>D.tup [.int i,d]) rfl).trans (h1.trans (by rw [h2])))).trans ((zdr rfl).trans (zbe (f:=vSh 6) rfl))))))))
  ·obtain ⟨ρ',h1,n,sd,ds,a,b,h2,h3,h4⟩:=zil (m::r) k hk bs hs hl (decide (m0 % 2=0)) 0 m1
   refine ⟨ds,?_,h3,h4⟩
   unfold zah zcj
   refine zbg (ρ':=(nE (m::r) k bs (decide (m0 % 2=0)) n sd ds a b).set 6 (oS (.lst (ds.map D.int)))) [oS (.scr (m::r)),oS (.int k),oS (.lst (bs.map D.int)),none,none,none,none,none,none] rfl ?_
   exact (zaS e1).trans ((zaS (d:=.int 0) rfl).trans ((zaS (zaw rfl rfl kk)).trans ((zcp ((e4 _ _ _ _ _ _).trans (by rw [qK hlt]))).trans ((zgA (e3 _ _ _ _ _ _) (e2 _ _ _ _ _ _)).trans (zdI.trans ((zcr ((zdh (xs:=(bs.map D.int).mapIdx fun i d=>D.tup [.int i,d]) rfl).trans (h1.trans (by rw [h2])))).trans ((zdr rfl).trans (zbe (f:=vSh 6) rfl))))))))
end Law
end
section
namespace Law
open PySem L2
def nm (p k:Nat):Str:=match zas [.int (p:Int),.int (k:Int)] with
 | some (.str x)=>x
 | _=>⟨#[]⟩
def zva (x:Str):Nat:=(x.cps.toList.filter fun c=>c < 117).foldl (fun a c=>a*20+(c - 97)) 0
def zu8 (p k:Nat):Bool:=match zas [.int (p:Int),.int (k:Int)] with
 | some (.str x)=>zaY x && (zva x==k)
 | _=>false
theorem zsB:((List.range 62).all fun p=>(List.range 60).all fun k=>zu8 p k)=true:=by decide +kernel
theorem zhx {p k:Nat} (hp:p < 62) (hk:k < 60):zas [.int (p:Int),.int (k:Int)]=some (.str (nm p k))/\zaY (nm p k)=true/\zva (nm p k)=k:=by
 have:=List.all_eq_true.mp (List.all_eq_true.mp zsB p (List.mem_range.mpr hp)) k (List.mem_range.mpr hk)
 unfold zu8 at this
 unfold nm
 split at this
 ·rename_i x e
  rw [e]
  have h:=Bool.and_eq_true_iff.mp this
  exact ⟨rfl,h.1,by simpa using h.2⟩
 ·cases this
theorem zjg {p i j:Nat} (hp:p < 62) (hi:i < 60) (hj:j < 60) (h:nm p i=nm p j):i=j:=by
 rw [← (zhx hp hi).2.2,← (zhx hp hj).2.2,h]
end Law
end
section
namespace Law
open PySem L2
structure GoodI (h:Int) (br:List (Int×Int)):Prop where
 iv:∀ p∈br,0<=p.1/\p.1 < p.2/\p.2<=h
 gap:∀ (i:Nat) p q,br[i]?=some p->br[i+1]?=some q->p.2 < q.1
theorem zel {f g:FE} {ρ:zaX} {x y:D} (h1:f ρ=some x) (h2:g ρ=some y):zcK (szF (zab f (zab g zai))) ρ=some (.tup [x,y]):=by
 simp only [zcK,szF,zab,zai,h1,h2,qa,qd,qh,qk,Nat.zero_add,sz2,if_true]
theorem zh8 {f g e:FE} {ρ:zaX} {x y z:D} (h1:f ρ=some x) (h2:g ρ=some y) (h3:e ρ=some z):zcK (szF (zab f (zab g (zab e zai)))) ρ=some (.tup [x,y,z]):=by
 simp only [zcK,szF,zab,zai,h1,h2,h3,qa,qd,qh,qk,Nat.zero_add,sz3,if_true]
theorem zpy {f g e a b:FE} {ρ:zaX} {x y z w u:D} (h1:f ρ=some x) (h2:g ρ=some y) (h3:e ρ=some z) (h4:a ρ=some w) (h5:b ρ=some u):zcK (szF (zab f (zab g (zab e (zab a (zab b zai)))))) ρ=some (.tup [x,y,z,w,u]):=by
 simp only [zcK,szF,zab,zai,h1,h2,h3,h4,h5,qa,qd,qh,qk,Nat.zero_add,sz5,if_true]
theorem zcf {α:Type} {g:α->D} {xs:List α} {x:α} {i:Nat} {f:FE} {ρ:zaX} (h1:ρ[i]?=some (some (.own (xs.map g)))) (h2:f ρ=some (g x)) (h3:xs.length<=1000):zda i f ρ=some (.nx,ρ.set i (some (.own ((xs++[x]).map g)))):=by
 rw [znn h1 h2 (by rw [qe];unfold sizeLine;omega),List.map_append];rfl
theorem zqu {f g e:FE} {ρ:zaX} {x y z:D} (h1:f ρ=some x) (h2:g ρ=some y) (h3:e ρ=some z):zaU (szF (zab f (zab g (zab e zai)))) ρ=some (.lst [x,y,z]):=by
 simp only [zaU,szF,zab,zai,h1,h2,h3,qa,qd,qh,qk,Nat.zero_add,sz3,if_true]
theorem zit {f:FE} {ρ:zaX} {ds:List Int} {n:Nat} {d:Int} (h1:f ρ=some (.lst (ds.map D.int))) (h2:ds[n]?=some d):b2 ixD f (vC (.int (n:Int))) ρ=some (.int d) :=
 zaw h1 rfl (by rw [ixL,qj,h2];rfl)
theorem zmE {f g:FE} {ρ:zaX} {ds:List Int} {n:Nat} {i d:Int} (h1:f ρ=some (.lst (ds.map D.int))) (hg:g ρ=some (.int i)) (hi:i=(n:Int)) (h2:ds[n]?=some d):b2 ixD f g ρ=some (.int d) :=
 zaw h1 hg (by rw [hi,ixL,qj,h2];rfl)
theorem zmM {h f lo hi:Int} {br:List (Int×Int)} (hg:GoodI h br) (hf:0<=f) (hlt:∀ p∈br,p.2 < f) (h1:f<=lo) (h2:lo < hi) (h3:hi<=h):GoodI h (br++[(lo,hi)]):=by
 refine ⟨fun q hq=>?_,fun j q q' hq hq'=>?_⟩
 ·rcases List.mem_append.mp hq with z | z
  ·exact hg.iv q z
  ·rw [List.mem_singleton.mp z];exact ⟨by omega,h2,h3⟩
 ·have hj:j+1 < br.length+1:=by
   have:=(List.getElem?_eq_some_iff.mp hq').1
   simpa using this
  rw [qw (by omega)] at hq
  by_cases hj2:j+1 < br.length
  ·rw [qw hj2] at hq'
   exact hg.gap j q q' hq hq'
  ·rw [qH (by omega),show j+1 - br.length=0 by omega] at hq'
   cases hq'
   have:=hlt q (qM hq)
   show q.2 < lo
   omega
abbrev kE (S M:Option Slot) (p:Nat) (h:Int) (bs:List BenchT) (k:Nat) (br:List (Int×Int)) (ds:List Int) (f:Int) (a b c:Option Slot):zaX:=[S,oS (.int p),M,oS (.int h),some (.own (bs.map za1)),oS (.int k),some (.own (br.map dIv)),oS (.lst (ds.map D.int)),oS (.int f),a,b,c]
def zk5:FS:=zax (zbk 10 (b2 za6 (vSh 8) (b2 ixD (vSh 7) (b2 za6 (vC (.int 1)) (b2 zdH (vC (.int 2)) (vSh 9)))))) (zax (zbk 11 (b2 za6 (b2 za6 (vSh 10) (vC (.int 1))) (b2 ixD (vSh 7) (b2 za6 (vC (.int 2)) (b2 zdH (vC (.int 2)) (vSh 9)))))) (zax (sIf (toB (b2 leD (vSh 11) (vSh 3))) (zda 6 (zcK (szF (zab (vSh 10) (zab (vSh 11) zai))))) zb1) (zbk 8 (b2 za6 (vSh 11) (vC (.int 1))))))
theorem zok {ft:FT} {i:Nat} {f:FE} {g:FS} {ρ ρ':zaX} (h:ft ρ=some true) (h2:zda i f ρ=some (.nx,ρ')):zax (sIf ft (zda i f) zb1) g ρ=g ρ':=by
 unfold zax sIf
 rw [h]
 simp [h2]
theorem zq5 {S M:Option Slot} {p k n:Nat} {h:Int} {bs:List BenchT} {ds:List Int} {a b c:Option Slot} (hn:n<=10) (hd:∀ j:Nat,j < 21->∃ d,ds[j]?=some d/\0<=d) :
  ∃ ρ',zhY (zaE 9) zk5 ((List.range n).map fun i:Nat=>D.int (0+(i:Int))) (kE S M p h bs k [] ds 0 a b c)=some (.nx,ρ')/\∃ br f a b c,ρ'=kE S M p h bs k br ds f a b c/\br.length<=n/\GoodI h br:=by
 obtain ⟨ρ',h1,br,f,a',b',c',h2,h3,h4,_,_⟩:=zcq (gg:=zaE 9) (body:=zk5) (xs:=(List.range n).map fun i:Nat=>D.int (0+(i:Int))) (ρ:=kE S M p h bs k [] ds 0 a b c)
  (fun i ρ=>∃ br f a b c,ρ=kE S M p h bs k br ds f a b c/\br.length<=i/\GoodI h br/\0<=f/\∀ q∈br,q.2 < f) ⟨[],0,a,b,c,rfl,qu _,⟨fun p hp=>(by cases hp),fun i p q hp=>(by simp at hp)⟩,Int.le_refl _,fun p hp=>(by cases hp)⟩ (fun i x ρ hx hI=>by
   obtain ⟨br,f,a,b,c,rfl,hlen,hg,hf,hlt⟩:=hI
   rw [qj] at hx
   obtain ⟨j,hj,rfl⟩:=oMd hx
   have hi:i < n:=by simpa using (List.getElem?_eq_some_iff.mp hj).1
   have hji:i=j:=by
    rw [List.getElem?_range hi] at hj
    exact qE hj
   subst hji
   obtain ⟨d1,q1,p1⟩:=hd (1+2*i) (by omega)
   obtain ⟨d2,q2,p2⟩:=hd (2+2*i) (by omega)
   have pre:∀ ρ2,zax (sIf (toB (b2 leD (vSh 11) (vSh 3))) (zda 6 (zcK (szF (zab (vSh 10) (zab (vSh 11) zai))))) zb1) (zbk 8 (b2 za6 (vSh 11) (vC (.int 1)))) (kE S M p h bs k br ds f (oS (.int (0+(i:Int)))) (oS (.int (f+d1))) (oS (.int (f+d1+1+d2))))=some (.nx,ρ2)->zk5 (kE S M p h bs k br ds f (oS (.int (0+(i:Int)))) b c)=some (.nx,ρ2):=fun ρ2 q =>
    (zaS (zaw rfl (zmE (n:=1+2*i) rfl (zaw rfl (zaw rfl rfl (zdq (.inl (by decide)))) rfl) (by omega) q1) rfl)).trans ((zaS (zaw (zaw rfl rfl rfl) (zmE (n:=2+2*i) rfl (zaw rfl (zaw rfl rfl (zdq (.inl (by decide)))) rfl) (by omega) q2) rfl)).trans q)
   have e:toB (b2 leD (vSh 11) (vSh 3)) (kE S M p h bs k br ds f (oS (.int (0+(i:Int)))) (oS (.int (f+d1))) (oS (.int (f+d1+1+d2))))=some (decide (f+d1+1+d2<=h)):=zbx (zaw rfl rfl rfl)
   by_cases hh:f+d1+1+d2<=h
   ·rw [qP hh] at e
    refine ⟨_,_,rfl,pre _ ((zok e (zcf (x:=(f+d1,f+d1+1+d2)) rfl (zel rfl rfl) (by omega))).trans (zgx (zaw rfl rfl rfl))),br++[(f+d1,f+d1+1+d2)],f+d1+1+d2+1,_,_,_,rfl,by rw [qi];simp;omega,zmM hg hf hlt (by omega) (by omega) hh,by omega,fun q hq=>?_⟩
    rcases List.mem_append.mp hq with z | z
    ·have:=hlt q z;omega
    ·rw [List.mem_singleton.mp z];show f+d1+1+d2 < _;omega
   ·rw [qK hh] at e
    refine ⟨_,_,rfl,pre _ ((zcp e).trans (zgx (zaw rfl rfl rfl))),br,f+d1+1+d2+1,_,_,_,rfl,by omega,hg,by omega,fun q hq=>?_⟩
    have:=hlt q hq;omega)
 rw [qe,qR] at h3
 exact ⟨ρ',h1,br,f,a',b',c',h2,h3,h4⟩
end Law
end
section
namespace Law
open PySem L2
structure BenchAt (p:Nat) (h:Int) (i:Nat) (b:BenchT):Prop where
 nm:b.nm=nm p i
 len:b.br.length<=10
 good:GoodI h b.br
def ztB:List Int:=[11,7,6,7,6,7,6,7,6,7,6,7,6,7,6,7,6,7,6,7,6]
def bnF:FE:=b2 za6 (zaU (szF (zab (vC (.int 11)) zai))) (b2 zdH (zaU (szF (zab (vC (.int 7)) (zab (vC (.int 6)) zai)))) (vC (.int 10)))
theorem ztk (ρ:zaX):bnF ρ=some (.lst (ztB.map D.int)):=by kernel_rfl
def zpn:FS:=zax (zgq 6 (szF zai)) (zax (zbk 7 (cF zah (zab (vSh 0) (zab (b2 za6 (vC (.int 3)) (vSh 5)) (zab bnF zai))))) (zax (zbk 8 (vC (.int 0))) (zax (zdY (itR zjL (zab (b2 ixD (vSh 7) (vC (.int 0))) zai)) (zaE 9) zk5) (zhv 6 (zda 4 (zcK (szF (zab (cF zas (zab (vSh 1) (zab (vSh 5) zai))) (zab (vSh 6) zai)))))))))
abbrev bE (ns:List Int) (p n:Nat) (h:Int) (bs:List BenchT) (a b c d e f g:Option Slot):zaX:=[oS (.scr ns),oS (.int p),oS (.int n),oS (.int h),some (.own (bs.map za1)),a,b,c,d,e,f,g]
theorem zq7 {ns:List Int} {p n k:Nat} {h:Int} {bs:List BenchT} {b c d e f g:Option Slot} (hp:p < 62) (hk:k < 8) (hl:bs.length<=8) :
  ∃ t b' c' d' e' f' g',zpn (bE ns p n h bs (oS (.int (0+(k:Int)))) b c d e f g)=some (.nx,bE ns p n h (bs++[t]) (oS (.int (0+(k:Int)))) b' c' d' e' f' g')/\BenchAt p h k t:=by
 have hk0:(0:Int)+(k:Int)=(k:Int):=by omega
 rw [hk0]
 obtain ⟨ds,e1,hd,hb⟩:=zbI ns (3+k) (by omega) ztB (by decide) (by decide)
 have hall:∀ j:Nat,j < 21->∃ d,ds[j]?=some d/\0<=d:=fun j hj=>by
  obtain ⟨s,hs⟩:∃ s,ztB[j]?=some s:=⟨ztB[j]'(by show j < 21;exact hj),qA _⟩
  obtain ⟨d,q1,q2,_⟩:=hb j s hs
  exact ⟨d,q1,q2⟩
 obtain ⟨d0,q0,p0,p0'⟩:=hb 0 11 rfl
 obtain ⟨ρ',h1,br,fz,a',b',c',h2,h3,h4⟩:=zq5 (S:=oS (.scr ns)) (M:=oS (.int n)) (p:=p) (k:=k) (n:=d0.toNat) (h:=h) (bs:=bs) (ds:=ds) (a:=e) (b:=f) (c:=g) (by omega) hall
 have hn:=(zhx hp (k:=k) (by omega)).1
 refine ⟨⟨nm p k,br⟩,_,_,_,_,_,_,zdI.trans ((zaS (d:=.lst (ds.map D.int)) (za8 (zag rfl (zag (d:=.int ((3+k:Nat):Int)) (zaw rfl rfl ?_) (zag (ztk _) zat))) e1)).trans ((zaS (d:=.int 0) rfl).trans ((zcr ((zdh (zeV (zag (zit (n:=0) rfl q0) zat) (zdZ ⟨p0,by omega⟩))).trans (h1.trans (by rw [h2])))).trans ((zdr rfl).trans (zcf (xs:=bs) (x:=(⟨nm p k,br⟩:BenchT)) rfl (zel (za8 (zag rfl (zag rfl zat)) hn) rfl) (by omega)))))),rfl,by show br.length<=10;omega,h4⟩
 show some (D.int (3+(k:Int)))=_
 congr 2
theorem zj8 (ns:List Int) (p n:Nat) (h:Int) (hp:p < 62) (hn:n<=8):∃ bs:List BenchT,zbh [.scr ns,.int (p:Int),.int (n:Int),.int h]=some (.lst (bs.map za1))/\bs.length=n/\∀ (i:Nat) b,bs[i]?=some b->BenchAt p h i b:=by
 obtain ⟨ρ',h1,bs,a,b,c,d,e,f,g,h2,h3,h4⟩:=zcq (gg:=zaE 5) (body:=zpn) (xs:=(List.range n).map fun i:Nat=>D.int (0+(i:Int))) (ρ:=bE ns p n h [] none none none none none none none)
  (fun i ρ=>∃ bs a b c d e f g,ρ=bE ns p n h bs a b c d e f g/\bs.length=i/\∀ (j:Nat) b,bs[j]?=some b->BenchAt p h j b) ⟨[],none,none,none,none,none,none,none,rfl,rfl,fun j b hj=>(by simp at hj)⟩ (fun i x ρ hx hI=>by
   obtain ⟨bs,a,b,c,d,e,f,g,rfl,hlen,hb⟩:=hI
   rw [qj] at hx
   obtain ⟨j,hj,rfl⟩:=oMd hx
   have hi:i < n:=by simpa using (List.getElem?_eq_some_iff.mp hj).1
   have hji:i=j:=by
    rw [List.getElem?_range hi] at hj
    exact qE hj
   subst hji
   obtain ⟨t,b',c',d',e',f',g',e1,e2⟩:=zq7 (ns:=ns) (p:=p) (n:=n) (k:=i) (h:=h) (bs:=bs) (b:=b) (c:=c) (d:=d) (e:=e) (f:=f) (g:=g) hp (by omega) (by omega)
   refine ⟨_,_,rfl,e1,bs++[t],_,_,_,_,_,_,_,rfl,by rw [qi,hlen];rfl,fun j b'' hj=>?_⟩
   by_cases hji:j < bs.length
   ·rw [qw hji] at hj
    exact hb j b'' hj
   ·have hl2:=(List.getElem?_eq_some_iff.mp hj).1
    rw [qi,qT] at hl2
    rw [qH (by omega),show j - bs.length=0 by omega] at hj
    cases hj
    rw [show j=i by omega]
    exact e2)
 rw [qe,qR] at h3
 refine ⟨bs,?_,h3,h4⟩
 have hz:=zdZ (j:=(n:Int)) (by omega)
 rw [Int.toNat_natCast] at hz
 unfold zbh zdF
 exact zbg (ρ':=(bE ns p n h bs a b c d e f g).set 4 (oS (.lst (bs.map za1)))) [oS (.scr ns),oS (.int p),oS (.int n),oS (.int h),none,none,none,none,none,none,none,none] rfl (zdI.trans ((zcr ((zdh (zeV (zag rfl zat) hz)).trans (h1.trans (by rw [h2])))).trans ((zdr rfl).trans (zbe (f:=vSh 4) rfl))))
end Law
end
section
namespace Law
open PySem L2
theorem zqr {d L i j:Nat} (hi:i < L) (hj:j < L) (h:(d+i) % L=(d+j) % L):i=j:=by
 rcases Nat.le_total i j with z | z
 ·have:=Nat.sub_mod_eq_zero_of_mod_eq h.symm
  rw [show d+j - (d+i)=j - i by omega,Nat.mod_eq_of_lt (by omega)] at this
  omega
 ·have:=Nat.sub_mod_eq_zero_of_mod_eq h
  rw [show d+i - (d+j)=i - j by omega,Nat.mod_eq_of_lt (by omega)] at this
  omega
abbrev uE (S M:Option Slot) (p:Nat) (bs:List BenchT) (h:Int) (ss:List StepT) (k:Nat) (ds:List Int) (mo:Int) (ws:List (Str×Int)) (a b:Option Slot):zaX:=[S,oS (.int p),M,oS (.lst (bs.map za1)),oS (.int h),some (.own (ss.map za9)),oS (.int k),oS (.lst (ds.map D.int)),oS (.int mo),some (.own (ws.map dW)),a,b]
def zpv:FS:=zax (zbk 11 (b2 ixD (b2 ixD (vSh 3) (b2 zce (b2 za6 (b2 ixD (vSh 7) (vC (.int 1))) (vSh 10)) (cF zed (zab (vSh 3) zai)))) (vC (.int 0)))) (zda 9 (zcK (szF (zab (vSh 11) (zab (b2 za6 (vC (.int 1)) (b2 zce (b2 ixD (vSh 7) (b2 za6 (vC (.int 4)) (vSh 10))) (vSh 8))) zai)))))
theorem zrq {S M:Option Slot} {p k n d1:Nat} {h mo:Int} {bs:List BenchT} {ss:List StepT} {ds:List Int} {a b:Option Slot} (hbs:∀ (i:Nat) b,bs[i]?=some b->b.nm=nm p i) (hL:1<=bs.length) (hn:n<=4) (hnL:n<=bs.length) (hmo:1<=mo/\mo<=h) (hd1:ds[1]?=some (d1:Int)) (hd:∀ j:Nat,j < 8->∃ d,ds[j]?=some d) :
  ∃ ρ',zhY (zaE 10) zpv ((List.range n).map fun i:Nat=>D.int (0+(i:Int))) (uE S M p bs h ss k ds mo [] a b)=some (.nx,ρ')/\∃ ws a b,ρ'=uE S M p bs h ss k ds mo ws a b/\ws.length=n/\∀ (j:Nat) w,ws[j]?=some w->w.1=nm p ((d1+j) % bs.length)/\1<=w.2/\w.2<=h:=by
 obtain ⟨ρ',h1,ws,a',b',h2,h3,h4⟩:=zcq (gg:=zaE 10) (body:=zpv) (xs:=(List.range n).map fun i:Nat=>D.int (0+(i:Int))) (ρ:=uE S M p bs h ss k ds mo [] a b)
  (fun i ρ=>∃ ws a b,ρ=uE S M p bs h ss k ds mo ws a b/\ws.length=i/\∀ (j:Nat) w,ws[j]?=some w->w.1=nm p ((d1+j) % bs.length)/\1<=w.2/\w.2<=h) ⟨[],a,b,rfl,rfl,fun j w hj=>(by simp at hj)⟩ (fun i x ρ hx hI=>by
   obtain ⟨ws,a,b,rfl,hlen,hw⟩:=hI
   rw [qj] at hx
   obtain ⟨j,hj,rfl⟩:=oMd hx
   have hi:i < n:=by simpa using (List.getElem?_eq_some_iff.mp hj).1
   have hji:i=j:=by
    rw [List.getElem?_range hi] at hj
    exact qE hj
   subst hji
   obtain ⟨d4,q4⟩:=hd (4+i) (by omega)
   have hm:(d1+i) % bs.length < bs.length:=Nat.mod_lt _ (by omega)
   have hb:=hbs _ _ (qA hm)
   have e1:b2 ixD (b2 ixD (vSh 3) (b2 zce (b2 za6 (b2 ixD (vSh 7) (vC (.int 1))) (vSh 10)) (cF zed (zab (vSh 3) zai)))) (vC (.int 0)) (uE S M p bs h ss k ds mo ws (oS (.int (0+(i:Int)))) b)=some (.str (nm p ((d1+i) % bs.length))):=by
    refine zaw (x:=za1 bs[(d1+i) % bs.length]) (zaw (y:=.int (((d1+i) % bs.length:Nat):Int)) rfl (zaw (y:=.int ((bs.length:Nat):Int)) (zaw (zit (n:=1) rfl hd1) rfl rfl) (za8 (zag rfl zat) ?_) ?_) ?_) rfl ?_
    ·show some (D.int (((bs.map za1).length:Nat):Int))=_
     rw [qe]
    ·rw [zbU (by omega)]
     show some (D.int (((d1:Int)+(0+(i:Int))) % (bs.length:Int)))=_
     rw [show (d1:Int)+(0+(i:Int))=((d1+i:Nat):Int) by omega]
     rfl
    ·rw [ixL,qj,qA hm];rfl
    ·rw [← hb];rfl
   have q5:0<=d4 % mo:=qU _ (by omega)
   have q6:d4 % mo < mo:=qS _ (by omega)
   refine ⟨_,_,rfl,(zaS e1).trans (zcf (xs:=ws) (x:=(nm p ((d1+i) % bs.length),1+d4 % mo)) rfl (zel rfl (zaw rfl (zaw (zmE (n:=4+i) rfl (zaw rfl rfl rfl) (by omega) q4) rfl (zbU (by omega))) rfl)) (by omega)),ws++[(nm p ((d1+i) % bs.length),1+d4 % mo)],_,_,rfl,by rw [qi,hlen];rfl,fun j w hj=>?_⟩
   by_cases hji:j < ws.length
   ·rw [qw hji] at hj
    exact hw j w hj
   ·have hl2:=(List.getElem?_eq_some_iff.mp hj).1
    rw [qi,qT] at hl2
    rw [qH (by omega),show j - ws.length=0 by omega] at hj
    cases hj
    rw [show j=i by omega]
    exact ⟨rfl,by show 1<=1+d4 % mo;omega,by show 1+d4 % mo<=h;omega⟩)
 rw [qe,qR] at h3
 exact ⟨ρ',h1,ws,a',b',h2,h3,h4⟩
end Law
end
section
namespace Law
open PySem L2
theorem zew {α:Type} {l:List α} {f:α->Str} {g:Nat->Str} {n:Nat} (hn:l.length<=n) (hg:∀ i,i < n->∀ j,j < n->g i=g j->i=j) (h:∀ (j:Nat) k,l[j]?=some k->f k=g j):(l.map f).Nodup:=by
 rw [List.nodup_iff_pairwise_ne,List.pairwise_iff_getElem]
 intro i j hi hj hij e
 rw [qe] at hi hj
 rw [List.getElem_map,List.getElem_map,h i _ (qA hi),h j _ (qA hj)] at e
 have:=hg i (by omega) j (by omega) e
 omega
structure StepAt (p:Nat) (bn:List Str) (h:Int) (i:Nat) (s:StepT):Prop where
 nm:s.nm=nm p (20*(p % 2)+i)
 good:GoodS bn h s
def ztu:List Int:=[4,8,5,3,1000000,1000000,1000000,1000000]
def stF:FE:=b2 za6 (zaU (szF (zab (vC (.int 4)) (zab (vC (.int 8)) (zab (vC (.int 5)) (zab (vC (.int 3)) zai)))))) (b2 zdH (zaU (szF (zab (b2 zdo (vC (.int 10)) (vC (.int 6))) zai))) (vC (.int 4)))
theorem zrC (ρ:zaX):stF ρ=some (.lst (ztu.map D.int)):=by kernel_rfl
def moF:FE:=zaU (szF (zab (vC (.int 5)) (zab (vC (.int 40)) (zab (b2 zdo (vC (.int 10)) (vC (.int 6))) zai))))
theorem zsD (ρ:zaX):moF ρ=some (.lst (([5,40,1000000]:List Int).map D.int)):=by kernel_rfl
def zoP:FS:=zax (zbk 7 (cF zah (zab (vSh 0) (zab (b2 za6 (vC (.int 11)) (vSh 6)) (zab stF zai))))) (zax (zbk 8 (cF ziq (zab (vSh 4) (zab (b2 ixD moF (b2 ixD (vSh 7) (vC (.int 3)))) zai)))) (zax (zgq 9 (szF zai)) (zax (zdY (itR zjL (zab (cF ziq (zab (b2 za6 (vC (.int 1)) (b2 ixD (vSh 7) (vC (.int 0)))) (zab (cF zed (zab (vSh 3) zai)) zai))) zai)) (zaE 10) zpv) (zhv 9 (zda 5 (zcK (szF (zab (cF zas (zab (vSh 1) (zab (b2 za6 (b2 zdH (vC (.int 20)) (b2 zce (vSh 1) (vC (.int 2)))) (vSh 6)) zai))) (zab (cF zas (zab (b2 zeA (vSh 1) (vC (.int 2))) (zab (b2 ixD (vSh 7) (vC (.int 2))) zai))) (zab (vSh 9) zai))))))))))
abbrev tE (ns:List Int) (p n:Nat) (bs:List BenchT) (h:Int) (ss:List StepT) (a b c d e f:Option Slot):zaX:=[oS (.scr ns),oS (.int p),oS (.int n),oS (.lst (bs.map za1)),oS (.int h),some (.own (ss.map za9)),a,b,c,d,e,f]
theorem zj3 {l:List Int} {i:Nat} {d:Int} (h:l[i]?=some d) (h0:0<=d):l[i]?=some ((d.toNat:Nat):Int):=by rw [h];congr 1;omega
theorem zpF {ns:List Int} {p n k:Nat} {bs:List BenchT} {h:Int} {ss:List StepT} {b c d e f:Option Slot} (hp:p < 60) (hk:k < 40) (hl:ss.length<=40) (hh:1<=h) (hb:1<=bs.length/\bs.length<=8) (hbs:∀ (i:Nat) b,bs[i]?=some b->b.nm=nm p i) :
  ∃ t b' c' d' e' f',zoP (tE ns p n bs h ss (oS (.int (0+(k:Int)))) b c d e f)=some (.nx,tE ns p n bs h (ss++[t]) (oS (.int (0+(k:Int)))) b' c' d' e' f')/\StepAt p (bs.map (·.nm)) h k t:=by
 have hk0:(0:Int)+(k:Int)=(k:Int):=by omega
 rw [hk0]
 obtain ⟨ds,e1,hd,hq⟩:=zbI ns (11+k) (by omega) ztu (by decide) (by decide)
 have hall:∀ j:Nat,j < 8->∃ d,ds[j]?=some d:=fun j hj=>by
  obtain ⟨s,hs⟩:∃ s,ztu[j]?=some s:=⟨ztu[j]'(by show j < 8;exact hj),qA _⟩
  obtain ⟨d,q1,_⟩:=hq j s hs
  exact ⟨d,q1⟩
 obtain ⟨d0,q0,p0,p0'⟩:=hq 0 4 rfl
 obtain ⟨d1,q1,p1,p1'⟩:=hq 1 8 rfl
 obtain ⟨d2,q2,p2,p2'⟩:=hq 2 5 rfl
 obtain ⟨d3,q3,p3,p3'⟩:=hq 3 3 rfl
 obtain ⟨mx,hmx,m1⟩:∃ mx:Int,ixD (.lst (([5,40,1000000]:List Int).map D.int)) (.int d3)=some (.int mx)/\1<=mx:=by
  have:d3=0\/d3=1\/d3=2:=by omega
  rcases this with rfl | rfl | rfl
  ·exact ⟨5,rfl,by decide⟩
  ·exact ⟨40,rfl,by decide⟩
  ·exact ⟨1000000,rfl,by decide⟩
 obtain ⟨mo,hmo,mo1,mo2⟩:∃ mo:Int,ziq [.int h,.int mx]=some (.int mo)/\1<=mo/\mo<=h:=⟨if mx < h then mx else h,rfl,by split <;> omega,by split <;> omega⟩
 obtain ⟨m,hm,hm1,hm4,hmL⟩:∃ m:Nat,ziq [.int (1+d0),.int ((bs.length:Nat):Int)]=some (.int (m:Int))/\1<=m/\m<=4/\m<=bs.length:=by
  refine ⟨(if (bs.length:Int) < 1+d0 then (bs.length:Int) else 1+d0).toNat,?_,?_,?_,?_⟩
  ·show some (D.int (if (bs.length:Int) < 1+d0 then (bs.length:Int) else 1+d0))=_
   congr 2
   split <;> omega
  all_goals split <;> omega
 obtain ⟨ρ',h1,ws,a',b',h2,h3,h4⟩:=zrq (S:=oS (.scr ns)) (M:=oS (.int n)) (p:=p) (k:=k) (n:=m) (d1:=d1.toNat) (h:=h) (mo:=mo) (bs:=bs) (ss:=ss) (ds:=ds) (a:=e) (b:=f) hbs hb.1 hm4 hmL ⟨mo1,mo2⟩ (zj3 q1 p1) hall
 have n1:=zhx (p:=p) (k:=20*(p % 2)+k) (by omega) (by omega)
 have n2:=zhx (p:=p / 2) (k:=d2.toNat) (by omega) (by omega)
 have hz:=zdZ (j:=(m:Int)) (by omega)
 rw [Int.toNat_natCast] at hz
 have mem:∀ j,j < bs.length->nm p j∈bs.map (·.nm):=fun j hj=>by
  rw [← hbs j _ (qA hj)]
  exact List.mem_map_of_mem (List.getElem_mem hj)
 refine ⟨⟨nm p (20*(p % 2)+k),nm (p / 2) d2.toNat,ws⟩,_,_,_,_,_,(zaS (d:=.lst (ds.map D.int)) (za8 (zag rfl (zag (d:=.int ((11+k:Nat):Int)) (zaw rfl rfl ?_) (zag (zrC _) zat))) e1)).trans ((zaS (d:=.int mo) (za8 (zag rfl (zag (zaw (zsD _) (zit (n:=3) rfl q3) hmx) zat)) hmo)).trans (zdI.trans ((zcr ((zdh (zeV (zag (za8 (zag (zaw rfl (zit (n:=0) rfl q0) rfl) (zag (za8 (zag rfl zat) ?_) zat)) hm) zat) hz)).trans (h1.trans (by rw [h2])))).trans ((zdr rfl).trans (zcf (xs:=ss) (x:=(⟨nm p (20*(p % 2)+k),nm (p / 2) d2.toNat,ws⟩:StepT)) rfl (zh8 (za8 (zag rfl (zag (d:=.int ((20*(p % 2)+k:Nat):Int)) (zaw (zaw (x:=.int 20) rfl (zaw (x:=.int (p:Int)) (y:=.int 2) rfl rfl (zbU (by decide))) (zdq (.inl (by decide)))) rfl ?_) zat)) n1.1) (za8 (zag (d:=.int ((p / 2:Nat):Int)) (zaw (x:=.int (p:Int)) (y:=.int 2) rfl rfl (zg6 (by decide))) (zag (d:=.int ((d2.toNat:Nat):Int)) (zit (n:=2) rfl (zj3 q2 p2)) zat)) n2.1) rfl) (by omega)))))),rfl,n1.2.1,n2.2.1,by show 1<=ws.length;omega,by show ws.length<=4;omega,fun w hw=>?_,?_⟩
 ·show some (D.int (11+(k:Int)))=_
  congr 2
 ·show some (D.int (((bs.map za1).length:Nat):Int))=_
  rw [qe]
 ·show some (D.int (20*((p:Int) % 2)+(k:Int)))=_
  congr 2
 ·obtain ⟨j,hj⟩:=List.getElem?_of_mem hw
  obtain ⟨w1,w2,w3⟩:=h4 j w hj
  exact ⟨by rw [w1];exact mem _ (Nat.mod_lt _ (by omega)),w2,w3⟩
 ·exact zew (n:=bs.length) (g:=fun j=>nm p ((d1.toNat+j) % bs.length)) (by show ws.length<=_;omega) (fun i hi j hj z=>zqr hi hj (zjg (by omega) (qC (Nat.mod_lt _ (by omega)) (by omega)) (qC (Nat.mod_lt _ (by omega)) (by omega)) z)) (fun j w hj=>(h4 j w hj).1)
end Law
end
section
namespace Law
open PySem L2
theorem zmq (ns:List Int) (p n:Nat) (bs:List BenchT) (h:Int) (hp:p < 60) (hn:n<=40) (hh:1<=h) (hb:1<=bs.length/\bs.length<=8) (hbs:∀ (i:Nat) b,bs[i]?=some b->b.nm=nm p i) :
  ∃ ss:List StepT,zbE [.scr ns,.int (p:Int),.int (n:Int),.lst (bs.map za1),.int h]=some (.lst (ss.map za9))/\ss.length=n/\∀ (i:Nat) s,ss[i]?=some s->StepAt p (bs.map (·.nm)) h i s:=by
 obtain ⟨ρ',h1,ss,a,b,c,d,e,f,h2,h3,h4⟩:=zcq (gg:=zaE 6) (body:=zoP) (xs:=(List.range n).map fun i:Nat=>D.int (0+(i:Int))) (ρ:=tE ns p n bs h [] none none none none none none)
  (fun i ρ=>∃ ss a b c d e f,ρ=tE ns p n bs h ss a b c d e f/\ss.length=i/\∀ (j:Nat) s,ss[j]?=some s->StepAt p (bs.map (·.nm)) h j s) ⟨[],none,none,none,none,none,none,rfl,rfl,fun j b hj=>(by simp at hj)⟩ (fun i x ρ hx hI=>by
   obtain ⟨ss,a,b,c,d,e,f,rfl,hlen,hs⟩:=hI
   rw [qj] at hx
   obtain ⟨j,hj,rfl⟩:=oMd hx
   have hi:i < n:=by simpa using (List.getElem?_eq_some_iff.mp hj).1
   have hji:i=j:=by
    rw [List.getElem?_range hi] at hj
    exact qE hj
   subst hji
   obtain ⟨t,b',c',d',e',f',e1,e2⟩:=zpF (ns:=ns) (p:=p) (n:=n) (k:=i) (bs:=bs) (h:=h) (ss:=ss) (b:=b) (c:=c) (d:=d) (e:=e) (f:=f) hp (by omega) (by omega) hh hb hbs
   refine ⟨_,_,rfl,e1,ss++[t],_,_,_,_,_,_,rfl,by rw [qi,hlen];rfl,fun j b'' hj=>?_⟩
   by_cases hji:j < ss.length
   ·rw [qw hji] at hj
    exact hs j b'' hj
   ·have hl2:=(List.getElem?_eq_some_iff.mp hj).1
    rw [qi,qT] at hl2
    rw [qH (by omega),show j - ss.length=0 by omega] at hj
    cases hj
    rw [show j=i by omega]
    exact e2)
 rw [qe,qR] at h3
 refine ⟨ss,?_,h3,h4⟩
 have hz:=zdZ (j:=(n:Int)) (by omega)
 rw [Int.toNat_natCast] at hz
 unfold zbE zeF
 exact zbg (ρ':=(tE ns p n bs h ss a b c d e f).set 5 (oS (.lst (ss.map za9)))) [oS (.scr ns),oS (.int p),oS (.int n),oS (.lst (bs.map za1)),oS (.int h),none,none,none,none,none,none,none] rfl (zdI.trans ((zcr ((zdh (zeV (zag rfl zat) hz)).trans (h1.trans (by rw [h2])))).trans ((zdr rfl).trans (zbe (f:=vSh 5) rfl))))
end Law
end
section
namespace Law
open PySem L2
theorem zkU {α:Type} {x:α}:∀ {gs:List (List α)} {j:Nat} {g:List α},gs[j]?=some g->(gs.set j (g++[x])).flatten.Perm (x::gs.flatten)
 | [],_,_,h=>by simp at h
 | g'::gs,0,g,h=>by
  cases h
  show ((g'++[x])++gs.flatten).Perm (x::(g'++gs.flatten))
  rw [List.append_assoc]
  exact List.perm_middle
 | g'::gs,j+1,g,h=>by
  have h':gs[j]?=some g:=h
  show (g'++(gs.set j (g++[x])).flatten).Perm (x::(g'++gs.flatten))
  exact ((zkU h').append_left g').trans List.perm_middle
theorem zir {i j:Nat} {fk f:FE} {ρ:zaX} {dss:List (List D)} {ds:List D} {d:D} (h1:ρ[i]?=some (some (.oll dss))) (h2:fk ρ=some (.int (j:Int))) (h3:f ρ=some d) (h4:dss[j]?=some ds) (h5:ds.length < sizeLine):zec i fk f ρ=some (.nx,ρ.set i (some (.oll (dss.set j (ds++[d]))))):=by
 have hj:=(List.getElem?_eq_some_iff.mp h4).1
 unfold zec
 rw [h1]
 simp only [h2,h3,qa]
 have e:ztz dss.length (.int (j:Int))=some (j,(j:Int)):=by
  have e2:ixN dss.length (j:Int)=some j:=by
   unfold ixN
   rw [qV (by omega),qV (by omega)]
   rfl
  show (ixN dss.length (j:Int)).map _=_
  rw [e2]
  rfl
 rw [e,qa]
 simp only [h4]
 rw [qV h5]
def zu6:List Int:=[4,8,5,3,1000000,1000000,1000000,1000000,10]
def jbF:FE:=zaU (szF (zab (vC (.int 4)) (zab (vC (.int 8)) (zab (vC (.int 5)) (zab (vC (.int 3)) (zab (b2 zdo (vC (.int 10)) (vC (.int 6))) (zab (b2 zdo (vC (.int 10)) (vC (.int 6))) (zab (b2 zdo (vC (.int 10)) (vC (.int 6))) (zab (b2 zdo (vC (.int 10)) (vC (.int 6))) (zab (vC (.int 10)) zai))))))))))
theorem zsP (ρ:zaX):jbF ρ=some (.lst (zu6.map D.int)):=by kernel_rfl
def zpb:FS:=zax (zbk 11 (b2 ixD (cF zah (zab (vSh 0) (zab (b2 za6 (vC (.int 11)) (vSh 9)) (zab jbF zai)))) (vC (.int 8)))) (sIf (toB (b2 ltD (vSh 11) (vSh 4))) (zec 8 (vSh 11) (b2 ixD (vSh 10) (vC (.int 0)))) zb1)
abbrev gE (ns:List Int) (P:Option Slot) (ss:List StepT) (H:Option Slot) (m:Nat) (a b c:Option Slot) (gs:List (List Str)) (d e f g h i:Option Slot):zaX:=[oS (.scr ns),P,oS (.lst (ss.map za9)),H,oS (.int m),a,b,c,some (.oll (gs.map fun l=>l.map D.str)),d,e,f,g,h,i]
structure GpInv (sn:List Str) (m i:Nat) (gs:List (List Str)):Prop where
 len:gs.length=m
 nd:gs.flatten.Nodup
 sub:∀ x∈gs.flatten,x∈sn.take i
 sz:gs.flatten.length<=i
theorem GpInv.put {sn:List Str} {m i j:Nat} {gs:List (List Str)} {g:List Str} {x:Str} (v:GpInv sn m i gs) (nd:sn.Nodup) (hx:sn[i]?=some x) (hg:gs[j]?=some g):GpInv sn m (i+1) (gs.set j (g++[x])):=by
 have pr:=zkU (x:=x) hg
 have hi:=(List.getElem?_eq_some_iff.mp hx).1
 have ht:sn.take (i+1)=sn.take i++[x]:=by
  rw [List.take_succ,hx];rfl
 have nd2:(sn.take (i+1)).Nodup:=nd.sublist (List.take_sublist _ _)
 rw [ht] at nd2
 have hnx:x∉sn.take i:=fun z=>(List.nodup_append.mp nd2).2.2 x z x (List.mem_singleton.mpr rfl) rfl
 refine ⟨by rw [List.length_set];exact v.len,pr.nodup_iff.mpr (List.nodup_cons.mpr ⟨fun z=>hnx (v.sub x z),v.nd⟩),fun y hy=>?_,?_⟩
 ·rw [ht]
  rcases List.mem_cons.mp (pr.mem_iff.mp hy) with rfl | z
  ·exact qN _ (List.mem_singleton.mpr rfl)
  ·exact List.mem_append_left _ (v.sub y z)
 ·rw [pr.length_eq,qh];have:=v.sz;omega
theorem GpInv.next {sn:List Str} {m i:Nat} {gs:List (List Str)} (v:GpInv sn m i gs):GpInv sn m (i+1) gs:=⟨v.len,v.nd,fun y hy=>List.mem_of_mem_take (i:=i) (by rw [List.take_take,Nat.min_eq_left (by omega)];exact v.sub y hy),Nat.le_succ_of_le v.sz⟩
theorem zjP {ss:List StepT} {i:Nat} {s:StepT} (h:ss[i]?=some s):(ss.map (·.nm))[i]?=some s.nm:=by rw [qj,h];rfl
theorem zpa {gs:List (List Str)} {j:Nat} {g:List Str} (h:gs[j]?=some g):g.length<=gs.flatten.length:=by
 have:g∈gs:=qM h
 induction gs generalizing j with
 | nil=>cases this
 | cons a r ih =>
  rw [List.flatten_cons,qi]
  rcases List.mem_cons.mp this with rfl | z
  ·omega
  ·obtain ⟨k,hk⟩:=List.getElem?_of_mem z
   have:=ih hk z
   omega
theorem zqM {ns:List Int} {P H:Option Slot} {ss:List StepT} {m:Nat} {a b c d e f g h i:Option Slot} (hl:ss.length<=40) (hm:m<=9) (nd:(ss.map (·.nm)).Nodup) :
  ∃ ρ',zhY (zbJ 2 (zao (zaE 9) (zao (zaE 10) zbr))) zpb ((ss.map za9).mapIdx fun i d=>D.tup [.int i,d]) (gE ns P ss H m a b c (List.replicate m []) d e f g h i)=some (.nx,ρ')/\∃ gs d e f,ρ'=gE ns P ss H m a b c gs d e f g h i/\GpInv (ss.map (·.nm)) m ss.length gs:=by
 obtain ⟨ρ',h1,gs,d',e',f',h2,h3⟩:=zcq (gg:=zbJ 2 (zao (zaE 9) (zao (zaE 10) zbr))) (body:=zpb) (xs:=(ss.map za9).mapIdx fun i d=>D.tup [.int i,d]) (ρ:=gE ns P ss H m a b c (List.replicate m []) d e f g h i)
  (fun t ρ=>∃ gs d e f,ρ=gE ns P ss H m a b c gs d e f g h i/\GpInv (ss.map (·.nm)) m t gs) ⟨List.replicate m [],d,e,f,rfl,by simp,by simp,by simp,by simp⟩ (fun t x ρ hx hI=>by
   obtain ⟨gs,d,e,f,rfl,v⟩:=hI
   obtain ⟨y,hy,rfl⟩:=zgB hx
   rw [qj] at hy
   obtain ⟨s,hs,rfl⟩:=oMd hy
   have ht:t < ss.length:=(List.getElem?_eq_some_iff.mp hs).1
   obtain ⟨ds,e1,hd,hq⟩:=zbI ns (11+t) (by omega) zu6 (by decide) (by decide)
   obtain ⟨d8,q8,p8,p8'⟩:=hq 8 10 rfl
   have hset:∀ G:FS,zax (zbk 11 (b2 ixD (cF zah (zab (vSh 0) (zab (b2 za6 (vC (.int 11)) (vSh 9)) (zab jbF zai)))) (vC (.int 8)))) G (gE ns P ss H m a b c gs (oS (.int t)) (oS (za9 s)) f g h i)=G (gE ns P ss H m a b c gs (oS (.int t)) (oS (za9 s)) (oS (.int ((d8.toNat:Nat):Int))) g h i):=fun G=>by
    refine zaS (zit (n:=8) (za8 (zag rfl (zag (d:=.int ((11+t:Nat):Int)) (zaw rfl rfl ?_) (zag (zsP _) zat))) e1) (zj3 q8 p8))
    show some (D.int (11+(t:Int)))=_
    congr 2
   have hte:toB (b2 ltD (vSh 11) (vSh 4)) (gE ns P ss H m a b c gs (oS (.int t)) (oS (za9 s)) (oS (.int ((d8.toNat:Nat):Int))) g h i)=some (decide (((d8.toNat:Nat):Int) < (m:Int))):=zbx (zaw rfl rfl rfl)
   by_cases hlt:((d8.toNat:Nat):Int) < (m:Int)
   ·rw [qP hlt] at hte
    have hjl:d8.toNat < gs.length:=by rw [v.len];omega
    have hg:=qA hjl
    have hgl:=zpa hg
    have hvz:=v.sz
    refine ⟨_,_,rfl,(hset _).trans ((zfB hte).trans ((qV rfl).trans (zir (i:=8) (j:=d8.toNat) (dss:=gs.map fun l=>l.map D.str) (ds:=(gs[d8.toNat]).map D.str) (d:=.str s.nm) rfl rfl rfl (by rw [qj,hg];rfl) (by rw [qe];unfold sizeLine;omega)))),gs.set d8.toNat (gs[d8.toNat]++[s.nm]),oS (.int t),oS (za9 s),oS (.int ((d8.toNat:Nat):Int)),?_,v.put nd (zjP hs) hg⟩
    have e9:((gs.map fun l=>l.map D.str).set d8.toNat (gs[d8.toNat].map D.str++[D.str s.nm]))=(gs.set d8.toNat (gs[d8.toNat]++[s.nm])).map fun l=>l.map D.str:=by
     rw [show gs[d8.toNat].map D.str++[D.str s.nm]=(gs[d8.toNat]++[s.nm]).map D.str by rw [List.map_append];rfl,← List.map_set]
    rw [e9]
    rfl
   ·rw [qK hlt] at hte
    exact ⟨_,_,rfl,(hset _).trans ((zfB hte).trans rfl),gs,_,_,_,rfl,v.next⟩)
 rw [List.length_mapIdx,qe] at h3
 exact ⟨ρ',h1,gs,d',e',f',h2,h3⟩
end Law
end
section
namespace Law
open PySem L2
theorem zf1:∀ (ns:List Str),PyData.depthAll (ns.map PyData.str)=0
 | []=>by simp [PyData.depthAll]
 | x::r=>by simp [PyData.depthAll,PyData.depth,zf1 r]
theorem zjQ {ns:List Str} (h:∀ x∈ns,zaY x=true):SeqAt.shaped (.list (ns.map PyData.str))=true:=by
 simp [SeqAt.shaped,PyData.canLay0,zfA h,PyData.depth,zf1]
theorem zqp {ns:List Str} (h:∀ x∈ns,zaY x=true):neA (.lst (ns.map D.str)) (.lst [])=some (.bl (!ns.isEmpty)):=by
 have e0:neA (.lst (ns.map D.str)) (.lst [])=zqo (.lst (ns.map D.str)) (.lst []):=rfl
 have s1:=zjQ h
 have p1:pdD (.lst (ns.map D.str))=some (.list (ns.map PyData.str)):=by simp [pdD,zii]
 have p2:pdD (.lst [])=some (.list []):=by simp [pdD,zjM]
 have q:PyData.eqv (.list (ns.map PyData.str)) (.list [])=ns.isEmpty:=by
  cases ns <;> simp [PyData.eqv,PyData.eqvAll]
 rw [e0]
 unfold zqo eqX
 rw [p1,p2,qa,qa,qV ⟨s1,zhM⟩,q]
 rfl
def zo7:zaX->Option (Fl×zaX):=zax (sIf (toB (b2 eqD (b2 zce (b2 zeA (vSh 7) (vC (.int 7))) (vC (.int 2))) (vC (.int 0)))) (zbk 13 (b1 zpT (vSh 13))) zb1) (zax (zbk 5 (b2 zce (b2 zdH (vSh 5) (vC (.int 7))) (b2 za6 (vSh 3) (vC (.int 1))))) (zax (zbk 6 (b2 zce (b2 zdH (vSh 6) (vC (.int 11))) (b2 za6 (vSh 3) (vC (.int 1))))) (zbk 14 (b2 eqD (b2 zce (b2 zlY (vSh 7) (cF ziq (zab (vSh 9) (zab (vC (.int 8)) zai)))) (vC (.int 2))) (vC (.int 0))))))
abbrev hE (S:Option Slot) (p:Nat) (T:Option Slot) (h:Int) (M:Option Slot) (ea du od:Int) (gs:List (List Str)) (k b c:Option Slot) (js:List JobT) (g o:Option Slot):zaX:=[S,oS (.int p),T,oS (.int h),M,oS (.int ea),oS (.int du),oS (.int od),some (.sh (.lst (gs.map fun l=>.lst (l.map D.str)))),k,b,c,some (.own (js.map zcg)),g,o]
theorem znN {S T M b c o:Option Slot} {p t:Nat} {h ea du od:Int} {gs:List (List Str)} {js:List JobT} {g:List Str} (hh:1<=h/\h<=1000000) :
  ∃ (ea' du':Int) (or':Bool) (g':List Str),zo7 (hE S p T h M ea du od gs (oS (.int (t:Int))) b c js (oS (.lst (g.map D.str))) o)=some (.nx,hE S p T h M ea' du' od gs (oS (.int (t:Int))) b c js (oS (.lst (g'.map D.str))) (oS (.bl or')))/\0<=ea'/\ea'<=h/\0<=du'/\du'<=h/\g'.Perm g:=by
 have e1:∀ (x:D) (o:Option Slot),toB (b2 eqD (b2 zce (b2 zeA (vSh 7) (vC (.int 7))) (vC (.int 2))) (vC (.int 0))) (hE S p T h M ea du od gs (oS (.int (t:Int))) b c js (oS x) o)=some (decide (od / 7 % 2=0)):=fun x o=>zbx (zaw (zaw (zaw (x:=.int od) (y:=.int 7) rfl rfl (zg6 (by decide))) rfl (zbU (by decide))) rfl rfl)
 have p1:0<=ea*7 % (h+1):=qU _ (by omega)
 have p2:ea*7 % (h+1) < h+1:=qS _ (by omega)
 have p3:0<=du*11 % (h+1):=qU _ (by omega)
 have p4:du*11 % (h+1) < h+1:=qS _ (by omega)
 obtain ⟨mi,hmi,mi0⟩:∃ mi:Int,ziq [.int (t:Int),.int 8]=some (.int mi)/\0<=mi:=⟨if (8:Int) < (t:Int) then 8 else (t:Int),rfl,by split <;> omega⟩
 have fin:∀ g':List Str,zax (zbk 5 (b2 zce (b2 zdH (vSh 5) (vC (.int 7))) (b2 za6 (vSh 3) (vC (.int 1))))) (zax (zbk 6 (b2 zce (b2 zdH (vSh 6) (vC (.int 11))) (b2 za6 (vSh 3) (vC (.int 1))))) (zbk 14 (b2 eqD (b2 zce (b2 zlY (vSh 7) (cF ziq (zab (vSh 9) (zab (vC (.int 8)) zai)))) (vC (.int 2))) (vC (.int 0))))) (hE S p T h M ea du od gs (oS (.int (t:Int))) b c js (oS (.lst (g'.map D.str))) o)=some (.nx,hE S p T h M (ea*7 % (h+1)) (du*11 % (h+1)) od gs (oS (.int (t:Int))) b c js (oS (.lst (g'.map D.str))) (oS (.bl (decide (od / 2 ^ mi.toNat % 2=0))))):=fun g' =>
  (zaS (d:=.int (ea*7 % (h+1))) (zaw (zaw (x:=.int ea) (y:=.int 7) rfl rfl (zdq (.inr (by decide)))) (zaw (x:=.int h) (y:=.int 1) rfl rfl rfl) (zbU (by omega)))).trans ((zaS (d:=.int (du*11 % (h+1))) (zaw (zaw (x:=.int du) (y:=.int 11) rfl rfl (zdq (.inr (by decide)))) (zaw (x:=.int h) (y:=.int 1) rfl rfl rfl) (zbU (by omega)))).trans (zgx (zaw (zaw (zaw (x:=.int od) (y:=.int mi) rfl (za8 (zag rfl (zag rfl zat)) hmi) (qV mi0)) rfl (zbU (by decide))) rfl rfl)))
 unfold zo7
 by_cases ho:od / 7 % 2=0
 ·refine ⟨_,_,_,g.reverse,(zgA ((e1 _ _).trans (by rw [qP ho])) (d:=.lst (g.reverse.map D.str)) ?_).trans (fin g.reverse),p1,by omega,p3,by omega,List.reverse_perm g⟩
  rw [List.map_reverse]
  rfl
 ·exact ⟨_,_,_,g,(zcp ((e1 _ _).trans (by rw [qK ho]))).trans (fin g),p1,by omega,p3,by omega,.refl _⟩
end Law
end
section
namespace Law
open PySem L2
theorem zl0 {A B E:FS}:zax A (zax B E)=zax (zax A B) E:=by
 funext ρ
 unfold zax
 cases A ρ with
 | none=>rfl
 | some r =>
  obtain ⟨fl,ρ1⟩:=r
  cases fl <;> rfl
theorem zvt {A B C E' E:FS} {ρ ρ1:zaX} (h:zax A (zax B (zax C E')) ρ=some (.nx,ρ1)):zax A (zax B (zax C (zax E' E))) ρ=E ρ1:=by
 rw [zl0 (A:=C),zl0 (A:=B),zl0 (A:=A)]
 exact zcr h
def jnF (F:FQ):FE:=zcK (szF (zab (cF F (zab (b2 za6 (vSh 1) (vC (.int 1))) (zab (vSh 9) zai))) (zab (vSh 5) (zab (vSh 6) (zab (vSh 14) (zab (vSh 13) zai))))))
def zo6:FS:=sIf (toB (b2 neA (vSh 13) (zaU (szF zai)))) (zax (sIf (toB (b2 eqD (b2 zce (b2 zeA (vSh 7) (vC (.int 7))) (vC (.int 2))) (vC (.int 0)))) (zbk 13 (b1 zpT (vSh 13))) zb1) (zax (zbk 5 (b2 zce (b2 zdH (vSh 5) (vC (.int 7))) (b2 za6 (vSh 3) (vC (.int 1))))) (zax (zbk 6 (b2 zce (b2 zdH (vSh 6) (vC (.int 11))) (b2 za6 (vSh 3) (vC (.int 1))))) (zax (zbk 14 (b2 eqD (b2 zce (b2 zlY (vSh 7) (cF ziq (zab (vSh 9) (zab (vC (.int 8)) zai)))) (vC (.int 2))) (vC (.int 0)))) (zda 12 (jnF zas)))))) zb1
structure RInv (sn:List Str) (p:Nat) (h:Int) (gs:List (List Str)) (t:Nat) (js:List JobT):Prop where
 len:js.length<=t
 good:∀ j∈js,GoodJ sn h j
 nms:∀ j∈js,∃ k,k < t/\j.nm=nm (p+1) k
 nd:(js.map (·.nm)).Nodup
 ms:(js.flatMap (·.ms)).Perm (gs.take t).flatten
theorem zqH {S T M:Option Slot} {p:Nat} {h ea du od:Int} {gs:List (List Str)} {sn:List Str} {a b c g o:Option Slot} (hh:1<=h/\h<=1000000) (hp:p < 60) (hm:gs.length<=9) (hsn:∀ x∈sn,zaY x=true) (hsub:∀ x∈gs.flatten,x∈sn) (hsz:gs.flatten.length<=sn.length) :
  ∃ ρ',zhY (zbJ 2 (zao (zaE 9) (zao (zaE 13) zbr))) zo6 ((gs.map fun l=>D.lst (l.map D.str)).mapIdx fun i d=>D.tup [.int i,d]) (hE S p T h M ea du od gs a b c [] g o)=some (.nx,ρ')/\∃ ea du js a g o,ρ'=hE S p T h M ea du od gs a b c js g o/\RInv sn p h gs gs.length js:=by
 obtain ⟨ρ',h1,ea',du',js,a',g',o',h2,h3⟩:=zcq (gg:=zbJ 2 (zao (zaE 9) (zao (zaE 13) zbr))) (body:=zo6) (xs:=(gs.map fun l=>D.lst (l.map D.str)).mapIdx fun i d=>D.tup [.int i,d]) (ρ:=hE S p T h M ea du od gs a b c [] g o)
  (fun t ρ=>∃ ea du js a g o,ρ=hE S p T h M ea du od gs a b c js g o/\RInv sn p h gs t js) ⟨ea,du,[],a,g,o,rfl,qu _,fun j hj=>(by cases hj),fun j hj=>(by cases hj),List.nodup_nil,.refl _⟩ (fun t x ρ hx hI=>by
   obtain ⟨ea,du,js,a,g,o,rfl,v⟩:=hI
   obtain ⟨y,hy,rfl⟩:=zgB hx
   rw [qj] at hy
   obtain ⟨l,hl,rfl⟩:=oMd hy
   have ht:t < gs.length:=(List.getElem?_eq_some_iff.mp hl).1
   have hin:∀ x∈l,x∈sn:=fun x hx=>hsub x (List.mem_flatten.mpr ⟨l,qM hl,hx⟩)
   have htk:(gs.take (t+1)).flatten=(gs.take t).flatten++l:=by
    rw [List.take_succ,hl,List.flatten_append];simp
   have hte:toB (b2 neA (vSh 13) (zaU (szF zai))) (hE S p T h M ea du od gs (oS (.int (t:Int))) b c js (oS (.lst (l.map D.str))) o)=some (!l.isEmpty):=zbx (zaw (x:=.lst (l.map D.str)) (y:=.lst []) rfl (by kernel_rfl) (zqp fun x hx=>hsn x (hin x hx)))
   cases l with
   | nil =>
    refine ⟨_,_,rfl,(zfB hte).trans rfl,ea,du,js,_,_,_,rfl,Nat.le_succ_of_le v.len,v.good,fun j hj=>?_,v.nd,?_⟩
    ·obtain ⟨k,hk,e⟩:=v.nms j hj
     exact ⟨k,Nat.lt_succ_of_lt hk,e⟩
    ·rw [htk,List.append_nil];exact v.ms
   | cons x r =>
    obtain ⟨ea',du',or',g',e1,q1,q2,q3,q4,pr⟩:=znN (S:=S) (T:=T) (M:=M) (b:=b) (c:=c) (o:=o) (p:=p) (t:=t) (h:=h) (ea:=ea) (du:=du) (od:=od) (gs:=gs) (js:=js) (g:=x::r) hh
    have n1:=zhx (p:=p+1) (k:=t) (by omega) (by omega)
    have hgl:=zpa hl
    have hjl:=v.len
    have e2:zas [.int ((p:Int)+1),.int (t:Int)]=some (.str (nm (p+1) t)):=by
     rw [← n1.1];congr 2
    refine ⟨_,_,rfl,(zfB hte).trans ((qV rfl).trans ((zvt e1).trans (zcf (xs:=js) (x:=(⟨nm (p+1) t,ea',du',or',g'⟩:JobT)) rfl (zpy (za8 (zag (zaw (x:=.int (p:Int)) (y:=.int 1) rfl rfl rfl) (zag rfl zat)) e2) rfl rfl rfl rfl) (by omega)))),ea',du',js++[⟨nm (p+1) t,ea',du',or',g'⟩],_,_,_,rfl,?_,fun j hj=>?_,fun j hj=>?_,?_,?_⟩
    ·rw [qi,qT];omega
    ·rcases List.mem_append.mp hj with z | z
     ·exact v.good j z
     ·rw [List.mem_singleton.mp z]
      refine ⟨n1.2.1,⟨q1,q2⟩,⟨q3,q4⟩,?_,?_,fun y hy=>hin y (pr.mem_iff.mp hy)⟩
      ·show 1<=g'.length
       rw [pr.length_eq];simp
      ·show g'.length<=sn.length
       rw [pr.length_eq];omega
    ·rcases List.mem_append.mp hj with z | z
     ·obtain ⟨k,hk,e⟩:=v.nms j z
      exact ⟨k,Nat.lt_succ_of_lt hk,e⟩
     ·rw [List.mem_singleton.mp z];exact ⟨t,Nat.lt_succ_self t,rfl⟩
    ·rw [List.map_append]
     refine List.nodup_append.mpr ⟨v.nd,by simp,fun y hy z hz e=>?_⟩
     obtain ⟨j,hj,rfl⟩:=List.mem_map.mp hy
     obtain ⟨k,hk,ek⟩:=v.nms j hj
     have hz':z=nm (p+1) t:=by simpa using hz
     rw [ek,hz'] at e
     exact absurd (zjg (by omega) (by omega) (by omega) e) (by omega)
    ·rw [List.flatMap_append,htk]
     refine v.ms.append ?_
     simpa using pr)
 rw [List.length_mapIdx,qe] at h3
 exact ⟨ρ',h1,ea',du',js,a',g',o',h2,h3⟩
end Law
end
section
namespace Law
open PySem L2
theorem ztd {fi:FA} {ρ:zaX} {m:Nat} (h:fi ρ=some ((List.range m).map fun i:Nat=>D.int (0+(i:Int)))) (hm:m<=1000):zrm (za7 fi (zaE 0) tT (vC .non) [none]) ρ=some m:=by
 have hc:=zcW (fi:=fi) (fe:=vC .non) (fv:=[none]) (ρ:=ρ) (r:=[]) (a:=none) (f:=fun _=>D.non) h (by rw [qe,qR];exact szN hm (by decide)) rfl (fun x hx=>rfl)
 unfold zaU at hc
 obtain ⟨l,hl,e⟩:=oMd hc
 unfold zrm
 rw [hl]
 have e':=D.lst.inj e
 simp [e']
theorem zo1 {i m:Nat} {fn:zaX->Option Nat} {g:FS} {ρ:zaX} (h:fn ρ=some m):zax (znK i fn) g ρ=g (ρ.set i (some (.oll (List.replicate m [])))):=by
 unfold zax znK
 rw [h];rfl
theorem zkS {i:Nat} {g:FS} {ρ:zaX} {dss:List (List D)} (h1:ρ[i]?=some (some (.oll dss))):zgf i g ρ=g (ρ.set i (oS (.lst (dss.map D.lst)))):=by unfold zgf;rw [h1]
def zu7:List Int:=[9,1000000,1000000,512]
def j4F:FE:=zaU (szF (zab (vC (.int 9)) (zab (b2 zdo (vC (.int 10)) (vC (.int 6))) (zab (b2 zdo (vC (.int 10)) (vC (.int 6))) (zab (vC (.int 512)) zai)))))
theorem zsQ (ρ:zaX):j4F ρ=some (.lst (zu7.map D.int)):=by kernel_rfl
theorem zu4 {ds:List Int} {a b c d:Int} (hl:ds.length=4) (h0:ds[0]?=some a) (h1:ds[1]?=some b) (h2:ds[2]?=some c) (h3:ds[3]?=some d):ds=[a,b,c,d]:=by
 match ds,hl with
 | [x,y,z,w],_ =>
  cases h0;cases h1;cases h2;cases h3;rfl
theorem zjI {gg:FG} {f:FE} {g:FS} {ρ ρ':zaX} {d:D} (h1:f ρ=some d) (h2:gg d ρ=some ρ'):zax (zlF gg f) g ρ=g ρ':=by
 unfold zax zlF
 rw [h1,qa,h2];rfl
theorem zoa (ns:List Int) (p:Nat) (ss:List StepT) (h:Int) (hp:p < 60) (hh:1<=h/\h<=1000000) (hl:ss.length<=40) (hsn:∀ x∈ss.map (·.nm),zaY x=true) (nd:(ss.map (·.nm)).Nodup) :
  ∃ js:List JobT,zbT [.scr ns,.int (p:Int),.lst (ss.map za9),.int h]=some (.lst (js.map zcg))/\js.length<=9/\(∀ j∈js,GoodJ (ss.map (·.nm)) h j)/\(js.map (·.nm)).Nodup/\(js.flatMap (·.ms)).Nodup/\(js.flatMap (·.ms)).length<=40:=by
 obtain ⟨ds,e1,hd,hq⟩:=zbI ns 1 (by omega) zu7 (by decide) (by decide)
 obtain ⟨d0,q0,p0,p0'⟩:=hq 0 9 rfl
 obtain ⟨d1,q1,p1,p1'⟩:=hq 1 1000000 rfl
 obtain ⟨d2,q2,p2,p2'⟩:=hq 2 1000000 rfl
 obtain ⟨d3,q3,p3,p3'⟩:=hq 3 512 rfl
 obtain ⟨m,rfl⟩:∃ m:Nat,d0=(m:Int):=⟨d0.toNat,by omega⟩
 have hds:ds=[(m:Int),d1,d2,d3]:=zu4 hd q0 q1 q2 q3
 subst hds
 obtain ⟨ρ1,a1,gs,x9,x10,x11,b1,v⟩:=zqM (ns:=ns) (P:=oS (.int p)) (H:=oS (.int h)) (ss:=ss) (m:=m) (a:=oS (.int d1)) (b:=oS (.int d2)) (c:=oS (.int d3)) (d:=none) (e:=none) (f:=none) (g:=none) (h:=none) (i:=none) hl (by omega) nd
 have hmem:∀ x∈gs.flatten,x∈ss.map (·.nm):=fun x hx=>List.mem_of_mem_take (v.sub x hx)
 obtain ⟨ρ2,a2,ea,du,js,y9,y13,y14,b2',w⟩:=zqH (S:=oS (.scr ns)) (T:=oS (.lst (ss.map za9))) (M:=oS (.int m)) (p:=p) (h:=h) (ea:=d1) (du:=d2) (od:=d3) (gs:=gs) (sn:=ss.map (·.nm)) (a:=x9) (b:=x10) (c:=x11) (g:=none) (o:=none) hh hp (by rw [v.len];omega) hsn hmem (by rw [qe];exact v.sz)
 have wl:=w.len
 have wm:=w.ms
 rw [List.take_length] at wm
 refine ⟨js,?_,by rw [v.len] at wl;omega,w.good,w.nd,wm.nodup_iff.mpr v.nd,by rw [wm.length_eq];exact qJ v.sz hl⟩
 have hz:=zdZ (j:=(m:Int)) (by omega)
 rw [Int.toNat_natCast] at hz
 unfold zbT zfn
 refine zbg (ρ':=(hE (oS (.scr ns)) p (oS (.lst (ss.map za9))) h (oS (.int m)) ea du d3 gs y9 x10 x11 js y13 y14).set 12 (oS (.lst (js.map zcg)))) [oS (.scr ns),oS (.int p),oS (.lst (ss.map za9)),oS (.int h),none,none,none,none,none,none,none,none,none,none,none] rfl ?_
 refine (zjI (ρ':=[oS (.scr ns),oS (.int p),oS (.lst (ss.map za9)),oS (.int h),oS (.int m),oS (.int d1),oS (.int d2),oS (.int d3),none,none,none,none,none,none,none]) (za8 (zag rfl (zag (d:=.int ((1:Nat):Int)) rfl (zag (zsQ _) zat))) e1) rfl).trans ?_
 refine (zo1 (ztd (zeV (zag rfl zat) hz) (by omega))).trans ?_
 have er:(List.replicate m ([]:List Str)).map (fun l=>l.map D.str)=List.replicate m []:=by rw [List.map_replicate];rfl
 unfold gE at a1
 rw [er] at a1
 refine (zcr ((zdh (xs:=(ss.map za9).mapIdx fun i d=>D.tup [.int i,d]) rfl).trans (a1.trans (by rw [b1])))).trans ?_
 refine zdI.trans ((zkS rfl).trans ?_)
 have em:(gs.map fun l=>l.map D.str).map D.lst=gs.map fun l=>D.lst (l.map D.str):=by rw [qm];rfl
 rw [em]
 exact (zcr ((zdh (xs:=(gs.map fun l=>D.lst (l.map D.str)).mapIdx fun i d=>D.tup [.int i,d]) rfl).trans (a2.trans (by rw [b2'])))).trans ((zdr rfl).trans (zbe (f:=vSh 12) rfl))
end Law
end
section
namespace Law
open PySem L2
theorem zoZ (t:List Str):pdD (.tup (t.map D.str))=some (.tuple (t.map PyData.str)):=by simp [pdD,zii]
theorem zmf:∀ (ts:List (List Str)),zjM (ts.map fun t=>.tup (t.map D.str))=some (ts.map fun t=>.tuple (t.map PyData.str))
 | []=>by simp [zjM]
 | t::r=>by simp [zjM,zoZ,zmf r]
theorem zkM:∀ {ts:List (List Str)},(∀ t∈ts,∀ x∈t,zaY x=true)->PyData.canLayAll0 (ts.map fun t=>.tuple (t.map PyData.str))=true
 | [],_=>by simp [PyData.canLayAll0]
 | t::r,h=>by
  simp only [ql,PyData.canLayAll0,PyData.canLay0,zfA (h t qf),Bool.true_and]
  exact zkM fun y hy=>h y (qg _ hy)
theorem zkW:∀ (a b:List Str),PyData.eqvAll (a.map PyData.str) (b.map PyData.str)=decide (a=b)
 | [],[]=>by simp [PyData.eqvAll]
 | [],_::_=>by simp [PyData.eqvAll]
 | _::_,[]=>by simp [PyData.eqvAll]
 | x::r,y::t=>by
  simp only [ql,PyData.eqvAll,PyData.eqv,zkW r t]
  by_cases e:x=y
  ·subst e;simp
  ·simp [e]
theorem zk6 (t:List Str):∀ (ts:List (List Str)),((ts.map fun t=>PyData.tuple (t.map PyData.str)).any fun z=>PyData.eqv z (.tuple (t.map PyData.str)))=decide (t∈ts)
 | []=>by simp
 | y::r=>by
  rw [ql,List.any_cons,zk6 t r]
  simp only [PyData.eqv,zkW]
  by_cases e:y=t
  ·subst e;simp
  ·have:t≠y:=fun z=>e z.symm
   simp [e,this]
theorem zkI {t:List Str} {ts:List (List Str)} (hx:∀ x∈t,zaY x=true) (hn:∀ y∈ts,∀ x∈y,zaY x=true):zgQ (.tup (t.map D.str)) (.lst (ts.map fun t=>.tup (t.map D.str)))=some (.bl (!decide (t∈ts))):=by
 have sh:SeqAt.shaped (.tuple (t.map PyData.str))=true:=by simp [SeqAt.shaped,PyData.canLay0,zfA hx,PyData.depth,zf1]
 have p1:pdD (.lst (ts.map fun t=>.tup (t.map D.str)))=some (.list (ts.map fun t=>.tuple (t.map PyData.str))):=by simp [pdD,zmf]
 unfold zgQ inX
 rw [zoZ,p1,qa,qa]
 simp only [sh,zkM hn,and_self,if_true,zk6,qd]
theorem zsA {ss:List StepT} {d:Nat} {i:Nat} {ρ:zaX} (h1:vSh 1 ρ=some (.lst (ss.map za9))) (h2:vSh i ρ=some (.int (d:Int))) (hL:1<=ss.length):∃ x,x∈ss.map (·.nm)/\b2 ixD (b2 ixD (vSh 1) (b2 zce (vSh i) (cF zed (zab (vSh 1) zai)))) (vC (.int 0)) ρ=some (.str x):=by
 have hm:d % ss.length < ss.length:=Nat.mod_lt _ (by omega)
 refine ⟨ss[d % ss.length].nm,List.mem_map_of_mem (List.getElem_mem hm),zaw (x:=za9 ss[d % ss.length]) (zaw (y:=.int ((d % ss.length:Nat):Int)) h1 (zaw (y:=.int ((ss.length:Nat):Int)) h2 (za8 (zag h1 zat) ?_) ?_) ?_) rfl rfl⟩
 ·show some (D.int (((ss.map za9).length:Nat):Int))=_
  rw [qe]
 ·exact zbU (by omega)
 ·rw [ixL,qj,qA hm];rfl
def zu2:List Int:=[40,40,3,1000000]
def lkF:FE:=zaU (szF (zab (vC (.int 40)) (zab (vC (.int 40)) (zab (vC (.int 3)) (zab (b2 zdo (vC (.int 10)) (vC (.int 6))) zai)))))
theorem zsH (ρ:zaX):lkF ρ=some (.lst (zu2.map D.int)):=by kernel_rfl
def ltF:FE:=zaU (szF (zab (vC (.int 1)) (zab (vC (.int 8)) (zab (b2 za6 (b2 zdo (vC (.int 10)) (vC (.int 6))) (vC (.int 1))) zai))))
theorem zsE (ρ:zaX):ltF ρ=some (.lst (([1,8,1000001]:List Int).map D.int)):=by kernel_rfl
end Law
end
section
namespace Law
open PySem L2
def lp (l:LinkT):List Str:=[l.a,l.b]
def zns (t:List Str):D:=.tup (t.map D.str)
structure LkInv (sn:List Str) (h:Int) (i:Nat) (ls:List LinkT):Prop where
 len:ls.length<=i
 good:∀ l∈ls,GoodL sn h l
 nd:(ls.map lp).Nodup
abbrev lE (ns:List Int) (ss:List StepT) (h:Int) (ls:List LinkT) (a b c d e:Option Slot):zaX:=[oS (.scr ns),oS (.lst (ss.map za9)),oS (.int h),some (.own (ls.map zb3)),some (.own ((ls.map lp).map zns)),a,b,c,d,e]
def lkT:FT:=bwT 4 (zoI (toB (b2 neA (vSh 6) (vSh 7))) (toB (b2 zgQ (zcK (szF (zab (vSh 6) (zab (vSh 7) zai)))) (vSh 4))))
def lkG:FE:=zcK (szF (zab (vSh 6) (zab (vSh 7) (zab (b2 zce (vSh 9) (cF ziq (zab (b2 za6 (vSh 2) (vC (.int 1))) (zab (b2 ixD ltF (vSh 8)) zai)))) zai))))
def zmx:FS:=zax (zlF (zg3 4 (zao (zaE 6) (zao (zaE 7) (zao (zaE 8) (zao (zaE 9) zbr))))) (cF zah (zab (vSh 0) (zab (b2 za6 (vC (.int 41)) (vSh 5)) (zab lkF zai))))) (zax (zbk 6 (b2 ixD (b2 ixD (vSh 1) (b2 zce (vSh 6) (cF zed (zab (vSh 1) zai)))) (vC (.int 0)))) (zax (zbk 7 (b2 ixD (b2 ixD (vSh 1) (b2 zce (vSh 7) (cF zed (zab (vSh 1) zai)))) (vC (.int 0)))) (sIf lkT (zax (zda 4 (zcK (szF (zab (vSh 6) (zab (vSh 7) zai))))) (zda 3 lkG)) zb1)))
theorem zqw {ns:List Int} {ss:List StepT} {h:Int} {ls:List LinkT} {k i:Nat} {b c d e:Option Slot} (hk:k<=20) (hi:i<=20) (hh:1<=h) (hL:1<=ss.length) (hsn:∀ x∈ss.map (·.nm),zaY x=true) (v:LkInv (ss.map (·.nm)) h i ls) :
  ∃ ls' b' c' d' e',zmx (lE ns ss h ls (oS (.int (0+(k:Int)))) b c d e)=some (.nx,lE ns ss h ls' (oS (.int (0+(k:Int)))) b' c' d' e')/\LkInv (ss.map (·.nm)) h (i+1) ls':=by
 have hk0:(0:Int)+(k:Int)=(k:Int):=by omega
 rw [hk0]
 obtain ⟨ds,e1,hd,hq⟩:=zbI ns (41+k) (by omega) zu2 (by decide) (by decide)
 obtain ⟨d0,q0,p0,_⟩:=hq 0 40 rfl
 obtain ⟨d1,q1,p1,_⟩:=hq 1 40 rfl
 obtain ⟨d2,q2,p2,p2'⟩:=hq 2 3 rfl
 obtain ⟨d3,q3,p3,_⟩:=hq 3 1000000 rfl
 obtain ⟨m0,rfl⟩:∃ m:Nat,d0=(m:Int):=⟨d0.toNat,by omega⟩
 obtain ⟨m1,rfl⟩:∃ m:Nat,d1=(m:Int):=⟨d1.toNat,by omega⟩
 have hds:ds=[(m0:Int),(m1:Int),d2,d3]:=zu4 hd q0 q1 q2 q3
 subst hds
 obtain ⟨x,hx,ex⟩:=zsA (ss:=ss) (d:=m0) (i:=6) (ρ:=lE ns ss h ls (oS (.int (k:Int))) (oS (.int (m0:Int))) (oS (.int (m1:Int))) (oS (.int d2)) (oS (.int d3))) rfl rfl hL
 obtain ⟨y,hy,ey⟩:=zsA (ss:=ss) (d:=m1) (i:=7) (ρ:=lE ns ss h ls (oS (.int (k:Int))) (oS (.str x)) (oS (.int (m1:Int))) (oS (.int d2)) (oS (.int d3))) rfl rfl hL
 obtain ⟨mx,hmx,mx1⟩:∃ mx:Int,ixD (.lst (([1,8,1000001]:List Int).map D.int)) (.int d2)=some (.int mx)/\1<=mx:=by
  have:d2=0\/d2=1\/d2=2:=by omega
  rcases this with rfl | rfl | rfl
  ·exact ⟨1,rfl,by decide⟩
  ·exact ⟨8,rfl,by decide⟩
  ·exact ⟨1000001,rfl,by decide⟩
 obtain ⟨mn,hmn,mn1,mn2⟩:∃ mn:Int,ziq [.int (h+1),.int mx]=some (.int mn)/\1<=mn/\mn<=h+1:=⟨if mx < h+1 then mx else h+1,rfl,by split <;> omega,by split <;> omega⟩
 have g1:0<=d3 % mn:=qU _ (by omega)
 have g2:d3 % mn < mn:=qS _ (by omega)
 have hkn:∀ z∈ls.map lp,∀ w∈z,zaY w=true:=fun z hz w hw=>by
  obtain ⟨l,hl,rfl⟩:=List.mem_map.mp hz
  have hw':w=l.a\/w=l.b:=by simpa [lp] using hw
  rcases hw' with rfl | rfl
  ·exact hsn _ (v.good l hl).a
  ·exact hsn _ (v.good l hl).b
 have hxy:∀ w∈[x,y],zaY w=true:=fun w hw=>by
  have hw':w=x\/w=y:=by simpa using hw
  rcases hw' with rfl | rfl
  ·exact hsn _ hx
  ·exact hsn _ hy
 have hte:lkT (lE ns ss h ls (oS (.int (k:Int))) (oS (.str x)) (oS (.str y)) (oS (.int d2)) (oS (.int d3)))=some ((!decide (x=y)) && !decide ([x,y]∈ls.map lp)):=by
  have t1:toB (b2 neA (vSh 6) (vSh 7)) [oS (.scr ns),oS (.lst (ss.map za9)),oS (.int h),some (.own (ls.map zb3)),oS (.lst ((ls.map lp).map zns)),oS (.int (k:Int)),oS (.str x),oS (.str y),oS (.int d2),oS (.int d3)]=some (!decide (x=y)):=zbx (zaw rfl rfl (zj4 x y))
  have t2:toB (b2 zgQ (zcK (szF (zab (vSh 6) (zab (vSh 7) zai)))) (vSh 4)) [oS (.scr ns),oS (.lst (ss.map za9)),oS (.int h),some (.own (ls.map zb3)),oS (.lst ((ls.map lp).map zns)),oS (.int (k:Int)),oS (.str x),oS (.str y),oS (.int d2),oS (.int d3)]=some (!decide ([x,y]∈ls.map lp)):=zbx (zaw (zel rfl rfl) rfl (zkI (t:=[x,y]) (ts:=ls.map lp) hxy hkn))
  have hbw:lkT (lE ns ss h ls (oS (.int (k:Int))) (oS (.str x)) (oS (.str y)) (oS (.int d2)) (oS (.int d3)))=zoI (toB (b2 neA (vSh 6) (vSh 7))) (toB (b2 zgQ (zcK (szF (zab (vSh 6) (zab (vSh 7) zai)))) (vSh 4))) [oS (.scr ns),oS (.lst (ss.map za9)),oS (.int h),some (.own (ls.map zb3)),oS (.lst ((ls.map lp).map zns)),oS (.int (k:Int)),oS (.str x),oS (.str y),oS (.int d2),oS (.int d3)]:=rfl
  rw [hbw]
  unfold zoI
  rw [t1,qa]
  cases hb:(!decide (x=y)) with
  | false=>rfl
  | true=>exact t2
 have hvl:=v.len
 have pre:∀ R,(sIf lkT (zax (zda 4 (zcK (szF (zab (vSh 6) (zab (vSh 7) zai))))) (zda 3 lkG)) zb1) (lE ns ss h ls (oS (.int (k:Int))) (oS (.str x)) (oS (.str y)) (oS (.int d2)) (oS (.int d3)))=R->zmx (lE ns ss h ls (oS (.int (k:Int))) b c d e)=R:=fun R q=>by
  refine (zjI (ρ':=lE ns ss h ls (oS (.int (k:Int))) (oS (.int (m0:Int))) (oS (.int (m1:Int))) (oS (.int d2)) (oS (.int d3))) (za8 (zag rfl (zag (d:=.int ((41+k:Nat):Int)) (zaw rfl rfl ?_) (zag (zsH _) zat))) e1) rfl).trans ((zaS ex).trans ((zaS ey).trans q))
  show some (D.int (41+(k:Int)))=_
  congr 2
 by_cases hc:x≠y/\[x,y]∉ls.map lp
 ·have hb:((!decide (x=y)) && !decide ([x,y]∈ls.map lp))=true:=by simp [hc.1,hc.2]
  rw [hb] at hte
  refine ⟨ls++[⟨x,y,d3 % mn⟩],oS (.str x),oS (.str y),oS (.int d2),oS (.int d3),pre _ ((zfB hte).trans ((qV rfl).trans ((zcr (zcf (g:=zns) (xs:=ls.map lp) (x:=[x,y]) rfl (zel rfl rfl) (by rw [qe];omega))).trans ((zcf (g:=zb3) (xs:=ls) (x:=(⟨x,y,d3 % mn⟩:LinkT)) rfl (zh8 rfl rfl (zaw rfl (za8 (zag (zaw (x:=.int h) (y:=.int 1) rfl rfl rfl) (zag (zaw (zsE _) rfl hmx) zat)) hmn) (zbU (by omega)))) (by omega)).trans ?_)))),by rw [qi,qT];omega,fun l hl=>?_,?_⟩
  ·show _=some (Fl.nx,[_,_,_,_,some (Slot.own (((ls++[(⟨x,y,d3 % mn⟩:LinkT)]).map lp).map zns)),_,_,_,_,_])
   rw [List.map_append (f:=lp)]
   rfl
  ·rcases List.mem_append.mp hl with z | z
   ·exact v.good l z
   ·rw [List.mem_singleton.mp z]
    exact ⟨hx,hy,hc.1,g1,by show d3 % mn<=h;omega⟩
  ·rw [List.map_append]
   refine List.nodup_append.mpr ⟨v.nd,by simp,fun z hz w hw ez=>?_⟩
   have hw':w=[x,y]:=by simpa [lp] using hw
   exact hc.2 (by rw [← hw',← ez];exact hz)
 ·have hb:((!decide (x=y)) && !decide ([x,y]∈ls.map lp))=false:=by
   by_cases h1:x=y
   ·simp [h1]
   ·have h2:[x,y]∈ls.map lp:=by
     by_cases h3:[x,y]∈ls.map lp
     ·exact h3
     ·exact absurd ⟨h1,h3⟩ hc
    rw [qP h2];simp
  rw [hb] at hte
  exact ⟨ls,_,_,_,_,pre _ ((zfB hte).trans rfl),Nat.le_succ_of_le v.len,v.good,v.nd⟩
end Law
end
section
namespace Law
open PySem L2
def lmF:FE:=zaU (szF (zab (vC (.int 21)) (zab (vC (.int 21)) zai)))
theorem zsG (ρ:zaX):lmF ρ=some (.lst (([21,21]:List Int).map D.int)):=by kernel_rfl
theorem zmw (ns:List Int) (ss:List StepT) (h:Int) (hh:1<=h) (hL:1<=ss.length) (hsn:∀ x∈ss.map (·.nm),zaY x=true) :
  ∃ ls:List LinkT,zbF [.scr ns,.lst (ss.map za9),.int h]=some (.lst (ls.map zb3))/\ls.length<=20/\(∀ l∈ls,GoodL (ss.map (·.nm)) h l)/\(ls.map fun l=>[l.a,l.b]).Nodup:=by
 obtain ⟨ds,e1,hd,hq⟩:=zbI ns 2 (by omega) [21,21] (by decide) (by decide)
 obtain ⟨d1,q1,p1,p1'⟩:=hq 1 21 rfl
 obtain ⟨m,rfl⟩:∃ m:Nat,d1=(m:Int):=⟨d1.toNat,by omega⟩
 obtain ⟨ρ',h1,ls,a,b,c,d,e,h2,v⟩:=zcq (gg:=zaE 5) (body:=zmx) (xs:=(List.range m).map fun i:Nat=>D.int (0+(i:Int))) (ρ:=lE ns ss h [] none none none none none)
  (fun i ρ=>∃ ls a b c d e,ρ=lE ns ss h ls a b c d e/\LkInv (ss.map (·.nm)) h i ls) ⟨[],none,none,none,none,none,rfl,qu _,fun l hl=>(by cases hl),List.nodup_nil⟩ (fun i x ρ hx hI=>by
   obtain ⟨ls,a,b,c,d,e,rfl,v⟩:=hI
   rw [qj] at hx
   obtain ⟨j,hj,rfl⟩:=oMd hx
   have hi:i < m:=by simpa using (List.getElem?_eq_some_iff.mp hj).1
   have hji:i=j:=by
    rw [List.getElem?_range hi] at hj
    exact qE hj
   subst hji
   obtain ⟨ls',b',c',d',e',t1,t2⟩:=zqw (ns:=ns) (ss:=ss) (h:=h) (ls:=ls) (k:=i) (i:=i) (b:=b) (c:=c) (d:=d) (e:=e) (by omega) (by omega) hh hL hsn v
   exact ⟨_,_,rfl,t1,ls',_,_,_,_,_,rfl,t2⟩)
 rw [qe,qR] at v
 have vl:=v.len
 refine ⟨ls,?_,by omega,v.good,v.nd⟩
 have hz:=zdZ (j:=(m:Int)) (by omega)
 rw [Int.toNat_natCast] at hz
 unfold zbF zeH
 exact zbg (ρ':=(lE ns ss h ls a b c d e).set 3 (oS (.lst (ls.map zb3)))) [oS (.scr ns),oS (.lst (ss.map za9)),oS (.int h),none,none,none,none,none,none,none] rfl (zdI.trans (zdI.trans ((zcr ((zdh (zeV (zag (zit (n:=1) (za8 (zag rfl (zag (d:=.int ((2:Nat):Int)) rfl (zag (zsG _) zat))) e1) q1) zat) hz)).trans (h1.trans (by rw [h2])))).trans ((zdr rfl).trans (zbe (f:=vSh 3) rfl)))))
end Law
end
section
namespace Law
open PySem L2
theorem zut {bs:List BenchT} {d:Nat} {i:Nat} {ρ:zaX} (h1:vSh 1 ρ=some (.lst (bs.map za1))) (h2:vSh i ρ=some (.int (d:Int))) (hL:1<=bs.length):∃ x,x∈bs.map (·.nm)/\b2 ixD (b2 ixD (vSh 1) (b2 zce (vSh i) (cF zed (zab (vSh 1) zai)))) (vC (.int 0)) ρ=some (.str x):=by
 have hm:d % bs.length < bs.length:=Nat.mod_lt _ (by omega)
 refine ⟨bs[d % bs.length].nm,List.mem_map_of_mem (List.getElem_mem hm),zaw (x:=za1 bs[d % bs.length]) (zaw (y:=.int ((d % bs.length:Nat):Int)) h1 (zaw (y:=.int ((bs.length:Nat):Int)) h2 (za8 (zag h1 zat) ?_) ?_) ?_) rfl rfl⟩
 ·show some (D.int (((bs.map za1).length:Nat):Int))=_
  rw [qe]
 ·exact zbU (by omega)
 ·rw [ixL,qj,qA hm];rfl
def up (u:SetT):List Str:=[u.b,u.p,u.q]
structure SuInv (bn:List Str) (h:Int) (i:Nat) (us:List SetT):Prop where
 len:us.length<=i
 good:∀ u∈us,GoodU bn h u
 nd:(us.map up).Nodup
def zuM:List Int:=[8,6,6,2,1000000]
def suF:FE:=zaU (szF (zab (vC (.int 8)) (zab (vC (.int 6)) (zab (vC (.int 6)) (zab (vC (.int 2)) (zab (b2 zdo (vC (.int 10)) (vC (.int 6))) zai))))))
theorem zrB (ρ:zaX):suF ρ=some (.lst (zuM.map D.int)):=by kernel_rfl
def svF:FE:=zaU (szF (zab (vC (.int 6)) (zab (b2 zdo (vC (.int 10)) (vC (.int 6))) zai)))
theorem zrz (ρ:zaX):svF ρ=some (.lst (([6,1000000]:List Int).map D.int)):=by kernel_rfl
theorem zvy {ds:List Int} {a b c d e:Int} (hl:ds.length=5) (h0:ds[0]?=some a) (h1:ds[1]?=some b) (h2:ds[2]?=some c) (h3:ds[3]?=some d) (h4:ds[4]?=some e):ds=[a,b,c,d,e]:=by
 match ds,hl with
 | [x,y,z,w,v],_ =>
  cases h0;cases h1;cases h2;cases h3;cases h4;rfl
theorem zoL {x y z:D} {w:D}:ziV (.tup [x,y,z]) (.tup [w])=some (.tup [x,y,z,w]):=by
 show (if [x,y,z]≠[]/\[w]≠[]/\[x,y,z].length+[w].length<=sizeLine then some (D.tup ([x,y,z]++[w])) else none)=_
 rw [qV ⟨by simp,by simp,by simp [sizeLine]⟩]
 rfl
end Law
end
section
namespace Law
open PySem L2
abbrev suE (ns:List Int) (bs:List BenchT) (p:Nat) (h:Int) (us:List SetT) (k a b c d e f:Option Slot):zaX:=[oS (.scr ns),oS (.lst (bs.map za1)),oS (.int p),oS (.int h),some (.own (us.map zd4)),some (.own ((us.map up).map zns)),k,a,b,c,d,e,f]
def suT:FT:=bwT 5 (toB (b2 zgQ (vSh 12) (vSh 5)))
def suG:FE:=b2 ziV (vSh 12) (zcK (szF (zab (b2 za6 (vC (.int 1)) (b2 zce (vSh 11) (cF ziq (zab (vSh 3) (zab (b2 ixD svF (vSh 10)) zai))))) zai)))
def zlR:FS:=zax (zlF (zg3 5 (zao (zaE 7) (zao (zaE 8) (zao (zaE 9) (zao (zaE 10) (zao (zaE 11) zbr)))))) (cF zah (zab (vSh 0) (zab (b2 za6 (vC (.int 30)) (vSh 6)) (zab suF zai))))) (zax (zbk 7 (b2 ixD (b2 ixD (vSh 1) (b2 zce (vSh 7) (cF zed (zab (vSh 1) zai)))) (vC (.int 0)))) (zax (zbk 12 (zcK (szF (zab (vSh 7) (zab (cF zas (zab (b2 zeA (vSh 2) (vC (.int 2))) (zab (vSh 8) zai))) (zab (cF zas (zab (b2 zeA (vSh 2) (vC (.int 2))) (zab (vSh 9) zai))) zai)))))) (sIf suT (zax (zda 5 (vSh 12)) (zda 4 suG)) zb1)))
theorem zpz {f:FE} {ρ:zaX} {x:D} (h:f ρ=some x):zcK (szF (zab f zai)) ρ=some (.tup [x]):=by
 simp only [zcK,szF,zab,zai,h,qa,qd,qh,qk,Nat.zero_add,sz1,if_true]
theorem zpD {ns:List Int} {bs:List BenchT} {p:Nat} {h:Int} {us:List SetT} {k i:Nat} {a b c d e f:Option Slot} (hp:p < 60) (hk:k<=20) (hi:i<=20) (hh:1<=h) (hL:1<=bs.length) (hbn:∀ x∈bs.map (·.nm),zaY x=true) (v:SuInv (bs.map (·.nm)) h i us) :
  ∃ us' a' b' c' d' e' f',zlR (suE ns bs p h us (oS (.int (0+(k:Int)))) a b c d e f)=some (.nx,suE ns bs p h us' (oS (.int (0+(k:Int)))) a' b' c' d' e' f')/\SuInv (bs.map (·.nm)) h (i+1) us':=by
 have hk0:(0:Int)+(k:Int)=(k:Int):=by omega
 rw [hk0]
 obtain ⟨ds,e1,hd,hq⟩:=zbI ns (30+k) (by omega) zuM (by decide) (by decide)
 obtain ⟨d0,q0,p0,_⟩:=hq 0 8 rfl
 obtain ⟨d1,q1,p1,p1'⟩:=hq 1 6 rfl
 obtain ⟨d2,q2,p2,p2'⟩:=hq 2 6 rfl
 obtain ⟨d3,q3,p3,p3'⟩:=hq 3 2 rfl
 obtain ⟨d4,q4,p4,_⟩:=hq 4 1000000 rfl
 obtain ⟨m0,rfl⟩:∃ m:Nat,d0=(m:Int):=⟨d0.toNat,by omega⟩
 obtain ⟨m1,rfl⟩:∃ m:Nat,d1=(m:Int):=⟨d1.toNat,by omega⟩
 obtain ⟨m2,rfl⟩:∃ m:Nat,d2=(m:Int):=⟨d2.toNat,by omega⟩
 have hds:ds=[(m0:Int),(m1:Int),(m2:Int),d3,d4]:=zvy hd q0 q1 q2 q3 q4
 subst hds
 obtain ⟨x,hx,ex⟩:=zut (bs:=bs) (d:=m0) (i:=7) (ρ:=suE ns bs p h us (oS (.int (k:Int))) (oS (.int (m0:Int))) (oS (.int (m1:Int))) (oS (.int (m2:Int))) (oS (.int d3)) (oS (.int d4)) f) rfl rfl hL
 have n1:=zhx (p:=p / 2) (k:=m1) (by omega) (by omega)
 have n2:=zhx (p:=p / 2) (k:=m2) (by omega) (by omega)
 obtain ⟨mx,hmx,mx1⟩:∃ mx:Int,ixD (.lst (([6,1000000]:List Int).map D.int)) (.int d3)=some (.int mx)/\1<=mx:=by
  have:d3=0\/d3=1:=by omega
  rcases this with rfl | rfl
  ·exact ⟨6,rfl,by decide⟩
  ·exact ⟨1000000,rfl,by decide⟩
 obtain ⟨mn,hmn,mn1,mn2⟩:∃ mn:Int,ziq [.int h,.int mx]=some (.int mn)/\1<=mn/\mn<=h:=⟨if mx < h then mx else h,rfl,by split <;> omega,by split <;> omega⟩
 have g1:0<=d4 % mn:=qU _ (by omega)
 have g2:d4 % mn < mn:=qS _ (by omega)
 have hkn:∀ z∈us.map up,∀ w∈z,zaY w=true:=fun z hz w hw=>by
  obtain ⟨u,hu,rfl⟩:=List.mem_map.mp hz
  have hw':w=u.b\/w=u.p\/w=u.q:=by simpa [up] using hw
  rcases hw' with rfl | rfl | rfl
  ·exact hbn _ (v.good u hu).b
  ·exact (v.good u hu).p
  ·exact (v.good u hu).q
 have hxy:∀ w∈[x,nm (p / 2) m1,nm (p / 2) m2],zaY w=true:=fun w hw=>by
  have hw':w=x\/w=nm (p / 2) m1\/w=nm (p / 2) m2:=by simpa using hw
  rcases hw' with rfl | rfl | rfl
  ·exact hbn _ hx
  ·exact n1.2.1
  ·exact n2.2.1
 have hte:suT (suE ns bs p h us (oS (.int (k:Int))) (oS (.str x)) (oS (.int (m1:Int))) (oS (.int (m2:Int))) (oS (.int d3)) (oS (.int d4)) (oS (.tup [.str x,.str (nm (p / 2) m1),.str (nm (p / 2) m2)])))=some (!decide ([x,nm (p / 2) m1,nm (p / 2) m2]∈us.map up)):=by
  have hbw:suT (suE ns bs p h us (oS (.int (k:Int))) (oS (.str x)) (oS (.int (m1:Int))) (oS (.int (m2:Int))) (oS (.int d3)) (oS (.int d4)) (oS (.tup [.str x,.str (nm (p / 2) m1),.str (nm (p / 2) m2)])))=toB (b2 zgQ (vSh 12) (vSh 5)) [oS (.scr ns),oS (.lst (bs.map za1)),oS (.int p),oS (.int h),some (.own (us.map zd4)),oS (.lst ((us.map up).map zns)),oS (.int (k:Int)),oS (.str x),oS (.int (m1:Int)),oS (.int (m2:Int)),oS (.int d3),oS (.int d4),oS (.tup [.str x,.str (nm (p / 2) m1),.str (nm (p / 2) m2)])]:=rfl
  rw [hbw]
  exact zbx (zaw rfl rfl (zkI (t:=[x,nm (p / 2) m1,nm (p / 2) m2]) (ts:=us.map up) hxy hkn))
 have hvl:=v.len
 have pre:∀ R,(sIf suT (zax (zda 5 (vSh 12)) (zda 4 suG)) zb1) (suE ns bs p h us (oS (.int (k:Int))) (oS (.str x)) (oS (.int (m1:Int))) (oS (.int (m2:Int))) (oS (.int d3)) (oS (.int d4)) (oS (.tup [.str x,.str (nm (p / 2) m1),.str (nm (p / 2) m2)])))=R->zlR (suE ns bs p h us (oS (.int (k:Int))) a b c d e f)=R:=fun R q=>by
  refine (zjI (ρ':=suE ns bs p h us (oS (.int (k:Int))) (oS (.int (m0:Int))) (oS (.int (m1:Int))) (oS (.int (m2:Int))) (oS (.int d3)) (oS (.int d4)) f) (za8 (zag rfl (zag (d:=.int ((30+k:Nat):Int)) (zaw rfl rfl ?_) (zag (zrB _) zat))) e1) rfl).trans ((zaS ex).trans ((zaS (zh8 rfl (za8 (zag (d:=.int ((p / 2:Nat):Int)) (zaw (x:=.int (p:Int)) (y:=.int 2) rfl rfl (zg6 (by decide))) (zag rfl zat)) n1.1) (za8 (zag (d:=.int ((p / 2:Nat):Int)) (zaw (x:=.int (p:Int)) (y:=.int 2) rfl rfl (zg6 (by decide))) (zag rfl zat)) n2.1))).trans q))
  show some (D.int (30+(k:Int)))=_
  congr 2
 by_cases hc:[x,nm (p / 2) m1,nm (p / 2) m2]∈us.map up
 ·rw [qP hc] at hte
  exact ⟨us,_,_,_,_,_,_,pre _ ((zfB hte).trans rfl),Nat.le_succ_of_le v.len,v.good,v.nd⟩
 ·rw [qK hc] at hte
  refine ⟨us++[⟨x,nm (p / 2) m1,nm (p / 2) m2,1+d4 % mn⟩],oS (.str x),oS (.int (m1:Int)),oS (.int (m2:Int)),oS (.int d3),oS (.int d4),oS (.tup [.str x,.str (nm (p / 2) m1),.str (nm (p / 2) m2)]),pre _ ((zfB hte).trans ((qV rfl).trans ((zcr (zcf (g:=zns) (xs:=us.map up) (x:=[x,nm (p / 2) m1,nm (p / 2) m2]) rfl rfl (by rw [qe];omega))).trans ((zcf (g:=zd4) (xs:=us) (x:=(⟨x,nm (p / 2) m1,nm (p / 2) m2,1+d4 % mn⟩:SetT)) rfl (zaw rfl (zpz (zaw (x:=.int 1) rfl (zaw (x:=.int d4) (y:=.int mn) rfl (za8 (zag rfl (zag (zaw (zrz _) rfl hmx) zat)) hmn) (zbU (by omega))) rfl)) zoL) (by omega)).trans ?_)))),by rw [qi,qT];omega,fun u hu=>?_,?_⟩
  ·show _=some (Fl.nx,[_,_,_,_,_,some (Slot.own (((us++[(⟨x,nm (p / 2) m1,nm (p / 2) m2,1+d4 % mn⟩:SetT)]).map up).map zns)),_,_,_,_,_,_,_])
   rw [List.map_append (f:=up)]
   rfl
  ·rcases List.mem_append.mp hu with z | z
   ·exact v.good u z
   ·rw [List.mem_singleton.mp z]
    exact ⟨hx,n1.2.1,n2.2.1,by show 1<=1+d4 % mn;omega,by show 1+d4 % mn<=h;omega⟩
  ·rw [List.map_append]
   refine List.nodup_append.mpr ⟨v.nd,by simp,fun z hz w hw ez=>?_⟩
   have hw':w=[x,nm (p / 2) m1,nm (p / 2) m2]:=by simpa [up] using hw
   exact hc (by rw [← hw',← ez];exact hz)
end Law
end
section
namespace Law
open PySem L2
def smF:FE:=zaU (szF (zab (vC (.int 21)) zai))
theorem zrI (ρ:zaX):smF ρ=some (.lst (([21]:List Int).map D.int)):=by kernel_rfl
theorem zlq (ns:List Int) (bs:List BenchT) (p:Nat) (h:Int) (hp:p < 60) (hh:1<=h) (hL:1<=bs.length) (hbn:∀ x∈bs.map (·.nm),zaY x=true) :
  ∃ us:List SetT,zbw [.scr ns,.lst (bs.map za1),.int (p:Int),.int h]=some (.lst (us.map zd4))/\us.length<=20/\(∀ u∈us,GoodU (bs.map (·.nm)) h u)/\(us.map fun u=>[u.b,u.p,u.q]).Nodup:=by
 obtain ⟨ds,e1,hd,hq⟩:=zbI ns 2 (by omega) [21] (by decide) (by decide)
 obtain ⟨d1,q1,p1,p1'⟩:=hq 0 21 rfl
 obtain ⟨m,rfl⟩:∃ m:Nat,d1=(m:Int):=⟨d1.toNat,by omega⟩
 obtain ⟨ρ',h1,us,k,a,b,c,d,e,f,h2,v⟩:=zcq (gg:=zaE 6) (body:=zlR) (xs:=(List.range m).map fun i:Nat=>D.int (0+(i:Int))) (ρ:=suE ns bs p h [] none none none none none none none)
  (fun i ρ=>∃ us k a b c d e f,ρ=suE ns bs p h us k a b c d e f/\SuInv (bs.map (·.nm)) h i us) ⟨[],none,none,none,none,none,none,none,rfl,qu _,fun l hl=>(by cases hl),List.nodup_nil⟩ (fun i x ρ hx hI=>by
   obtain ⟨us,k,a,b,c,d,e,f,rfl,v⟩:=hI
   rw [qj] at hx
   obtain ⟨j,hj,rfl⟩:=oMd hx
   have hi:i < m:=by simpa using (List.getElem?_eq_some_iff.mp hj).1
   have hji:i=j:=by
    rw [List.getElem?_range hi] at hj
    exact qE hj
   subst hji
   obtain ⟨us',a',b',c',d',e',f',t1,t2⟩:=zpD (ns:=ns) (bs:=bs) (p:=p) (h:=h) (us:=us) (k:=i) (i:=i) (a:=a) (b:=b) (c:=c) (d:=d) (e:=e) (f:=f) hp (by omega) (by omega) hh hL hbn v
   exact ⟨_,_,rfl,t1,us',_,_,_,_,_,_,_,rfl,t2⟩)
 rw [qe,qR] at v
 have vl:=v.len
 refine ⟨us,?_,by omega,v.good,v.nd⟩
 have hz:=zdZ (j:=(m:Int)) (by omega)
 rw [Int.toNat_natCast] at hz
 unfold zbw zea
 exact zbg (ρ':=(suE ns bs p h us k a b c d e f).set 4 (oS (.lst (us.map zd4)))) [oS (.scr ns),oS (.lst (bs.map za1)),oS (.int p),oS (.int h),none,none,none,none,none,none,none,none,none] rfl (zdI.trans (zdI.trans ((zcr ((zdh (zeV (zag (zit (n:=0) (za8 (zag rfl (zag (d:=.int ((2:Nat):Int)) rfl (zag (zrI _) zat))) e1) q1) zat) hz)).trans (h1.trans (by rw [h2])))).trans ((zdr rfl).trans (zbe (f:=vSh 4) rfl)))))
end Law
end
section
namespace Law
open PySem L2
structure AmInv (sn:List Str) (i:Nat) (am:List (Str×Int)):Prop where
 len:am.length<=i
 ws:∀ w∈am,w.1∈sn.take i/\1<=w.2/\w.2<=1000000
 nd:(am.map (·.1)).Nodup
theorem AmInv.next {sn:List Str} {i:Nat} {am:List (Str×Int)} (v:AmInv sn i am):AmInv sn (i+1) am :=
 ⟨Nat.le_succ_of_le v.len,fun w hw=>⟨List.mem_of_mem_take (i:=i) (by rw [List.take_take,Nat.min_eq_left (by omega)];exact (v.ws w hw).1),(v.ws w hw).2⟩,v.nd⟩
theorem AmInv.put {sn:List Str} {i:Nat} {am:List (Str×Int)} {x:Str} {n:Int} (v:AmInv sn i am) (nd:sn.Nodup) (hx:sn[i]?=some x) (hn:1<=n/\n<=1000000):AmInv sn (i+1) (am++[(x,n)]):=by
 have ht:sn.take (i+1)=sn.take i++[x]:=by
  rw [List.take_succ,hx];rfl
 have nd2:(sn.take (i+1)).Nodup:=nd.sublist (List.take_sublist _ _)
 rw [ht] at nd2
 have hnx:x∉sn.take i:=fun z=>(List.nodup_append.mp nd2).2.2 x z x (List.mem_singleton.mpr rfl) rfl
 have vl:=v.len
 refine ⟨by rw [qi,qT];omega,fun w hw=>?_,?_⟩
 ·rcases List.mem_append.mp hw with z | z
  ·exact v.next.ws w z
  ·rw [List.mem_singleton.mp z,ht]
   exact ⟨qN _ (List.mem_singleton.mpr rfl),hn⟩
 ·rw [List.map_append]
  refine List.nodup_append.mpr ⟨v.nd,by simp,fun y hy z hz e=>?_⟩
  obtain ⟨w,hw,rfl⟩:=List.mem_map.mp hy
  have hz':z=x:=by simpa using hz
  rw [hz'] at e
  exact hnx (e▸(v.ws w hw).1)
theorem AmInv.good {sn:List Str} {am:List (Str×Int)} (v:AmInv sn sn.length am):GoodA sn am :=
 ⟨v.len,fun w hw=>⟨List.mem_of_mem_take (v.ws w hw).1,(v.ws w hw).2⟩,v.nd⟩
theorem GoodA.rev {sn:List Str} {am:List (Str×Int)} (g:GoodA sn am):GoodA sn am.reverse :=
 ⟨by rw [List.length_reverse];exact g.ln,fun w hw=>g.ws w (List.mem_reverse.mp hw),by rw [List.map_reverse];exact (List.reverse_perm _).nodup_iff.mpr g.nd⟩
abbrev aoE (S P:Option Slot) (ss:List StepT) (F K B:Option Slot) (sz rm fi tk pt raw:Int) (a b:List (Str×Int)) (x y z r:Option Slot):zaX:=[S,P,oS (.lst (ss.map za9)),F,K,B,oS (.int sz),oS (.int rm),oS (.int fi),oS (.int tk),oS (.int pt),oS (.int raw),some (.oll [a.map dW,b.map dW]),x,y,z,r]
theorem zoR {i j:Int} (h:0<=j):zlY (.int i) (.int j)=some (.int (i / 2 ^ j.toNat)):=by
 unfold zlY
 exact qV h
def saF:FE:=zaU (szF (zab (vC (.int 9)) (zab (b2 zdo (vC (.int 10)) (vC (.int 6))) zai)))
theorem zrQ (ρ:zaX):saF ρ=some (.lst (([9,1000000]:List Int).map D.int)):=by kernel_rfl
def amW:FE:=zcK (szF (zab (b2 ixD (vSh 14) (vC (.int 0))) (zab (vSh 15) zai)))
def amT (i:Nat):FT:=toB (b2 eqD (b2 zce (b2 zlY (vSh i) (vSh 13)) (vC (.int 2))) (vC (.int 1)))
def znp:FS:=zax (zbk 15 (b2 za6 (vC (.int 1)) (b2 zce (b2 za6 (vSh 11) (b2 zdH (vC (.int 7919)) (vSh 13))) (b2 ixD saF (vSh 6))))) (zax (sIf (amT 9) (zec 12 (vC (.int 0)) amW) zb1) (sIf (amT 10) (zec 12 (vC (.int 1)) amW) zb1))
section
variable {S P F K B r:Option Slot} {ss:List StepT} {sz rm fi tk pt raw:Int} {a b:List (Str×Int)} {t:Nat} {s:StepT} {n:Int}
theorem am0 (hl:ss.length<=40) (nd:(ss.map (·.nm)).Nodup) (hs:ss[t]?=some s) (hn:1<=n/\n<=1000000) (v:AmInv (ss.map (·.nm)) t a) :
  ∃ a',sIf (amT 9) (zec 12 (vC (.int 0)) amW) zb1 (aoE S P ss F K B sz rm fi tk pt raw a b (oS (.int (t:Int))) (oS (za9 s)) (oS (.int n)) r)=some (.nx,aoE S P ss F K B sz rm fi tk pt raw a' b (oS (.int (t:Int))) (oS (za9 s)) (oS (.int n)) r)/\AmInv (ss.map (·.nm)) (t+1) a':=by
 have ht:t < ss.length:=(List.getElem?_eq_some_iff.mp hs).1
 have vl:=v.len
 have hte:amT 9 (aoE S P ss F K B sz rm fi tk pt raw a b (oS (.int (t:Int))) (oS (za9 s)) (oS (.int n)) r)=some (decide (tk / 2 ^ (t:Int).toNat % 2=1)):=zbx (zaw (zaw (zaw (x:=.int tk) (y:=.int (t:Int)) rfl rfl (zoR (by omega))) rfl (zbU (by decide))) rfl rfl)
 by_cases hc:tk / 2 ^ (t:Int).toNat % 2=1
 ·rw [qP hc] at hte
  refine ⟨a++[(s.nm,n)],(zfB hte).trans ((qV rfl).trans ((zir (i:=12) (j:=0) (dss:=[a.map dW,b.map dW]) (ds:=a.map dW) (d:=dW (s.nm,n)) rfl rfl (zel rfl rfl) rfl (by rw [qe];unfold sizeLine;omega)).trans ?_)),v.put nd (zjP hs) hn⟩
  have e9:a.map dW++[dW (s.nm,n)]=(a++[(s.nm,n)]).map dW:=by rw [List.map_append];rfl
  rw [e9]
  rfl
 ·rw [qK hc] at hte
  exact ⟨a,(zfB hte).trans rfl,v.next⟩
theorem am1 (hl:ss.length<=40) (nd:(ss.map (·.nm)).Nodup) (hs:ss[t]?=some s) (hn:1<=n/\n<=1000000) (v:AmInv (ss.map (·.nm)) t b) :
  ∃ b',sIf (amT 10) (zec 12 (vC (.int 1)) amW) zb1 (aoE S P ss F K B sz rm fi tk pt raw a b (oS (.int (t:Int))) (oS (za9 s)) (oS (.int n)) r)=some (.nx,aoE S P ss F K B sz rm fi tk pt raw a b' (oS (.int (t:Int))) (oS (za9 s)) (oS (.int n)) r)/\AmInv (ss.map (·.nm)) (t+1) b':=by
 have ht:t < ss.length:=(List.getElem?_eq_some_iff.mp hs).1
 have vl:=v.len
 have hte:amT 10 (aoE S P ss F K B sz rm fi tk pt raw a b (oS (.int (t:Int))) (oS (za9 s)) (oS (.int n)) r)=some (decide (pt / 2 ^ (t:Int).toNat % 2=1)):=zbx (zaw (zaw (zaw (x:=.int pt) (y:=.int (t:Int)) rfl rfl (zoR (by omega))) rfl (zbU (by decide))) rfl rfl)
 by_cases hc:pt / 2 ^ (t:Int).toNat % 2=1
 ·rw [qP hc] at hte
  refine ⟨b++[(s.nm,n)],(zfB hte).trans ((qV rfl).trans ((zir (i:=12) (j:=1) (dss:=[a.map dW,b.map dW]) (ds:=b.map dW) (d:=dW (s.nm,n)) rfl rfl (zel rfl rfl) rfl (by rw [qe];unfold sizeLine;omega)).trans ?_)),v.put nd (zjP hs) hn⟩
  have e9:b.map dW++[dW (s.nm,n)]=(b++[(s.nm,n)]).map dW:=by rw [List.map_append];rfl
  rw [e9]
  rfl
 ·rw [qK hc] at hte
  exact ⟨b,(zfB hte).trans rfl,v.next⟩
theorem zrb {x y z:Option Slot} (hl:ss.length<=40) (nd:(ss.map (·.nm)).Nodup) (hsz:sz=0\/sz=1) :
  ∃ ρ',zhY (zbJ 2 (zao (zaE 13) (zao (zaE 14) zbr))) znp ((ss.map za9).mapIdx fun i d=>D.tup [.int i,d]) (aoE S P ss F K B sz rm fi tk pt raw [] [] x y z r)=some (.nx,ρ')/\∃ a b x y z,ρ'=aoE S P ss F K B sz rm fi tk pt raw a b x y z r/\AmInv (ss.map (·.nm)) ss.length a/\AmInv (ss.map (·.nm)) ss.length b:=by
 obtain ⟨mx,hmx,mx1,mx2⟩:∃ mx:Int,ixD (.lst (([9,1000000]:List Int).map D.int)) (.int sz)=some (.int mx)/\1<=mx/\mx<=1000000:=by
  rcases hsz with rfl | rfl
  ·exact ⟨9,rfl,by decide,by decide⟩
  ·exact ⟨1000000,rfl,by decide,by decide⟩
 obtain ⟨ρ',h1,a',b',x',y',z',h2,h3,h4⟩:=zcq (gg:=zbJ 2 (zao (zaE 13) (zao (zaE 14) zbr))) (body:=znp) (xs:=(ss.map za9).mapIdx fun i d=>D.tup [.int i,d]) (ρ:=aoE S P ss F K B sz rm fi tk pt raw [] [] x y z r)
  (fun t ρ=>∃ a b x y z,ρ=aoE S P ss F K B sz rm fi tk pt raw a b x y z r/\AmInv (ss.map (·.nm)) t a/\AmInv (ss.map (·.nm)) t b) ⟨[],[],x,y,z,rfl,⟨qu _,fun w hw=>(by cases hw),List.nodup_nil⟩,⟨qu _,fun w hw=>(by cases hw),List.nodup_nil⟩⟩ (fun t x ρ hx hI=>by
   obtain ⟨a,b,x,y,z,rfl,v,u⟩:=hI
   obtain ⟨y,hy,rfl⟩:=zgB hx
   rw [qj] at hy
   obtain ⟨s,hs,rfl⟩:=oMd hy
   have g1:0<=(raw+7919*(t:Int)) % mx:=qU _ (by omega)
   have g2:(raw+7919*(t:Int)) % mx < mx:=qS _ (by omega)
   have hn:1<=1+(raw+7919*(t:Int)) % mx/\1+(raw+7919*(t:Int)) % mx<=1000000:=by omega
   obtain ⟨a',f1,v'⟩:=am0 (S:=S) (P:=P) (F:=F) (K:=K) (B:=B) (r:=r) (ss:=ss) (sz:=sz) (rm:=rm) (fi:=fi) (tk:=tk) (pt:=pt) (raw:=raw) (a:=a) (b:=b) (t:=t) (s:=s) (n:=1+(raw+7919*(t:Int)) % mx) hl nd hs hn v
   obtain ⟨b',f2,u'⟩:=am1 (S:=S) (P:=P) (F:=F) (K:=K) (B:=B) (r:=r) (ss:=ss) (sz:=sz) (rm:=rm) (fi:=fi) (tk:=tk) (pt:=pt) (raw:=raw) (a:=a') (b:=b) (t:=t) (s:=s) (n:=1+(raw+7919*(t:Int)) % mx) hl nd hs hn u
   exact ⟨_,_,rfl,(zaS (zaw (x:=.int 1) rfl (zaw (x:=.int (raw+7919*(t:Int))) (y:=.int mx) (zaw (x:=.int raw) (y:=.int (7919*(t:Int))) rfl (zaw (x:=.int 7919) (y:=.int (t:Int)) rfl rfl (zdq (.inl (by decide)))) rfl) (zaw (zrQ _) rfl hmx) (zbU (by omega))) rfl)).trans ((zcr f1).trans f2),a',b',_,_,_,rfl,v',u'⟩)
 rw [List.length_mapIdx,qe] at h3 h4
 exact ⟨ρ',h1,a',b',x',y',z',h2,h3,h4⟩
end
end Law
end
section
namespace Law
open PySem L2
def zrN:List Int:=[2,1000001,1000001,1099511627776,1099511627776,1000000]
def skF:FE:=zaU (szF (zab (vC (.int 2)) (zab (b2 za6 (b2 zdo (vC (.int 10)) (vC (.int 6))) (vC (.int 1))) (zab (b2 za6 (b2 zdo (vC (.int 10)) (vC (.int 6))) (vC (.int 1))) (zab (b2 zdo (vC (.int 2)) (vC (.int 40))) (zab (b2 zdo (vC (.int 2)) (vC (.int 40))) (zab (b2 zdo (vC (.int 10)) (vC (.int 6))) zai)))))))
theorem zrM (ρ:zaX):skF ρ=some (.lst (zrN.map D.int)):=by kernel_rfl
def srF:FE:=zaU (szF (zab (vC (.int 20)) (zab (b2 za6 (b2 zdo (vC (.int 10)) (vC (.int 6))) (vC (.int 1))) zai)))
theorem zrD (ρ:zaX):srF ρ=some (.lst (([20,1000001]:List Int).map D.int)):=by kernel_rfl
def skm:FE:=zaU (szF (zab (vC (.int 21)) (zab (vC (.int 21)) (zab (vC (.int 7)) zai))))
theorem zrL (ρ:zaX):skm ρ=some (.lst (([21,21,7]:List Int).map D.int)):=by kernel_rfl
theorem zu3 {ds:List Int} {a b c d e f:Int} (hl:ds.length=6) (h0:ds[0]?=some a) (h1:ds[1]?=some b) (h2:ds[2]?=some c) (h3:ds[3]?=some d) (h4:ds[4]?=some e) (h5:ds[5]?=some f):ds=[a,b,c,d,e,f]:=by
 match ds,hl with
 | [x,y,z,w,v,u],_ =>
  cases h0;cases h1;cases h2;cases h3;cases h4;cases h5;rfl
theorem zoK {x y z u w:D}:ziV (.tup [x,y,z]) (.tup [u,w])=some (.tup [x,y,z,u,w]):=by
 show (if [x,y,z]≠[]/\[u,w]≠[]/\[x,y,z].length+[u,w].length<=sizeLine then some (D.tup ([x,y,z]++[u,w])) else none)=_
 rw [qV ⟨by simp,by simp,by simp [sizeLine]⟩]
 rfl
theorem zuw {g:D->Option D} {f:FE} {ρ:zaX} {x z:D} (h1:f ρ=some x) (h2:g x=some z):b1 g f ρ=some z:=by
 unfold b1;rw [h1,qa];exact h2
structure SkInv (sn:List Str) (p i:Nat) (ks:List StockT):Prop where
 len:ks.length<=i
 good:∀ k∈ks,GoodK sn k
 nms:∀ k∈ks,∃ j,j < i/\k.nm=nm (p+2) j
 nd:(ks.map (·.nm)).Nodup
abbrev skE (ns:List Int) (p:Nat) (ss:List StepT) (ks:List StockT) (k a b c d e f g h x y z w:Option Slot):zaX:=[oS (.scr ns),oS (.int p),oS (.lst (ss.map za9)),some (.own (ks.map zby)),k,a,b,c,d,e,f,g,h,x,y,z,w]
def ztN (F:FQ):FE:=zcK (szF (zab (cF F (zab (b2 za6 (vSh 1) (vC (.int 2))) (zab (vSh 4) zai))) (zab (b2 zce (vSh 8) (b2 za6 (vSh 7) (vC (.int 1)))) (zab (vSh 7) zai))))
def ztO:FE:=b2 ziV (vSh 16) (zcK (szF (zab (b2 ixD (vSh 12) (vC (.int 0))) (zab (b1 zpT (b2 ixD (vSh 12) (vC (.int 1)))) zai))))
def zoQ:FS:=zax (zbk 5 skF) (zax (zlF (zg3 6 (zao (zaE 6) (zao (zaE 7) (zao (zaE 8) (zao (zaE 9) (zao (zaE 10) (zao (zaE 11) zbr))))))) (cF zah (zab (vSh 0) (zab (b2 za6 (vC (.int 52)) (vSh 4)) (zab (vSh 5) zai))))) (zax (zbk 7 (b2 zce (vSh 7) (b2 ixD srF (vSh 6)))) (zax (znK 12 fun _=>some 2) (zax (zdY (itE (vSh 2)) (zbJ 2 (zao (zaE 13) (zao (zaE 14) zbr))) znp) (zax (zbk 16 (ztN zas)) (zgf 12 (zda 3 ztO)))))))
theorem zpO {ns:List Int} {p:Nat} {ss:List StepT} {ks:List StockT} {k:Nat} {a b c d e f g h x y z w:Option Slot} (hp:p < 60) (hk:k<=6) (hl:ss.length<=40) (nd:(ss.map (·.nm)).Nodup) (v:SkInv (ss.map (·.nm)) p k ks) :
  ∃ ks' a' b' c' d' e' f' g' h' x' y' z' w',zoQ (skE ns p ss ks (oS (.int (0+(k:Int)))) a b c d e f g h x y z w)=some (.nx,skE ns p ss ks' (oS (.int (0+(k:Int)))) a' b' c' d' e' f' g' h' x' y' z' w')/\SkInv (ss.map (·.nm)) p (k+1) ks':=by
 have hk0:(0:Int)+(k:Int)=(k:Int):=by omega
 rw [hk0]
 obtain ⟨ds,e1,hd,hq⟩:=zbI ns (52+k) (by omega) zrN (by decide +kernel) (by decide)
 obtain ⟨d0,q0,p0,p0'⟩:=hq 0 2 rfl
 obtain ⟨d1,q1,p1,p1'⟩:=hq 1 1000001 rfl
 obtain ⟨d2,q2,p2,p2'⟩:=hq 2 1000001 rfl
 obtain ⟨d3,q3,p3,p3'⟩:=hq 3 1099511627776 rfl
 obtain ⟨d4,q4,p4,p4'⟩:=hq 4 1099511627776 rfl
 obtain ⟨d5,q5,p5,p5'⟩:=hq 5 1000000 rfl
 have hds:ds=[d0,d1,d2,d3,d4,d5]:=zu3 hd q0 q1 q2 q3 q4 q5
 subst hds
 have h01:d0=0\/d0=1:=by omega
 obtain ⟨mx,hmx,mx1,mx2⟩:∃ mx:Int,ixD (.lst (([20,1000001]:List Int).map D.int)) (.int d0)=some (.int mx)/\1<=mx/\mx<=1000001:=by
  rcases h01 with rfl | rfl
  ·exact ⟨20,rfl,by decide,by decide⟩
  ·exact ⟨1000001,rfl,by decide,by decide⟩
 have g1:0<=d1 % mx:=qU _ (by omega)
 have g2:d1 % mx < mx:=qS _ (by omega)
 have g3:0<=d2 % (d1 % mx+1):=qU _ (by omega)
 have g4:d2 % (d1 % mx+1) < d1 % mx+1:=qS _ (by omega)
 have n1:=zhx (p:=p+2) (k:=k) (by omega) (by omega)
 have e2:zas [.int ((p:Int)+2),.int (k:Int)]=some (.str (nm (p+2) k)):=by
  rw [← n1.1];congr 2
 obtain ⟨ρ1,l1,ta,pa,x1,y1,z1,l2,l3,l4⟩:=zrb (S:=oS (.scr ns)) (P:=oS (.int p)) (F:=some (.own (ks.map zby))) (K:=oS (.int (k:Int))) (B:=oS (.lst (zrN.map D.int))) (r:=w) (ss:=ss) (sz:=d0) (rm:=d1 % mx) (fi:=d2) (tk:=d3) (pt:=d4) (raw:=d5) (x:=x) (y:=y) (z:=z) hl nd h01
 have lenS:(ss.map (·.nm)).length=ss.length:=qe _
 rw [← lenS] at l3 l4
 have hvl:=v.len
 refine ⟨ks++[⟨nm (p+2) k,d2 % (d1 % mx+1),d1 % mx,ta,pa.reverse⟩],oS (.lst (zrN.map D.int)),oS (.int d0),oS (.int (d1 % mx)),oS (.int d2),oS (.int d3),oS (.int d4),oS (.int d5),oS (.lst [.lst (ta.map dW),.lst (pa.map dW)]),x1,y1,z1,oS (.tup [.str (nm (p+2) k),.int (d2 % (d1 % mx+1)),.int (d1 % mx)]),?_,by rw [qi,qT];omega,fun u hu=>?_,fun u hu=>?_,?_⟩
 ·refine (zaS (zrM _)).trans ?_
  refine (zjI (ρ':=skE ns p ss ks (oS (.int (k:Int))) (oS (.lst (zrN.map D.int))) (oS (.int d0)) (oS (.int d1)) (oS (.int d2)) (oS (.int d3)) (oS (.int d4)) (oS (.int d5)) h x y z w) (za8 (zag rfl (zag (d:=.int ((52+k:Nat):Int)) (zaw rfl rfl ?_) (zag rfl zat))) e1) rfl).trans ?_
  ·show some (D.int (52+(k:Int)))=_
   congr 2
  refine (zaS (d:=.int (d1 % mx)) (zaw (x:=.int d1) (y:=.int mx) rfl (zaw (zrD _) rfl hmx) (zbU (by omega)))).trans ?_
  refine (zo1 (m:=2) rfl).trans ?_
  refine (zcr ((zdh (xs:=(ss.map za9).mapIdx fun i d=>D.tup [.int i,d]) rfl).trans (l1.trans (by rw [l2])))).trans ?_
  refine (zaS (zh8 (za8 (zag (zaw (x:=.int (p:Int)) (y:=.int 2) rfl rfl rfl) (zag rfl zat)) e2) (zaw (x:=.int d2) (y:=.int (d1 % mx+1)) rfl (zaw (x:=.int (d1 % mx)) (y:=.int 1) rfl rfl rfl) (zbU (by omega))) rfl)).trans ?_
  refine (zkS (dss:=[ta.map dW,pa.map dW]) rfl).trans ?_
  exact zcf (g:=zby) (xs:=ks) (x:=(⟨nm (p+2) k,d2 % (d1 % mx+1),d1 % mx,ta,pa.reverse⟩:StockT)) rfl (zaw (y:=.tup [.lst (ta.map dW),.lst (pa.reverse.map dW)]) rfl (zel rfl (zuw (x:=.lst (pa.map dW)) rfl (by rw [List.map_reverse];rfl))) zoK) (by omega)
 ·rcases List.mem_append.mp hu with z | z
  ·exact v.good u z
  ·rw [List.mem_singleton.mp z]
   exact ⟨n1.2.1,⟨g3,by show d2 % (d1 % mx+1)<=d1 % mx;omega⟩,⟨g1,by show d1 % mx<=1000000;omega⟩,l3.good,l4.good.rev⟩
 ·rcases List.mem_append.mp hu with z | z
  ·obtain ⟨j,hj,e⟩:=v.nms u z
   exact ⟨j,Nat.lt_succ_of_lt hj,e⟩
  ·rw [List.mem_singleton.mp z];exact ⟨k,Nat.lt_succ_self k,rfl⟩
 ·rw [List.map_append]
  refine List.nodup_append.mpr ⟨v.nd,by simp,fun y hy z hz e=>?_⟩
  obtain ⟨u,hu,rfl⟩:=List.mem_map.mp hy
  obtain ⟨j,hj,ej⟩:=v.nms u hu
  have hz':z=nm (p+2) k:=by simpa using hz
  rw [ej,hz'] at e
  exact absurd (zjg (by omega) (by omega) (by omega) e) (by omega)
theorem zlp (ns:List Int) (p:Nat) (ss:List StepT) (hp:p < 60) (hl:ss.length<=40) (nd:(ss.map (·.nm)).Nodup) :
  ∃ ks:List StockT,zbv [.scr ns,.int (p:Int),.lst (ss.map za9)]=some (.lst (ks.map zby))/\ks.length<=6/\(∀ k∈ks,GoodK (ss.map (·.nm)) k)/\(ks.map (·.nm)).Nodup:=by
 obtain ⟨ds,e1,hd,hq⟩:=zbI ns 2 (by omega) [21,21,7] (by decide) (by decide)
 obtain ⟨d1,q1,p1,p1'⟩:=hq 2 7 rfl
 obtain ⟨m,rfl⟩:∃ m:Nat,d1=(m:Int):=⟨d1.toNat,by omega⟩
 obtain ⟨ρ',h1,ks,k,a,b,c,d,e,f,g,h,x,y,z,w,h2,v⟩:=zcq (gg:=zaE 4) (body:=zoQ) (xs:=(List.range m).map fun i:Nat=>D.int (0+(i:Int))) (ρ:=skE ns p ss [] none none none none none none none none none none none none none)
  (fun i ρ=>∃ ks k a b c d e f g h x y z w,ρ=skE ns p ss ks k a b c d e f g h x y z w/\SkInv (ss.map (·.nm)) p i ks) ⟨[],none,none,none,none,none,none,none,none,none,none,none,none,none,rfl,qu _,fun l hl=>(by cases hl),fun l hl=>(by cases hl),List.nodup_nil⟩ (fun i x ρ hx hI=>by
   obtain ⟨ks,k,a,b,c,d,e,f,g,h,x,y,z,w,rfl,v⟩:=hI
   rw [qj] at hx
   obtain ⟨j,hj,rfl⟩:=oMd hx
   have hi:i < m:=by simpa using (List.getElem?_eq_some_iff.mp hj).1
   have hji:i=j:=by
    rw [List.getElem?_range hi] at hj
    exact qE hj
   subst hji
   obtain ⟨ks',a',b',c',d',e',f',g',h',x',y',z',w',t1,t2⟩:=zpO (ns:=ns) (p:=p) (ss:=ss) (ks:=ks) (k:=i) (a:=a) (b:=b) (c:=c) (d:=d) (e:=e) (f:=f) (g:=g) (h:=h) (x:=x) (y:=y) (z:=z) (w:=w) hp (by omega) hl nd v
   exact ⟨_,_,rfl,t1,ks',_,_,_,_,_,_,_,_,_,_,_,_,_,rfl,t2⟩)
 rw [qe,qR] at v
 have vl:=v.len
 refine ⟨ks,?_,by omega,v.good,v.nd⟩
 have hz:=zdZ (j:=(m:Int)) (by omega)
 rw [Int.toNat_natCast] at hz
 unfold zbv zd9
 exact zbg (ρ':=(skE ns p ss ks k a b c d e f g h x y z w).set 3 (oS (.lst (ks.map zby)))) [oS (.scr ns),oS (.int p),oS (.lst (ss.map za9)),none,none,none,none,none,none,none,none,none,none,none,none,none,none] rfl (zdI.trans ((zcr ((zdh (zeV (zag (zit (n:=2) (za8 (zag rfl (zag (d:=.int ((2:Nat):Int)) rfl (zag (zrL _) zat))) e1) q1) zat) hz)).trans (h1.trans (by rw [h2])))).trans ((zdr rfl).trans (zbe (f:=vSh 3) rfl))))
end Law
end
section
namespace Law
open PySem L2
def zbV (bs:List BenchT) (ss:List StepT) (js:List JobT) (us:List SetT) (ls:List LinkT) (ks:List StockT) (h:Int):List D:=[.lst (bs.map za1),.lst (ss.map za9),.lst (js.map zcg),.lst (us.map zd4),.lst (ls.map zb3),.lst (ks.map zby),.int h]
def zuN:List Int:=[60,8,3,40,3,1000000]
def shF:FE:=zaU (szF (zab (vC (.int 60)) (zab (vC (.int 8)) (zab (vC (.int 3)) (zab (vC (.int 40)) (zab (vC (.int 3)) (zab (b2 zdo (vC (.int 10)) (vC (.int 6))) zai)))))))
theorem zrO (ρ:zaX):shF ρ=some (.lst (zuN.map D.int)):=by kernel_rfl
def hzF:FE:=zaU (szF (zab (vC (.int 12)) (zab (vC (.int 400)) (zab (b2 zdo (vC (.int 10)) (vC (.int 6))) zai))))
theorem zsY (ρ:zaX):hzF ρ=some (.lst (([12,400,1000000]:List Int).map D.int)):=by kernel_rfl
def cnF:FE:=zaU (szF (zab (vC (.int 3)) (zab (vC (.int 8)) (zab (vC (.int 40)) zai))))
theorem zte (ρ:zaX):cnF ρ=some (.lst (([3,8,40]:List Int).map D.int)):=by kernel_rfl
theorem zqt {f1 f2 f3 f4 f5 f6 f7:FE} {ρ:zaX} {x1 x2 x3 x4 x5 x6 x7:D} (h1:f1 ρ=some x1) (h2:f2 ρ=some x2) (h3:f3 ρ=some x3) (h4:f4 ρ=some x4) (h5:f5 ρ=some x5) (h6:f6 ρ=some x6) (h7:f7 ρ=some x7):zaU (szF (zab f1 (zab f2 (zab f3 (zab f4 (zab f5 (zab f6 (zab f7 zai)))))))) ρ=some (.lst [x1,x2,x3,x4,x5,x6,x7]):=by
 simp only [zaU,szF,zab,zai,h1,h2,h3,h4,h5,h6,h7,qa,qd,qh,qk,Nat.zero_add,sz7,if_true]
theorem zn7 (ns:List Int):∃ bs ss js us ls ks h,zbR [.scr ns]=some (.lst (zbV bs ss js us ls ks h))/\Good bs ss js us ls ks h/\(js.flatMap (·.ms)).length<=300/\js.length<=9/\us.length<=20/\ls.length<=20:=by
 obtain ⟨ds,e1,hd,hq⟩:=zbI ns 0 (by omega) zuN (by decide) (by decide)
 obtain ⟨d0,q0,p0,p0'⟩:=hq 0 60 rfl
 obtain ⟨d1,q1,p1,p1'⟩:=hq 1 8 rfl
 obtain ⟨d2,q2,p2,p2'⟩:=hq 2 3 rfl
 obtain ⟨d3,q3,p3,p3'⟩:=hq 3 40 rfl
 obtain ⟨d4,q4,p4,p4'⟩:=hq 4 3 rfl
 obtain ⟨d5,q5,p5,p5'⟩:=hq 5 1000000 rfl
 obtain ⟨p,rfl⟩:∃ m:Nat,d0=(m:Int):=⟨d0.toNat,by omega⟩
 obtain ⟨m,rfl⟩:∃ m:Nat,d1=(m:Int):=⟨d1.toNat,by omega⟩
 have hds:ds=[(p:Int),(m:Int),d2,d3,d4,d5]:=zu3 hd q0 q1 q2 q3 q4 q5
 subst hds
 obtain ⟨mx,hmx,mx1,mx2⟩:∃ mx:Int,ixD (.lst (([12,400,1000000]:List Int).map D.int)) (.int d4)=some (.int mx)/\1<=mx/\mx<=1000000:=by
  have:d4=0\/d4=1\/d4=2:=by omega
  rcases this with rfl | rfl | rfl
  ·exact ⟨12,rfl,by decide,by decide⟩
  ·exact ⟨400,rfl,by decide,by decide⟩
  ·exact ⟨1000000,rfl,by decide,by decide⟩
 obtain ⟨cx,hcx,cx1,cx2⟩:∃ mx:Int,ixD (.lst (([3,8,40]:List Int).map D.int)) (.int d2)=some (.int mx)/\1<=mx/\mx<=40:=by
  have:d2=0\/d2=1\/d2=2:=by omega
  rcases this with rfl | rfl | rfl
  ·exact ⟨3,rfl,by decide,by decide⟩
  ·exact ⟨8,rfl,by decide,by decide⟩
  ·exact ⟨40,rfl,by decide,by decide⟩
 have g1:0<=d5 % mx:=qU _ (by omega)
 have g2:d5 % mx < mx:=qS _ (by omega)
 have g3:0<=d3 % cx:=qU _ (by omega)
 have g4:d3 % cx < cx:=qS _ (by omega)
 have hh:1<=1+d5 % mx/\1+d5 % mx<=1000000:=by omega
 generalize hH:1+d5 % mx=h at hh
 obtain ⟨n,hn⟩:∃ n:Nat,1+d3 % cx=(n:Int):=⟨(1+d3 % cx).toNat,by omega⟩
 obtain ⟨bs,b1,b2',b3⟩:=zj8 ns p (1+m) h (by omega) (by omega)
 have hbn:∀ (i:Nat) b,bs[i]?=some b->b.nm=nm p i:=fun i b hb=>(b3 i b hb).nm
 have hB:1<=bs.length/\bs.length<=8:=by omega
 obtain ⟨ss,s1,s2,s3⟩:=zmq ns p n bs h (by omega) (by omega) hh.1 hB hbn
 have hS:1<=ss.length/\ss.length<=40:=by omega
 have gB:∀ x∈bs,GoodB h x:=fun x hx=>by
  obtain ⟨i,hi⟩:=List.getElem?_of_mem hx
  have:=b3 i x hi
  have hi':=(List.getElem?_eq_some_iff.mp hi).1
  exact ⟨by rw [this.nm];exact (zhx (by omega) (by omega)).2.1,this.len,this.good.iv,this.good.gap⟩
 have gS:∀ x∈ss,GoodS (bs.map (·.nm)) h x:=fun x hx=>by
  obtain ⟨i,hi⟩:=List.getElem?_of_mem hx
  exact (s3 i x hi).good
 have bnd:(bs.map (·.nm)).Nodup:=zew (n:=8) (g:=fun i=>nm p i) hB.2 (fun i hi j hj e=>zjg (by omega) (by omega) (by omega) e) hbn
 have snd:(ss.map (·.nm)).Nodup:=zew (n:=40) (g:=fun i=>nm p (20*(p % 2)+i)) hS.2 (fun i hi j hj e=>by have:=zjg (by omega) (by omega) (by omega) e;omega) fun i s hs=>(s3 i s hs).nm
 have hbN:∀ x∈bs.map (·.nm),zaY x=true:=fun x hx=>by
  obtain ⟨b,hb,rfl⟩:=List.mem_map.mp hx
  exact (gB b hb).nm
 have hsN:∀ x∈ss.map (·.nm),zaY x=true:=fun x hx=>by
  obtain ⟨b,hb,rfl⟩:=List.mem_map.mp hx
  exact (gS b hb).nm
 obtain ⟨js,j1,j2,j3,j4,j5,j6⟩:=zoa ns p ss h (by omega) hh hS.2 hsN snd
 obtain ⟨us,u1,u2,u3,u4⟩:=zlq ns bs p h (by omega) hh.1 hB.1 hbN
 obtain ⟨ls,l1,l2,l3,l4⟩:=zmw ns ss h hh.1 hS.1 hsN
 obtain ⟨ks,k1,k2,k3,k4⟩:=zlp ns p ss (by omega) hS.2 snd
 refine ⟨bs,ss,js,us,ls,ks,h,?_,⟨hh,hB,gB,bnd,hS,gS,snd,by omega,j3,j4,j5,by omega,u3,u4,by omega,l3,l4,k2,k3,k4⟩,by omega,j2,u2,l2⟩
 have eb:zbh [.scr ns,.int (p:Int),.int (1+(m:Int)),.int h]=some (.lst (bs.map za1)):=by
  rw [← b1];congr 2
 unfold zbR zfl
 refine zbg (ρ':=[oS (.scr ns),oS (.int p),oS (.int m),oS (.int d2),oS (.int d3),oS (.int d4),oS (.int d5),oS (.int h),oS (.lst (bs.map za1)),oS (.lst (ss.map za9)),oS (.lst (js.map zcg)),oS (.lst (us.map zd4)),oS (.lst (ls.map zb3)),oS (.lst (ks.map zby))]) [oS (.scr ns),none,none,none,none,none,none,none,none,none,none,none,none,none] rfl ?_
 refine (zjI (ρ':=[oS (.scr ns),oS (.int p),oS (.int m),oS (.int d2),oS (.int d3),oS (.int d4),oS (.int d5),none,none,none,none,none,none,none]) (za8 (zag rfl (zag (d:=.int ((0:Nat):Int)) rfl (zag (zrO _) zat))) e1) rfl).trans ?_
 refine (zaS (d:=.int h) (zaw (x:=.int 1) (y:=.int (d5 % mx)) rfl (zaw (x:=.int d5) (y:=.int mx) rfl (zaw (zsY _) rfl hmx) (zbU (by omega))) (by rw [← hH];rfl))).trans ?_
 refine (zaS (za8 (zag rfl (zag rfl (zag (zaw (x:=.int 1) (y:=.int (m:Int)) rfl rfl rfl) (zag rfl zat)))) eb)).trans ?_
 refine (zaS (za8 (zag rfl (zag rfl (zag (d:=.int (n:Int)) (zaw (x:=.int 1) (y:=.int (d3 % cx)) rfl (zaw (x:=.int d3) (y:=.int cx) rfl (zaw (zte _) rfl hcx) (zbU (by omega))) (by rw [← hn];rfl)) (zag rfl (zag rfl zat))))) s1)).trans ?_
 refine (zaS (za8 (zag rfl (zag rfl (zag rfl (zag rfl zat)))) j1)).trans ?_
 refine (zaS (za8 (zag rfl (zag rfl (zag rfl (zag rfl zat)))) u1)).trans ?_
 refine (zaS (za8 (zag rfl (zag rfl (zag rfl zat))) l1)).trans ?_
 refine (zaS (za8 (zag rfl (zag rfl (zag rfl zat))) k1)).trans ?_
 exact zbe (zqt rfl rfl rfl rfl rfl rfl rfl)
end Law
end
section
namespace Law
open PySem L2
def tx (i:Int):Str:=Str.ofString (toString i)
theorem zcc {i:Int} (h0:0<=i) (h1:i<=1000000):(tx i).length<=8:=by
 obtain ⟨m,rfl⟩:=Int.eq_ofNat_of_zero_le h0
 have e0:(tx (m:Int)).cps.toList=(Nat.toDigits 10 m).map Char.toNat:=PySem.W.KIN.signs_num m
 have e:(tx (m:Int)).length=(Nat.toDigits 10 m).length:=by
  have:=congrArg List.length e0
  simpa [Str.length] using this
 rw [e]
 exact PyProof.Rows.digits10_le (by decide) (by omega)
theorem zoO {i:Int} (h0:0<=i) (h1:i<=1000000):i.natAbs.log2 < 1920:=by
 obtain ⟨m,rfl⟩:=Int.eq_ofNat_of_zero_le h0
 show m.log2 < 1920
 rcases Nat.eq_zero_or_pos m with z | z
 ·subst z;decide
 ·rw [Nat.log2_lt (by omega)]
  exact qC (show m < 10000000 by omega) (by decide +kernel)
theorem zuc {g:D->FQ} {f:FE} {fr:FA} {ρ:zaX} {d:D} {ds:List D} {z:D} (h0:f ρ=some d) (h1:fr ρ=some ds) (h2:g d ds=some z):mF g f fr ρ=some z:=by
 unfold mF;rw [h0,qa,h1];exact h2
theorem zdm {f:FE} {ρ:zaX} {i:Int} (h:f ρ=some (.int i)) (h0:0<=i) (h1:i<=1000000):cF zeN (zab f zai) ρ=some (.str (tx i)):=za8 (zag h zat) (qV (zoO h0 h1))
theorem zoJ {x y:Str} (h:x.length+y.length<=10000):za6 (.str x) (.str y)=some (.str (x++y)):=qV (by unfold sizeLine;omega)
theorem zrd {x y:List Str} (h:x.length+y.length<=1000):za6 (.lst (x.map D.str)) (.lst (y.map D.str))=some (.lst ((x++y).map D.str)):=by
 rw [List.map_append]
 exact qV (by rw [qe,qe];unfold sizeLine;omega)
theorem zdC {f g:FE} {ρ:zaX} {x y:Str} (h1:f ρ=some (.str x)) (h2:g ρ=some (.str y)) (h:x.length+y.length<=10000):b2 za6 f g ρ=some (.str (x++y)):=zaw h1 h2 (zoJ h)
theorem zdj {f g:FE} {ρ:zaX} {x y:List Str} (h1:f ρ=some (.lst (x.map D.str))) (h2:g ρ=some (.lst (y.map D.str))) (h:x.length+y.length<=1000):b2 za6 f g ρ=some (.lst ((x++y).map D.str)):=zaw h1 h2 (zrd h)
theorem zkq:∀ ys:List Str,zjO (ys.map D.str)=some ys
 | []=>rfl
 | y::r=>by
  show (zjO (r.map D.str)).map (y::·)=_
  rw [zkq r]
  rfl
theorem zj9 {sep:Str} {ys:List Str} {B:Nat} {f:FE} {ρ:zaX} (h:f ρ=some (.lst (ys.map D.str))) (hB:∀ y∈ys,y.length<=B) (hb:B<=20000) (hs:sep.length<=10) (hl:ys.length<=200):mF zdl (vC (.str sep)) (zab f zai) ρ=some (.str (Txt.join sep ys)):=by
 refine zuc rfl (zag h zat) ?_
 show ((zjO (ys.map D.str)).bind fun ys=>if (ys.map (·.length)).sum+ys.length*sep.length<=16777216 then some (D.str (Txt.join sep ys)) else none)=_
 have h1:=StrLaws.sumLen_le (B:=B) ys hB
 have h2:ys.length*B<=200*20000:=Nat.mul_le_mul hl hb
 have h3:ys.length*sep.length<=200*10:=Nat.mul_le_mul hl hs
 rw [zkq,qa,qV (by omega)]
theorem zkP (sep:Str) (B:Nat):∀ ys:List Str,(∀ y∈ys,y.length<=B)->(Str.join sep ys).length<=ys.length*(B+sep.length)
 | [],_=>by show 0<=_;omega
 | [x],h=>by
  show x.length<=_
  have:=h x qf
  simp only [qh,qk,Nat.zero_add,Nat.one_mul]
  omega
 | x::y::r,h=>by
  have ih:=zkP sep B (y::r) fun z hz=>h z (qg _ hz)
  have hx:=h x qf
  show (x++sep++Str.join sep (y::r)).length<=_
  rw [Str.length_append,Str.length_append,qh,Nat.add_mul,Nat.one_mul]
  omega
theorem zeb:(" ":Str).length=1:=by decide +kernel
theorem zkx {ys:List Str} (h:∀ y∈ys,y.length<=60) (hl:ys.length<=100):(Txt.join " " ys).length<=10000:=by
 show (Builtin.Str.glued " " ys).length<=_
 rw [StrLaws.glued_eq_join]
 have:=zkP " " 60 ys h
 rw [zeb] at this
 have h2:ys.length*(60+1)<=100*61:=Nat.mul_le_mul hl (qu _)
 omega
theorem zpl:∀ {ds:List D} {ys:List Str} {acc:Str},ds.map zoN=ys.map some->acc.length+(ys.map (·.length)).sum<=10000->zpm acc ds=some (ys.foldl (·++·) acc)
 | [],[],acc,_,h=>by
  show (if acc.length<=sizeLine then some acc else none)=_
  rw [qV (by unfold sizeLine;omega)]
  rfl
 | [],_::_,_,e,_=>by cases e
 | _::_,[],_,e,_=>by cases e
 | d::ds,y::ys,acc,e,h=>by
  rw [ql,ql] at e
  obtain ⟨e1,e2⟩:=List.cons.inj e
  rw [ql,List.sum_cons] at h
  have hl:(acc++y).length=acc.length+y.length:=Str.length_append _ _
  show ((zoN d).bind fun y=>if (acc++y).length<=sizeLine then zpm (acc++y) ds else none)=_
  rw [e1,qa,qV (by rw [hl];unfold sizeLine;omega),List.foldl_cons]
  exact zpl e2 (by rw [hl];omega)
theorem zcM {y:Str} (h:y.length<=1000):zoN (.str y)=some y:=qV (by unfold sizeLine;omega)
theorem zfM {i:Int} (h0:0<=i) (h1:i<=1000000):zoN (.int i)=some (tx i):=qV (zoO h0 h1)
theorem zmP {fr:FA} {ρ:zaX} {ds:List D} {y:Str} {ys:List Str} (h:fr ρ=some ds) (e:ds.map zoN=(y::ys).map some) (hs:((y::ys).map (·.length)).sum<=10000):fsF fr ρ=some (.str (ys.foldl (·++·) y)):=by
 unfold fsF
 rw [h,qa,zpl e (by rw [show (Str.empty).length=0 by decide];omega),List.foldl_cons,Str.empty_append]
 rfl
theorem zk3 {gg:FG} {fe:FE} {n:Nat} {α:Type} {dx g:α->D}:∀ {xs:List α} {ρ:zaX},ρ.length=n->(∀ x∈xs,∀ ρ:zaX,ρ.length=n->∃ ρ1,gg (dx x) ρ=some ρ1/\ρ1.length=n/\fe ρ1=some (g x))->zhb gg tT fe (xs.map dx) ρ=some (xs.map g)
 | [],_,_,_=>rfl
 | x::xs,ρ,hn,h=>by
  obtain ⟨ρ1,h1,h2,h3⟩:=h x qf ρ hn
  have ih:=zk3 (xs:=xs) h2 fun y hy=>h y (qg _ hy)
  simp only [ql,zhb,h1,qa,tT,if_true,h3,ih,qd]
theorem zdL {gg:FG} {fi:FA} {fe:FE} {fv:List (Option Nat)} {ρ ρ0:zaX} {n:Nat} {α:Type} {dx g:α->D} {xs:List α} (h1:fi ρ=some (xs.map dx)) (h2:xs.length<=1000) (h3:zfC fv ρ=ρ0) (h4:ρ0.length=n) (h:∀ x∈xs,∀ ρ:zaX,ρ.length=n->∃ ρ1,gg (dx x) ρ=some ρ1/\ρ1.length=n/\fe ρ1=some (g x)) :
  zaU (za7 fi gg tT fe fv) ρ=some (.lst (xs.map g)):=by
 simp only [zaU,za7,h1,qa,qV (show (xs.map dx).length<=sizeLine by rw [qe];exact szN h2 (by decide)),h3,zk3 h4 h,qd]
theorem en2 {ρ:zaX} (h:ρ.length=2):∃ a b,ρ=[a,b]:=match ρ,h with | [a,b],_=>⟨a,b,rfl⟩
theorem en3 {ρ:zaX} (h:ρ.length=3):∃ a b c,ρ=[a,b,c]:=match ρ,h with | [a,b,c],_=>⟨a,b,c,rfl⟩
theorem en4 {ρ:zaX} (h:ρ.length=4):∃ a b c d,ρ=[a,b,c,d]:=match ρ,h with | [a,b,c,d],_=>⟨a,b,c,d,rfl⟩
theorem en5 {ρ:zaX} (h:ρ.length=5):∃ a b c d e,ρ=[a,b,c,d,e]:=match ρ,h with | [a,b,c,d,e],_=>⟨a,b,c,d,e,rfl⟩
def pI (p:Int×Int):Str:=tx p.1++"-"++tx p.2
def pW (s:Str) (w:Str×Int):Str:=w.1++s++tx w.2
abbrev g2:FG:=zbJ 2 (zao (zaE 0) (zao (zaE 1) zbr))
theorem zji:("-":Str).length=1:=by decide +kernel
theorem zqz:("+":Str).length=1:=by decide +kernel
theorem zqy:("/":Str).length=1:=by decide +kernel
theorem zsk {p:Int×Int} (h:0<=p.1/\p.1<=1000000/\0<=p.2/\p.2<=1000000):(pI p).length<=60:=by
 have a1:=zcc h.1 h.2.1
 have a2:=zcc h.2.2.1 h.2.2.2
 unfold pI
 rw [Str.length_append,Str.length_append,zji]
 omega
theorem zmi {s:Str} {w:Str×Int} (hs:s.length=1) (h:w.1.length<=8/\0<=w.2/\w.2<=1000000):(pW s w).length<=60:=by
 have a2:=zcc h.2.1 h.2.2
 unfold pW
 rw [Str.length_append,Str.length_append,hs]
 omega
section
variable {fi:FA} {ρ:zaX}
theorem ztj {br:List (Int×Int)} (h:fi ρ=some (br.map dIv)) (hl:br.length<=1000) (hb:∀ p∈br,0<=p.1/\p.1<=1000000/\0<=p.2/\p.2<=1000000):zaU (za7 fi g2 tT (b2 za6 (b2 za6 (cF zeN (zab (vSh 0) zai)) (vC (.str "-"))) (cF zeN (zab (vSh 1) zai))) [none,none]) ρ=some (.lst ((br.map pI).map D.str)):=by
 rw [qm]
 refine zdL (n:=2) h hl rfl rfl fun p hp ρ hr=>?_
 obtain ⟨a,b,rfl⟩:=en2 hr
 obtain ⟨q1,q2,q3,q4⟩:=hb p hp
 have a1:=zcc q1 q2
 have a2:=zcc q3 q4
 exact ⟨[oS (.int p.1),oS (.int p.2)],rfl,rfl,zdC (zdC (zdm rfl q1 q2) rfl (by rw [zji];omega)) (zdm rfl q3 q4) (by rw [Str.length_append,zji];omega)⟩
theorem zus {br:List (Int×Int)} (h:fi ρ=some (br.map dIv)) (hl:br.length<=1000) (hb:∀ p∈br,0<=p.1/\p.1<=1000000/\0<=p.2/\p.2<=1000000):zaU (za7 fi g2 tT (fsF (zab (vSh 0) (zab (vC (.str "-")) (zab (vSh 1) zai)))) [none,none]) ρ=some (.lst ((br.map pI).map D.str)):=by
 rw [qm]
 refine zdL (n:=2) h hl rfl rfl fun p hp ρ hr=>?_
 obtain ⟨a,b,rfl⟩:=en2 hr
 obtain ⟨q1,q2,q3,q4⟩:=hb p hp
 have a1:=zcc q1 q2
 have a2:=zcc q3 q4
 refine ⟨[oS (.int p.1),oS (.int p.2)],rfl,rfl,zmP (y:=tx p.1) (ys:=["-",tx p.2]) (zag rfl (zag rfl (zag rfl zat))) ?_ ?_⟩
 ·simp only [ql,qL,zfM q1 q2,zfM q3 q4,zcM (y:="-") (by rw [zji];omega)]
 ·simp only [ql,qL,List.sum_cons,List.sum_nil,zji];omega
theorem znj {s:Str} {ws:List (Str×Int)} (hs:s.length=1) (h:fi ρ=some (ws.map dW)) (hl:ws.length<=1000) (hb:∀ w∈ws,w.1.length<=8/\0<=w.2/\w.2<=1000000):zaU (za7 fi g2 tT (b2 za6 (b2 za6 (vSh 0) (vC (.str s))) (cF zeN (zab (vSh 1) zai))) [none,none]) ρ=some (.lst ((ws.map (pW s)).map D.str)):=by
 rw [qm]
 refine zdL (n:=2) h hl rfl rfl fun p hp ρ hr=>?_
 obtain ⟨a,b,rfl⟩:=en2 hr
 obtain ⟨q1,q3,q4⟩:=hb p hp
 have a2:=zcc q3 q4
 exact ⟨[oS (.str p.1),oS (.int p.2)],rfl,rfl,zdC (zdC rfl rfl (by rw [hs];omega)) (zdm rfl q3 q4) (by rw [Str.length_append,hs];omega)⟩
theorem zq4 {s:Str} {ws:List (Str×Int)} (hs:s.length=1) (h:fi ρ=some (ws.map dW)) (hl:ws.length<=1000) (hb:∀ w∈ws,w.1.length<=8/\0<=w.2/\w.2<=1000000):zaU (za7 fi g2 tT (fsF (zab (vSh 0) (zab (vC (.str s)) (zab (vSh 1) zai)))) [none,none]) ρ=some (.lst ((ws.map (pW s)).map D.str)):=by
 rw [qm]
 refine zdL (n:=2) h hl rfl rfl fun p hp ρ hr=>?_
 obtain ⟨a,b,rfl⟩:=en2 hr
 obtain ⟨q1,q3,q4⟩:=hb p hp
 have a2:=zcc q3 q4
 refine ⟨[oS (.str p.1),oS (.int p.2)],rfl,rfl,zmP (y:=p.1) (ys:=[s,tx p.2]) (zag rfl (zag rfl (zag rfl zat))) ?_ ?_⟩
 ·simp only [ql,qL,zfM q3 q4,zcM (y:=p.1) (by omega),zcM (y:=s) (by omega)]
 ·simp only [ql,qL,List.sum_cons,List.sum_nil,hs];omega
end
end Law
end
section
namespace Law
open PySem L2
def wB (b:BenchT):List Str:=([("bench":Str),b.nm]:List Str)++b.br.map pI
def wS (s:StepT):List Str:=([("step":Str),s.nm,s.kd]:List Str)++s.ws.map (pW "/")
def wJ (j:JobT):List Str:=([("job":Str),j.nm,tx j.ea,tx j.du,if j.od then ("in":Str) else ("of":Str)]:List Str)++j.ms
def wK (k:StockT):List Str:=([("stock":Str),k.nm,tx k.lo,tx k.hi]:List Str)++k.tk.map (pW "-")++k.pt.map (pW "+")
def rB (b:BenchT):Str:=Txt.join " " (wB b)
def rS (s:StepT):Str:=Txt.join " " (wS s)
def rJ (j:JobT):Str:=Txt.join " " (wJ j)
def rK (k:StockT):Str:=Txt.join " " (wK k)
def rU (u:SetT):Str:=("setup ":Str)++u.b++" "++u.p++" "++u.q++" "++tx u.n
def rL (l:LinkT):Str:=("link ":Str)++l.a++" "++l.b++" "++tx l.g
theorem zej:("bench":Str).length=5/\("step":Str).length=4/\("job":Str).length=3/\("in":Str).length=2/\("of":Str).length=2/\("stock":Str).length=5/\("setup ":Str).length=6/\("link ":Str).length=5/\("setup":Str).length=5/\("horizon ":Str).length=8:=by decide +kernel
section
variable {h:Int} {bn sn:List Str}
theorem GoodB.bd {b:BenchT} (g:GoodB h b) (hh:h<=1000000):∀ p∈b.br,0<=p.1/\p.1<=1000000/\0<=p.2/\p.2<=1000000:=fun p hp=>by
 have:=g.iv p hp
 omega
theorem GoodS.bd {s:StepT} (g:GoodS bn h s) (hb:∀ y∈bn,zaY y=true) (hh:h<=1000000):∀ w∈s.ws,w.1.length<=8/\0<=w.2/\w.2<=1000000:=fun w hw=>by
 have:=g.ws w hw
 exact ⟨(za2 (hb _ this.1)).2,by omega,by omega⟩
theorem GoodA.bd {am:List (Str×Int)} (g:GoodA sn am) (hb:∀ y∈sn,zaY y=true):∀ w∈am,w.1.length<=8/\0<=w.2/\w.2<=1000000:=fun w hw=>by
 have:=g.ws w hw
 exact ⟨(za2 (hb _ this.1)).2,by omega,by omega⟩
theorem zpw {b:BenchT} (g:GoodB h b) (hh:h<=1000000):(∀ y∈wB b,y.length<=60)/\(wB b).length<=100:=by
 have gl:=g.len
 have gn:=(za2 g.nm).2
 refine ⟨fun y hy=>?_,by unfold wB;rw [qi,qe];simp only [qh,qk];omega⟩
 unfold wB at hy
 rcases List.mem_append.mp hy with z | z
 ·have:y="bench"\/y=b.nm:=by simpa using z
  rcases this with rfl | rfl
  ·rw [zej.1];omega
  ·omega
 ·obtain ⟨p,hp,rfl⟩:=List.mem_map.mp z
  exact zsk (g.bd hh p hp)
theorem zps {s:StepT} (g:GoodS bn h s) (hb:∀ y∈bn,zaY y=true) (hh:h<=1000000):(∀ y∈wS s,y.length<=60)/\(wS s).length<=100:=by
 have gl:=g.l4
 have gn:=(za2 g.nm).2
 have gk:=(za2 g.kd).2
 refine ⟨fun y hy=>?_,by unfold wS;rw [qi,qe];simp only [qh,qk];omega⟩
 unfold wS at hy
 rcases List.mem_append.mp hy with z | z
 ·have:y="step"\/y=s.nm\/y=s.kd:=by simpa using z
  rcases this with rfl | rfl | rfl
  ·rw [zej.2.1];omega
  ·omega
  ·omega
 ·obtain ⟨p,hp,rfl⟩:=List.mem_map.mp z
  exact zmi zqy (g.bd hb hh p hp)
theorem zpu {j:JobT} (g:GoodJ sn h j) (hb:∀ y∈sn,zaY y=true) (hl:sn.length<=40) (hh:h<=1000000):(∀ y∈wJ j,y.length<=60)/\(wJ j).length<=100:=by
 have gl:=g.ln
 have gn:=(za2 g.nm).2
 have g1:=zcc g.ea.1 (Int.le_trans g.ea.2 hh)
 have g2:=zcc g.du.1 (Int.le_trans g.du.2 hh)
 refine ⟨fun y hy=>?_,by unfold wJ;rw [qi];simp only [qh,qk];omega⟩
 unfold wJ at hy
 rcases List.mem_append.mp hy with z | z
 ·have:y="job"\/y=j.nm\/y=tx j.ea\/y=tx j.du\/y=if j.od then ("in":Str) else ("of":Str):=by simpa using z
  rcases this with rfl | rfl | rfl | rfl | rfl
  ·rw [zej.2.2.1];omega
  ·omega
  ·omega
  ·omega
  ·split
   ·rw [zej.2.2.2.1];omega
   ·rw [zej.2.2.2.2.1];omega
 ·have:=(za2 (hb _ (g.ms y z))).2
  omega
theorem zpt {k:StockT} (g:GoodK sn k) (hb:∀ y∈sn,zaY y=true) (hl:sn.length<=40):(∀ y∈wK k,y.length<=60)/\(wK k).length<=100:=by
 have gl:=g.tk.ln
 have gm:=g.pt.ln
 have gn:=(za2 g.nm).2
 have g1:=zcc g.lo.1 (Int.le_trans g.lo.2 g.hi.2)
 have g2:=zcc g.hi.1 g.hi.2
 refine ⟨fun y hy=>?_,by unfold wK;rw [qi,qi,qe,qe];simp only [qh,qk];omega⟩
 unfold wK at hy
 rcases List.mem_append.mp hy with z | z
 ·rcases List.mem_append.mp z with z | z
  ·have:y="stock"\/y=k.nm\/y=tx k.lo\/y=tx k.hi:=by simpa using z
   rcases this with rfl | rfl | rfl | rfl
   ·rw [zej.2.2.2.2.2.1];omega
   ·omega
   ·omega
   ·omega
  ·obtain ⟨p,hp,rfl⟩:=List.mem_map.mp z
   exact zmi zji (g.tk.bd hb p hp)
 ·obtain ⟨p,hp,rfl⟩:=List.mem_map.mp z
  exact zmi zqz (g.pt.bd hb p hp)
theorem ztM:(" ":Str).length<=10:=by rw [zeb];omega
theorem zdg {fr:FA} {ρ:zaX} {ys:List Str} (h:fr ρ=some (ys.map D.str)) (hl:ys.length<=1000):zaU (szF fr) ρ=some (.lst (ys.map D.str)):=by
 unfold zaU szF
 rw [h,qa,qV (by rw [qe];exact szN hl (by decide))]
 rfl
theorem zc8 {ys:List Str} {f:FE} {ρ:zaX} (h:f ρ=some (.lst (ys.map D.str))) (hw:(∀ y∈ys,y.length<=60)/\ys.length<=100):mF zdl (vC (.str " ")) (zab f zai) ρ=some (.str (Txt.join " " ys)):=zj9 (B:=60) h hw.1 (by decide) ztM (by have:=hw.2;omega)
theorem ztU {b:BenchT} (g:GoodB h b) (hh:h<=1000000):zbt [.str b.nm,.lst (b.br.map dIv)]=some (.str (rB b)):=by
 have gl:=g.len
 unfold zbt zd8
 exact zbg (ρ':=[oS (.str b.nm),oS (.lst (b.br.map dIv))]) [oS (.str b.nm),oS (.lst (b.br.map dIv))] rfl (zbe (zc8 (ys:=wB b) (zdj (x:=["bench",b.nm]) (zdg rfl (by simp)) (zus (fi:=itF (vSh 1)) rfl (by omega) (g.bd hh)) (by rw [qe];simp only [qh,qk];omega)) (zpw g hh)))
theorem ztQ {s:StepT} (g:GoodS bn h s) (hb:∀ y∈bn,zaY y=true) (hh:h<=1000000):zbC [.str s.nm,.str s.kd,.lst (s.ws.map dW)]=some (.str (rS s)):=by
 have gl:=g.l4
 unfold zbC zeD
 exact zbg (ρ':=[oS (.str s.nm),oS (.str s.kd),oS (.lst (s.ws.map dW))]) [oS (.str s.nm),oS (.str s.kd),oS (.lst (s.ws.map dW))] rfl (zbe (zc8 (ys:=wS s) (zdj (x:=["step",s.nm,s.kd]) (zdg rfl (by simp)) (zq4 (s:="/") (fi:=itF (vSh 2)) zqy rfl (by omega) (g.bd hb hh)) (by rw [qe];simp only [qh,qk];omega)) (zps g hb hh)))
theorem ztS {j:JobT} (g:GoodJ sn h j) (hb:∀ y∈sn,zaY y=true) (hl:sn.length<=40) (hh:h<=1000000):zbP [.str j.nm,.int j.ea,.int j.du,.bl j.od,.lst (j.ms.map D.str)]=some (.str (rJ j)):=by
 have gl:=g.ln
 unfold zbP zfh
 refine zbg (ρ':=[oS (.str j.nm),oS (.int j.ea),oS (.int j.du),oS (.bl j.od),oS (.lst (j.ms.map D.str)),oS (.str (if j.od then ("in":Str) else ("of":Str)))]) [oS (.str j.nm),oS (.int j.ea),oS (.int j.du),oS (.bl j.od),oS (.lst (j.ms.map D.str)),none] rfl ((zaS (d:=.str (if j.od then ("in":Str) else ("of":Str))) ?_).trans (zbe (zc8 (ys:=wJ j) (zdj (x:=["job",j.nm,tx j.ea,tx j.du,if j.od then ("in":Str) else ("of":Str)]) (zdg (zag rfl (zag rfl (zag (zdm rfl g.ea.1 (Int.le_trans g.ea.2 hh)) (zag (zdm rfl g.du.1 (Int.le_trans g.du.2 hh)) (zag rfl zat))))) (by simp)) rfl (by simp only [qh,qk];omega)) (zpu g hb hl hh))))
 cases j.od <;> rfl
theorem zgi {i:Nat} {f:FE} {E:FS} {ρ:zaX} {xs ys:List Str} (h1:ρ[i]?=some (some (.own (xs.map D.str)))) (h2:f ρ=some (.lst (ys.map D.str))) (hl:xs.length+ys.length<=1000):zax (zi9 i f) E ρ=E (ρ.set i (some (.own ((xs++ys).map D.str)))):=by
 have e:zi9 i f ρ=some (.nx,ρ.set i (some (.own ((xs++ys).map D.str)))):=by
  unfold zi9
  rw [h1]
  simp only [h2,qa]
  rw [qV (by rw [qe,qe];exact szN hl (by decide)),List.map_append]
 unfold zax
 rw [e];rfl
theorem zj2 {i:Nat} {fr:FA} {E:FS} {ρ:zaX} {ys:List Str} (h:fr ρ=some (ys.map D.str)) (hl:ys.length<=1000):zax (zgq i (szF fr)) E ρ=E (ρ.set i (some (.own (ys.map D.str)))):=by
 have e:szF fr ρ=some (ys.map D.str):=by
  unfold szF
  rw [h,qa,qV (by rw [qe];exact szN hl (by decide))]
 unfold zax zgq
 rw [e];rfl
theorem ztR {k:StockT} (g:GoodK sn k) (hb:∀ y∈sn,zaY y=true) (hl:sn.length<=40):zbs [.str k.nm,.int k.lo,.int k.hi,.lst (k.tk.map dW),.lst (k.pt.map dW)]=some (.str (rK k)):=by
 have gl:=g.tk.ln
 have gm:=g.pt.ln
 unfold zbs zd7
 refine zbg (ρ':=[oS (.str k.nm),oS (.int k.lo),oS (.int k.hi),oS (.lst (k.tk.map dW)),oS (.lst (k.pt.map dW)),oS (.lst ((wK k).map D.str))]) [oS (.str k.nm),oS (.int k.lo),oS (.int k.hi),oS (.lst (k.tk.map dW)),oS (.lst (k.pt.map dW)),none] rfl ?_
 refine (zj2 (ys:=["stock",k.nm,tx k.lo,tx k.hi]) (zag rfl (zag rfl (zag (zdm rfl g.lo.1 (Int.le_trans g.lo.2 g.hi.2)) (zag (zdm rfl g.hi.1 g.hi.2) zat)))) (by simp)).trans ?_
 refine (zgi (xs:=["stock",k.nm,tx k.lo,tx k.hi]) (ys:=k.tk.map (pW "-")) rfl (zq4 (s:="-") (fi:=itF (vSh 3)) zji rfl (by omega) (g.tk.bd hb)) (by rw [qe];simp only [qh,qk];omega)).trans ?_
 refine (zgi (xs:=([("stock":Str),k.nm,tx k.lo,tx k.hi]:List Str)++k.tk.map (pW "-")) (ys:=k.pt.map (pW "+")) rfl (zq4 (s:="+") (fi:=itF (vSh 4)) zqz rfl (by omega) (g.pt.bd hb)) (by rw [qi,qe,qe];simp only [qh,qk];omega)).trans ?_
 exact (zdr rfl).trans (zbe (zc8 (ys:=wK k) rfl (zpt g hb hl)))
end
end Law
end
section
namespace Law
open PySem L2
def zlh (bs:List BenchT) (ss:List StepT) (js:List JobT) (us:List SetT) (ls:List LinkT) (ks:List StockT) (h:Int):List Str:=[("horizon ":Str)++tx h]++bs.map rB++ss.map rS++js.map rJ++us.map rU++ls.map rL++ks.map rK
theorem zrT {bn:List Str} {h:Int} {u:SetT} (g:GoodU bn h u) (hb:∀ y∈bn,zaY y=true) (hh:h<=1000000):(rU u).length<=10000:=by
 have a1:=(za2 (hb _ g.b)).2
 have a2:=(za2 g.p).2
 have a3:=(za2 g.q).2
 have a4:=zcc (i:=u.n) (by have:=g.n;omega) (by have:=g.n;omega)
 unfold rU
 simp only [Str.length_append,zeb,zej.2.2.2.2.2.2.1]
 omega
theorem zrV {sn:List Str} {h:Int} {l:LinkT} (g:GoodL sn h l) (hb:∀ y∈sn,zaY y=true) (hh:h<=1000000):(rL l).length<=10000:=by
 have a1:=(za2 (hb _ g.a)).2
 have a2:=(za2 (hb _ g.b)).2
 have a4:=zcc (i:=l.g) (by have:=g.g;omega) (by have:=g.g;omega)
 unfold rL
 simp only [Str.length_append,zeb,zej.2.2.2.2.2.2.2.1]
 omega
theorem zgZ {f:FE} {ρ:zaX} {l:List D} (h:f ρ=some (.lst l)):itF f ρ=some l:=by unfold itF;rw [h];rfl
theorem zcR {gg:FG} {fi:FA} {fe:FE} {fv:List (Option Nat)} {ρ ρ0:zaX} {n:Nat} {α:Type} {dx:α->D} {r:α->Str} {xs:List α} (h1:fi ρ=some (xs.map dx)) (h2:xs.length<=1000) (h3:zfC fv ρ=ρ0) (h4:ρ0.length=n) (h:∀ x∈xs,∀ ρ:zaX,ρ.length=n->∃ ρ1,gg (dx x) ρ=some ρ1/\ρ1.length=n/\fe ρ1=some (.str (r x))) :
  zaU (za7 fi gg tT fe fv) ρ=some (.lst ((xs.map r).map D.str)):=by
 rw [qm]
 exact zdL h1 h2 h3 h4 h
section
variable {bs:List BenchT} {ss:List StepT} {js:List JobT} {us:List SetT} {ls:List LinkT} {ks:List StockT} {h:Int}
theorem zg5 {fo:FE} {ρ:zaX} {f:Str} {d:D} (i:Nat) (h1:fo ρ=some (zcw bs ss js us ls ks h)) (h2:(zrj bs ss js us ls ks h)[i]?=some (f,d)):zmS "Shop" f fo ρ=some d:=by
 unfold zmS
 rw [h1]
 show (if ("Shop":Str)="Shop" then (zrj bs ss js us ls ks h).lookup f else none)=some d
 rw [qV rfl]
 exact zgy (by rw [zjm];exact zis) h2
theorem zcz {F:FQ} {fo:FE} {fr:FA} {ρ:zaX} {m:Str} {ds:List D} {d:D} (hm:m∉zgh) (h1:fo ρ=some (zcw bs ss js us ls ks h)) (h2:fr ρ=some ds) (h3:F (zcw bs ss js us ls ks h::ds)=some d):zdK "Shop" m F fo fr ρ=some d:=by
 have hno:(zrj bs ss js us ls ks h).lookup m=none:=zgU (by rw [zjm];exact hm)
 unfold zdK
 rw [h1]
 show (if ("Shop":Str)="Shop"/\(zrj bs ss js us ls ks h).lookup m=none then (fr ρ).bind fun ds=>F (zcw bs ss js us ls ks h::ds) else none)=_
 rw [qV ⟨rfl,hno⟩,h2]
 exact h3
theorem zuY:zaC [zcw bs ss js us ls ks h]=some (.int h):=by
 unfold zaC zcH
 exact zbg [oS (zcw bs ss js us ls ks h)] rfl (zbe (zg5 (bs:=bs) (ss:=ss) (js:=js) (us:=us) (ls:=ls) (ks:=ks) (h:=h) (fo:=vSh 0) 6 rfl rfl))
theorem zu1 (g:Good bs ss js us ls ks h):zaJ [zcw bs ss js us ls ks h]=some (.lst (bs.map za1)) :=
 zbg [oS (zcw bs ss js us ls ks h)] rfl (zbe (za8 (zag (zg5 0 rfl rfl) zat) (zee (zde (by have:=g.bl.2;omega) fun x hx=>zkB (g.b x hx)))))
theorem zuW (g:Good bs ss js us ls ks h):zaM [zcw bs ss js us ls ks h]=some (.lst (ss.map za9)) :=
 zbg [oS (zcw bs ss js us ls ks h)] rfl (zbe (za8 (zag (zg5 1 rfl rfl) zat) (zee (zde (by have:=g.sl.2;omega) fun x hx=>zl8 (g.s x hx)))))
theorem zu0 (g:Good bs ss js us ls ks h):zaQ [zcw bs ss js us ls ks h]=some (.lst (js.map zcg)) :=
 zbg [oS (zcw bs ss js us ls ks h)] rfl (zbe (za8 (zag (zg5 2 rfl rfl) zat) (zee (zde (by have:=g.jl;omega) fun x hx=>zoW (by rw [qe];exact g.sl.2) (g.j x hx)))))
theorem zuV (g:Good bs ss js us ls ks h):zaI [zcw bs ss js us ls ks h]=some (.lst (us.map zd4)) :=
 zbg [oS (zcw bs ss js us ls ks h)] rfl (zbe (za8 (zag (zg5 3 rfl rfl) zat) (zee (zde (by have:=g.ul;omega) fun x hx=>zoV))))
theorem zuX (g:Good bs ss js us ls ks h):zaN [zcw bs ss js us ls ks h]=some (.lst (ls.map zb3)) :=
 zbg [oS (zcw bs ss js us ls ks h)] rfl (zbe (za8 (zag (zg5 4 rfl rfl) zat) (zee (zde (by have:=g.ll;omega) fun x hx=>zl9))))
theorem zuZ (g:Good bs ss js us ls ks h):zaH [zcw bs ss js us ls ks h]=some (.lst (ks.map zby)) :=
 zbg [oS (zcw bs ss js us ls ks h)] rfl (zbe (za8 (zag (zg5 5 rfl rfl) zat) (zee (zde (by have:=g.kl;omega) fun x hx=>zkA (by rw [qe];exact g.sl.2) (g.k x hx)))))
theorem zkw (g:Good bs ss js us ls ks h) (hj:js.length<=9) (hu:us.length<=20) (hl:ls.length<=20):(∀ y∈zlh bs ss js us ls ks h,y.length<=10000)/\(zlh bs ss js us ls ks h).length<=200:=by
 have b1:=g.bl.2
 have b2:=g.sl.2
 have b3:=g.kl
 have hh:=g.hh
 have sl:(ss.map (·.nm)).length<=40:=by rw [qe];exact g.sl.2
 refine ⟨fun y hy=>?_,by unfold zlh;simp only [qi,qe,qh,qk];omega⟩
 unfold zlh at hy
 simp only [List.mem_append,List.mem_map,List.mem_singleton] at hy
 rcases hy with (((((rfl | ⟨x,hx,rfl⟩) | ⟨x,hx,rfl⟩) | ⟨x,hx,rfl⟩) | ⟨x,hx,rfl⟩) | ⟨x,hx,rfl⟩) | ⟨x,hx,rfl⟩
 ·have:=zcc (i:=h) (by omega) hh.2
  rw [Str.length_append,zej.2.2.2.2.2.2.2.2.2];omega
 ·have:=zpw (g.b x hx) hh.2
  exact zkx this.1 this.2
 ·have:=zps (g.s x hx) g.bnn hh.2
  exact zkx this.1 this.2
 ·have:=zpu (g.j x hx) g.snn sl hh.2
  exact zkx this.1 this.2
 ·exact zrT (g.u x hx) g.bnn hh.2
 ·exact zrV (g.l x hx) g.snn hh.2
 ·have:=zpt (g.k x hx) g.snn sl
  exact zkx this.1 this.2
theorem zo2:("\n":Str).length<=10:=by decide +kernel
theorem zkv (g:Good bs ss js us ls ks h) (hj:js.length<=9) (hu:us.length<=20) (hl:ls.length<=20):zbi [zcw bs ss js us ls ks h]=some (.str (Txt.join "\n" (zlh bs ss js us ls ks h))):=by
 have b1:=g.bl.2
 have b2:=g.sl.2
 have b3:=g.kl
 have hh:=g.hh
 have sl:(ss.map (·.nm)).length<=40:=by rw [qe];exact g.sl.2
 have rl:=zkw g hj hu hl
 have hz:=zcc (i:=h) (by omega) hh.2
 unfold zbi zeE
 refine zbg (ρ':=[oS (zcw bs ss js us ls ks h),oS (.int h),oS (.lst ((zlh bs ss js us ls ks h).map D.str))]) [oS (zcw bs ss js us ls ks h),none,none] rfl ?_
 refine (zaS (d:=.int h) (zcz (by decide +kernel) rfl zat zuY)).trans ?_
 refine (zj2 (ys:=[("horizon ":Str)++tx h]) (zag (d:=.str (("horizon ":Str)++tx h)) (zmP (y:="horizon ") (ys:=[tx h]) (zag rfl (zag rfl zat)) ?_ ?_) zat) (by simp)).trans ?_
 ·simp only [ql,qL,zfM (i:=h) (by omega) hh.2,zcM (y:="horizon ") (by rw [zej.2.2.2.2.2.2.2.2.2];omega)]
 ·simp only [ql,qL,List.sum_cons,List.sum_nil,zej.2.2.2.2.2.2.2.2.2];omega
 refine (zgi (xs:=[("horizon ":Str)++tx h]) (ys:=bs.map rB) rfl (zcR (n:=2) (dx:=za1) (zgZ (zcz (by decide +kernel) rfl zat (zu1 g))) (by omega) rfl rfl fun x hx ρ hr=>?_) (by simp only [qi,qe,qh,qk];omega)).trans ?_
 ·obtain ⟨a,b,rfl⟩:=en2 hr
  exact ⟨[oS (.str x.nm),oS (.lst (x.br.map dIv))],rfl,rfl,za8 (zag rfl (zag rfl zat)) (ztU (g.b x hx) hh.2)⟩
 refine (zgi (xs:=[("horizon ":Str)++tx h]++bs.map rB) (ys:=ss.map rS) rfl (zcR (n:=3) (dx:=za9) (zgZ (zcz (by decide +kernel) rfl zat (zuW g))) (by omega) rfl rfl fun x hx ρ hr=>?_) (by simp only [qi,qe,qh,qk];omega)).trans ?_
 ·obtain ⟨a,b,c,rfl⟩:=en3 hr
  exact ⟨[oS (.str x.nm),oS (.str x.kd),oS (.lst (x.ws.map dW))],rfl,rfl,za8 (zag rfl (zag rfl (zag rfl zat))) (ztQ (g.s x hx) g.bnn hh.2)⟩
 refine (zgi (xs:=[("horizon ":Str)++tx h]++bs.map rB++ss.map rS) (ys:=js.map rJ) rfl (zcR (n:=5) (dx:=zcg) (zgZ (zcz (by decide +kernel) rfl zat (zu0 g))) (by omega) rfl rfl fun x hx ρ hr=>?_) (by simp only [qi,qe,qh,qk];omega)).trans ?_
 ·obtain ⟨a,b,c,d,e,rfl⟩:=en5 hr
  exact ⟨[oS (.str x.nm),oS (.int x.ea),oS (.int x.du),oS (.bl x.od),oS (.lst (x.ms.map D.str))],rfl,rfl,za8 (zag rfl (zag rfl (zag rfl (zag rfl (zag rfl zat))))) (ztS (g.j x hx) g.snn sl hh.2)⟩
 refine (zgi (xs:=[("horizon ":Str)++tx h]++bs.map rB++ss.map rS++js.map rJ) (ys:=us.map rU) rfl (zcR (n:=4) (dx:=zd4) (zgZ (zcz (by decide +kernel) rfl zat (zuV g))) (by omega) rfl rfl fun x hx ρ hr=>?_) (by simp only [qi,qe,qh,qk];omega)).trans ?_
 ·obtain ⟨a,b,c,d,rfl⟩:=en4 hr
  have gx:=g.u x hx
  have a1:=(za2 (g.bnn _ gx.b)).2
  have a2:=(za2 gx.p).2
  have a3:=(za2 gx.q).2
  have q1:0<=x.n:=by have:=gx.n;omega
  have q2:x.n<=1000000:=by have:=gx.n;omega
  have a4:=zcc q1 q2
  refine ⟨[oS (.str x.b),oS (.str x.p),oS (.str x.q),oS (.int x.n)],rfl,rfl,zmP (y:="setup ") (ys:=[x.b," ",x.p," ",x.q," ",tx x.n]) (zag rfl (zag rfl (zag rfl (zag rfl (zag rfl (zag rfl (zag rfl (zag rfl zat)))))))) ?_ ?_⟩
  ·simp only [ql,qL,zfM q1 q2,zcM (y:=x.b) (by omega),zcM (y:=x.p) (by omega),zcM (y:=x.q) (by omega),zcM (y:=" ") (by rw [zeb];omega),zcM (y:="setup ") (by rw [zej.2.2.2.2.2.2.1];omega)]
  ·simp only [ql,qL,List.sum_cons,List.sum_nil,zeb,zej.2.2.2.2.2.2.1];omega
 refine (zgi (xs:=[("horizon ":Str)++tx h]++bs.map rB++ss.map rS++js.map rJ++us.map rU) (ys:=ls.map rL) rfl (zcR (n:=3) (dx:=zb3) (zgZ (zcz (by decide +kernel) rfl zat (zuX g))) (by omega) rfl rfl fun x hx ρ hr=>?_) (by simp only [qi,qe,qh,qk];omega)).trans ?_
 ·obtain ⟨a,b,c,rfl⟩:=en3 hr
  have gx:=g.l x hx
  have a1:=(za2 (g.snn _ gx.a)).2
  have a2:=(za2 (g.snn _ gx.b)).2
  have q1:0<=x.g:=gx.g.1
  have q2:x.g<=1000000:=by have:=gx.g;omega
  have a4:=zcc q1 q2
  refine ⟨[oS (.str x.a),oS (.str x.b),oS (.int x.g)],rfl,rfl,zmP (y:="link ") (ys:=[x.a," ",x.b," ",tx x.g]) (zag rfl (zag rfl (zag rfl (zag rfl (zag rfl (zag rfl zat)))))) ?_ ?_⟩
  ·simp only [ql,qL,zfM q1 q2,zcM (y:=x.a) (by omega),zcM (y:=x.b) (by omega),zcM (y:=" ") (by rw [zeb];omega),zcM (y:="link ") (by rw [zej.2.2.2.2.2.2.2.1];omega)]
  ·simp only [ql,qL,List.sum_cons,List.sum_nil,zeb,zej.2.2.2.2.2.2.2.1];omega
 refine (zgi (xs:=[("horizon ":Str)++tx h]++bs.map rB++ss.map rS++js.map rJ++us.map rU++ls.map rL) (ys:=ks.map rK) rfl (zcR (n:=5) (dx:=zby) (zgZ (zcz (by decide +kernel) rfl zat (zuZ g))) (by omega) rfl rfl fun x hx ρ hr=>?_) (by simp only [qi,qe,qh,qk];omega)).trans ?_
 ·obtain ⟨a,b,c,d,e,rfl⟩:=en5 hr
  exact ⟨[oS (.str x.nm),oS (.int x.lo),oS (.int x.hi),oS (.lst (x.tk.map dW)),oS (.lst (x.pt.map dW))],rfl,rfl,za8 (zag rfl (zag rfl (zag rfl (zag rfl (zag rfl zat))))) (ztR (g.k x hx) g.snn sl)⟩
 exact (zdr rfl).trans (zbe (zj9 (B:=10000) rfl rl.1 (by decide) zo2 rl.2))
end
end Law
end
section
namespace Law
open PySem L2
theorem zrk {ρ:zaX} (h:ρ.length=17):∃ a2 a3 a4 a5 a6 a7 a8 a9 a10 a11 a12 a13 a14 a15 a16 a17 a18,ρ=[a2,a3,a4,a5,a6,a7,a8,a9,a10,a11,a12,a13,a14,a15,a16,a17,a18] :=
 match ρ,h with | [a2,a3,a4,a5,a6,a7,a8,a9,a10,a11,a12,a13,a14,a15,a16,a17,a18],_=>⟨a2,a3,a4,a5,a6,a7,a8,a9,a10,a11,a12,a13,a14,a15,a16,a17,a18,rfl⟩
theorem zdd {gg:FG} {body:FS} {α:Type} {dx:α->D} {g:α->Str} {P:Option Slot}:∀ {xs:List α} {acc:List Str} {r:zaX},r.length=17->acc.length+xs.length<=1000->(∀ x∈xs,∀ (acc:List Str) (r:zaX),r.length=17->acc.length<=1000->∃ ρ1 r',gg (dx x) (P::some (.own (acc.map D.str))::r)=some ρ1/\body ρ1=some (.nx,P::some (.own ((acc++[g x]).map D.str))::r')/\r'.length=17) ->
  ∃ r',zhY gg body (xs.map dx) (P::some (.own (acc.map D.str))::r)=some (.nx,P::some (.own ((acc++xs.map g).map D.str))::r')/\r'.length=17
 | [],acc,r,hr,_,_=>⟨r,by rw [qL,qL,List.append_nil];rfl,hr⟩
 | x::xs,acc,r,hr,hl,h=>by
  rw [qh] at hl
  obtain ⟨ρ1,r1,h1,h2,h3⟩:=h x qf acc r hr (by omega)
  obtain ⟨r',h4,h5⟩:=zdd (xs:=xs) (acc:=acc++[g x]) h3 (by rw [qi,qT];omega) fun y hy=>h y (qg _ hy)
  refine ⟨r',?_,h5⟩
  rw [ql,ql,List.append_cons]
  simp only [zhY,h1,qa,h2,h4]
theorem ztV (u:SetT):Txt.join " " ["setup",u.b,u.p,u.q,tx u.n]=rU u:=by
 show Builtin.Str.glued " " _=_
 rw [StrLaws.glued_eq_join]
 show ("setup":Str)++" "++(u.b++" "++(u.p++" "++(u.q++" "++tx u.n)))=_
 have e:("setup ":Str)="setup"++" ":=by decide +kernel
 unfold rU
 rw [e]
 simp only [Str.append_assoc]
section
variable {bn sn:List Str} {h:Int} {P:Option Slot} {acc:List Str} {r:zaX}
theorem zqF {b:BenchT} (g:GoodB h b) (hh:h<=1000000) (hr:r.length=17) (hl:acc.length<=1000) :
  ∃ ρ1 r',zbJ 2 (zao (zaE 2) (zao (zaE 3) zbr)) (za1 b) (P::some (.own (acc.map D.str))::r)=some ρ1/\(zax (zbk 4 (zaU (za7 (itF (vSh 3)) g2 tT (b2 za6 (b2 za6 (cF zeN (zab (vSh 0) zai)) (vC (.str "-"))) (cF zeN (zab (vSh 1) zai))) [none,none]))) (zda 1 (mF zdl (vC (.str " ")) (zab (b2 za6 (zaU (szF (zab (vC (.str "bench")) (zab (vSh 2) zai)))) (vSh 4)) zai)))) ρ1=some (.nx,P::some (.own ((acc++[rB b]).map D.str))::r')/\r'.length=17:=by
 obtain ⟨a2,a3,a4,a5,a6,a7,a8,a9,a10,a11,a12,a13,a14,a15,a16,a17,a18,rfl⟩:=zrk hr
 have gl:=g.len
 exact ⟨P::some (.own (acc.map D.str))::[oS (.str b.nm),oS (.lst (b.br.map dIv)),a4,a5,a6,a7,a8,a9,a10,a11,a12,a13,a14,a15,a16,a17,a18],[oS (.str b.nm),oS (.lst (b.br.map dIv)),oS (.lst ((b.br.map pI).map D.str)),a5,a6,a7,a8,a9,a10,a11,a12,a13,a14,a15,a16,a17,a18],rfl,
  (zaS (ztj (fi:=itF (vSh 3)) rfl (by omega) (g.bd hh))).trans (zcf (g:=D.str) (xs:=acc) (x:=rB b) rfl (zc8 (ys:=wB b) (zdj (x:=["bench",b.nm]) (y:=b.br.map pI) (zdg rfl (by simp)) rfl (by rw [qe];simp only [qh,qk];omega)) (zpw g hh)) hl),rfl⟩
theorem zqB {s:StepT} (g:GoodS bn h s) (hb:∀ y∈bn,zaY y=true) (hh:h<=1000000) (hr:r.length=17) (hl:acc.length<=1000) :
  ∃ ρ1 r',zbJ 3 (zao (zaE 2) (zao (zaE 5) (zao (zaE 6) zbr))) (za9 s) (P::some (.own (acc.map D.str))::r)=some ρ1/\(zax (zbk 4 (zaU (za7 (itF (vSh 6)) g2 tT (b2 za6 (b2 za6 (vSh 0) (vC (.str "/"))) (cF zeN (zab (vSh 1) zai))) [none,none]))) (zda 1 (mF zdl (vC (.str " ")) (zab (b2 za6 (zaU (szF (zab (vC (.str "step")) (zab (vSh 2) (zab (vSh 5) zai))))) (vSh 4)) zai)))) ρ1=some (.nx,P::some (.own ((acc++[rS s]).map D.str))::r')/\r'.length=17:=by
 obtain ⟨a2,a3,a4,a5,a6,a7,a8,a9,a10,a11,a12,a13,a14,a15,a16,a17,a18,rfl⟩:=zrk hr
 have gl:=g.l4
 exact ⟨P::some (.own (acc.map D.str))::[oS (.str s.nm),a3,a4,oS (.str s.kd),oS (.lst (s.ws.map dW)),a7,a8,a9,a10,a11,a12,a13,a14,a15,a16,a17,a18],[oS (.str s.nm),a3,oS (.lst ((s.ws.map (pW "/")).map D.str)),oS (.str s.kd),oS (.lst (s.ws.map dW)),a7,a8,a9,a10,a11,a12,a13,a14,a15,a16,a17,a18],rfl,
  (zaS (znj (s:="/") (fi:=itF (vSh 6)) zqy rfl (by omega) (g.bd hb hh))).trans (zcf (g:=D.str) (xs:=acc) (x:=rS s) rfl (zc8 (ys:=wS s) (zdj (x:=["step",s.nm,s.kd]) (y:=s.ws.map (pW "/")) (zdg rfl (by simp)) rfl (by rw [qe];simp only [qh,qk];omega)) (zps g hb hh)) hl),rfl⟩
theorem zqE {j:JobT} (g:GoodJ sn h j) (hb:∀ y∈sn,zaY y=true) (hs:sn.length<=40) (hh:h<=1000000) (hr:r.length=17) (hl:acc.length<=1000) :
  ∃ ρ1 r',zbJ 5 (zao (zaE 2) (zao (zaE 7) (zao (zaE 8) (zao (zaE 9) (zao (zaE 10) zbr))))) (zcg j) (P::some (.own (acc.map D.str))::r)=some ρ1/\(zax (zbk 4 (zaU (szF (zab (vC (.str "job")) (zab (vSh 2) (zab (cF zeN (zab (vSh 7) zai)) (zab (cF zeN (zab (vSh 8) zai)) zai))))))) (zda 1 (mF zdl (vC (.str " ")) (zab (b2 za6 (b2 za6 (vSh 4) (zaU (szF (zab (b2 ixD (zaU (szF (zab (vC (.str "of")) (zab (vC (.str "in")) zai)))) (cF ztA (zab (vSh 9) zai))) zai)))) (vSh 10)) zai)))) ρ1=some (.nx,P::some (.own ((acc++[rJ j]).map D.str))::r')/\r'.length=17:=by
 obtain ⟨a2,a3,a4,a5,a6,a7,a8,a9,a10,a11,a12,a13,a14,a15,a16,a17,a18,rfl⟩:=zrk hr
 have gl:=g.ln
 refine ⟨P::some (.own (acc.map D.str))::[oS (.str j.nm),a3,a4,a5,a6,oS (.int j.ea),oS (.int j.du),oS (.bl j.od),oS (.lst (j.ms.map D.str)),a11,a12,a13,a14,a15,a16,a17,a18],[oS (.str j.nm),a3,oS (.lst (([("job":Str),j.nm,tx j.ea,tx j.du]:List Str).map D.str)),a5,a6,oS (.int j.ea),oS (.int j.du),oS (.bl j.od),oS (.lst (j.ms.map D.str)),a11,a12,a13,a14,a15,a16,a17,a18],rfl,
  (zaS (d:=.lst (([("job":Str),j.nm,tx j.ea,tx j.du]:List Str).map D.str)) (zdg (zag rfl (zag rfl (zag (zdm rfl g.ea.1 (Int.le_trans g.ea.2 hh)) (zag (zdm rfl g.du.1 (Int.le_trans g.du.2 hh)) zat)))) (by simp))).trans (zcf (g:=D.str) (xs:=acc) (x:=rJ j) rfl (zc8 (ys:=wJ j) (zdj (x:=([("job":Str),j.nm,tx j.ea,tx j.du]:List Str)++[if j.od then ("in":Str) else ("of":Str)]) (y:=j.ms) (zdj (x:=([("job":Str),j.nm,tx j.ea,tx j.du]:List Str)) (y:=[if j.od then ("in":Str) else ("of":Str)]) rfl (zdg (zag (d:=.str (if j.od then ("in":Str) else ("of":Str))) ?_ zat) (by simp)) (by simp)) rfl (by simp only [qi,qh,qk];omega)) (zpu g hb hs hh)) hl),rfl⟩
 refine zaw (x:=.lst ([("of":Str),"in"].map D.str)) (y:=.int (if j.od then 1 else 0)) (zdg rfl (by simp)) (za8 (zag rfl zat) rfl) ?_
 cases j.od
 ·exact ixL _ 0
 ·exact ixL _ 1
theorem zqA {u:SetT} (g:GoodU bn h u) (hb:∀ y∈bn,zaY y=true) (hh:h<=1000000) (hr:r.length=17) (hl:acc.length<=1000) :
  ∃ ρ1 r',zaE 11 (zd4 u) (P::some (.own (acc.map D.str))::r)=some ρ1/\(zda 1 (mF zdl (vC (.str " ")) (zab (b2 za6 (b2 za6 (zaU (szF (zab (vC (.str "setup")) zai))) (cF zoc (zab (slF (vSh 11) pN (pS (vC (.int 3)))) zai))) (zaU (szF (zab (cF zeN (zab (b2 ixD (vSh 11) (vC (.int 3))) zai)) zai)))) zai))) ρ1=some (.nx,P::some (.own ((acc++[rU u]).map D.str))::r')/\r'.length=17:=by
 obtain ⟨a2,a3,a4,a5,a6,a7,a8,a9,a10,a11,a12,a13,a14,a15,a16,a17,a18,rfl⟩:=zrk hr
 have a1':=(za2 (hb _ g.b)).2
 have a2':=(za2 g.p).2
 have a3':=(za2 g.q).2
 have q1:0<=u.n:=by have:=g.n;omega
 have q2:u.n<=1000000:=by have:=g.n;omega
 have a4':=zcc q1 q2
 refine ⟨P::some (.own (acc.map D.str))::[a2,a3,a4,a5,a6,a7,a8,a9,a10,oS (zd4 u),a12,a13,a14,a15,a16,a17,a18],[a2,a3,a4,a5,a6,a7,a8,a9,a10,oS (zd4 u),a12,a13,a14,a15,a16,a17,a18],rfl,
  zcf (g:=D.str) (xs:=acc) (x:=rU u) rfl (Eq.trans (zc8 (ys:=(["setup",u.b,u.p,u.q,tx u.n]:List Str)) (zdj (x:=(["setup",u.b,u.p,u.q]:List Str)) (y:=[tx u.n]) (zdj (x:=(["setup"]:List Str)) (y:=[u.b,u.p,u.q]) (zdg rfl (by simp)) (za8 (zag (d:=.tup [.str u.b,.str u.p,.str u.q]) ?_ zat) rfl) (by simp)) (zdg (zag (zdm (zaw rfl rfl zsU) q1 q2) zat) (by simp)) (by simp)) ⟨fun y hy=>?_,by simp⟩) (by rw [ztV])) hl,rfl⟩
 ·rfl
 ·have:y="setup"\/y=u.b\/y=u.p\/y=u.q\/y=tx u.n:=by simpa using hy
  rcases this with rfl | rfl | rfl | rfl | rfl
  ·rw [zej.2.2.2.2.2.2.2.2.1];omega
  ·omega
  ·omega
  ·omega
  ·omega
theorem zqC {l:LinkT} (g:GoodL sn h l) (hb:∀ y∈sn,zaY y=true) (hh:h<=1000000) (hr:r.length=17) (hl:acc.length<=1000) :
  ∃ ρ1 r',zbJ 3 (zao (zaE 12) (zao (zaE 13) (zao (zaE 14) zbr))) (zb3 l) (P::some (.own (acc.map D.str))::r)=some ρ1/\(zda 1 (b2 za6 (b2 za6 (b2 za6 (b2 za6 (b2 za6 (vC (.str "link ")) (vSh 12)) (vC (.str " "))) (vSh 13)) (vC (.str " "))) (cF zeN (zab (vSh 14) zai)))) ρ1=some (.nx,P::some (.own ((acc++[rL l]).map D.str))::r')/\r'.length=17:=by
 obtain ⟨a2,a3,a4,a5,a6,a7,a8,a9,a10,a11,a12,a13,a14,a15,a16,a17,a18,rfl⟩:=zrk hr
 have a1':=(za2 (hb _ g.a)).2
 have a2':=(za2 (hb _ g.b)).2
 have q1:0<=l.g:=g.g.1
 have q2:l.g<=1000000:=by have:=g.g;omega
 have a4':=zcc q1 q2
 have w1:=zej.2.2.2.2.2.2.2.1
 exact ⟨P::some (.own (acc.map D.str))::[a2,a3,a4,a5,a6,a7,a8,a9,a10,a11,oS (.str l.a),oS (.str l.b),oS (.int l.g),a15,a16,a17,a18],[a2,a3,a4,a5,a6,a7,a8,a9,a10,a11,oS (.str l.a),oS (.str l.b),oS (.int l.g),a15,a16,a17,a18],rfl,
  zcf (g:=D.str) (xs:=acc) (x:=rL l) rfl (zdC (zdC (zdC (zdC (zdC rfl rfl (by omega)) rfl (by simp only [Str.length_append,zeb,w1];omega)) rfl (by simp only [Str.length_append,zeb,w1];omega)) rfl (by simp only [Str.length_append,zeb,w1];omega)) (zdm rfl q1 q2) (by simp only [Str.length_append,zeb,w1];omega)) hl,rfl⟩
theorem zqD {k:StockT} (g:GoodK sn k) (hb:∀ y∈sn,zaY y=true) (hs:sn.length<=40) (hr:r.length=17) (hl:acc.length<=1000) :
  ∃ ρ1 r',zbJ 5 (zao (zaE 2) (zao (zaE 15) (zao (zaE 16) (zao (zaE 17) (zao (zaE 18) zbr))))) (zby k) (P::some (.own (acc.map D.str))::r)=some ρ1/\(zax (zbk 4 (zaU (szF (zab (vC (.str "stock")) (zab (vSh 2) (zab (cF zeN (zab (vSh 15) zai)) (zab (cF zeN (zab (vSh 16) zai)) zai))))))) (zax (zbk 4 (b2 za6 (vSh 4) (zaU (za7 (itF (vSh 17)) g2 tT (b2 za6 (b2 za6 (vSh 0) (vC (.str "-"))) (cF zeN (zab (vSh 1) zai))) [none,none])))) (zax (zbk 4 (b2 za6 (vSh 4) (zaU (za7 (itF (vSh 18)) g2 tT (b2 za6 (b2 za6 (vSh 0) (vC (.str "+"))) (cF zeN (zab (vSh 1) zai))) [none,none])))) (zda 1 (mF zdl (vC (.str " ")) (zab (vSh 4) zai)))))) ρ1=some (.nx,P::some (.own ((acc++[rK k]).map D.str))::r')/\r'.length=17:=by
 obtain ⟨a2,a3,a4,a5,a6,a7,a8,a9,a10,a11,a12,a13,a14,a15,a16,a17,a18,rfl⟩:=zrk hr
 have gl:=g.tk.ln
 have gm:=g.pt.ln
 exact ⟨P::some (.own (acc.map D.str))::[oS (.str k.nm),a3,a4,a5,a6,a7,a8,a9,a10,a11,a12,a13,a14,oS (.int k.lo),oS (.int k.hi),oS (.lst (k.tk.map dW)),oS (.lst (k.pt.map dW))],[oS (.str k.nm),a3,oS (.lst ((wK k).map D.str)),a5,a6,a7,a8,a9,a10,a11,a12,a13,a14,oS (.int k.lo),oS (.int k.hi),oS (.lst (k.tk.map dW)),oS (.lst (k.pt.map dW))],rfl,
  (zaS (d:=.lst (([("stock":Str),k.nm,tx k.lo,tx k.hi]:List Str).map D.str)) (zdg (zag rfl (zag rfl (zag (zdm rfl g.lo.1 (Int.le_trans g.lo.2 g.hi.2)) (zag (zdm rfl g.hi.1 g.hi.2) zat)))) (by simp))).trans ((zaS (zdj (x:=([("stock":Str),k.nm,tx k.lo,tx k.hi]:List Str)) (y:=k.tk.map (pW "-")) rfl (znj (s:="-") (fi:=itF (vSh 17)) zji rfl (by omega) (g.tk.bd hb)) (by simp only [qi,qe,qh,qk];omega))).trans ((zaS (zdj (x:=([("stock":Str),k.nm,tx k.lo,tx k.hi]:List Str)++k.tk.map (pW "-")) (y:=k.pt.map (pW "+")) rfl (znj (s:="+") (fi:=itF (vSh 18)) zqz rfl (by omega) (g.pt.bd hb)) (by simp only [qi,qe,qh,qk];omega))).trans (zcf (g:=D.str) (xs:=acc) (x:=rK k) rfl (zc8 (ys:=wK k) rfl (zpt g hb hs)) hl))),rfl⟩
end
section
variable {bs:List BenchT} {ss:List StepT} {js:List JobT} {us:List SetT} {ls:List LinkT} {ks:List StockT} {h:Int}
theorem zhX {n:Nat} {gg:FG} {body E:FS} {o:Option Slot} {r ρ':zaX} {xs:List D} {R:Option (Fl×zaX)} (hx:(zbV bs ss js us ls ks h)[n]?=some (.lst xs)) (hf:zhY gg body xs (oS (.lst (zbV bs ss js us ls ks h))::o::r)=some (.nx,ρ')) (hE:E ρ'=R):zax (zdY (itF (b2 ixD (vSh 0) (vC (.int (n:Int))))) gg body) E (oS (.lst (zbV bs ss js us ls ks h))::o::r)=R :=
 (zcr ((zdh (zgZ (zaw rfl rfl ((ixL _ n).trans hx)))).trans hf)).trans hE
theorem zn8 (g:Good bs ss js us ls ks h):zbS [.lst (zbV bs ss js us ls ks h)]=some (.lst ((zlh bs ss js us ls ks h).map D.str)):=by
 have b1:=g.bl.2
 have b2:=g.sl.2
 have b3:=g.kl
 have b4:=g.jl
 have b5:=g.ul
 have b6:=g.ll
 have hh:=g.hh
 have sl:(ss.map (·.nm)).length<=40:=by rw [qe];exact g.sl.2
 have hz:=zcc (i:=h) (by omega) hh.2
 unfold zbS zfm
 obtain ⟨r1,f1,g1⟩:=zdd (P:=oS (.lst (zbV bs ss js us ls ks h))) (dx:=za1) (g:=rB) (xs:=bs) (acc:=[("horizon ":Str)++tx h]) (r:=List.replicate 17 none) rfl (by simp only [qi,qe,qh,qk];omega) fun x hx acc r hr hl=>zqF (P:=oS (.lst (zbV bs ss js us ls ks h))) (g.b x hx) hh.2 hr hl
 obtain ⟨r2,f2,g2'⟩:=zdd (P:=oS (.lst (zbV bs ss js us ls ks h))) (dx:=za9) (g:=rS) (xs:=ss) (acc:=[("horizon ":Str)++tx h]++bs.map rB) (r:=r1) g1 (by simp only [qi,qe,qh,qk];omega) fun x hx acc r hr hl=>zqB (P:=oS (.lst (zbV bs ss js us ls ks h))) (g.s x hx) g.bnn hh.2 hr hl
 obtain ⟨r3,f3,g3⟩:=zdd (P:=oS (.lst (zbV bs ss js us ls ks h))) (dx:=zcg) (g:=rJ) (xs:=js) (acc:=[("horizon ":Str)++tx h]++bs.map rB++ss.map rS) (r:=r2) g2' (by simp only [qi,qe,qh,qk];omega) fun x hx acc r hr hl=>zqE (P:=oS (.lst (zbV bs ss js us ls ks h))) (g.j x hx) g.snn sl hh.2 hr hl
 obtain ⟨r4,f4,g4⟩:=zdd (P:=oS (.lst (zbV bs ss js us ls ks h))) (dx:=zd4) (g:=rU) (xs:=us) (acc:=[("horizon ":Str)++tx h]++bs.map rB++ss.map rS++js.map rJ) (r:=r3) g3 (by simp only [qi,qe,qh,qk];omega) fun x hx acc r hr hl=>zqA (P:=oS (.lst (zbV bs ss js us ls ks h))) (g.u x hx) g.bnn hh.2 hr hl
 obtain ⟨r5,f5,g5⟩:=zdd (P:=oS (.lst (zbV bs ss js us ls ks h))) (dx:=zb3) (g:=rL) (xs:=ls) (acc:=[("horizon ":Str)++tx h]++bs.map rB++ss.map rS++js.map rJ++us.map rU) (r:=r4) g4 (by simp only [qi,qe,qh,qk];omega) fun x hx acc r hr hl=>zqC (P:=oS (.lst (zbV bs ss js us ls ks h))) (g.l x hx) g.snn hh.2 hr hl
 obtain ⟨r6,f6,g6⟩:=zdd (P:=oS (.lst (zbV bs ss js us ls ks h))) (dx:=zby) (g:=rK) (xs:=ks) (acc:=[("horizon ":Str)++tx h]++bs.map rB++ss.map rS++js.map rJ++us.map rU++ls.map rL) (r:=r5) g5 (by simp only [qi,qe,qh,qk];omega) fun x hx acc r hr hl=>zqD (P:=oS (.lst (zbV bs ss js us ls ks h))) (g.k x hx) g.snn sl hr hl
 refine zbg (ρ':=oS (.lst (zbV bs ss js us ls ks h))::oS (.lst ((zlh bs ss js us ls ks h).map D.str))::r6) (oS (.lst (zbV bs ss js us ls ks h))::none::List.replicate 17 none) rfl ?_
 refine (zj2 (ys:=[("horizon ":Str)++tx h]) (zag (d:=.str (("horizon ":Str)++tx h)) (zdC rfl (zdm (zaw rfl rfl (ixL _ 6)) (by omega) hh.2) (by rw [zej.2.2.2.2.2.2.2.2.2];omega)) zat) (by simp)).trans ?_
 refine zhX (n:=0) rfl f1 (zhX (n:=1) rfl f2 (zhX (n:=2) rfl f3 (zhX (n:=3) rfl f4 (zhX (n:=4) rfl f5 (zhX (n:=5) rfl f6 ?_)))))
 exact (zdr rfl).trans (zbe (f:=vSh 1) rfl)
end
end Law
end
section
namespace Law
open PySem L2
def Sm:Nat->D->Prop
 | 0,_=>False
 | n+1,.lst l=>∀ x∈l,Sm n x
 | n+1,.tup l=>∀ x∈l,Sm n x
 | _+1,.bl _=>True
 | _+1,.int _=>True
 | _+1,.str x=>PyData.strOk x=true
 | _+1,_=>False
def SmP (n:Nat) (d:D):Prop:=∃ p,pdD d=some p/\PyData.canLay0 p=true/\p.depth<=n/\PyData.eqv p p=true
theorem zlU {n:Nat}:∀ {l:List D},(∀ x∈l,SmP n x)->∃ ps,zjM l=some ps/\PyData.canLayAll0 ps=true/\PyData.depthAll ps<=n/\PyData.eqvAll ps ps=true
 | [],_=>⟨[],by simp [zjM],by simp [PyData.canLayAll0],by simp [PyData.depthAll],by simp [PyData.eqvAll]⟩
 | x::r,h=>by
  obtain ⟨p,a1,a2,a3,a4⟩:=h x qf
  obtain ⟨ps,b1,b2,b3,b4⟩:=zlU (l:=r) fun y hy=>h y (qg _ hy)
  refine ⟨p::ps,by simp [zjM,a1,b1],by simp [PyData.canLayAll0,a2,b2],?_,by simp [PyData.eqvAll,a4,b4]⟩
  simp only [PyData.depthAll]
  omega
theorem zpK:∀ (n:Nat) (d:D),Sm n d->SmP n d
 | 0,_,h=>h.elim
 | n+1,.lst l,h=>by
  obtain ⟨ps,b1,b2,b3,b4⟩:=zlU (n:=n) (l:=l) fun x hx=>zpK n x (h x hx)
  exact ⟨.list ps,by simp [pdD,b1],by simp [PyData.canLay0,b2],by simp only [PyData.depth];omega,by simp [PyData.eqv,b4]⟩
 | n+1,.tup l,h=>by
  obtain ⟨ps,b1,b2,b3,b4⟩:=zlU (n:=n) (l:=l) fun x hx=>zpK n x (h x hx)
  exact ⟨.tuple ps,by simp [pdD,b1],by simp [PyData.canLay0,b2],by simp only [PyData.depth];omega,by simp [PyData.eqv,b4]⟩
 | n+1,.bl b,h=>⟨.bool b,by simp [pdD],by simp [PyData.canLay0],by simp [PyData.depth],by simp [PyData.eqv]⟩
 | n+1,.int i,h=>⟨.int i,by simp [pdD],by simp [PyData.canLay0],by simp [PyData.depth],by simp [PyData.eqv]⟩
 | n+1,.str x,h=>⟨.str x,by simp [pdD],by simp only [PyData.canLay0];exact h,by simp [PyData.depth],by simp [PyData.eqv]⟩
theorem zqn {l:List D} (h:Sm 64 (.lst l)):neA (.lst l) (.lst l)=some (.bl false):=by
 obtain ⟨p,a1,a2,a3,a4⟩:=zpK 64 _ h
 have hs:SeqAt.shaped p=true:=by
  unfold SeqAt.shaped
  rw [a2,qP a3];rfl
 have e0:neA (.lst l) (.lst l)=zqo (.lst l) (.lst l):=rfl
 rw [e0]
 unfold zqo eqX
 rw [a1,qa,qa,qV ⟨hs,hs⟩,a4]
 rfl
theorem zft {n:Nat} {α:Type} {f:α->D} {xs:List α} (h:∀ x∈xs,Sm n (f x)):Sm (n+1) (.lst (xs.map f)):=fun x hx=>by
 obtain ⟨y,hy,rfl⟩:=List.mem_map.mp hx
 exact h y hy
theorem zpI {n:Nat} {xs:List Str} (h:∀ x∈xs,zaY x=true):Sm (n+2) (.lst (xs.map D.str)):=zft fun x hx=>(zgw (h x hx):Sm (n+1) (.str x))
theorem zgd {n:Nat} {l:List D} (h:∀ x∈l,Sm n x):Sm (n+1) (.tup l):=h
section
variable {n:Nat} {bn sn:List Str} {h:Int}
theorem zem {x:Str} (hx:zaY x=true):Sm (n+1) (.str x):=zgw hx
theorem zrH (br:List (Int×Int)):Sm (n+3) (.lst (br.map dIv)):=zft fun p _=>zgd fun y hy=>by
 simp only [qI,qG,or_false] at hy
 rcases hy with rfl | rfl <;> trivial
theorem zpH {ws:List (Str×Int)} (hw:∀ w∈ws,zaY w.1=true):Sm (n+3) (.lst (ws.map dW)):=zft fun p hp=>zgd fun y hy=>by
 simp only [qI,qG,or_false] at hy
 rcases hy with rfl | rfl
 ·exact zem (hw p hp)
 ·trivial
theorem znG {b:BenchT} (g:GoodB h b):Sm (n+4) (za1 b):=zgd fun y hy=>by
 simp only [qI,qG,or_false] at hy
 rcases hy with rfl | rfl
 ·exact zem g.nm
 ·exact zrH _
theorem zpJ {s:StepT} (hb:∀ y∈bn,zaY y=true) (g:GoodS bn h s):Sm (n+4) (za9 s):=zgd fun y hy=>by
 simp only [qI,qG,or_false] at hy
 rcases hy with rfl | rfl | rfl
 ·exact zem g.nm
 ·exact zem g.kd
 ·exact zpH fun w hw=>hb _ (g.ws w hw).1
theorem zrG {j:JobT} (hb:∀ y∈sn,zaY y=true) (g:GoodJ sn h j):Sm (n+3) (zcg j):=zgd fun y hy=>by
 simp only [qI,qG,or_false] at hy
 rcases hy with rfl | rfl | rfl | rfl | rfl
 ·exact zem g.nm
 ·trivial
 ·trivial
 ·trivial
 ·exact zpI fun x hx=>hb _ (g.ms x hx)
theorem zrF {u:SetT} (hb:∀ y∈bn,zaY y=true) (g:GoodU bn h u):Sm (n+2) (zd4 u):=zgd fun y hy=>by
 simp only [qI,qG,or_false] at hy
 rcases hy with rfl | rfl | rfl | rfl
 ·exact zem (hb _ g.b)
 ·exact zem g.p
 ·exact zem g.q
 ·trivial
theorem zpL {l:LinkT} (hb:∀ y∈sn,zaY y=true) (g:GoodL sn h l):Sm (n+2) (zb3 l):=zgd fun y hy=>by
 simp only [qI,qG,or_false] at hy
 rcases hy with rfl | rfl | rfl
 ·exact zem (hb _ g.a)
 ·exact zem (hb _ g.b)
 ·trivial
theorem znE {k:StockT} (hb:∀ y∈sn,zaY y=true) (g:GoodK sn k):Sm (n+4) (zby k):=zgd fun y hy=>by
 simp only [qI,qG,or_false] at hy
 rcases hy with rfl | rfl | rfl | rfl | rfl
 ·exact zem g.nm
 ·trivial
 ·trivial
 ·exact zpH fun w hw=>hb _ (g.tk.ws w hw).1
 ·exact zpH fun w hw=>hb _ (g.pt.ws w hw).1
end
section
variable {bs:List BenchT} {ss:List StepT} {js:List JobT} {us:List SetT} {ls:List LinkT} {ks:List StockT} {h:Int}
theorem znF (g:Good bs ss js us ls ks h):Sm 64 (.lst (zbV bs ss js us ls ks h)):=fun y hy=>by
 simp only [zbV,qI,qG,or_false] at hy
 rcases hy with rfl | rfl | rfl | rfl | rfl | rfl | rfl
 ·exact zft (n:=62) fun x hx=>znG (n:=58) (g.b x hx)
 ·exact zft (n:=62) fun x hx=>zpJ (n:=58) g.bnn (g.s x hx)
 ·exact zft (n:=62) fun x hx=>zrG (n:=59) g.snn (g.j x hx)
 ·exact zft (n:=62) fun x hx=>zrF (n:=60) g.bnn (g.u x hx)
 ·exact zft (n:=62) fun x hx=>zpL (n:=60) g.snn (g.l x hx)
 ·exact zft (n:=62) fun x hx=>znE (n:=58) g.snn (g.k x hx)
 ·trivial
theorem ztm {x y:List D} (h:x.length+y.length<=1000):za6 (.lst x) (.lst y)=some (.lst (x++y)):=qV (szN h (by decide))
theorem zmr {f g:FE} {ρ:zaX} {x y:D} (h1:f ρ=some x) (h2:g ρ=some y):zaU (szF (zab f (zab g zai))) ρ=some (.lst [x,y]):=by
 simp only [zaU,szF,zab,zai,h1,h2,qa,qd,qh,qk,Nat.zero_add,sz2,if_true]
theorem zmv (g:Good bs ss js us ls ks h):zbz [zcw bs ss js us ls ks h]=some (.lst (zbV bs ss js us ls ks h)):=by
 unfold zbz zeG
 refine zbg (ρ':=[oS (zcw bs ss js us ls ks h),oS (.lst [.lst (bs.map za1),.lst (ss.map za9),.lst (js.map zcg),.lst (us.map zd4),.lst (ls.map zb3)])]) [oS (zcw bs ss js us ls ks h),none] rfl ?_
 refine (zaS (zqu (zcz (by decide +kernel) rfl zat (zu1 g)) (zcz (by decide +kernel) rfl zat (zuW g)) (zcz (by decide +kernel) rfl zat (zu0 g)))).trans ?_
 refine (zaS (zaw rfl (zmr (zcz (by decide +kernel) rfl zat (zuV g)) (zcz (by decide +kernel) rfl zat (zuX g))) (ztm (by simp)))).trans ?_
 exact zbe (zaw rfl (zmr (zcz (by decide +kernel) rfl zat (zuZ g)) (zcz (by decide +kernel) rfl zat zuY)) (ztm (by simp)))
end
def ztw:List BenchT:=[⟨"a",[]⟩]
def ztv:List StepT:=[⟨"a","b",[("a",1)]⟩]
theorem zkF:Good ztw ztv [] [] [] [] 1:=by
 have na:zaY "a"=true:=by decide +kernel
 have nb:zaY "b"=true:=by decide +kernel
 refine ⟨by decide,by decide,fun x hx=>?_,by decide +kernel,by decide,fun x hx=>?_,by decide +kernel,by decide,fun x hx=>(by cases hx),by decide +kernel,by decide +kernel,by decide,fun x hx=>(by cases hx),by decide +kernel,by decide,fun x hx=>(by cases hx),by decide +kernel,by decide,fun x hx=>(by cases hx),by decide +kernel⟩
 ·rw [List.mem_singleton.mp hx]
  exact ⟨na,by decide,fun p hp=>(by cases hp),fun i p q hp=>(by simp at hp)⟩
 ·rw [List.mem_singleton.mp hx]
  exact ⟨na,nb,by decide,by decide,fun w hw=>by rw [List.mem_singleton.mp hw];exact ⟨List.mem_singleton.mpr rfl,by decide,by decide⟩,by decide +kernel⟩
theorem zn3:Txt.join "\n" (zlh ztw ztv [] [] [] [] 1)="horizon 1\nbench a\nstep a b a/1":=by decide +kernel
end Law
end
section
namespace Law
open PySem L2
theorem zsm {f g:FT} {ρ:zaX} (h1:f ρ=some false) (h2:g ρ=some false):orT f g ρ=some false:=by
 simp only [orT,h1,qa,qp,if_false,h2]
theorem zsz {A:FE} {ρ:zaX} (hA:A ρ=some (.bl true)):zcd (toB A) ρ=some false:=by
 simp only [zcd,zbx hA,qd,Bool.not_true]
abbrev lwE (ns:List Int) (ps:List D) (sh:D) (due:Str) (a b c:Option Slot):zaX:=[oS (.scr ns),oS (.lst ps),oS sh,oS (.str due),a,b,c]
theorem zoe (ns:List Int) (hlen:ns.length<=63):zre [.scr ns]=some (.bl true):=by
 obtain ⟨bs,ss,js,us,ls,ks,h,e1,g,ml,j9,u9,l9⟩:=zn7 ns
 have rl:=zkw g j9 u9 l9
 have hone:=zmJ zkF (by decide)
 have hsh:=zkv zkF (by decide) (by decide) (by decide)
 rw [zn3] at hsh
 obtain ⟨ρ',h1,a,b,h2⟩:=zcq (gg:=zaE 4) (body:=zax (zbk 5 (cF zbi (zab (vSh 2) zai))) (sIf (orT (zcd (toB (cF zgz (zab (vSh 5) (zab (vC (.ty "str")) zai))))) (orT (toB (b2 neA (vSh 5) (vSh 3))) (toB (b2 neA (cF zbz (zab (vSh 2) zai)) (vSh 1))))) (zbp (vC (.bl false))) zb1)) (xs:=(List.range 2).map fun i:Nat=>D.int (0+(i:Int))) (ρ:=lwE ns (zbV bs ss js us ls ks h) (zcw bs ss js us ls ks h) (Txt.join "\n" (zlh bs ss js us ls ks h)) none none none)
  (fun i ρ=>∃ a b,ρ=lwE ns (zbV bs ss js us ls ks h) (zcw bs ss js us ls ks h) (Txt.join "\n" (zlh bs ss js us ls ks h)) a b none) ⟨none,none,rfl⟩ (fun i x ρ hx hI=>by
   obtain ⟨a,b,rfl⟩:=hI
   refine ⟨_,_,rfl,(zaS (za8 (zag rfl zat) (zkv g j9 u9 l9))).trans ((zfB (b:=false) (zsm (zsz ?_) (zsm (zbx (zaw rfl rfl ?_)) (zbx (zaw (za8 (zag rfl zat) (zmv g)) rfl (zqn (znF g))))))).trans rfl),oS x,oS (.str (Txt.join "\n" (zlh bs ss js us ls ks h))),rfl⟩
   ·refine za8 (zag rfl (zag rfl zat)) ?_
    show (zjl "str" "str").map D.bl=_
    rw [j1];rfl
   ·rw [zj4,qP rfl];rfl)
 have hz:=zdZ (j:=2) (by decide)
 unfold zre ztn
 refine zbg (ρ':=lwE ns (zbV bs ss js us ls ks h) (zcw bs ss js us ls ks h) (Txt.join "\n" (zlh bs ss js us ls ks h)) a b (oS (zcw ztw ztv [] [] [] [] 1))) [oS (.scr ns),none,none,none,none,none,none] rfl ?_
 refine (zaS (za8 (zag rfl zat) e1)).trans ?_
 refine (zaS (za8 (zag (zaw rfl rfl (ixL _ 0)) (zag (zaw rfl rfl (ixL _ 1)) (zag (zaw rfl rfl (ixL _ 2)) (zag (zaw rfl rfl (ixL _ 3)) (zag (zaw rfl rfl (ixL _ 4)) (zag (zaw rfl rfl (ixL _ 5)) (zag (zaw rfl rfl (ixL _ 6)) zat))))))) (zmJ g ml))).trans ?_
 refine (zaS (zj9 (B:=10000) (za8 (zag rfl zat) (zn8 g)) rl.1 (by decide) zo2 rl.2)).trans ?_
 refine (zcr ((zdh (zeV (zag rfl zat) hz)).trans (h1.trans (by rw [h2])))).trans ?_
 refine (zaS (za8 (ds:=[.lst (ztw.map za1),.lst (ztv.map za9),.lst (([]:List JobT).map zcg),.lst (([]:List SetT).map zd4),.lst (([]:List LinkT).map zb3),.lst (([]:List StockT).map zby),.int 1]) ?_ hone)).trans ?_
 ·kernel_rfl
 refine zbe (zaw (za8 (zag rfl zat) hsh) rfl ?_)
 show some (D.bl (decide _))=_
 rw [qP rfl]
end Law
end
section
namespace Law
open PySem L2 PySem.Spec PyProof.Rows
def Gam (C_Shop:Addr):Cn:=⟨fun c=>if c="Shop" then some C_Shop else none,none⟩
def zpG (K:PySem.W.Frag):Sp:=fun vs H Q _=>∃ (a:Addr) (ns:List Int),vs=[.ref a]/\SqL K H a (ns.map V.int)/\ns.length<=63/\∀ H',Q (.bl true) H'
theorem all_mk {l:PySem.W.OpenLaw} {w:World} {K:PySem.W.Frag} {h:Heap} {mg:Str->Option Value} {fa:Addr} (X:K.In h) (G:h.Ns mainGlobals mg) (hfa:mg "law"=some (.ref fa))
  {C_Shop:Addr} (aC_Shop:PySem.W.nsIn K mainGlobals "Shop"=some (some (.ref C_Shop)))
  (d0:Dfn K mg "_law_numbers" zdw)
  (d1:Dfn K mg "_law_name" zfa)
  (d2:Dfn K mg "_law_benches" zdx)
  (d3:Dfn K mg "_law_steps" zet)
  (d4:Dfn K mg "_law_jobs" zfb)
  (d5:Dfn K mg "_law_setups" zdX)
  (d6:Dfn K mg "_law_links" zev)
  (d7:Dfn K mg "_law_stocks" zdW)
  (d8:Dfn K mg "_law_shop" ze8)
  (d9:Dfn K mg "is_whole" zfP)
  (d10:Dfn K mg "is_within" ze3)
  (d11:Dfn K mg "is_tuple" zfQ)
  (d12:Dfn K mg "is_break" zfT)
  (d13:Dfn K mg "is_list" zgM)
  (d14:Dfn K mg "are_breaks" zes)
  (d15:Dfn K mg "is_name" zgL)
  (d16:Dfn K mg "is_bench" zfU)
  (d17:Dfn K mg "are_unlike" zep)
  (d18:Dfn K mg "are_benches" zdU)
  (d19:Dfn K mg "is_one_of" ze4)
  (d20:Dfn K mg "is_way" zif)
  (d21:Dfn K mg "are_ways" zfV)
  (d22:Dfn K mg "is_step" zgK)
  (d23:Dfn K mg "are_steps" ze6)
  (d24:Dfn K mg "is_job" zig)
  (d25:Dfn K mg "are_jobs" zfW)
  (d26:Dfn K mg "is_setup" zfS)
  (d27:Dfn K mg "are_setups" zer)
  (d28:Dfn K mg "is_link" zgN)
  (d29:Dfn K mg "are_links" ze7)
  (d30:Dfn K mg "is_amount" ze5)
  (d31:Dfn K mg "are_amounts" zdV)
  (d32:Dfn K mg "is_stock" zfR)
  (d33:Dfn K mg "are_stocks" zeq)
  (d34:Dfn K mg "first_bad_part" zc0)
  (d35:Dfn K mg "fresh" zjZ)
  (d36:DfnM K C_Shop "Shop" "__init__" "Shop.__init__" zdc)
  (d37:Dfn K mg "_law_rows" ze9)
  (d38:DfnM K C_Shop "Shop" "last_moment" "Shop.last_moment" zcy)
  (d39:DfnM K C_Shop "Shop" "bench_rows" "Shop.bench_rows" zcQ)
  (d40:Dfn K mg "shown_bench" zdT)
  (d41:DfnM K C_Shop "Shop" "step_rows" "Shop.step_rows" zc1)
  (d42:Dfn K mg "shown_step" zen)
  (d43:DfnM K C_Shop "Shop" "job_rows" "Shop.job_rows" zdb)
  (d44:Dfn K mg "shown_job" ze2)
  (d45:DfnM K C_Shop "Shop" "setup_rows" "Shop.setup_rows" zcP)
  (d46:DfnM K C_Shop "Shop" "link_rows" "Shop.link_rows" zc2)
  (d47:DfnM K C_Shop "Shop" "stock_rows" "Shop.stock_rows" zcO)
  (d48:Dfn K mg "shown_stock" zdS)
  (d49:Dfn K mg "shown_shop" zeo)
  (d50:Dfn K mg "_law_lists" zeu)
  (a51:PySem.W.nsIn K mainGlobals "law"=some (some (.ref f51))) (l51:K.lookup f51=some ⟨oc51,od51,.func (PySem.W.fnOf "law" "law" (zc4 zgJ) (zbO zgJ) (zaq zgJ) .none kV51 dc51 pm51 an51 cd51 ct51),sl51⟩) (c51:PySem.W.codeIn K cd51 "law"=true) (k51:PySem.W.keepIn K (.ref f51)=true)
  (pg_Shop:PySem.W.plainGet K C_Shop Str.empty=true) (hd_Shop:PySem.W.hasDictIn K C_Shop=true) (po_Shop:PySem.W.plainOver K C_Shop=true) (sa_Shop:PySem.W.findIn K (.ref C_Shop) "__setattr__"=some (some (.builtin "object.__setattr__"))) (mk_Shop:PySem.W.makesIn K C_Shop=true) (kc_Shop:PySem.W.keepIn K (.ref C_Shop)=true)
  (n0_Shop:PySem.W.findIn K (.ref C_Shop) "benches"=some none)
  (n1_Shop:PySem.W.findIn K (.ref C_Shop) "steps"=some none)
  (n2_Shop:PySem.W.findIn K (.ref C_Shop) "jobs"=some none)
  (n3_Shop:PySem.W.findIn K (.ref C_Shop) "setups"=some none)
  (n4_Shop:PySem.W.findIn K (.ref C_Shop) "links"=some none)
  (n5_Shop:PySem.W.findIn K (.ref C_Shop) "stocks"=some none)
  (n6_Shop:PySem.W.findIn K (.ref C_Shop) "horizon"=some none)
  (n7_Shop:PySem.W.findIn K (.ref C_Shop) "bench_by_name"=some none)
  (n8_Shop:PySem.W.findIn K (.ref C_Shop) "step_by_name"=some none)
  (n9_Shop:PySem.W.findIn K (.ref C_Shop) "setup_by_names"=some none)
  (n10_Shop:PySem.W.findIn K (.ref C_Shop) "job_by_step"=some none)
  (z_all:PySem.W.nsIn K mainGlobals "all"=some none)
  (z_bool:PySem.W.nsIn K mainGlobals "bool"=some none)
  (z_dict:PySem.W.nsIn K mainGlobals "dict"=some none)
  (z_enumerate:PySem.W.nsIn K mainGlobals "enumerate"=some none)
  (z_int:PySem.W.nsIn K mainGlobals "int"=some none)
  (z_isinstance:PySem.W.nsIn K mainGlobals "isinstance"=some none)
  (z_len:PySem.W.nsIn K mainGlobals "len"=some none)
  (z_list:PySem.W.nsIn K mainGlobals "list"=some none)
  (z_min:PySem.W.nsIn K mainGlobals "min"=some none)
  (z_range:PySem.W.nsIn K mainGlobals "range"=some none)
  (z_set:PySem.W.nsIn K mainGlobals "set"=some none)
  (z_str:PySem.W.nsIn K mainGlobals "str"=some none)
  (z_tuple:PySem.W.nsIn K mainGlobals "tuple"=some none)
  {tk_LONGEST_NAME:Tok} (z_LONGEST_NAME:PySem.W.nsIn K mainGlobals "LONGEST_NAME"=some (some (.int 8 tk_LONGEST_NAME)))
  {tk_MOST_AMOUNT:Tok} (z_MOST_AMOUNT:PySem.W.nsIn K mainGlobals "MOST_AMOUNT"=some (some (.int 1000000 tk_MOST_AMOUNT)))
  {tk_MOST_BENCHES:Tok} (z_MOST_BENCHES:PySem.W.nsIn K mainGlobals "MOST_BENCHES"=some (some (.int 8 tk_MOST_BENCHES)))
  {tk_MOST_BREAKS:Tok} (z_MOST_BREAKS:PySem.W.nsIn K mainGlobals "MOST_BREAKS"=some (some (.int 10 tk_MOST_BREAKS)))
  {tk_MOST_HORIZON:Tok} (z_MOST_HORIZON:PySem.W.nsIn K mainGlobals "MOST_HORIZON"=some (some (.int 1000000 tk_MOST_HORIZON)))
  {tk_MOST_JOBS:Tok} (z_MOST_JOBS:PySem.W.nsIn K mainGlobals "MOST_JOBS"=some (some (.int 40 tk_MOST_JOBS)))
  {tk_MOST_LINKS:Tok} (z_MOST_LINKS:PySem.W.nsIn K mainGlobals "MOST_LINKS"=some (some (.int 100 tk_MOST_LINKS)))
  {tk_MOST_SETUPS:Tok} (z_MOST_SETUPS:PySem.W.nsIn K mainGlobals "MOST_SETUPS"=some (some (.int 100 tk_MOST_SETUPS)))
  {tk_MOST_STEPS:Tok} (z_MOST_STEPS:PySem.W.nsIn K mainGlobals "MOST_STEPS"=some (some (.int 40 tk_MOST_STEPS)))
  {tk_MOST_STOCKS:Tok} (z_MOST_STOCKS:PySem.W.nsIn K mainGlobals "MOST_STOCKS"=some (some (.int 6 tk_MOST_STOCKS)))
  {tk_MOST_WAYS:Tok} (z_MOST_WAYS:PySem.W.nsIn K mainGlobals "MOST_WAYS"=some (some (.int 4 tk_MOST_WAYS)))
  : ∃ fd:FuncData,(∀ (s:Shared) (v:Value),BindsTo s fd ⟨[v],[]⟩ [("_law_script",v)])/\∀ base:Heap,K.In base->base.Ns mainGlobals mg->FnOk l.prog w K mg base CX0 11 fa fd ["_law_script"] (zpG K):=by
 have e:=hfa.symm.trans (PySem.W.mg_of X G a51)
 have e2:=Value.ref.inj (qE e)
 subst e2
 have B:Bn mg:=⟨PySem.W.mg_none_of X G z_all,PySem.W.mg_none_of X G z_bool,PySem.W.mg_none_of X G z_dict,PySem.W.mg_none_of X G z_enumerate,PySem.W.mg_none_of X G z_int,PySem.W.mg_none_of X G z_isinstance,PySem.W.mg_none_of X G z_len,PySem.W.mg_none_of X G z_list,PySem.W.mg_none_of X G z_min,PySem.W.mg_none_of X G z_range,PySem.W.mg_none_of X G z_set,PySem.W.mg_none_of X G z_str,PySem.W.mg_none_of X G z_tuple,by have q:=PySem.W.mg_of X G z_LONGEST_NAME;rw [q];unfold zeT;rw [q],by have q:=PySem.W.mg_of X G z_MOST_AMOUNT;rw [q];unfold zfr;rw [q],by have q:=PySem.W.mg_of X G z_MOST_BENCHES;rw [q];unfold zeS;rw [q],by have q:=PySem.W.mg_of X G z_MOST_BREAKS;rw [q];unfold zfq;rw [q],by have q:=PySem.W.mg_of X G z_MOST_HORIZON;rw [q];unfold zeR;rw [q],by have q:=PySem.W.mg_of X G z_MOST_JOBS;rw [q];unfold zgG;rw [q],by have q:=PySem.W.mg_of X G z_MOST_LINKS;rw [q];unfold zgc;rw [q],by have q:=PySem.W.mg_of X G z_MOST_SETUPS;rw [q];unfold zfp;rw [q],by have q:=PySem.W.mg_of X G z_MOST_STEPS;rw [q];unfold zgb;rw [q],by have q:=PySem.W.mg_of X G z_MOST_STOCKS;rw [q];unfold zfo;rw [q],by have q:=PySem.W.mg_of X G z_MOST_WAYS;rw [q];unfold zgF;rw [q]⟩
 have O_Shop:ClsOk (Gam C_Shop) K mg "Shop" C_Shop:=⟨by unfold Gam;rfl,⟨pg_Shop,hd_Shop,po_Shop,sa_Shop⟩,PySem.W.mg_of X G aC_Shop,mk_Shop,kc_Shop⟩
 have cf_Shop:CF (Gam C_Shop) K "Shop" zd5:=O_Shop.cf (List.forall_mem_cons.mpr ⟨n0_Shop,(List.forall_mem_cons.mpr ⟨n1_Shop,(List.forall_mem_cons.mpr ⟨n2_Shop,(List.forall_mem_cons.mpr ⟨n3_Shop,(List.forall_mem_cons.mpr ⟨n4_Shop,(List.forall_mem_cons.mpr ⟨n5_Shop,(List.forall_mem_cons.mpr ⟨n6_Shop,(List.forall_mem_cons.mpr ⟨n7_Shop,(List.forall_mem_cons.mpr ⟨n8_Shop,(List.forall_mem_cons.mpr ⟨n9_Shop,(List.forall_mem_cons.mpr ⟨n10_Shop,(List.forall_mem_nil _)⟩)⟩)⟩)⟩)⟩)⟩)⟩)⟩)⟩)⟩)⟩)
 refine ⟨PySem.W.fnOf "law" "law" (zc4 zgJ) (zbO zgJ) (zaq zgJ) .none kV51 dc51 pm51 an51 cd51 ct51,fun s v=>.of_eq rfl,fun base _ _=>?_⟩
 have C__law_numbers:Cal (Gam C_Shop) l.prog w K mg base "_law_numbers" 3 1 zah:=zgs d0 B
 have C__law_name:Cal (Gam C_Shop) l.prog w K mg base "_law_name" 2 1 zas:=ziR d1 B
 have C__law_benches:Cal (Gam C_Shop) l.prog w K mg base "_law_benches" 4 2 zbh:=zgt d2 B C__law_numbers C__law_name
 have C__law_steps:Cal (Gam C_Shop) l.prog w K mg base "_law_steps" 5 2 zbE:=zhF d3 B C__law_numbers C__law_name
 have C__law_jobs:Cal (Gam C_Shop) l.prog w K mg base "_law_jobs" 4 2 zbT:=ziS d4 B C__law_numbers C__law_name
 have C__law_setups:Cal (Gam C_Shop) l.prog w K mg base "_law_setups" 4 2 zbw:=zhj d5 B C__law_numbers C__law_name
 have C__law_links:Cal (Gam C_Shop) l.prog w K mg base "_law_links" 3 2 zbF:=zhH d6 B C__law_numbers
 have C__law_stocks:Cal (Gam C_Shop) l.prog w K mg base "_law_stocks" 3 2 zbv:=zhi d7 B C__law_numbers C__law_name
 have C__law_shop:Cal (Gam C_Shop) l.prog w K mg base "_law_shop" 1 3 zbR:=ziP d8 B C__law_numbers C__law_benches C__law_steps C__law_jobs C__law_setups C__law_links C__law_stocks
 have C_is_whole:Cal (Gam C_Shop) l.prog w K mg base "is_whole" 1 1 zb7:=zjv d9 B
 have C_is_within:Cal (Gam C_Shop) l.prog w K mg base "is_within" 3 2 zan:=ziK d10 B C_is_whole
 have C_is_tuple:Cal (Gam C_Shop) l.prog w K mg base "is_tuple" 2 1 zap:=zjw d11 B
 have C_is_break:Cal (Gam C_Shop) l.prog w K mg base "is_break" 2 3 zca:=zjz d12 B C_is_within C_is_tuple
 have C_is_list:Cal (Gam C_Shop) l.prog w K mg base "is_list" 3 1 zar:=zkh d13 B
 have C_are_breaks:Cal (Gam C_Shop) l.prog w K mg base "are_breaks" 2 4 zbN:=zhE d14 B C_is_break C_is_list
 have C_is_name:Cal (Gam C_Shop) l.prog w K mg base "is_name" 1 1 zaA:=zkg d15 B
 have C_is_bench:Cal (Gam C_Shop) l.prog w K mg base "is_bench" 2 5 zcb:=zjA d16 B C_are_breaks C_is_name C_is_tuple
 have C_are_unlike:Cal (Gam C_Shop) l.prog w K mg base "are_unlike" 1 1 zaj:=zhB d17 B
 have C_are_benches:Cal (Gam C_Shop) l.prog w K mg base "are_benches" 2 6 zbD:=zhg d18 B C_is_bench C_is_list C_are_unlike
 have C_is_one_of:Cal (Gam C_Shop) l.prog w K mg base "is_one_of" 2 2 zav:=ziL d19 B C_is_name
 have C_is_way:Cal (Gam C_Shop) l.prog w K mg base "is_way" 3 3 zc9:=zlz d20 B C_is_within C_is_one_of C_is_tuple
 have C_are_ways:Cal (Gam C_Shop) l.prog w K mg base "are_ways" 3 4 zcu:=zjB d21 B C_is_way C_is_list C_are_unlike
 have C_is_step:Cal (Gam C_Shop) l.prog w K mg base "is_step" 3 5 zcI:=zkf d22 B C_is_name C_is_tuple C_are_ways
 have C_are_steps:Cal (Gam C_Shop) l.prog w K mg base "are_steps" 3 6 zb5:=ziN d23 B C_is_step C_is_list C_are_unlike
 have C_is_job:Cal (Gam C_Shop) l.prog w K mg base "is_job" 3 3 zdv:=zlA d24 B C_is_name C_is_tuple C_is_within C_is_one_of C_is_list
 have C_are_jobs:Cal (Gam C_Shop) l.prog w K mg base "are_jobs" 3 4 zcv:=zjC d25 B C_is_job C_is_list C_are_unlike
 have C_is_setup:Cal (Gam C_Shop) l.prog w K mg base "is_setup" 3 3 zb9:=zjy d26 B C_is_one_of C_is_tuple C_is_within C_is_name
 have C_are_setups:Cal (Gam C_Shop) l.prog w K mg base "are_setups" 3 4 zbM:=zhD d27 B C_is_setup C_is_list C_are_unlike
 have C_is_link:Cal (Gam C_Shop) l.prog w K mg base "is_link" 3 3 zcJ:=zki d28 B C_is_one_of C_is_tuple C_is_within
 have C_are_links:Cal (Gam C_Shop) l.prog w K mg base "are_links" 3 4 zb6:=ziO d29 B C_is_link C_is_list C_are_unlike
 have C_is_amount:Cal (Gam C_Shop) l.prog w K mg base "is_amount" 2 3 zbQ:=ziM d30 B C_is_within C_is_one_of C_is_tuple
 have C_are_amounts:Cal (Gam C_Shop) l.prog w K mg base "are_amounts" 2 4 zbu:=zhh d31 B C_is_amount C_is_list C_are_unlike
 have C_is_stock:Cal (Gam C_Shop) l.prog w K mg base "is_stock" 2 5 zb8:=zjx d32 B C_is_name C_is_tuple C_is_within C_are_amounts
 have C_are_stocks:Cal (Gam C_Shop) l.prog w K mg base "are_stocks" 2 6 zbL:=zhC d33 B C_is_stock C_is_list C_are_unlike
 have C_first_bad_part:Cal (Gam C_Shop) l.prog w K mg base "first_bad_part" 7 7 zbj:=zfE d34 B C_is_within C_are_benches C_are_steps C_are_jobs C_are_setups C_are_links C_are_stocks
 have C_fresh:∀ n,Cal (Gam C_Shop) l.prog w K mg base "fresh" 1 n (zdD n):=fun n=>by
  induction n with
  | zero=>exact Dfn.none (ps:=["thing"]) d35 (fun _ _ _ _ _ _ us hl=>match us,hl with | [_],_=>rfl)
  | succ n ih=>exact zni d35 B ih
 replace C_fresh:Cal (Gam C_Shop) l.prog w K mg base "fresh" 1 8 zaD:=C_fresh 8
 have C_Shop___init__:CalI (Gam C_Shop) l.prog w K mg base "Shop" 7 9 zbf:=zf3 O_Shop d36 B C_first_bad_part C_fresh cf_Shop
 have C__law_rows:Cal (Gam C_Shop) l.prog w K mg base "_law_rows" 1 1 zbS:=ziQ d37 B
 have C_Shop_last_moment:CalM (Gam C_Shop) l.prog w K mg base "Shop" "last_moment" 1 1 zaC:=zeP O_Shop d38 B cf_Shop
 have C_Shop_bench_rows:CalM (Gam C_Shop) l.prog w K mg base "Shop" "bench_rows" 1 9 zaJ:=zfg O_Shop d39 B C_fresh cf_Shop
 have C_shown_bench:Cal (Gam C_Shop) l.prog w K mg base "shown_bench" 2 1 zbt:=zhf d40 B
 have C_Shop_step_rows:CalM (Gam C_Shop) l.prog w K mg base "Shop" "step_rows" 1 9 zaM:=zfF O_Shop d41 B C_fresh cf_Shop
 have C_shown_step:Cal (Gam C_Shop) l.prog w K mg base "shown_step" 3 1 zbC:=zhz d42 B
 have C_Shop_job_rows:CalM (Gam C_Shop) l.prog w K mg base "Shop" "job_rows" 1 9 zaQ:=zf2 O_Shop d43 B C_fresh cf_Shop
 have C_shown_job:Cal (Gam C_Shop) l.prog w K mg base "shown_job" 5 1 zbP:=ziJ d44 B
 have C_Shop_setup_rows:CalM (Gam C_Shop) l.prog w K mg base "Shop" "setup_rows" 1 9 zaI:=zff O_Shop d45 B C_fresh cf_Shop
 have C_Shop_link_rows:CalM (Gam C_Shop) l.prog w K mg base "Shop" "link_rows" 1 9 zaN:=zfG O_Shop d46 B C_fresh cf_Shop
 have C_Shop_stock_rows:CalM (Gam C_Shop) l.prog w K mg base "Shop" "stock_rows" 1 9 zaH:=zfe O_Shop d47 B C_fresh cf_Shop
 have C_shown_stock:Cal (Gam C_Shop) l.prog w K mg base "shown_stock" 5 1 zbs:=zhe d48 B
 have C_shown_shop:Cal (Gam C_Shop) l.prog w K mg base "shown_shop" 1 10 zbi:=zhA d49 B C_Shop_last_moment C_Shop_bench_rows C_shown_bench C_Shop_step_rows C_shown_step C_Shop_job_rows C_shown_job C_Shop_setup_rows C_Shop_link_rows C_Shop_stock_rows C_shown_stock
 have C__law_lists:Cal (Gam C_Shop) l.prog w K mg base "_law_lists" 1 10 zbz:=zhG d50 B C_Shop_job_rows C_Shop_step_rows C_Shop_bench_rows C_Shop_link_rows C_Shop_setup_rows C_Shop_last_moment C_Shop_stock_rows
 have FL:=zmO (st:=zgJ) l51 c51 k51
 have ok:FnOk l.prog w K mg base CX0 11 fa _ ["_law_script"] (spF (Gam C_Shop) K 1 zre):=FL.okD (k:=10) zgI (zq6 B C__law_shop C_Shop___init__ C__law_rows C_shown_shop C__law_lists fa)
 refine ok.imp fun vs H Q E hq=>?_
 obtain ⟨a,ns,rfl,hS,hlen,k⟩:=hq
 exact ⟨H,[.scr ns],.bl true,zb4.refl H,.cons (.scr hS) .nil,rfl,zoe ns hlen,fun v G' H' _ r=>by rw [r.bl_inv];exact k H'⟩
theorem walk {l:PySem.W.OpenLaw} {q:Program} {loose:List Str} {XP:(Str->Option Value)->Heap->Prop} {YP:World->Heap->Prop} {d:DefRec} {K:Params->PySem.W.Frag} (hn:l.most=some 63) (hdf:d.params.defaults=[])
  (hY:∀ (w:World) (h:Heap),YP w h->(K w.params).In h)
  (F:∀ (w:World) (mg:Str->Option Value) (fa:Addr) (h:Heap),(K w.params).In h->h.Ns mainGlobals mg->mg d.name=some (.ref fa) ->
   ∃ fd:FuncData,(∀ (s:Shared) (u:Value),BindsTo s fd ⟨[u],[]⟩ [("_law_script",u)])/\∀ base:Heap,(K w.params).In base->base.Ns mainGlobals mg->FnOk l.prog w (K w.params) mg base CX0 11 fa fd ["_law_script"] (zpG (K w.params))) :
  PySem.W.WalkO q loose XP YP l.row.toRowW d [] (fun f vs=>PySem.call f vs) :=
 L2.walk_of (n:=63) (k:=11) (x:="_law_script") (CX:=fun _=>CX0) (sp:=fun w=>zpG (K w.params)) hn (by decide) hdf ⟨rfl,by decide,by decide⟩ hY F (fun _ _ a ns hl _ hS=>⟨a,ns,rfl,hS,hl,fun _=>rfl⟩) fun _ _ _ _ _ z=>z
end Law
def PySem.W.Fast.tw6664149837599589925:Unit:=()
def PySem.W.Fast.tw3720398620302463335:Unit:=()
def PySem.W.Fast.tw5749639552395603168:Unit:=()
def PySem.W.Fast.tw7347848373806031265:Unit:=()
def PySem.W.Fast.tw12545673161121770330:Unit:=()
def PySem.W.Fast.tw11162573158527221058:Unit:=()
def PySem.W.Fast.tw2605198549824104457:Unit:=()
def PySem.W.Fast.tw9448525925544803205:Unit:=()
def PySem.W.Fast.tw4449182534922587272:Unit:=()
def PySem.W.Fast.tw2781055376083087468:Unit:=()
def PySem.W.Fast.tw14543082151094624274:Unit:=()
def PySem.W.Fast.tw11298095623482219979:Unit:=()
def PySem.W.Fast.tw3645320710817065956:Unit:=()
def PySem.W.Fast.tw264101013439336273:Unit:=()
def PySem.W.Fast.tw6183173895371697890:Unit:=()
def PySem.W.Fast.tw8853851741610428488:Unit:=()
def PySem.W.Fast.tw13553026430716546289:Unit:=()
def PySem.W.Fast.tw2593432327367677051:Unit:=()
def PySem.W.Fast.tw1206609997588865659:Unit:=()
def PySem.W.Fast.tw12467195215838438372:Unit:=()
def PySem.W.Fast.tw5613605394742465805:Unit:=()
def PySem.W.Fast.tw13828358532740404412:Unit:=()
def PySem.W.Fast.tw675635889189129134:Unit:=()
def PySem.W.Fast.tw2846386100741662032:Unit:=()
def PySem.W.Fast.tw5279815176974629229:Unit:=()
def PySem.W.Fast.tw12614715559623347014:Unit:=()
def PySem.W.Fast.tw6682160851721628783:Unit:=()
def PySem.W.Fast.tw12443667276553215423:Unit:=()
def PySem.W.Fast.tw7830551215964739807:Unit:=()
def PySem.W.Fast.tw231965192135628520:Unit:=()
def PySem.W.Fast.tw10086467003075742948:Unit:=()
def PySem.W.Fast.tw15296466892363353615:Unit:=()
def PySem.W.Fast.tw7796960494153266954:Unit:=()
def PySem.W.Fast.tw1705853858913283629:Unit:=()
def PySem.W.Fast.tw4729135257899784812:Unit:=()
def PySem.W.Fast.tw3924442961137295661:Unit:=()
def PySem.W.Fast.tw11406935682901679923:Unit:=()
def PySem.W.Fast.tw7807580054414426477:Unit:=()
def PySem.W.Fast.tw13747836833339817356:Unit:=()
def PySem.W.Fast.tw16282708086456157013:Unit:=()
def PySem.W.Fast.tw9041132644055331396:Unit:=()
def PySem.W.Fast.tw15297511073956776222:Unit:=()
def PySem.W.Fast.tw15327102812428466247:Unit:=()
def PySem.W.Fast.tw1387570499362996279:Unit:=()
def PySem.W.Fast.tw8070774373680871417:Unit:=()
def PySem.W.Fast.tw7105669246308432109:Unit:=()
def PySem.W.Fast.tw13318452352875115708:Unit:=()
def PySem.W.Fast.tw5365350775630371016:Unit:=()
def PySem.W.Fast.tw4963548763814345031:Unit:=()
def PySem.W.Fast.tw11844698148686640827:Unit:=()
def PySem.W.Fast.tw11911839346603637659:Unit:=()
def PySem.W.Fast.tw12651237269620945407:Unit:=()
def PySem.W.Fast.tw1594517566485632382:Unit:=()
def PySem.W.Fast.tw15232590754498970666:Unit:=()
def PySem.W.Fast.tw8462020962923910175:Unit:=()
def PySem.W.Fast.tw9129434571771962419:Unit:=()
def PySem.W.Fast.tw16276084441929805522:Unit:=()
def PySem.W.Fast.tw361731191726685348:Unit:=()
def PySem.W.Fast.tw10216018062587125977:Unit:=()
def PySem.W.Fast.tw15051150820030291591:Unit:=()
open PySem PySem.W PyProof.Rows L2
set_option maxRecDepth 100000 in
set_option maxHeartbeats 0 in
theorem PySem.Challenge.cw_shopbound_k11_shops_written_holds : PySem.Challenge.rw_shopbound_k11_shops_written.Holds := by
 w_on;o_law;k_head;(case hw=>w_witness2)
 k_fill
 refine Law.walk (l:=PySem.Challenge.rw_shopbound_k11_shops_written) rfl rfl (fun w h Y=>PySem.W.kIn_of Y) ?F
 case F =>
  intro w mg fa h KX G hmg
  refine' Law.all_mk KX G hmg ?aC_Shop ?d0 ?d1 ?d2 ?d3 ?d4 ?d5 ?d6 ?d7 ?d8 ?d9 ?d10 ?d11 ?d12 ?d13 ?d14 ?d15 ?d16 ?d17 ?d18 ?d19 ?d20 ?d21 ?d22 ?d23 ?d24 ?d25 ?d26 ?d27 ?d28 ?d29 ?d30 ?d31 ?d32 ?d33 ?d34 ?d35 ?d36 ?d37 ?d38 ?d39 ?d40 ?d41 ?d42 ?d43 ?d44 ?d45 ?d46 ?d47 ?d48 ?d49 ?d50 ?a51 ?l51 ?c51 ?k51 ?pg_Shop ?hd_Shop ?po_Shop ?sa_Shop ?mk_Shop ?kc_Shop ?n0_Shop ?n1_Shop ?n2_Shop ?n3_Shop ?n4_Shop ?n5_Shop ?n6_Shop ?n7_Shop ?n8_Shop ?n9_Shop ?n10_Shop ?z_all ?z_bool ?z_dict ?z_enumerate ?z_int ?z_isinstance ?z_len ?z_list ?z_min ?z_range ?z_set ?z_str ?z_tuple ?z_LONGEST_NAME ?z_MOST_AMOUNT ?z_MOST_BENCHES ?z_MOST_BREAKS ?z_MOST_HORIZON ?z_MOST_JOBS ?z_MOST_LINKS ?z_MOST_SETUPS ?z_MOST_STEPS ?z_MOST_STOCKS ?z_MOST_WAYS
  (case aC_Shop=>k_is)
  (case d0=>refine' Dfn.mk' KX G ?a ?l ?c ?k;(case a=>k_is);(case l=>k_is);(case c=>k_is);(case k=>k_is))
  (case d1=>refine' Dfn.mk' KX G ?a ?l ?c ?k;(case a=>k_is);(case l=>k_is);(case c=>k_is);(case k=>k_is))
  (case d2=>refine' Dfn.mk' KX G ?a ?l ?c ?k;(case a=>k_is);(case l=>k_is);(case c=>k_is);(case k=>k_is))
  (case d3=>refine' Dfn.mk' KX G ?a ?l ?c ?k;(case a=>k_is);(case l=>k_is);(case c=>k_is);(case k=>k_is))
  (case d4=>refine' Dfn.mk' KX G ?a ?l ?c ?k;(case a=>k_is);(case l=>k_is);(case c=>k_is);(case k=>k_is))
  (case d5=>refine' Dfn.mk' KX G ?a ?l ?c ?k;(case a=>k_is);(case l=>k_is);(case c=>k_is);(case k=>k_is))
  (case d6=>refine' Dfn.mk' KX G ?a ?l ?c ?k;(case a=>k_is);(case l=>k_is);(case c=>k_is);(case k=>k_is))
  (case d7=>refine' Dfn.mk' KX G ?a ?l ?c ?k;(case a=>k_is);(case l=>k_is);(case c=>k_is);(case k=>k_is))
  (case d8=>refine' Dfn.mk' KX G ?a ?l ?c ?k;(case a=>k_is);(case l=>k_is);(case c=>k_is);(case k=>k_is))
  (case d9=>refine' Dfn.mk' KX G ?a ?l ?c ?k;(case a=>k_is);(case l=>k_is);(case c=>k_is);(case k=>k_is))
  (case d10=>refine' Dfn.mk' KX G ?a ?l ?c ?k;(case a=>k_is);(case l=>k_is);(case c=>k_is);(case k=>k_is))
  (case d11=>refine' Dfn.mk' KX G ?a ?l ?c ?k;(case a=>k_is);(case l=>k_is);(case c=>k_is);(case k=>k_is))
  (case d12=>refine' Dfn.mk' KX G ?a ?l ?c ?k;(case a=>k_is);(case l=>k_is);(case c=>k_is);(case k=>k_is))
  (case d13=>refine' Dfn.mk' KX G ?a ?l ?c ?k;(case a=>k_is);(case l=>k_is);(case c=>k_is);(case k=>k_is))
  (case d14=>refine' Dfn.mk' KX G ?a ?l ?c ?k;(case a=>k_is);(case l=>k_is);(case c=>k_is);(case k=>k_is))
  (case d15=>refine' Dfn.mk' KX G ?a ?l ?c ?k;(case a=>k_is);(case l=>k_is);(case c=>k_is);(case k=>k_is))
  (case d16=>refine' Dfn.mk' KX G ?a ?l ?c ?k;(case a=>k_is);(case l=>k_is);(case c=>k_is);(case k=>k_is))
  (case d17=>refine' Dfn.mk' KX G ?a ?l ?c ?k;(case a=>k_is);(case l=>k_is);(case c=>k_is);(case k=>k_is))
  (case d18=>refine' Dfn.mk' KX G ?a ?l ?c ?k;(case a=>k_is);(case l=>k_is);(case c=>k_is);(case k=>k_is))
  (case d19=>refine' Dfn.mk' KX G ?a ?l ?c ?k;(case a=>k_is);(case l=>k_is);(case c=>k_is);(case k=>k_is))
  (case d20=>refine' Dfn.mk' KX G ?a ?l ?c ?k;(case a=>k_is);(case l=>k_is);(case c=>k_is);(case k=>k_is))
  (case d21=>refine' Dfn.mk' KX G ?a ?l ?c ?k;(case a=>k_is);(case l=>k_is);(case c=>k_is);(case k=>k_is))
  (case d22=>refine' Dfn.mk' KX G ?a ?l ?c ?k;(case a=>k_is);(case l=>k_is);(case c=>k_is);(case k=>k_is))
  (case d23=>refine' Dfn.mk' KX G ?a ?l ?c ?k;(case a=>k_is);(case l=>k_is);(case c=>k_is);(case k=>k_is))
  (case d24=>refine' Dfn.mk' KX G ?a ?l ?c ?k;(case a=>k_is);(case l=>k_is);(case c=>k_is);(case k=>k_is))
  (case d25=>refine' Dfn.mk' KX G ?a ?l ?c ?k;(case a=>k_is);(case l=>k_is);(case c=>k_is);(case k=>k_is))
  (case d26=>refine' Dfn.mk' KX G ?a ?l ?c ?k;(case a=>k_is);(case l=>k_is);(case c=>k_is);(case k=>k_is))
  (case d27=>refine' Dfn.mk' KX G ?a ?l ?c ?k;(case a=>k_is);(case l=>k_is);(case c=>k_is);(case k=>k_is))
  (case d28=>refine' Dfn.mk' KX G ?a ?l ?c ?k;(case a=>k_is);(case l=>k_is);(case c=>k_is);(case k=>k_is))
  (case d29=>refine' Dfn.mk' KX G ?a ?l ?c ?k;(case a=>k_is);(case l=>k_is);(case c=>k_is);(case k=>k_is))
  (case d30=>refine' Dfn.mk' KX G ?a ?l ?c ?k;(case a=>k_is);(case l=>k_is);(case c=>k_is);(case k=>k_is))
  (case d31=>refine' Dfn.mk' KX G ?a ?l ?c ?k;(case a=>k_is);(case l=>k_is);(case c=>k_is);(case k=>k_is))
  (case d32=>refine' Dfn.mk' KX G ?a ?l ?c ?k;(case a=>k_is);(case l=>k_is);(case c=>k_is);(case k=>k_is))
  (case d33=>refine' Dfn.mk' KX G ?a ?l ?c ?k;(case a=>k_is);(case l=>k_is);(case c=>k_is);(case k=>k_is))
  (case d34=>refine' Dfn.mk' KX G ?a ?l ?c ?k;(case a=>k_is);(case l=>k_is);(case c=>k_is);(case k=>k_is))
  (case d35=>refine' Dfn.mk' KX G ?a ?l ?c ?k;(case a=>k_is);(case l=>k_is);(case c=>k_is);(case k=>k_is))
  (case d36=>refine' DfnM.mk' ?a ?i ?l ?c ?k;(case a=>k_is);(case i=>k_is);(case l=>k_is);(case c=>k_is);(case k=>k_is))
  (case d37=>refine' Dfn.mk' KX G ?a ?l ?c ?k;(case a=>k_is);(case l=>k_is);(case c=>k_is);(case k=>k_is))
  (case d38=>refine' DfnM.mk' ?a ?i ?l ?c ?k;(case a=>k_is);(case i=>k_is);(case l=>k_is);(case c=>k_is);(case k=>k_is))
  (case d39=>refine' DfnM.mk' ?a ?i ?l ?c ?k;(case a=>k_is);(case i=>k_is);(case l=>k_is);(case c=>k_is);(case k=>k_is))
  (case d40=>refine' Dfn.mk' KX G ?a ?l ?c ?k;(case a=>k_is);(case l=>k_is);(case c=>k_is);(case k=>k_is))
  (case d41=>refine' DfnM.mk' ?a ?i ?l ?c ?k;(case a=>k_is);(case i=>k_is);(case l=>k_is);(case c=>k_is);(case k=>k_is))
  (case d42=>refine' Dfn.mk' KX G ?a ?l ?c ?k;(case a=>k_is);(case l=>k_is);(case c=>k_is);(case k=>k_is))
  (case d43=>refine' DfnM.mk' ?a ?i ?l ?c ?k;(case a=>k_is);(case i=>k_is);(case l=>k_is);(case c=>k_is);(case k=>k_is))
  (case d44=>refine' Dfn.mk' KX G ?a ?l ?c ?k;(case a=>k_is);(case l=>k_is);(case c=>k_is);(case k=>k_is))
  (case d45=>refine' DfnM.mk' ?a ?i ?l ?c ?k;(case a=>k_is);(case i=>k_is);(case l=>k_is);(case c=>k_is);(case k=>k_is))
  (case d46=>refine' DfnM.mk' ?a ?i ?l ?c ?k;(case a=>k_is);(case i=>k_is);(case l=>k_is);(case c=>k_is);(case k=>k_is))
  (case d47=>refine' DfnM.mk' ?a ?i ?l ?c ?k;(case a=>k_is);(case i=>k_is);(case l=>k_is);(case c=>k_is);(case k=>k_is))
  (case d48=>refine' Dfn.mk' KX G ?a ?l ?c ?k;(case a=>k_is);(case l=>k_is);(case c=>k_is);(case k=>k_is))
  (case d49=>refine' Dfn.mk' KX G ?a ?l ?c ?k;(case a=>k_is);(case l=>k_is);(case c=>k_is);(case k=>k_is))
  (case d50=>refine' Dfn.mk' KX G ?a ?l ?c ?k;(case a=>k_is);(case l=>k_is);(case c=>k_is);(case k=>k_is))
  (case a51=>k_is)
  (case l51=>k_is)
  (case c51=>k_is)
  (case k51=>k_is)
  (case pg_Shop=>k_is)
  (case hd_Shop=>k_is)
  (case po_Shop=>k_is)
  (case sa_Shop=>k_is)
  (case mk_Shop=>k_is)
  (case kc_Shop=>k_is)
  (case n0_Shop=>k_is)
  (case n1_Shop=>k_is)
  (case n2_Shop=>k_is)
  (case n3_Shop=>k_is)
  (case n4_Shop=>k_is)
  (case n5_Shop=>k_is)
  (case n6_Shop=>k_is)
  (case n7_Shop=>k_is)
  (case n8_Shop=>k_is)
  (case n9_Shop=>k_is)
  (case n10_Shop=>k_is)
  (case z_all=>k_is)
  (case z_bool=>k_is)
  (case z_dict=>k_is)
  (case z_enumerate=>k_is)
  (case z_int=>k_is)
  (case z_isinstance=>k_is)
  (case z_len=>k_is)
  (case z_list=>k_is)
  (case z_min=>k_is)
  (case z_range=>k_is)
  (case z_set=>k_is)
  (case z_str=>k_is)
  (case z_tuple=>k_is)
  (case z_LONGEST_NAME=>k_is)
  (case z_MOST_AMOUNT=>k_is)
  (case z_MOST_BENCHES=>k_is)
  (case z_MOST_BREAKS=>k_is)
  (case z_MOST_HORIZON=>k_is)
  (case z_MOST_JOBS=>k_is)
  (case z_MOST_LINKS=>k_is)
  (case z_MOST_SETUPS=>k_is)
  (case z_MOST_STEPS=>k_is)
  (case z_MOST_STOCKS=>k_is)
  (case z_MOST_WAYS=>k_is)
end
end
